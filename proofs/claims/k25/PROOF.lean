import PyProof.Rows.All
import Wide.All
import OpenK.AllK
import Wide.FinOn
import Lean
import PyProof.EqAt
import PyProof.EqKinds
import PyProof.TupleCall
import PyProof.SetScanFacts
import PyProof.SetKind
import PyProof.DictKinds
import PyProof.FactsAll.set_0
import PyProof.FactsAll.set_1
import PyProof.FactsAll.set_2
import PyProof.FactsAll.set_3
import PyProof.FactsSeq
import PyProof.CollectWalk
import PyProof.ListRange
import PyProof.ZipIter
import PyProof.MeetsSeq
import PyProof.IsRules
import PyProof.Rows.ZipGen
import PyProof.SumWalkG
import PyProof.DictWalks
import PyProof.Rows.SortShell
import PyProof.Rows.SetFrom
import PyProof.SetRoads
import KE.KIntText
import KE.IntTextLaws
import PyProof.StrWalks
import PyProof.StrOps2
import PyProof.SliceStr2
import PyProof.PureStr
import PyProof.StrCalls3
import PyProof.Rows.StrMadeLen
import PyProof.StrLawsIn
import KE.KStateDown
import PyProof.Rows.Range3
import PySem.Challenge.RW_bagwood_k25_the_order_of_a_tree
set_option Elab.async false
set_option linter.all false
set_option maxRecDepth 100000
local macro_rules | `(tactic| omega) => `(tactic| first | lia | omega (config := {}))
abbrev Φρ:=PySem.W.Frag
abbrev ζζ:=Int × Int
theorem τα {α:Type} {l:List α} {i:Nat} {a:α}:l.getD i a=l[i]?.getD a:=List.getD_eq_getElem?_getD ..
namespace L2
open PySem PySem.Spec PyProof.Rows
abbrev Key:=Sum Int Str
def c0Q:Key->Value->Bool
 | .inl k,v=>Value.isInt k v
 | .inr x,v=>Value.isStrOf x v
def keyH (w:World):Key->Int
 | .inl k=>hashInt k
 | .inr x=>hashStr w x
theorem a1J:∀ {k:Key} {v:Value},c0Q k v=true->(∃ i t,k=Sum.inl i/\v=Value.int i t)\/(∃ x t,k=Sum.inr x/\v=Value.str x t)
 | .inl i,v,h=>by
  obtain ⟨t,e⟩:=Value.isInt_shape (k:=i) (v:=v) h
  exact .inl ⟨i,t,rfl,e⟩
 | .inr x,v,h=>by
  obtain ⟨t,e⟩:=Value.isStrOf_shape (x:=x) (v:=v) h
  exact .inr ⟨x,t,rfl,e⟩
theorem c0R (a b:Int):decide ((Sum.inl a:Key)=Sum.inl b)=(a == b):=by
 by_cases e:a=b
 ·subst e; simp
 ·have h:¬ (Sum.inl a:Key)=Sum.inl b:=λ q=>e (Sum.inl.inj q)
  rw [decide_eq_false h]
  exact (beq_eq_false_iff_ne.mpr e).symm
theorem c0S (a b:Str):decide ((Sum.inr a:Key)=Sum.inr b)=decide (a=b):=by
 by_cases e:a=b
 ·subst e; simp
 ·have h:¬ (Sum.inr a:Key)=Sum.inr b:=λ q=>e (Sum.inr.inj q)
  rw [decide_eq_false h,decide_eq_false e]
theorem c0T (a:Int) (b:Str):decide ((Sum.inl a:Key)=Sum.inr b)=false:=decide_eq_false (λ q=>nomatch q)
theorem c0U (a:Str) (b:Int):decide ((Sum.inr a:Key)=Sum.inl b)=false:=decide_eq_false (λ q=>nomatch q)
def b0K (prog:Program) (w:World):PySem.KeyKind prog w Key where
 is:=c0Q
 hash:=keyH w
 inj:=λ v a b ha hb=>by
  rcases a1J ha with ⟨i,t,rfl,rfl⟩ | ⟨x,t,rfl,rfl⟩
  ·rcases a1J hb with ⟨j,u,rfl,e⟩ | ⟨y,u,rfl,e⟩
   ·injection e with e1 _; rw [e1]
   ·exact nomatch e
  ·rcases a1J hb with ⟨j,u,rfl,e⟩ | ⟨y,u,rfl,e⟩
   ·exact nomatch e
   ·injection e with e1 _; rw [e1]
 byValue:=λ k v h=>by
  rcases a1J h with ⟨i,t,rfl,rfl⟩ | ⟨x,t,rfl,rfl⟩ <;> rfl
 pyHash:=λ hv h=>by
  rcases a1J hv with ⟨i,t,rfl,rfl⟩ | ⟨x,t,rfl,rfl⟩
  ·exact wpAny_pyHash_int h
  ·exact wpAny_pyHash_str h
 eqBool:=λ hu hv h=>by
  rcases a1J hu with ⟨i,t,rfl,rfl⟩ | ⟨x,t,rfl,rfl⟩
  ·rcases a1J hv with ⟨j,u,rfl,rfl⟩ | ⟨y,u,rfl,rfl⟩
   ·rw [c0R] at h; exact wpAny_eqBool_int h
   ·rw [c0T] at h; exact SeqAt.EqAt.int_str i t y u _ _ _ _ h
  ·rcases a1J hv with ⟨j,u,rfl,rfl⟩ | ⟨y,u,rfl,rfl⟩
   ·rw [c0U] at h; exact SeqAt.EqAt.str_int x t j u _ _ _ _ h
   ·rw [c0S] at h; exact wpAny_eqBool_str h
 «strs» := λ k x t v h=>by
  rcases a1J h with ⟨i,u,rfl,e⟩ | ⟨y,u,rfl,e⟩
  ·exact nomatch e
  ·injection e with e1 _
   subst e1
   cases v <;> rfl
end L2
namespace L2
open PySem PySem.Spec PyProof.Rows
inductive V where
 | non | bl (b:Bool) | int (i:Int) | str (x:Str) | byt (b:Array UInt8) | flt (b:UInt64) | ref (a:Addr) | ty (n:String)
 deriving DecidableEq
def RelV:V->Value->Prop
 | .non,u=>u=Value.none
 | .bl b,u=>u=Value.bool b
 | .int i,u=>∃ t,u=Value.int i t
 | .str x,u=>∃ t,u=Value.str x t
 | .byt b,u=>∃ t,u=Value.bytes b t
 | .flt b,u=>∃ t,u=Value.float b t
 | .ref a,u=>u=Value.ref a
 | .ty n,u=>u=Value.type n
abbrev Vals:List V->List Value->Prop:=Paired RelV
theorem Vals.length {xs:List V} {us:List Value} (r:Vals xs us):xs.length=us.length:=Paired.length r
theorem Vals.get:∀ {xs:List V} {us:List Value} {i:Nat} {x:V},Vals xs us->xs[i]?=some x->∃ u,us[i]?=some u/\RelV x u
 | _,_,_,_,.nil,e=>by simp at e
 | _,_,0,_,.cons r _,e=>by simp at e; subst e; exact ⟨_,rfl,r⟩
 | _,_,i+1,x,.cons _ t,e=>by
  obtain ⟨u,h1,h2⟩:=Vals.get (i:=i) (x:=x) t (by simpa using e)
  exact ⟨u,by simpa using h1,h2⟩
theorem Vals.set {x:V} {u:Value} (r:RelV x u):∀ {xs:List V} {us:List Value} (i:Nat),Vals xs us->Vals (xs.set i x) (us.set i u)
 | _,_,_,.nil=>.nil
 | _,_,0,.cons _ t=>.cons r t
 | _,_,i+1,.cons q t=>.cons q (Vals.set r i t)
theorem Vals.append:∀ {xs ys:List V} {us ws:List Value},Vals xs us->Vals ys ws->Vals (xs++ys) (us++ws)
 | _,_,_,_,.nil,s=>s
 | _,_,_,_,.cons r t,s=>.cons r (Vals.append t s)
theorem Vals.take:∀ {xs:List V} {us:List Value} (n:Nat),Vals xs us->Vals (xs.take n) (us.take n)
 | _,_,0,_=>.nil
 | _,_,_+1,.nil=>.nil
 | _,_,n+1,.cons r t=>.cons r (Vals.take n t)
theorem Vals.drop:∀ {xs:List V} {us:List Value} (n:Nat),Vals xs us->Vals (xs.drop n) (us.drop n)
 | _,_,0,r=>r
 | _,_,_+1,.nil=>.nil
 | _,_,n+1,.cons _ t=>Vals.drop n t
def RelO:Option V->Option Value->Prop
 | some v,some u=>RelV v u
 | none,none=>True
 | _,_=>False
def KV {κ:Type}:List (κ × V)->List (κ × Value)->Prop:=Paired λ (p:κ × V) (q:κ × Value)=>p.1=q.1/\RelV p.2 q.2
def kV:Key->V
 | .inl i=>.int i
 | .inr x=>.str x
inductive HO where
  | lst (xs:List V)
  | tup (xs:List V)
  | dK (kvs:List (Key × V)) | dT (kvs:List (List Key × V))
  | set (S:Int->Bool) (n:Nat)
  | ins (C dx:Addr) (fs:List (Str × V))
  | own (x:Addr)
  | xd (fs:List (Str × V))
  | met (f x:Addr)
  | rng (lo hi:Int)
  | frz (o:Obj) (u:HO)
  | tbl (ps:Array Value)
  | ext (φ:Heap->Prop)
abbrev Hp:=Addr->Option HO
def upd (H:Hp) (a:Addr) (o:HO):Hp:=λ b=>if b=a then some o else H b
theorem a2T {H:Hp} {a:Addr} {o:HO}:upd H a o a=some o:=by unfold upd; rw [if_pos rfl]
theorem a0Y {H:Hp} {a b:Addr} {o:HO} (h:b≠a):upd H a o b=H b:=by unfold upd; rw [if_neg h]
theorem b8G {H:Hp} {a b:Addr} {o u:HO} (h:H a=some o) (h':H b=some u) (d:o≠u):a≠b:=by
 intro e; subst e; rw [h] at h'; exact d (Option.some.inj h')
theorem a0S {H:Hp} {a b:Addr} {o:HO} (h:H a=some o) (h':H b=none):a≠b:=by
 intro e; subst e; rw [h] at h'; cases h'
section
variable (P:Program) (w:World)
def ObjOk (H:Hp) (h:Heap) (a:Addr):HO->Prop
 | .lst xs=>xs.length<=sizeLine/\∃ (its:List Value) (n:Nat),Vals xs its/\h.get? a=some { cls:=.type "list", data:=.seq its.toArray n }
 | .tup xs=>xs.length<=sizeLine/\∃ its:List Value,Vals xs its/\IsTup h a its.toArray
 | .dK kvs=>kvs.length<=sizeLine/\(a == sysModules)=false/\∃ vs,KV kvs vs/\h.DictOf (b0K P w) a vs
 | .dT kvs=>kvs.length<=sizeLine/\(a == sysModules)=false/\∃ xs:List (List Key × Addr × Value),
   Paired (λ (p:List Key × V) (q:List Key × Addr × Value)=>p.1=q.1/\H q.2.1=some (.tup (p.1.map kV))/\RelV p.2 q.2.2) kvs xs /\
   ∃ o es ep,h.get? a=some o/\o.ExactDict/\o.data = .dict es ep/\es.toList=xs.map (entryOfKey (tupleKind (b0K P w)))/\(xs.map (·.1)).Nodup
 | .set S n=>h.SetOf (intKind P w) a S n
 | .ins C dx fs=>H dx=some (.own a)/\fs.length<=1000/\dx≠a/\h.get? a=some (PySem.W.instObj C dx) /\
   ∃ mA,h.Ns1 dx mA/\(∀ f,RelO (fs.lookup f) (mA f))/\PySem.Within mA (fs.map (·.1))
 | .own _=>∃ o,h.get? a=some o
 | .xd fs=>∃ mA,h.Ns1 a mA/\∀ f,RelO (fs.lookup f) (mA f)
 | .rng lo hi=>∃ t u v,h.get? a=some { cls:=.type "range", data:=.fields #[.int lo t,.int hi u,.int 1 v] }
 | .frz o u=>h.get? a=some o/\ObjOk H h a u
 | .tbl ps=>h.get? a=some { cls:=.none,data:=.fields ps }
 | .met f x=>h.get? a=some (PySem.W.methodObj (.ref f) (.ref x))
 | .ext φ=>φ h/\(∃ o,h.get? a=some o)/\∀ h1 h2:Heap,φ h1->(∀ o,h1.get? a=some o->h2.get? a=some o)->φ h2
def HOk (H:Hp) (h:Heap):Prop:=∀ a o,H a=some o->ObjOk P w H h a o
end
section
variable {P:Program} {w:World} {H H':Hp} {h h':Heap} {a:Addr} {o:HO}
theorem ObjOk.lt (x:ObjOk P w H h a o):a < h.objs.size:=by
 cases o with
 | lst xs=>obtain ⟨_,_,_,_,e⟩:=x; exact Heap.lt_size e
 | tup xs=>obtain ⟨_,_,_,p⟩:=x; exact p.lt
 | dK kvs=>obtain ⟨_,_,_,_,o,_,_,e,_⟩:=x; exact Heap.lt_size e
 | dT kvs=>obtain ⟨_,_,_,_,o,_,_,e,_⟩:=x; exact Heap.lt_size e
 | set S n=>obtain ⟨o,_,_,_,e,_⟩:=x; exact Heap.lt_size e
 | ins C dx fs=>obtain ⟨_,_,_,e,_⟩:=x; exact Heap.lt_size e
 | own y=>obtain ⟨_,e⟩:=x; exact Heap.lt_size e
 | xd fs=>obtain ⟨_,⟨_,_,_,e,_⟩,_⟩:=x; exact Heap.lt_size e
 | rng lo hi=>obtain ⟨_,_,_,e⟩:=x; exact Heap.lt_size e
 | frz ob u=>obtain ⟨e,_⟩:=x; exact Heap.lt_size e
 | tbl ps=>exact Heap.lt_size (show h.get? a=some _ from x)
 | met f y=>exact Heap.lt_size (show h.get? a=some _ from x)
 | ext φ=>obtain ⟨_,⟨_,e⟩,_⟩:=x; exact Heap.lt_size e
theorem Paired.mapP {α β:Type} {F G:α->β->Prop}:∀ {l₁:List α} {l₂:List β},Paired F l₁ l₂->(∀ a b,F a b->G a b)->Paired G l₁ l₂
 | _,_,.nil,_=>.nil
 | _,_,.cons r t,f=>.cons (f _ _ r) (Paired.mapP t f)
theorem ObjOk.stay (x:ObjOk P w H h a o) (k:∀ b u,(b=a\/H b=some (.own a))->h.get? b=some u->h'.get? b=some u)
  (ho:∀ b,H b=some (.own a)->H' b=some (.own a)) (ht:∀ b xs,H b=some (.tup xs)->H' b=some (.tup xs)):ObjOk P w H' h' a o:=by
 induction o with
 | lst xs=>obtain ⟨z,its,n,r,e⟩:=x; exact ⟨z,its,n,r,k _ _ (.inl rfl) e⟩
 | tup xs=>obtain ⟨z,its,r,ob,e,c⟩:=x; exact ⟨z,its,r,ob,k _ _ (.inl rfl) e,c⟩
 | dK kvs=>obtain ⟨z,y,vs,r,ob,es,ep,e,c⟩:=x; exact ⟨z,y,vs,r,ob,es,ep,k _ _ (.inl rfl) e,c⟩
 | dT kvs =>
  obtain ⟨z,y,xs,r,ob,es,ep,e,c⟩:=x
  exact ⟨z,y,xs,Paired.mapP r λ p q z=>⟨z.1,ht _ _ z.2.1,z.2.2⟩,ob,es,ep,k _ _ (.inl rfl) e,c⟩
 | set S n=>obtain ⟨ob,es,ep,t,e,c⟩:=x; exact ⟨ob,es,ep,t,k _ _ (.inl rfl) e,c⟩
 | ins C dx fs =>
  obtain ⟨d,z,ne,e,mA,⟨od,es,ep,e2,c⟩,r⟩:=x
  exact ⟨ho _ d,z,ne,k _ _ (.inl rfl) e,mA,⟨od,es,ep,k _ _ (.inr d) e2,c⟩,r⟩
 | own y=>obtain ⟨ob,e⟩:=x; exact ⟨ob,k _ _ (.inl rfl) e⟩
 | xd fs=>obtain ⟨mA,⟨od,es,ep,e,c⟩,r⟩:=x; exact ⟨mA,⟨od,es,ep,k _ _ (.inl rfl) e,c⟩,r⟩
 | rng lo hi=>obtain ⟨t,u,v,e⟩:=x; exact ⟨t,u,v,k _ _ (.inl rfl) e⟩
 | frz ob u ih=>obtain ⟨e,q⟩:=x; exact ⟨k _ _ (.inl rfl) e,ih q⟩
 | tbl ps =>
  have e:h.get? a=some { cls:=.none,data:=.fields ps }:=x
  show h'.get? a=some { cls:=.none,data:=.fields ps }
  exact k a _ (.inl rfl) e
 | met f y =>
  have e:h.get? a=some (PySem.W.methodObj (.ref f) (.ref y)):=x
  show h'.get? a=some (PySem.W.methodObj (.ref f) (.ref y))
  exact k a _ (.inl rfl) e
 | ext φ=>obtain ⟨p,⟨o,e⟩,st⟩:=x; exact ⟨st _ _ p λ o q=>k _ _ (.inl rfl) q,⟨o,k _ _ (.inl rfl) e⟩,st⟩
theorem HOk.lt (x:HOk P w H h) (e:H a=some o):a < h.objs.size:=(x a o e).lt
theorem HOk.fresh (x:HOk P w H h) (e:h.objs.size<=a):H a=none:=by
 cases q:H a with
 | none=>rfl
 | some u=>exact absurd (Nat.lt_of_lt_of_le (x.lt q) e) (Nat.lt_irrefl _)
theorem HOk.kept (x:HOk P w H h) (k:∀ b u,h.get? b=some u->h'.get? b=some u):HOk P w H h':=λ a o e =>
 (x a o e).stay (λ b u _ q=>k b u q) (λ _ q=>q) λ _ _ q=>q
theorem HOk.laid (x:HOk P w H h) (k:∀ b u,h.get? b=some u->h'.get? b=some u) (hp:h.objs.size<=a) (new:ObjOk P w (upd H a o) h' a o):HOk P w (upd H a o) h':=λ b u e=>by
 have hn:=x.fresh hp
 by_cases hb:b=a
 ·subst hb; rw [a2T] at e; cases e; exact new
 ·rw [a0Y hb] at e
  exact (x b u e).stay (λ c v _ q=>k c v q) (λ c q=>by rw [a0Y (a0S q hn)]; exact q) λ c xs q=>by rw [a0Y (a0S q hn)]; exact q
end
def Rd (H:Hp) (a:Addr) (u:HO):Prop:=H a=some u\/∃ o,H a=some (.frz o u)
theorem Rd.ok {P:Program} {w:World} {H:Hp} {h:Heap} {a:Addr} {u:HO} (r:Rd H a u) (x:HOk P w H h):ObjOk P w H h a u:=by
 rcases r with r | ⟨o,r⟩
 ·exact x a u r
 ·obtain ⟨_,q⟩:=x a _ r
  exact q
def Mut:Option HO->Prop
 | some (.lst _)=>True
 | some (.dK _)=>True
 | some (.dT _)=>True
 | some (.set _ _)=>True
 | some (.ins _ _ _)=>True
 | some (.ext _)=>True
 | _=>False
section
variable {P:Program} {w:World} {H:Hp} {h h':Heap} {x e:Addr} {o':HO}
theorem HOk.write (ok:HOk P w H h) (mu:Mut (H x)) (he:e=x\/H e=some (.own x)) (k:∀ b u,b≠e->h.get? b=some u->h'.get? b=some u) (heo:∃ u,h'.get? e=some u)
  (new:ObjOk P w (upd H x o') h' x o'):HOk P w (upd H x o') h':=λ b u q=>by
 have nown:∀ c y,H c=some (.own y)->c≠x:=λ c y r z=>by subst z; rw [r] at mu; exact mu
 have ntup:∀ c xs,H c=some (.tup xs)->c≠x:=λ c xs r z=>by subst z; rw [r] at mu; exact mu
 by_cases hb:b=x
 ·subst hb; rw [a2T] at q; cases q; exact new
 ·rw [a0Y hb] at q
  by_cases hbe:b=e
  ·have q':H b=some (.own x):=by
    rcases he with z | z
    ·exact absurd (hbe.trans z) hb
    ·rw [hbe]; exact z
   rw [q] at q'; cases q'
   obtain ⟨v,hv⟩:=heo
   exact ⟨v,by rw [hbe]; exact hv⟩
  ·refine (ok b u q).stay (λ c v hc r=>k c v ?_ r) (λ c r=>by rw [a0Y (nown c b r)]; exact r) λ c xs r=>by rw [a0Y (ntup c xs r)]; exact r
   rcases hc with rfl | hc
   ·exact hbe
   ·rintro rfl
    rcases he with z | z
    ·exact nown c b hc z
    ·rw [hc] at z; cases z; exact hb rfl
end
structure Un (fs ex:List Addr) (H H':Hp) (h h':Heap):Prop where
 keep:∀ b o,h.get? b=some o->H b=none->b ∉ fs->b ∉ ex->h'.get? b=some o
 slot:∀ b o,h.get? b=some o->H b=none->b∈fs->b ∉ ex->∃ sl,h'.get? b=some { o with slots:=sl }
 free:∀ b o,h.get? b=some o->H b=none->b ∉ ex->H' b=none
 there:∀ b o,h.get? b=some o->b ∉ ex->∃ o',h'.get? b=some o'
 tups:∀ b xs,H b=some (.tup xs)->H' b=some (.tup xs)
 frzs:∀ b o u,H b=some (.frz o u)->H' b=some (.frz o u)
 tbls:∀ b ps,H b=some (.tbl ps)->∃ more,H' b=some (.tbl (ps++more))
section
variable {fs fs' ex ex':List Addr} {H H1 H2:Hp} {h h1 h2 h':Heap} {a x e:Addr} {o:HO}
theorem Un.any (u:Un fs ex H H1 h h1) {b:Addr} {ob:Obj} (q:h.get? b=some ob) (n:H b=none) (hx:b ∉ ex):∃ sl,h1.get? b=some { ob with slots:=sl }:=by
 by_cases hb:b∈fs
 ·exact u.slot b ob q n hb hx
 ·exact ⟨ob.slots,u.keep b ob q n hb hx⟩
theorem Un.kept (k:∀ b u,h.get? b=some u->h'.get? b=some u):Un fs ex H H h h' :=
 ⟨λ b ob q _ _ _=>k b ob q,λ b ob q _ _ _=>⟨ob.slots,k b ob q⟩,λ _ _ _ n _=>n,λ b ob q _=>⟨ob,k b ob q⟩,λ _ _ q=>q,λ _ _ _ q=>q,λ _ ps q=>⟨#[],by rw [q]; simp⟩⟩
theorem Un.refl:Un fs ex H H h h:=Un.kept λ _ _ q=>q
theorem Un.laid (k:∀ b u,h.get? b=some u->h'.get? b=some u) (hp:h.objs.size<=a) (hn:H a=none):Un fs ex H (upd H a o) h h' where
 keep:=λ b u q _ _ _=>k b u q
 slot:=λ b u q _ _ _=>⟨u.slots,k b u q⟩
 free:=λ b u q n _=>by rw [a0Y (Nat.ne_of_lt (Nat.lt_of_lt_of_le (Heap.lt_size q) hp))]; exact n
 there:=λ b u q _=>⟨u,k b u q⟩
 tups:=λ b xs q=>by rw [a0Y (a0S q hn)]; exact q
 frzs:=λ b u xs q=>by rw [a0Y (a0S q hn)]; exact q
 tbls:=λ b ps q=>⟨#[],by rw [a0Y (a0S q hn),q]; simp⟩
theorem Un.write (mu:Mut (H x)) (he:e=x\/H e=some (.own x)) (k:∀ b u,b≠e->h.get? b=some u->h'.get? b=some u) (heo:∃ u,h'.get? e=some u):Un fs ex H (upd H x o) h h':=by
 have hx:∀ b,H b=none->b≠x:=λ b n z=>by subst z; rw [n] at mu; exact mu
 have hb:∀ b,H b=none->b≠e:=λ b n z=>by
  subst z
  rcases he with r | r
  ·exact hx b n r
  ·rw [n] at r; cases r
 have hm:∀ b u,H b=some u->¬ Mut (some u)->b≠x:=λ b u q nm z=>by subst z; rw [q] at mu; exact nm mu
 refine ⟨λ b u q n _ _=>k b u (hb b n) q,λ b u q n _ _=>⟨u.slots,k b u (hb b n) q⟩,λ b u q n _=>by rw [a0Y (hx b n)]; exact n,λ b u q _=>?_,
  λ b xs q=>by rw [a0Y (hm b _ q λ z=>z)]; exact q,λ b u xs q=>by rw [a0Y (hm b _ q λ z=>z)]; exact q,λ b ps q=>⟨#[],by rw [a0Y (hm b _ q λ z=>z),q]; simp⟩⟩
 by_cases hbe:b=e
 ·subst hbe; exact heo
 ·exact ⟨u,k b u hbe q⟩
end
def trk (h:Heap) (H:Hp):List Addr:=(List.range h.objs.size).filter λ a=>(H a).isSome
def hidT (h:Heap) (H:Hp):Heap:=PySem.W.hideAll h (trk h H)
theorem b3B (h:Heap) (H:Hp):(hidT h H).objs.size=h.objs.size:=PySem.W.hideAll_size _ _
theorem b6A {h:Heap} {H:Hp} {b:Addr} {o:Obj} (e:h.get? b=some o) (n:H b=none):(hidT h H).get? b=some o :=
 PySem.W.hideAll_get _ e λ hm=>by
  have q:(H b).isSome=true:=(List.mem_filter.mp hm).2
  rw [n] at q; simp at q
theorem b8H {h:Heap} {H:Hp} {b:Addr} {o:Obj} (e:(hidT h H).get? b=some o):h.get? b=some o/\H b=none:=by
 have e':h.get? b=some o:=PySem.W.of_hideAll (trk h H) e
 refine ⟨e',?_⟩
 cases q:H b with
 | none=>rfl
 | some x =>
  have hm:b∈trk h H:=List.mem_filter.mpr ⟨List.mem_range.mpr (Heap.lt_size e'),by simp [q]⟩
  have z:(hidT h H).get? b=none:=PySem.W.hideAll_none (trk h H) hm
  rw [z] at e; cases e
end L2
namespace L2
open PySem PySem.Spec PyProof.Rows
structure Mod (K:Φρ) (mg:Str->Option Value) (base:Heap):Prop where
 kin:K.In base
 glob:base.Ns mainGlobals mg
 blt:∃ mb,base.Ns builtinsNs mb/\∀ x:Str,x ≠ "__name__" -> mb x=bootBuiltins x
 nolimit:base.NoLimit
structure Cx where
 prog:Program
 w:World
 K:Φρ
 mg:Str->Option Value
 base:Heap
 A:Around
 N:List Str
 s₀:Shared
 H₀:Hp
 env:Env
 outer:List Env
 stack:List Env
 ex:List Addr
 fn:Str->Bool
 calm:Bool
 pn:List (Addr × Obj)
 xe:Value->Shared->Prop
def frs (l:List Env):List Addr:=l.filterMap (·.frame)
abbrev Cx.fs (X:Cx):List Addr:=frs X.outer
def Vis (sc:Scope) (x:Str):Prop:=sc.names.lookup x=some .local\/sc.names.lookup x=some .cell\/sc.names.lookup x=some .free
def Loc (sc:Scope) (x:Str):Prop:=sc.names.lookup x=some .local\/sc.names.lookup x=some .cell
def Look (env:Env) (h:Heap) (m:Str->Option Value) (x:Str) (u:Value):Prop :=
 (env.kindOf x=some .local/\m x=some u)\/((env.kindOf x=some .cell\/env.kindOf x=some .free)/\∃ c,env.cells.lookup x=some c/\h.IsCell c (some u))
structure Cx.Ok (X:Cx):Prop where
 mod:Mod X.K X.mg X.base
 kind:X.env.scope.kind = .function
 glob:X.env.globals=mainGlobals
 blt:X.env.builtins=builtinsNs
 above:X.s₀.heap.objs.size<=X.env.locals
 inj:∀ x y c,X.env.cells.lookup x=some c->X.env.cells.lookup y=some c->x=y
 has:∀ x,(X.env.kindOf x=some .cell\/X.env.kindOf x=some .free)->∃ c,X.env.cells.lookup x=some c
 cab:∀ x c,X.fn x=true->X.env.cells.lookup x=some c->X.s₀.heap.objs.size<=c
 hd:X.calm=true->X.A.handled=none
 frames:X.A.frames=some X.stack
 stk:X.stack=X.outer\/(X.stack=X.env::X.outer/\X.env.frame=some X.env.locals)
 exf:∀ b∈X.ex,b≠X.env.locals/\∀ x c,X.env.cells.lookup x=some c->c≠b
 bs:∀ b o,X.base.get? b=some o->X.s₀.heap.get? b=some o/\X.H₀ b=none
 bsz:X.base.objs.size<=X.s₀.heap.objs.size
 noex:∀ b o,X.base.get? b=some o->b ∉ X.ex
 exfs:∀ b∈X.ex,b ∉ X.fs
 funs:X.s₀.heap.FunFrames X.base X.outer
 frf:∀ b∈X.fs,X.H₀ b=none
structure Inv (X:Cx) (pins:List (Addr × Obj)) (σ:List (Option V)) (H:Hp) (s:Shared):Prop where
 ok:X.Ok
 os:s.os=X.s₀.os
 bare:AllBare s.gens
 base:Un X.fs X.ex X.H₀ H X.s₀.heap s.heap
 loc:∃ m,s.heap.Ns X.env.locals m/\∀ (i:Nat) (x:Str) (v:V),X.N[i]?=some x->σ[i]?=some (some v)->Vis X.env.scope x->∃ u,RelV v u/\Look X.env s.heap m x u
 cell:∀ x c,X.env.cells.lookup x=some c->∃ v,s.heap.IsCell c v
 free:H X.env.locals=none
 freeC:∀ x c,X.env.cells.lookup x=some c->H c=none
 pin:∀ p∈X.pn++pins,s.heap.get? p.1=some p.2/\H p.1=none/\p.1≠X.env.locals/\p.1 ∉ X.fs/\∀ v,p.2.data ≠ .cell v
 hok:HOk X.prog X.w H s.heap
 len:σ.length=X.N.length
section
variable {X:Cx} {pins:List (Addr × Obj)} {σ:List (Option V)} {H H':Hp} {s:Shared} {h':Heap}
theorem Cx.Ok.nofr (ok:X.Ok) {b:Addr} {o:Obj} (e:X.base.get? b=some o):b ∉ X.fs:=λ hb=>by
 have:=(ok.funs.mem hb).1
 rw [e] at this; cases this
theorem Inv.bs (I:Inv X pins σ H s):∀ b o,X.base.get? b=some o->s.heap.get? b=some o/\H b=none:=λ b o e =>
 ⟨I.base.keep b o (I.ok.bs b o e).1 (I.ok.bs b o e).2 (I.ok.nofr e) (I.ok.noex b o e),I.base.free b o (I.ok.bs b o e).1 (I.ok.bs b o e).2 (I.ok.noex b o e)⟩
theorem Inv.bk (I:Inv X pins σ H s):∀ b o,X.base.get? b=some o->s.heap.get? b=some o:=λ b o e=>(I.bs b o e).1
theorem Inv.mod (I:Inv X pins σ H s):Mod X.K X.mg X.base:=I.ok.mod
theorem Inv.kIn (I:Inv X pins σ H s):X.K.In s.heap:=I.ok.mod.kin.keeps I.bk
theorem Inv.lt (I:Inv X pins σ H s):X.env.locals < s.heap.objs.size:=let ⟨_,hn,_⟩:=I.loc; hn.lt
theorem Inv.sz (I:Inv X pins σ H s):X.s₀.heap.objs.size<=s.heap.objs.size:=Nat.le_trans I.ok.above (Nat.le_of_lt I.lt)
theorem Inv.nofs (I:Inv X pins σ H s) {a:Addr} (h:s.heap.objs.size<=a):a ∉ X.fs:=λ hb=>by
 obtain ⟨_,o,ho,_⟩:=I.ok.funs.mem hb
 exact absurd (Nat.lt_of_lt_of_le (Heap.lt_size ho) (Nat.le_trans I.sz h)) (Nat.lt_irrefl _)
theorem Inv.cne (I:Inv X pins σ H s):∀ x c,X.env.cells.lookup x=some c->c≠X.env.locals:=λ x c e z=>by
 obtain ⟨v,o,ho,hd⟩:=I.cell x c e
 obtain ⟨m,⟨o',es,ep,ho',hd',_⟩,_⟩:=I.loc
 rw [z,ho'] at ho; cases ho; rw [hd'] at hd; cases hd
theorem Inv.funs (I:Inv X pins σ H s):s.heap.FunFrames X.base X.outer:=by
 have all:∀ (l:List Env),(∀ b∈frs l,b∈X.fs)->X.s₀.heap.FunFrames X.base l->s.heap.FunFrames X.base l:=by
  intro l
  induction l with
  | nil=>intro _ _; trivial
  | cons env r ih =>
   intro hs hl
   obtain ⟨hk,⟨L,o,hf,hn,ho,hd⟩,hr⟩:=hl
   have hL:L∈X.fs:=hs L (by unfold frs; rw [List.filterMap_cons,hf]; exact List.mem_cons_self)
   obtain ⟨sl,e⟩:=I.base.slot L o ho (I.ok.frf L hL) hL λ z=>I.ok.exfs L z hL
   exact ⟨hk,⟨L,_,hf,hn,e,hd⟩,ih (λ b hb=>hs b (by unfold frs; rw [List.filterMap_cons,hf]; exact List.mem_cons_of_mem _ hb)) hr⟩
 exact all X.outer (λ _ hb=>hb) I.ok.funs
theorem Inv.stack (I:Inv X pins σ H s):s.heap.FunFrames X.base X.stack:=by
 rcases I.ok.stk with e | ⟨e,hf⟩
 ·rw [e]; exact I.funs
 ·rw [e]
  obtain ⟨m,hn,_⟩:=I.loc
  refine .cons (by rw [I.ok.kind]; decide) hf hn ?_ I.funs
  exact Heap.get?_none_of_le (Nat.le_trans I.ok.bsz I.ok.above)
theorem Inv.stkSub (I:Inv X pins σ H s):∀ b∈frs X.stack,b∈X.env.locals::X.fs:=λ b hb=>by
 rcases I.ok.stk with e | ⟨e,hf⟩
 ·rw [e] at hb; exact List.mem_cons_of_mem _ hb
 ·rw [e] at hb
  unfold frs at hb
  rw [List.filterMap_cons,hf] at hb
  exact hb
theorem Inv.stkFree (I:Inv X pins σ H s):∀ b∈frs X.stack,H b=none:=λ b hb=>by
 rcases List.mem_cons.mp (I.stkSub b hb) with e | hb
 ·rw [e]; exact I.free
 ·obtain ⟨_,o,ho,_⟩:=I.ok.funs.mem hb
  exact I.base.free b o ho (I.ok.frf b hb) λ z=>I.ok.exfs b z hb
theorem Inv.step {g':Array GenState} {t':Nat} {d':Drawn} {ch:List Addr} (I:Inv X pins σ H s)
  (hch:∀ b∈ch,(b∈X.ex\/X.s₀.heap.objs.size<=b)/\b≠X.env.locals/\(∀ x c,X.env.cells.lookup x=some c->c≠b)/\∀ p∈X.pn++pins,p.1≠b)
  (keep:∀ b o,b≠X.env.locals->b ∉ X.fs->b ∉ ch->s.heap.get? b=some o->H b=none->h'.get? b=some o)
  (slot:∀ b o,b≠X.env.locals->b∈X.fs->b ∉ ch->s.heap.get? b=some o->H b=none->∃ sl,h'.get? b=some { o with slots:=sl }) (free:∀ b o,b ∉ ch->s.heap.get? b=some o->H b=none->H' b=none)
  (there:∀ b o,b ∉ ch->s.heap.get? b=some o->∃ o',h'.get? b=some o')
  (tups:∀ b xs,H b=some (.tup xs)->H' b=some (.tup xs)) (frzs:∀ b o u,H b=some (.frz o u)->H' b=some (.frz o u)) (tbls:∀ b ps,H b=some (.tbl ps)->∃ more,H' b=some (.tbl (ps++more)))
  (ns:∀ m,s.heap.Ns X.env.locals m->h'.Ns X.env.locals m) (hok:HOk X.prog X.w H' h') (hg:AllBare g') :
  Inv X pins σ H' { s with heap:=h',gens:=g',drawn:=d',toks:=t' }:=by
 have neL:∀ b o,X.s₀.heap.get? b=some o->b≠X.env.locals:=λ b o e=>Nat.ne_of_lt (Nat.lt_of_lt_of_le (Heap.lt_size e) I.ok.above)
 have neC:∀ b o,X.s₀.heap.get? b=some o->b ∉ X.ex->b ∉ ch:=λ b o e hx hb=>by
  rcases (hch b hb).1 with z | z
  ·exact hx z
  ·exact absurd (Nat.lt_of_lt_of_le (Heap.lt_size e) z) (Nat.lt_irrefl _)
 have cellK:∀ x c,X.env.cells.lookup x=some c->∀ v,s.heap.IsCell c v->h'.IsCell c v:=λ x c e v ⟨o,ho,hd⟩=>by
  have nch:c ∉ ch:=λ z=>(hch c z).2.2.1 x c e rfl
  by_cases hc:c∈X.fs
  ·obtain ⟨sl,q⟩:=slot c o (I.cne x c e) hc nch ho (I.freeC x c e)
   exact ⟨_,q,hd⟩
  ·exact ⟨o,keep c o (I.cne x c e) hc nch ho (I.freeC x c e),hd⟩
 refine ⟨I.ok,I.os,hg,⟨λ b o e n hb hx=>?_,λ b o e n hb hx=>?_,λ b o e n hx=>?_,λ b o e hx=>?_,λ b xs e=>tups b xs (I.base.tups b xs e),λ b o xs e=>frzs b o xs (I.base.frzs b o xs e),λ b ps e=>?_⟩,?_,λ x c e=>?_,?_,λ x c e=>?_,λ p hp=>?_,hok,I.len⟩
 ·exact keep b o (neL b o e) hb (neC b o e hx) (I.base.keep b o e n hb hx) (I.base.free b o e n hx)
 ·obtain ⟨sl,e1⟩:=I.base.slot b o e n hb hx
  obtain ⟨sl',e2⟩:=slot b _ (neL b o e) hb (neC b o e hx) e1 (I.base.free b o e n hx)
  exact ⟨sl',e2⟩
 ·obtain ⟨o',e1⟩:=I.base.there b o e hx
  exact free b o' (neC b o e hx) e1 (I.base.free b o e n hx)
 ·obtain ⟨o',e1⟩:=I.base.there b o e hx
  exact there b o' (neC b o e hx) e1
 ·obtain ⟨m1,e1⟩:=I.base.tbls b ps e
  obtain ⟨m2,e2⟩:=tbls b _ e1
  exact ⟨m1++m2,by rw [e2,Array.append_assoc]⟩
 ·obtain ⟨m,hn,hl⟩:=I.loc
  refine ⟨m,ns m hn,λ i x v e1 e2 e3=>?_⟩
  obtain ⟨u,r,l⟩:=hl i x v e1 e2 e3
  refine ⟨u,r,?_⟩
  rcases l with l | ⟨k,c,e,z⟩
  ·exact .inl l
  ·exact .inr ⟨k,c,e,cellK x c e _ z⟩
 ·obtain ⟨v,z⟩:=I.cell x c e
  exact ⟨v,cellK x c e v z⟩
 ·obtain ⟨m,⟨o,_,_,ho,_⟩,_⟩:=I.loc
  exact free _ o (λ z=>(hch _ z).2.1 rfl) ho I.free
 ·obtain ⟨v,o,ho,hd⟩:=I.cell x c e
  exact free c o (λ z=>(hch c z).2.2.1 x c e rfl) ho (I.freeC x c e)
 ·obtain ⟨e,n,ne,nf,d⟩:=I.pin p hp
  have nch:p.1 ∉ ch:=λ z=>(hch p.1 z).2.2.2 p hp rfl
  exact ⟨keep p.1 p.2 ne nf nch e n,free p.1 p.2 nch e n,ne,nf,d⟩
theorem Inv.un {t':Nat} (I:Inv X pins σ H s) (u:Un X.fs [] H H' s.heap h') (hok:HOk X.prog X.w H' h'):Inv X pins σ H' { s with heap:=h',toks:=t' }:=by
 obtain ⟨m,⟨o,es,ep,ho,r⟩,_⟩:=id I.loc
 obtain ⟨sl,hL⟩:=u.any ho I.free (by simp)
 exact I.step (g':=s.gens) (d':=s.drawn) (ch:=[]) (λ _ z=>nomatch z) (λ b o _ hb _ e n=>u.keep b o e n hb (by simp)) (λ b o _ hb _ e n=>u.slot b o e n hb (by simp)) (λ b o _ e n=>u.free b o e n (by simp)) (λ b o _ e=>u.there b o e (by simp)) u.tups u.frzs u.tbls (λ m' hm=>by
  obtain ⟨o',es',ep',ho',r'⟩:=hm
  rw [ho] at ho'; cases ho'
  exact ⟨_,es',ep',hL,r'⟩) hok I.bare
theorem Inv.call {g':Array GenState} {t':Nat} {d':Drawn} {ch:List Addr} (I:Inv X pins σ H s) (u:Un (frs X.stack) ch H H' s.heap h') (hok:HOk X.prog X.w H' h') (hg:AllBare g')
  (hch:∀ b∈ch,(b∈X.ex\/X.s₀.heap.objs.size<=b)/\b≠X.env.locals/\(∀ x c,X.env.cells.lookup x=some c->c≠b)/\∀ p∈X.pn++pins,p.1≠b) :
  Inv X pins σ H' { s with heap:=h',gens:=g',drawn:=d',toks:=t' }:=by
 obtain ⟨m,⟨o,es,ep,ho,r⟩,_⟩:=id I.loc
 obtain ⟨sl,hL⟩:=u.any ho I.free λ z=>(hch _ z).2.1 rfl
 exact I.step (ch:=ch) hch (λ b o hL hb hc e n=>u.keep b o e n (λ z=>(List.mem_cons.mp (I.stkSub b z)).elim hL hb) hc) (λ b o _ _ hc e n=>u.any e n hc) (λ b o hc e n=>u.free b o e n hc) (λ b o hc e=>u.there b o e hc) u.tups u.frzs u.tbls (λ m' hm=>by
  obtain ⟨o',es',ep',ho',r'⟩:=hm
  rw [ho] at ho'; cases ho'
  exact ⟨_,es',ep',hL,r'⟩) hok hg
theorem Inv.turned {t':Nat} {it:Addr} (I:Inv X pins σ H s) (k:∀ b o,b≠it->s.heap.get? b=some o->h'.get? b=some o) (hn:H it=none) (hL:it≠X.env.locals)
  (h1:it∈X.ex\/X.s₀.heap.objs.size<=it) (h2:∀ x c,X.env.cells.lookup x=some c->c≠it) (h3:∀ p∈X.pn++pins,p.1≠it):Inv X pins σ H { s with heap:=h',toks:=t' }:=by
 have nit:∀ b u,H b=some u->b≠it:=λ b u e z=>by rw [z,hn] at e; cases e
 refine I.step (g':=s.gens) (d':=s.drawn) (ch:=[it]) (λ b hb=>?_) (λ b o _ _ hc e _=>k b o (λ z=>hc (by simp [z])) e) (λ b o _ _ hc e _=>⟨o.slots,k b o (λ z=>hc (by simp [z])) e⟩) (λ _ _ _ _ n=>n)
  (λ b o hc e=>⟨o,k b o (λ z=>hc (by simp [z])) e⟩) (λ _ _ e=>e) (λ _ _ _ e=>e) (λ b ps e=>⟨#[],by rw [e]; simp⟩) (λ m hm=>?_) (λ b u e=>?_) I.bare
 ·have e:b=it:=by simpa using hb
  subst e
  exact ⟨h1,hL,h2,h3⟩
 ·obtain ⟨o,es,ep,ho,r⟩:=hm
  exact ⟨o,es,ep,k _ o (Ne.symm hL) ho,r⟩
 ·refine (I.hok b u e).stay (λ c v hc q=>k c v ?_ q) (λ _ q=>q) λ _ _ q=>q
  rcases hc with z | z
  ·rw [z]; exact nit b u e
  ·exact nit c _ z
theorem Inv.tok (I:Inv X pins σ H s) (t:Nat):Inv X pins σ H { s with toks:=t }:=I.un (h':=s.heap) (t':=t) Un.refl I.hok
theorem Inv.kept {t':Nat} (I:Inv X pins σ H s) (k:∀ b u,s.heap.get? b=some u->h'.get? b=some u):Inv X pins σ H { s with heap:=h',toks:=t' }:=I.un (Un.kept k) (I.hok.kept k)
theorem Inv.laid {a:Addr} {o:HO} {t':Nat} (I:Inv X pins σ H s) (k:∀ b u,s.heap.get? b=some u->h'.get? b=some u) (hp:s.heap.objs.size<=a) (new:ObjOk X.prog X.w (upd H a o) h' a o) :
  Inv X pins σ (upd H a o) { s with heap:=h',toks:=t' }:=I.un (Un.laid k hp (I.hok.fresh hp)) (I.hok.laid k hp new)
theorem Inv.write {x e:Addr} {o:HO} {t':Nat} (I:Inv X pins σ H s) (mu:Mut (H x)) (he:e=x\/H e=some (.own x)) (k:∀ b u,b≠e->s.heap.get? b=some u->h'.get? b=some u) (heo:∃ u,h'.get? e=some u)
  (new:ObjOk X.prog X.w (upd H x o) h' x o):Inv X pins σ (upd H x o) { s with heap:=h',toks:=t' }:=I.un (Un.write mu he k heo) (I.hok.write mu he k heo new)
theorem Inv.pins_of {pins':List (Addr × Obj)} (I:Inv X pins σ H s) (h:∀ p∈pins',s.heap.get? p.1=some p.2/\H p.1=none/\p.1≠X.env.locals/\p.1 ∉ X.fs/\∀ v,p.2.data ≠ .cell v):Inv X pins' σ H s :=
 ⟨I.ok,I.os,I.bare,I.base,I.loc,I.cell,I.free,I.freeC,λ p hp=>(List.mem_append.mp hp).elim (λ z=>I.pin p (List.mem_append_left _ z)) (h p),I.hok,I.len⟩
theorem a7M {N:List Str} (hN:N.Nodup) {i j:Nat} {x:Str} (a:N[i]?=some x) (b:N[j]?=some x):i=j:=by
 obtain ⟨h1,e1⟩:=List.getElem?_eq_some_iff.mp a
 obtain ⟨h2,e2⟩:=List.getElem?_eq_some_iff.mp b
 exact (List.getElem_inj hN).mp (e1.trans e2.symm)
theorem a8L {M:Model} {A:Around} {E:Value->Shared->Prop} {i:Nat} {x:Str} {v:V} {u:Value} {Q:Unit->Shared->Prop} (I:Inv X pins σ H s) (hN:X.N.Nodup) (hi:X.N[i]?=some x) (hx:Loc X.env.scope x) (r:RelV v u)
  (h:∀ s',Inv X pins (σ.set i (some v)) H s'->(∃ a,Heap.SameBut a s.heap s'.heap/\(a=X.env.locals\/X.env.cells.lookup x=some a))->Q () s') (hf:X.fn x=true\/X.env.scope.names.lookup x=some .local:=by first | exact .inl rfl | exact .inr rfl | assumption):wpAny M A (storeName X.env x u) Q E s:=by
 obtain ⟨m,hn,hl⟩:=id I.loc
 have hcls:(X.env.scope.kind == .class || (X.env.scope.kind == .module && X.env.locals != X.env.globals))=false:=by rw [I.ok.kind]; rfl
 have hiσ:i < σ.length:=by rw [I.len]; exact (List.getElem?_eq_some_iff.mp hi).1
 have cne:=I.cne
 have tracked:∀ {a:Addr} {h':Heap},(∃ o,s.heap.get? a=some o/\H a=none)->Heap.SameBut a s.heap h'->HOk X.prog X.w H h':=λ {a h'} ha hs b ob e=>by
  obtain ⟨_,_,hfree⟩:=ha
  refine (I.hok b ob e).stay (λ c w' hc q=>(hs.2 c ?_).trans q) (λ _ q=>q) λ _ _ q=>q
  rintro rfl
  rcases hc with rfl | hc
  ·rw [hfree] at e; cases e
  ·rw [hfree] at hc; cases hc
 rcases hx with hk | hk
 ·refine wpAny_storeName_local hk hn (λ h' hn' hs=>?_) hcls
  obtain ⟨oL,_,_,hoL,_⟩:=id hn
  refine h _ ⟨I.ok,I.os,I.bare,⟨λ b o e n hb hx=>?_,λ b o e n hb hx=>?_,I.base.free,λ b o e hx=>?_,I.base.tups,I.base.frzs,I.base.tbls⟩,⟨_,hn',λ j y v' e1 e2 e3=>?_⟩,λ y c e=>?_,I.free,I.freeC,λ p hp=>?_,tracked ⟨oL,hoL,I.free⟩ hs,by simpa using I.len⟩ ⟨_,hs,.inl rfl⟩
  ·exact (hs.2 b (Nat.ne_of_lt (Nat.lt_of_lt_of_le (Heap.lt_size e) I.ok.above))).trans (I.base.keep b o e n hb hx)
  ·obtain ⟨sl,e1⟩:=I.base.slot b o e n hb hx
   exact ⟨sl,(hs.2 b (Nat.ne_of_lt (Nat.lt_of_lt_of_le (Heap.lt_size e) I.ok.above))).trans e1⟩
  ·obtain ⟨o',e1⟩:=I.base.there b o e hx
   exact ⟨o',(hs.2 b (Nat.ne_of_lt (Nat.lt_of_lt_of_le (Heap.lt_size e) I.ok.above))).trans e1⟩
  ·by_cases hj:j=i
   ·subst hj
    rw [hi] at e1; cases e1
    rw [List.getElem?_set_self hiσ] at e2
    cases e2
    exact ⟨u,r,.inl ⟨hk,by simp⟩⟩
   ·rw [List.getElem?_set_ne (Ne.symm hj)] at e2
    obtain ⟨u',r',q⟩:=hl j y v' e1 e2 e3
    refine ⟨u',r',?_⟩
    rcases q with ⟨k,e⟩ | ⟨k,c,e,z⟩
    ·refine .inl ⟨k,?_⟩
     have:y≠x:=λ e=>hj (a7M hN e1 (e ▸ hi))
     simp [this,e]
    ·exact .inr ⟨k,c,e,z.sameBut hs (cne y c e)⟩
  ·obtain ⟨w',z⟩:=I.cell y c e
   exact ⟨w',z.sameBut hs (cne y c e)⟩
  ·obtain ⟨e,n,ne,nf,d⟩:=I.pin p hp
   exact ⟨(hs.2 p.1 ne).trans e,n,ne,nf,d⟩
 ·have hfn:X.fn x=true:=by
   rcases hf with z | z
   ·exact z
   ·rw [z] at hk; cases hk
  obtain ⟨c,hc⟩:=I.ok.has x (.inl hk)
  obtain ⟨w',z⟩:=I.cell x c hc
  refine wpAny_storeName_cell I.ok.kind hk hc z (λ h' hc' hs=>?_)
  obtain ⟨oc,hoc,hocd⟩:=id z
  refine h { s with heap:=h' } ⟨I.ok,I.os,I.bare,⟨λ b o e n hb hx=>?_,λ b o e n hb hx=>?_,I.base.free,λ b o e hx=>?_,I.base.tups,I.base.frzs,I.base.tbls⟩,⟨m,hn.sameBut hs (Ne.symm (cne x c hc)),λ j y v' e1 e2 e3=>?_⟩,λ y c' e=>?_,I.free,I.freeC,λ p hp=>?_,tracked ⟨oc,hoc,I.freeC x c hc⟩ hs,by simpa using I.len⟩ ⟨c,hs,.inr hc⟩
  ·exact (hs.2 b (Nat.ne_of_lt (Nat.lt_of_lt_of_le (Heap.lt_size e) (I.ok.cab x c hfn hc)))).trans (I.base.keep b o e n hb hx)
  ·obtain ⟨sl,e1⟩:=I.base.slot b o e n hb hx
   exact ⟨sl,(hs.2 b (Nat.ne_of_lt (Nat.lt_of_lt_of_le (Heap.lt_size e) (I.ok.cab x c hfn hc)))).trans e1⟩
  ·obtain ⟨o',e1⟩:=I.base.there b o e hx
   exact ⟨o',(hs.2 b (Nat.ne_of_lt (Nat.lt_of_lt_of_le (Heap.lt_size e) (I.ok.cab x c hfn hc)))).trans e1⟩
  ·by_cases hj:j=i
   ·subst hj
    rw [hi] at e1; cases e1
    rw [List.getElem?_set_self hiσ] at e2
    cases e2
    exact ⟨u,r,.inr ⟨.inl hk,c,hc,hc'⟩⟩
   ·rw [List.getElem?_set_ne (Ne.symm hj)] at e2
    obtain ⟨u',r',q⟩:=hl j y v' e1 e2 e3
    refine ⟨u',r',?_⟩
    rcases q with q | ⟨k,c',e,z'⟩
    ·exact .inl q
    ·refine .inr ⟨k,c',e,z'.sameBut hs ?_⟩
     rintro rfl
     exact hj (a7M hN e1 (I.ok.inj _ _ _ e hc ▸ hi))
  ·by_cases hcc:c'=c
   ·subst hcc; exact ⟨_,hc'⟩
   ·obtain ⟨w2,z2⟩:=I.cell y c' e
    exact ⟨w2,z2.sameBut hs hcc⟩
  ·obtain ⟨e,n,ne,nf,d⟩:=I.pin p hp
   refine ⟨(hs.2 p.1 ?_).trans e,n,ne,nf,d⟩
   intro q
   rw [q,hoc] at e
   have q':oc=p.2:=Option.some.inj e
   exact d w' (by rw [<- q']; exact hocd)
theorem a7N {M:Model} {A:Around} {E:Value->Shared->Prop} {i:Nat} {x:Str} {v:V} {u:Value} {Q:Unit->Shared->Prop} (I:Inv X pins σ H s) (hN:X.N.Nodup) (hi:X.N[i]?=some x) (hx:Loc X.env.scope x) (r:RelV v u)
  (h:∀ s',Inv X pins (σ.set i (some v)) H s'->Q () s') (hf:X.fn x=true\/X.env.scope.names.lookup x=some .local:=by first | exact .inl rfl | exact .inr rfl | assumption):wpAny M A (storeName X.env x u) Q E s :=
 a8L I hN hi hx r (λ s' I' _=>h s' I') hf
theorem Inv.call' {s':Shared} {ch:List Addr} (I:Inv X pins σ H s) (ho:s'.os=s.os) (u:Un (frs X.stack) ch H H' s.heap s'.heap) (hok:HOk X.prog X.w H' s'.heap) (hg:AllBare s'.gens)
  (hch:∀ b∈ch,(b∈X.ex\/X.s₀.heap.objs.size<=b)/\b≠X.env.locals/\(∀ x c,X.env.cells.lookup x=some c->c≠b)/\∀ p∈X.pn++pins,p.1≠b):Inv X pins σ H' s':=by
 obtain ⟨h',g',d',t',o'⟩:=s'
 have e:o'=s.os:=ho
 subst e
 exact I.call (g':=g') (t':=t') (d':=d') u hok hg hch
end
abbrev XK:=Value->Option Addr->Hp->Prop
abbrev St:=List (Option V)
abbrev VK:=V->Hp->Prop
abbrev TE:=St->Hp->VK->Prop
abbrev TT:=St->Hp->(Bool->Hp->Prop)->Prop
abbrev TA:=St->Hp->(List V->Hp->Prop)->Prop
structure Ends where
 nx:St->Hp->Prop
 rt:VK
 bk:St->Hp->Prop:=λ _ _=>False
 ct:St->Hp->Prop:=λ _ _=>False
abbrev TS:=Ends->St->Hp->Prop
def EP (X:Cx) (pins:List (Addr × Obj)) (σ:St) (Q:VK) (u:Value) (s':Shared):Prop:=∃ v H',Inv X pins σ H' s'/\RelV v u/\Q v H'
def TP (X:Cx) (pins:List (Addr × Obj)) (σ:St) (Q:Bool->Hp->Prop) (b:Bool) (s':Shared):Prop:=∃ H',Inv X pins σ H' s'/\Q b H'
def AP (X:Cx) (pins:List (Addr × Obj)) (σ:St) (Q:List V->Hp->Prop) (us:List Value) (s':Shared):Prop:=∃ vs H',Inv X pins σ H' s'/\Vals vs us/\Q vs H'
def SP (X:Cx) (pins:List (Addr × Obj)) (D:Ends) (f:Flow) (s':Shared):Prop :=
 match f with
 | .next=>∃ σ' H',Inv X pins σ' H' s'/\D.nx σ' H'
 | .brk=>∃ σ' H',Inv X pins σ' H' s'/\D.bk σ' H'
 | .cont=>∃ σ' H',Inv X pins σ' H' s'/\D.ct σ' H'
 | .ret u=>∃ v σ' H',Inv X pins σ' H' s'/\RelV v u/\D.rt v H'
def PE (X:Cx) (e:Expr) (t:TE):Prop :=
 ∀ (pins:List (Addr × Obj)) (s:Shared) (σ:St) (H:Hp) (Q:VK),Inv X pins σ H s->t σ H Q->wpAny (model X.prog X.w) X.A (eval e X.env) (EP X pins σ Q) X.xe s
def PT (X:Cx) (e:Expr) (t:TT):Prop :=
 ∀ (pins:List (Addr × Obj)) (s:Shared) (σ:St) (H:Hp) (Q:Bool->Hp->Prop),Inv X pins σ H s->t σ H Q->wpAny (model X.prog X.w) X.A (isTrue e X.env (eval e X.env)) (TP X pins σ Q) X.xe s
def PW (X:Cx) (e:Expr) (t:TT):Prop :=
 ∀ (whole:Sem Value) (pins:List (Addr × Obj)) (s:Shared) (σ:St) (H:Hp) (Q:Bool->Hp->Prop),Inv X pins σ H s->t σ H Q->wpAny (model X.prog X.w) X.A (isTrue e X.env whole) (TP X pins σ Q) X.xe s
theorem PW.pt {X:Cx} {e:Expr} {t:TT} (h:PW X e t):PT X e t:=h _
def PA (X:Cx) (es:List Expr) (t:TA):Prop :=
 ∀ (pos:Pos) (pins:List (Addr × Obj)) (s:Shared) (σ:St) (H:Hp) (Q:List V->Hp->Prop),Inv X pins σ H s->t σ H Q->wpAny (model X.prog X.w) X.A (spliced (backTo pos (starEach es X.env))) (AP X pins σ Q) X.xe s
def PS (X:Cx) (st:Stmt) (t:TS):Prop :=
 ∀ (pins:List (Addr × Obj)) (s:Shared) (σ:St) (H:Hp) (D:Ends),Inv X pins σ H s->t D σ H->wpAny (model X.prog X.w) X.A (exec st X.env) (SP X pins D) X.xe s
def PSs (X:Cx) (st:List Stmt) (t:TS):Prop :=
 ∀ (pins:List (Addr × Obj)) (s:Shared) (σ:St) (H:Hp) (D:Ends),Inv X pins σ H s->t D σ H->wpAny (model X.prog X.w) X.A (execs st X.env) (SP X pins D) X.xe s
theorem thn {α:Type} {t:Sem α} {Q Q':α->Shared->Prop} {M:Model} {A:Around} {E:Value->Shared->Prop} {s:Shared} (h:wpAny M A t Q E s) (hQ:∀ a s,Q a s->Q' a s):wpAny M A t Q' E s:=wpAny_mono h hQ λ _ _ x=>x
end L2
namespace L2
open PySem PySem.Spec PyProof.Rows
section
variable {X:Cx}
def tVar (i:Nat):TE:=λ σ H Q=>∃ v,σ[i]?=some (some v)/\Q v H
def tC (v:V):TE:=λ _ H Q=>Q v H
theorem c0V {i:Nat} {x:Str} {pos:Pos} (hN:X.N[i]?=some x) (hv:Vis X.env.scope x) (hd:(x == ("__debug__" : Str))=false:=by decide) (hcd:(x == ("__classdict__" : Str))=false:=by decide):PE X (.Name x pos) (tVar i):=by
 intro pins s σ H Q I h
 obtain ⟨v,e,h⟩:=h
 obtain ⟨m,hn,hl⟩:=I.loc
 obtain ⟨u,r,l⟩:=hl i x v hN e hv
 have fin:EP X pins σ Q u s:=⟨v,H,I,r,h⟩
 rcases l with ⟨hk,hm⟩ | ⟨hk,c,hc,hcell⟩
 ·exact wpAny_Name (wpAny_loadName_local I.ok.kind hk hn hm fin) hd
 ·rcases hk with hk | hk
  ·exact wpAny_Name (wpAny_loadName_cell I.ok.kind hk hc hcell fin) hd
  ·exact wpAny_Name (wpAny_loadName_free I.ok.kind hk hc hcell fin hcd) hd
theorem a0D {i j pos}:PE X (.Constant (.int i) j pos) (tC (.int i)):=λ _ _ _ H _ I h=>wpAny_Constant_int ⟨.int i,H,I.tok _,⟨_,rfl⟩,h⟩
theorem a8M {b j pos}:PE X (.Constant (.bool b) j pos) (tC (.bl b)):=λ _ _ _ H _ I h=>Constant_bool ⟨.bl b,H,I,rfl,h⟩
theorem a1Y {j pos}:PE X (.Constant .none j pos) (tC .non):=λ _ _ _ H _ I h=>Constant_none ⟨.non,H,I,rfl,h⟩
theorem a6V {x j pos}:PE X (.Constant (.str x) j pos) (tC (.str x)):=λ _ _ _ H _ I h=>Calls.Constant_str ⟨.str x,H,I.tok _,⟨_,rfl⟩,h⟩
def Gl (X:Cx) (x:Str):Prop:=X.env.kindOf x=some .globalImplicit
theorem a5O {E:Value->Shared->Prop} {pins:List (Addr × Obj)} {s:Shared} {σ:St} {H:Hp} {x:Str} {u:Value} {pos:Pos} {Q:Value->Shared->Prop} (I:Inv X pins σ H s) (hg:Gl X x) (hm:X.mg x=some u) (h:Q u s)
  (hd:(x == ("__debug__" : Str))=false:=by decide):wpAny (model X.prog X.w) X.A (eval (.Name x pos) X.env) Q E s :=
 Calls.Name_function_global I.ok.kind hg (Calls.loadGlobal_global (by rw [I.ok.glob]; exact I.mod.glob.keeps I.bk) hm h) hd
theorem a5A {E:Value->Shared->Prop} {pins:List (Addr × Obj)} {s:Shared} {σ:St} {H:Hp} {x:Str} {u:Value} {pos:Pos} {Q:Value->Shared->Prop} (I:Inv X pins σ H s) (hg:Gl X x) (hm:X.mg x=none) (hv:bootBuiltins x=some u) (h:Q u s)
  (hn:x ≠ "__name__" := by decide) (hd:(x == ("__debug__" : Str))=false:=by decide):wpAny (model X.prog X.w) X.A (eval (.Name x pos) X.env) Q E s:=by
 obtain ⟨mb,h1,h2⟩:=I.mod.blt
 exact Calls.Name_function_global I.ok.kind hg (Calls.loadGlobal_builtin (by rw [I.ok.glob]; exact I.mod.glob.keeps I.bk) hm (by rw [I.ok.blt]; exact h1.keeps I.bk) ((h2 x hn).trans hv) h) hd
theorem a1V {x:Str} {v:V} {u:Value} {pos:Pos} (hg:Gl X x) (hm:X.mg x=some u) (r:RelV v u) (hd:(x == ("__debug__" : Str))=false:=by decide):PE X (.Name x pos) (tC v) :=
 λ _ _ _ H _ I h=>a5O I hg hm ⟨v,H,I,r,h⟩ hd
theorem a4T {x:Str} {v:V} {u:Value} {pos:Pos} (hg:Gl X x) (hm:X.mg x=none) (hv:bootBuiltins x=some u) (r:RelV v u) (hn:x ≠ "__name__" := by decide) (hd:(x == ("__debug__" : Str))=false:=by decide):PE X (.Name x pos) (tC v) :=
 λ _ _ _ H _ I h=>a5A I hg hm hv ⟨v,H,I,r,h⟩ hn hd
variable {a b:Expr} {ta tb:TE} {pos:Pos}
variable {tA tB':TT} {rest:List Expr}
def tAnd (t u:TT):TT:=λ σ H Q=>t σ H λ c H1=>if c=true then u σ H1 Q else Q false H1
def tOr (t u:TT):TT:=λ σ H Q=>t σ H λ c H1=>if c=true then Q true H1 else u σ H1 Q
def tNot (t:TT):TT:=λ σ H Q=>t σ H λ c H1=>Q (!c) H1
theorem a1S (ha:PT X a tA):PW X (.BoolOp .And [a] pos) tA:=by
 intro wh pins s σ H Q I h
 refine isTrue_and (thn (ha pins s σ H Q I h) λ c s1 e=>?_)
 cases c with
 | true=>exact isTrue_and_nil e
 | false=>exact e
theorem a6W (ha:PT X a tA):PW X (.BoolOp .Or [a] pos) tA:=by
 intro wh pins s σ H Q I h
 refine isTrue_or (thn (ha pins s σ H Q I h) λ c s1 e=>?_)
 cases c with
 | false=>exact isTrue_or_nil e
 | true=>exact e
theorem a2L (ha:PT X a tA) (hb:PW X (.BoolOp .And (b::rest) pos) tB'):PW X (.BoolOp .And (a::b::rest) pos) (tAnd tA tB'):=by
 intro wh pins s σ H Q I h
 refine isTrue_and (thn (ha pins s σ H _ I h) λ c s1 ⟨H1,I1,q1⟩=>?_)
 cases c with
 | true=>exact hb wh pins s1 σ H1 Q I1 q1
 | false=>exact ⟨H1,I1,q1⟩
theorem b2H (ha:PT X a tA) (hb:PW X (.BoolOp .Or (b::rest) pos) tB'):PW X (.BoolOp .Or (a::b::rest) pos) (tOr tA tB'):=by
 intro wh pins s σ H Q I h
 refine isTrue_or (thn (ha pins s σ H _ I h) λ c s1 ⟨H1,I1,q1⟩=>?_)
 cases c with
 | true=>exact ⟨H1,I1,q1⟩
 | false=>exact hb wh pins s1 σ H1 Q I1 q1
theorem a3A (ha:PT X a tA):PT X (.UnaryOp .Not a pos) (tNot tA):=by
 intro pins s σ H Q I h
 exact isTrue_not (ha pins s σ H (λ c H1=>Q (!c) H1) I h)
def c2M (ta tb:TE):TE:=λ σ H Q=>ta σ H λ x H1=>∃ c,x = .bl c/\if c=true then tb σ H1 Q else Q (.bl false) H1
def tOrV (ta tb:TE):TE:=λ σ H Q=>ta σ H λ x H1=>∃ c,x = .bl c/\if c=true then Q (.bl true) H1 else tb σ H1 Q
def c2N (ta:TE):TE:=λ σ H Q=>ta σ H λ x H1=>∃ c,x = .bl c/\Q (.bl (!c)) H1
theorem a5P {op} {t:TE} (h:PE X a t):PE X (.BoolOp op [a] pos) t:=λ pins s σ H Q I hw=>BoolOp_one (h pins s σ H Q I hw)
theorem a6X (ha:PE X a ta) (hb:PE X (.BoolOp .And (b::rest) pos) tb):PE X (.BoolOp .And (a::b::rest) pos) (c2M ta tb):=by
 intro pins s σ H Q I h
 refine BoolOp_and (thn (ha pins s σ H _ I h) λ v s1 ⟨x,H1,I1,r1,q1⟩=>?_)
 obtain ⟨c,rfl,q1⟩:=q1
 cases r1
 refine wpAny_truthy_bool ?_
 cases c with
 | true=>exact hb pins s1 σ H1 Q I1 q1
 | false=>exact ⟨.bl false,H1,I1,rfl,q1⟩
theorem c2O (ha:PE X a ta) (hb:PE X (.BoolOp .Or (b::rest) pos) tb):PE X (.BoolOp .Or (a::b::rest) pos) (tOrV ta tb):=by
 intro pins s σ H Q I h
 refine BoolOp_or (thn (ha pins s σ H _ I h) λ v s1 ⟨x,H1,I1,r1,q1⟩=>?_)
 obtain ⟨c,rfl,q1⟩:=q1
 cases r1
 refine wpAny_truthy_bool ?_
 cases c with
 | false=>exact hb pins s1 σ H1 Q I1 q1
 | true=>exact ⟨.bl true,H1,I1,rfl,q1⟩
theorem b7O (ha:PE X a ta):PE X (.UnaryOp .Not a pos) (c2N ta):=by
 intro pins s σ H Q I h
 refine UnaryOp_ (thn (ha pins s σ H _ I h) λ v s1 ⟨x,H1,I1,r1,q1⟩=>?_)
 obtain ⟨c,rfl,q1⟩:=q1
 cases r1
 exact not_of (wpAny_truthy_bool ⟨.bl (!c),H1,I1,rfl,q1⟩)
def tIf (t:TT) (ta tb:TE):TE:=λ σ H Q=>t σ H λ c H1=>if c=true then ta σ H1 Q else tb σ H1 Q
theorem b6B {c:Expr} (hc:PT X c tA) (ha:PE X a ta) (hb:PE X b tb):PE X (.IfExp c a b pos) (tIf tA ta tb):=by
 intro pins s σ H Q I h
 refine wpAny_IfExp (thn (hc pins s σ H _ I h) λ d s1 ⟨H1,I1,q1⟩=>?_)
 cases d with
 | true=>exact ha pins s1 σ H1 Q I1 q1
 | false=>exact hb pins s1 σ H1 Q I1 q1
end
end L2
namespace L2
open PySem PySem.Spec PyProof.Rows
def SqL (K:Φρ) (H:Hp) (a:Addr) (xs:List V):Prop :=
 Rd H a (.lst xs) \/
  ∃ (o:Obj) (its:Array Value) (n:Nat),K.lookup a=some o/\o.cls = .type "list" /\ o.dict=none/\o.data = .seq its n/\its.size<=sizeLine/\Vals xs its.toList
def SqT (K:Φρ) (H:Hp) (a:Addr) (xs:List V):Prop :=
 Rd H a (.tup xs) \/
  ∃ (o:Obj) (its:Array Value) (n:Nat),K.lookup a=some o/\o.cls = .type "tuple" /\ o.data = .seq its n/\its.size<=sizeLine/\Vals xs its.toList
def absV:Value->Option V
 | .none=>some .non
 | .bool b=>some (.bl b)
 | .int i _=>some (.int i)
 | .str x _=>some (.str x)
 | .bytes b _=>some (.byt b)
 | .float b _=>some (.flt b)
 | .ref a=>some (.ref a)
 | .type n=>some (.ty n)
 | _=>none
theorem RelV.abs {x:V} {u:Value} (r:RelV x u):absV u=some x:=by
 cases x with
 | non=>cases r; rfl
 | bl _=>cases r; rfl
 | int _=>obtain ⟨t,rfl⟩:=r; rfl
 | str _=>obtain ⟨t,rfl⟩:=r; rfl
 | byt _=>obtain ⟨t,rfl⟩:=r; rfl
 | flt _=>obtain ⟨t,rfl⟩:=r; rfl
 | ref _=>cases r; rfl
 | ty _=>cases r; rfl
theorem RelV.inj {x y:V} {u:Value} (r:RelV x u) (q:RelV y u):x=y:=Option.some.inj (r.abs.symm.trans q.abs)
theorem Vals.inj:∀ {xs ys:List V} {us:List Value},Vals xs us->Vals ys us->xs=ys
 | _,_,_,.nil,.nil=>rfl
 | _,_,_,.cons r t,.cons r' t'=>by rw [r.inj r',Vals.inj t t']
section
variable {X:Cx} {pins:List (Addr × Obj)} {σ:St} {H:Hp} {s:Shared} {a:Addr} {xs ys:List V}
theorem SqL.of {K:Φρ} (h:H a=some (.lst xs)):SqL K H a xs:=.inl (.inl h)
theorem SqT.of {K:Φρ} (h:H a=some (.tup xs)):SqT K H a xs:=.inl (.inl h)
theorem Inv.list (I:Inv X pins σ H s) (h:SqL X.K H a xs):∃ its:List Value,Vals xs its/\PlainL s.heap a its.toArray/\xs.length<=sizeLine:=by
 rcases h with h | ⟨o,its,n,hk,hc,hd,hs,hz,r⟩
 ·obtain ⟨z,its,n,r,e⟩:=h.ok I.hok
  exact ⟨its,r,⟨_,n,e,rfl,rfl,rfl⟩,z⟩
 ·refine ⟨its.toList,r,⟨o,n,I.kIn a o hk,hc,hd,by simpa using hs⟩,?_⟩
  have e:=r.length
  simp only [Array.length_toList] at e
  omega
theorem Inv.tuple (I:Inv X pins σ H s) (h:SqT X.K H a xs):∃ its:List Value,Vals xs its/\IsTup s.heap a its.toArray/\xs.length<=sizeLine:=by
 rcases h with h | ⟨o,its,n,hk,hc,hs,hz,r⟩
 ·obtain ⟨z,its,r,p⟩:=h.ok I.hok
  exact ⟨its,r,p,z⟩
 ·refine ⟨its.toList,r,⟨o,I.kIn a o hk,hc,n,by simpa using hs⟩,?_⟩
  have e:=r.length
  simp only [Array.length_toList] at e
  omega
theorem Inv.list_inj (I:Inv X pins σ H s) (h:SqL X.K H a xs) (h':SqL X.K H a ys):xs=ys:=by
 obtain ⟨its,r,⟨o,n,e,_,_,d⟩,_⟩:=I.list h
 obtain ⟨its',r',⟨o',n',e',_,_,d'⟩,_⟩:=I.list h'
 rw [e] at e'; cases e'
 rw [d] at d'
 injection d' with d1 _
 have:its=its':=by simpa using congrArg Array.toList d1
 subst this
 exact r.inj r'
end
abbrev Cx.wish (X:Cx) (E:Value->Shared->Prop):Cx:={ X with xe:=E }
abbrev Cx.nox (X:Cx):Cx:=X.wish λ _ _=>False
theorem Cx.Ok.wish {X:Cx} (ok:X.Ok) (E:Value->Shared->Prop):(X.wish E).Ok :=
 ⟨ok.mod,ok.kind,ok.glob,ok.blt,ok.above,ok.inj,ok.has,ok.cab,ok.hd,ok.frames,ok.stk,ok.exf,ok.bs,ok.bsz,ok.noex,ok.exfs,ok.funs,ok.frf⟩
theorem Cx.Ok.unwish {X:Cx} {E:Value->Shared->Prop} (ok:(X.wish E).Ok):X.Ok :=
 ⟨ok.mod,ok.kind,ok.glob,ok.blt,ok.above,ok.inj,ok.has,ok.cab,ok.hd,ok.frames,ok.stk,ok.exf,ok.bs,ok.bsz,ok.noex,ok.exfs,ok.funs,ok.frf⟩
section
variable {X:Cx} {pins:List (Addr × Obj)} {σ:St} {H:Hp} {s:Shared} {E:Value->Shared->Prop}
theorem Inv.wish (I:Inv X pins σ H s) (E:Value->Shared->Prop):Inv (X.wish E) pins σ H s:=⟨I.ok.wish E,I.os,I.bare,I.base,I.loc,I.cell,I.free,I.freeC,I.pin,I.hok,I.len⟩
theorem Inv.unwish (I:Inv (X.wish E) pins σ H s):Inv X pins σ H s:=⟨I.ok.unwish,I.os,I.bare,I.base,I.loc,I.cell,I.free,I.freeC,I.pin,I.hok,I.len⟩
theorem SP.unwish {D:Ends} {f:Flow} {s':Shared} (h:SP (X.wish E) pins D f s'):SP X pins D f s':=by
 cases f with
 | next=>obtain ⟨σ',H',I,q⟩:=h; exact ⟨σ',H',I.unwish,q⟩
 | brk=>obtain ⟨σ',H',I,q⟩:=h; exact ⟨σ',H',I.unwish,q⟩
 | cont=>obtain ⟨σ',H',I,q⟩:=h; exact ⟨σ',H',I.unwish,q⟩
 | ret u=>obtain ⟨v,σ',H',I,r,q⟩:=h; exact ⟨v,σ',H',I.unwish,r,q⟩
theorem PSs.nox {st:List Stmt} {t:TS} (h:PSs X.nox st t):PSs X st t:=λ pins s σ H D I hw =>
 wpAny_mono (h pins s σ H D (I.wish _) hw) (λ _ _ q=>q.unwish) λ _ _ z=>False.elim z
end
section
variable {X:Cx} {st:Stmt} {rest:List Stmt} {t u:TS} {e:Expr} {te:TE} {pos:Pos}
def a8N:TS:=λ D σ H=>D.nx σ H
def tSeq (t u:TS):TS:=λ D σ H=>t { D with nx:=u D } σ H
theorem a0N:PSs X [] a8N:=λ _ _ σ H _ I h=>wpAny_execs_nil ⟨σ,H,I,h⟩
theorem a0C (h1:PS X st t) (h2:PSs X rest u):PSs X (st::rest) (tSeq t u):=by
 intro pins s σ H D I h
 refine wpAny_execs_cons (thn (h1 pins s σ H { D with nx:=u D } I h) λ f s1 q=>?_)
 cases f with
 | next =>
  obtain ⟨σ',H',I',q⟩:=q
  exact h2 pins s1 σ' H' D I' q
 | ret v=>exact q
 | brk=>exact q
 | cont=>exact q
theorem a0E (h1:PS X st t):PSs X [st] t:=by
 intro pins s σ H D I h
 refine wpAny_execs_cons (thn (h1 pins s σ H D I h) λ f s1 q=>?_)
 cases f with
 | next=>exact wpAny_execs_nil q
 | ret v=>exact q
 | brk=>exact q
 | cont=>exact q
theorem Inv.quiet {pins:List (Addr × Obj)} {σ:St} {H:Hp} {s:Shared} (I:Inv X pins σ H s):interactive X.env=false:=by simp [interactive,I.ok.kind]
def c2P (te:TE):TS:=λ D σ H=>te σ H λ _ H1=>D.nx σ H1
theorem a3H (he:PE X e te) (hs:swapsWith e none pos.line X.env=pure false:=by rfl):PS X (.Expr e pos) (c2P te):=by
 intro pins s σ H D I h
 exact wpAny_Expr_any (thn (he pins s σ H _ I h) λ v s1 ⟨x,H1,I1,r1,q1⟩=>⟨σ,H1,I1,q1⟩) I.quiet hs
def tRet (te:TE):TS:=λ D σ H=>te σ H D.rt
theorem a0M (he:PE X e te):PS X (.Return (some e) pos) (tRet te):=by
 intro pins s σ H D I h
 exact wpAny_Return_some (thn (he pins s σ H _ I h) λ v s1 ⟨x,H1,I1,r1,q1⟩=>⟨x,σ,H1,I1,r1,q1⟩)
def tIfS (c:TT) (t u:TS):TS:=λ D σ H=>c σ H λ b H1=>if b=true then t D σ H1 else u D σ H1
theorem a1E {c:Expr} {a b:List Stmt} {tc:TT} (hc:PT X c tc) (ha:PSs X a t) (hb:PSs X b u):PS X (.If c a b pos) (tIfS tc t u):=by
 intro pins s σ H D I h
 refine wpAny_If (thn (hc pins s σ H _ I h) λ d s1 ⟨H1,I1,q1⟩=>?_)
 cases d with
 | true=>exact ha pins s1 σ H1 D I1 q1
 | false=>exact hb pins s1 σ H1 D I1 q1
def b7P:TS:=λ _ _ _=>False
theorem b1I:PS X st b7P:=λ _ _ _ _ _ _ h=>h.elim
theorem b3C {sts:List Stmt}:PSs X sts b7P:=λ _ _ _ _ _ _ h=>h.elim
end
abbrev TG:=V->St->Hp->(St->Hp->Prop)->Prop
abbrev TGs:=List V->St->Hp->(St->Hp->Prop)->Prop
def PG (X:Cx) (target:Expr) (t:TG):Prop :=
 ∀ (pins:List (Addr × Obj)) (s:Shared) (σ:St) (H:Hp) (v:V) (u:Value) (Q:St->Hp->Prop),Inv X pins σ H s->RelV v u->t v σ H Q ->
  wpAny (model X.prog X.w) X.A (assign target X.env u) (λ _ s'=>∃ σ' H',Inv X pins σ' H' s'/\Q σ' H') X.xe s
def PGs (X:Cx) (ts:List Expr) (t:TGs):Prop :=
 ∀ (pins:List (Addr × Obj)) (s:Shared) (σ:St) (H:Hp) (vs:List V) (us:List Value) (Q:St->Hp->Prop),Inv X pins σ H s->Vals vs us->t vs σ H Q ->
  wpAny (model X.prog X.w) X.A (assignInOrder ((assignEach ts X.env).map (·.2)) us) (λ _ s'=>∃ σ' H',Inv X pins σ' H' s'/\Q σ' H') X.xe s
abbrev TSet:=V->V->V->Hp->(Hp->Prop)->Prop
def PSet (X:Cx) (t:TSet):Prop :=
 ∀ (pins:List (Addr × Obj)) (s:Shared) (σ:St) (H:Hp) (o i v:V) (ov iv u:Value) (Q:Hp->Prop),Inv X pins σ H s->RelV o ov->RelV i iv->RelV v u->t o i v H Q ->
  wpAny (model X.prog X.w) X.A (setItem ov iv u) (λ _ s'=>∃ H',Inv X pins σ H' s'/\Q H') X.xe s
section
variable {X:Cx} {pos:Pos}
def b3D (i:Nat):TG:=λ v σ H Q=>Q (σ.set i (some v)) H
theorem a0L {i:Nat} {x:Str} (hN:X.N.Nodup) (hi:X.N[i]?=some x) (hx:Loc X.env.scope x) (hf:X.fn x=true\/X.env.scope.names.lookup x=some .local:=by first | exact .inl rfl | exact .inr rfl | assumption):PG X (.Name x pos) (b3D i):=by
 intro pins s σ H v u Q I r h
 exact wpAny_assign_Name (a7N I hN hi hx r (λ s' I'=>⟨_,H,I',h⟩) hf)
def gNil:TGs:=λ vs σ H Q=>vs=[]/\Q σ H
def c2Q (t:TG) (u:TGs):TGs:=λ vs σ H Q=>∃ v r,vs=v::r/\t v σ H λ σ' H'=>u r σ' H' Q
theorem a3P:PGs X [] gNil:=by
 intro pins s σ H vs us Q I r h
 obtain ⟨e,h⟩:=h
 subst e
 cases r
 exact assignInOrder_nil ⟨σ,H,I,h⟩
theorem a1H {e:Expr} {es:List Expr} {t:TG} {u:TGs} (h1:PG X e t) (h2:PGs X es u)
  (hs:(assignEach (e::es) X.env).map (·.2)=assign e X.env::(assignEach es X.env).map (·.2):=by rfl):PGs X (e::es) (c2Q t u):=by
 intro pins s σ H vs us Q I r h
 obtain ⟨v,vr,e1,h⟩:=h
 subst e1
 cases r with
 | cons r rr =>
  rw [hs]
  refine assignInOrder_cons (thn (h1 pins s σ H _ _ _ I r h) λ _ s1 ⟨σ1,H1,I1,q1⟩=>?_)
  exact h2 pins s1 σ1 H1 _ _ Q I1 rr q1
def gTup (K:Φρ) (n:Nat) (t:TGs):TG:=λ v σ H Q=>∃ a xs,v = .ref a/\SqT K H a xs/\xs.length=n/\t xs σ H Q
theorem c0W {es:List Expr} {k:Nat} {t:TGs} {n:Nat} (hc:X.calm=true) (h:PGs X es t)
  (hn:(assignEach es X.env).length=n:=by rfl) (hst:(assignEach es X.env).findIdx? (·.1)=none:=by rfl):PG X (.Tuple es k pos) (gTup X.K n t):=by
 intro pins s σ H v u Q I r hw
 obtain ⟨a,xs,e1,hq,hl,hw⟩:=hw
 subst e1
 cases r
 obtain ⟨its,rv,ht,hz⟩:=I.tuple hq
 refine assign_Tuple_tuple (I.ok.hd hc) ht (by simp [hn,<- hl,rv.length]) hst λ h' hx=>?_
 have I1:Inv X pins σ H { s with heap:=h' }:=I.kept (t':=s.toks) λ b o e=>hx b o (Nat.ne_of_lt (Heap.lt_size e)) e
 exact h pins _ σ H xs _ Q I1 (by simpa using rv) hw
def gSub (to ti:TE) (t:TSet):TG:=λ v σ H Q=>to σ H λ o H1=>ti σ H1 λ i H2=>t o i v H2 λ H3=>Q σ H3
theorem b1J {o i:Expr} {to ti:TE} {t:TSet} (ho:PE X o to) (hi:PE X i ti) (hs:PSet X t)
  (ha:∀ v,assign (.Subscript o i pos) X.env v=(do
   let ov <- holding [v] (eval o X.env)
   let iv <- holding [v,ov] (eval i X.env)
   standAt pos
   holding [v,ov,iv] (setItem ov iv v)
   release [v,ov,iv] []):=by intro _; rfl):PG X (.Subscript o i pos) (gSub to ti t):=by
 intro pins s σ H v u Q I r h
 rw [ha]
 refine wpAny_bind (wpAny_holding (thn (ho pins s σ H _ I h) λ ov s1 ⟨x,H1,I1,r1,q1⟩=>?_))
 refine wpAny_bind (wpAny_holding (thn (hi pins s1 σ H1 _ I1 q1) λ iv s2 ⟨y,H2,I2,r2,q2⟩=>?_))
 refine wpAny_bind (wpAny_standAt (wpAny_bind (wpAny_holding (thn (hs pins s2 σ H2 x y v ov iv u _ I2 r1 r2 r q2) λ _ s3 ⟨H3,I3,q3⟩=>?_))))
 exact wpAny_release ⟨σ,H3,I3,q3⟩
def tAsg (te:TE) (g:TG):TS:=λ D σ H=>te σ H λ x H1=>g x σ H1 D.nx
theorem b1K {tg e:Expr} {te:TE} {g:TG} (he:PE X e te) (hg:PG X tg g) (hs:swapsWithSole [tg] e pos.line X.env=pure false:=by rfl) (hw:swappedStores [tg] e X.env=pure none:=by rfl)
  (h1:(assignEach [tg] X.env).map (·.2)=[assign tg X.env]:=by rfl):PS X (.Assign [tg] e pos) (tAsg te g):=by
 intro pins s σ H D I h
 refine wpAny_Assign_stores (thn (he pins s σ H _ I h) λ v s1 ⟨x,H1,I1,r1,q1⟩=>?_) hs hw
 rw [h1]
 exact thn (hg pins s1 σ H1 x v _ I1 r1 q1) λ _ s2 q=>q
theorem a0Q {i:Nat} {x:Str} {e:Expr} {te:TE} {pos':Pos} (hN:X.N.Nodup) (hi:X.N[i]?=some x) (hx:Loc X.env.scope x) (he:PE X e te) (hs:swapsWith e (some (.Name x pos')) pos.line X.env=pure false:=by rfl) (hf:X.fn x=true\/X.env.scope.names.lookup x=some .local:=by first | exact .inl rfl | exact .inr rfl | assumption) :
  PS X (.Assign [.Name x pos'] e pos) (tAsg te (b3D i)):=by
 intro pins s σ H D I h
 refine wpAny_Assign_Name (thn (he pins s σ H _ I h) λ v s1 ⟨y,H1,I1,r1,q1⟩=>?_) hs
 exact a7N I1 hN hi hx r1 (λ s2 I2=>⟨_,H1,I2,q1⟩) hf
end
section
variable {X:Cx} {pos:Pos}
def c0X (c:TT) (tb:TS):TS:=λ D σ H=>∃ W:Nat->St->Hp->Prop,(∃ m,W m σ H)/\∀ m σ H,W m σ H ->
 c σ H λ b H1=>if b=true then ∃ N:St->Hp->Prop,(∀ σ' H',N σ' H'->∃ m',m' < m/\W m' σ' H')/\tb { D with nx:=N,ct:=N,bk:=D.nx } σ H1 else D.nx σ H1
theorem b1L {c:Expr} {body:List Stmt} {tc:TT} {tb:TS} (hp:PassesOwn (model X.prog X.w) X.A X.env X.xe) (hc:PT X c tc) (hb:PSs X body tb):PS X (.While c body [] pos) (c0X tc tb):=by
 intro pins s σ H D I h
 obtain ⟨W,⟨m0,w0⟩,turn⟩:=h
 refine wpAny_While (codeAny_whileLoop (λ n s'=>∃ σ' H',Inv X pins σ' H' s'/\W n σ' H') ?_ m0 ⟨σ,H,I,w0⟩)
 rintro n s1 ⟨σ1,H1,I1,w1⟩
 refine wpAny_passesOwn hp (thn (hc pins s1 σ1 H1 _ I1 (turn n σ1 H1 w1)) λ b s2 ⟨H2,I2,q2⟩=>?_)
 cases b with
 | true =>
  obtain ⟨N,hN,q2⟩:=q2
  rw [if_pos rfl]
  refine wpAny_passesOwn hp (thn (hb pins s2 σ1 H2 _ I2 q2) λ f s3 q3=>?_)
  cases f with
  | next =>
   obtain ⟨σ3,H3,I3,n3⟩:=q3
   obtain ⟨m',hm,w3⟩:=hN σ3 H3 n3
   exact ⟨m',hm,σ3,H3,I3,w3⟩
  | cont =>
   obtain ⟨σ3,H3,I3,n3⟩:=q3
   obtain ⟨m',hm,w3⟩:=hN σ3 H3 n3
   exact ⟨m',hm,σ3,H3,I3,w3⟩
  | brk=>exact q3
  | ret v=>exact q3
 | false =>
  rw [if_neg Bool.false_ne_true]
  exact wpAny_execs_nil ⟨σ1,H2,I2,q2⟩
end
structure It where
 go:Nat->Hp->Prop
 yld:Nat->Hp->V->Hp->Prop
 stop:Nat->Hp->Prop
def FpOk (X:Cx) (pins:List (Addr × Obj)) (H:Hp) (b:Addr):Prop :=
 H b=none/\b≠X.env.locals/\b ∉ X.fs/\(b∈X.ex\/X.s₀.heap.objs.size<=b)/\(∀ x c,X.env.cells.lookup x=some c->c≠b)/\∀ p∈X.pn++pins,p.1≠b
theorem Inv.fpOk {X:Cx} {pins:List (Addr × Obj)} {σ:St} {H H':Hp} {s:Shared} {b:Addr} (I:Inv X pins σ H s) (hb:s.heap.objs.size<=b) (hn:H' b=none):FpOk X pins H' b:=by
 refine ⟨hn,Nat.ne_of_gt (Nat.lt_of_lt_of_le I.lt hb),I.nofs hb,.inr (Nat.le_trans I.sz hb),λ x c e z=>?_,λ p hp z=>?_⟩
 ·obtain ⟨v,q⟩:=I.cell x c e
  exact absurd (Nat.lt_of_lt_of_le q.lt (by rw [z]; exact hb)) (Nat.lt_irrefl _)
 ·exact absurd (Nat.lt_of_lt_of_le (Heap.lt_size (I.pin p hp).1) (by rw [z]; exact hb)) (Nat.lt_irrefl _)
structure Turn (P:Program) (w:World) (K:Φρ) (tg:Expr) (J:It) (fp:List Addr) (it:Addr) (tn:Nat->Heap->Prop):Prop where
 mem:it∈fp
 obj:∀ i h,tn i h->∀ b∈fp,∃ o,h.get? b=some o/\∀ v,o.data ≠ .cell v
 keep:∀ i h h',tn i h->(∀ b∈fp,∀ o,h.get? b=some o->h'.get? b=some o)->tn i h'
 item:∀ (X:Cx),X.prog=P->X.w=w->X.K=K->X.calm=true->∀ (i:Nat) (pins:List (Addr × Obj)) (s:Shared) (σ:St) (H:Hp) (E:Value->Shared->Prop),Inv X pins σ H s->(∀ b∈fp,FpOk X pins H b)->tn i s.heap->J.go i H ->
  wpAny (model P w) X.A (pyNext (.ref it)) (λ r s1=>∃ u,r=some u /\
   wpAny (model P w) X.A (letOwnedTupleGo tg (.ref it) u) (λ _ s2=>∃ x H',Inv X pins σ H' s2/\RelV x u/\J.yld i H x H'/\tn (i+1) s2.heap/\∀ b∈fp,H' b=none) E s1) E s
 done:∀ (X:Cx),X.prog=P->X.w=w->X.K=K->X.calm=true->∀ (i:Nat) (pins:List (Addr × Obj)) (s:Shared) (σ:St) (H:Hp) (E:Value->Shared->Prop),Inv X pins σ H s->(∀ b∈fp,FpOk X pins H b)->tn i s.heap->J.stop i H ->
  wpAny (model P w) X.A (pyNext (.ref it)) (λ r s1=>r=none/\Inv X pins σ H s1) E s
 self:∀ (A:Around) (i:Nat) (s:Shared) (Q:Value->Shared->Prop) (E:Value->Shared->Prop),tn i s.heap->Q (.ref it) s->wpAny (model P w) A (pyIter (.ref it)) Q E s
abbrev TI:=St->Hp->(It->Hp->Prop)->Prop
def PIE (X:Cx) (pins:List (Addr × Obj)) (σ:St) (tg:Expr) (R:It->Hp->Prop) (itv:Value) (s2:Shared):Prop :=
 ∃ (it:Addr) (fp:List Addr) (tn:Nat->Heap->Prop) (J:It) (H':Hp),itv = .ref it/\Inv X pins σ H' s2/\Turn X.prog X.w X.K tg J fp it tn/\tn 0 s2.heap/\(∀ b∈fp,FpOk X pins H' b)/\R J H'
def PI (X:Cx) (tg iter:Expr) (wi:TI):Prop :=
 ∀ (pins:List (Addr × Obj)) (s:Shared) (σ:St) (H:Hp) (R:It->Hp->Prop),Inv X pins σ H s->wi σ H R ->
  wpAny (model X.prog X.w) X.A (eval iter X.env) (λ v s1=>wpAny (model X.prog X.w) X.A (pyIter v) (PIE X pins σ tg R) X.xe s1) X.xe s
theorem b8I {M : Model} {A : Around} {E : Value -> Shared -> Prop} {s : Shared} {tg : Expr} {it : Addr} {u : Value} {o : Obj} {n : String} {vs : Array Value} {Q : Unit -> Shared -> Prop} (ho : s.heap.get? it = some o) (hc : o.cls = .type n) (hd : o.data = .fields vs)
    (hn : ["enumerate", "zip", "dict_itemiterator", "dict_reverseitemiterator", "odict_iterator", "itertools.zip_longest", "itertools.pairwise"].contains n = false) (hQ : Q () s) : wpAny M A (letOwnedTupleGo tg (.ref it) u) Q E s := by
  unfold letOwnedTupleGo
  cases tg <;> first
    | exact wpAny_pure hQ
    | (cases u <;> first
        | exact wpAny_pure hQ
        | (refine wpAny_bind (wpAny_load ho ?_)
           rw [hc, hd]
           show wpAny M A (if (["enumerate", "zip", "dict_itemiterator", "dict_reverseitemiterator", "odict_iterator", "itertools.zip_longest", "itertools.pairwise"].contains n && vs[0]? == some (rawInt _)) = true then _ else _) Q E s
           rw [if_neg (by intro h; rw [hn, Bool.false_and] at h; cases h)]
           exact wpAny_pure hQ))
def Itl (K:Φρ) (a:Addr):It :=
 ⟨λ i H=>∃ xs x,SqL K H a xs/\xs[i]?=some x,λ i H x H'=>H'=H/\∀ xs,SqL K H a xs->xs[i]?=some x,λ i H=>∃ xs,SqL K H a xs/\xs.length<=i⟩
def Itr (lo:Int) (n:Nat):It:=⟨λ i _=>i < n,λ i H x H'=>H'=H/\x = .int (lo+i),λ i _=>n<=i⟩
theorem b3E {P:Program} {w:World} {K:Φρ} {tg:Expr} (a it:Addr):Turn P w K tg (Itl K a) [it] it (λ i h=>h.IsListIter it a i) where
 mem:=by simp
 obj:=λ i h st b hb=>by
  have e:b=it:=by simpa using hb
  subst e
  obtain ⟨o,e,c,d⟩:=st
  exact ⟨o,e,λ v z=>by rw [d] at z; cases z⟩
 keep:=λ i h h' st k=>st.at λ o e=>k it (by simp) o e
 item:=by
  intro X hP hw hK hc i pins s σ H E I hf st hg
  subst hP hw hK
  obtain ⟨xs,x,hq,hx⟩:=hg
  obtain ⟨its,rv,p,hz⟩:=I.list hq
  obtain ⟨u,hu,ru⟩:=rv.get hx
  obtain ⟨f0,f1,f2,f3,f4,f5⟩:=hf it (by simp)
  refine wpAny_pyNext_list_item st p.isList (x:=u) (by simpa using hu) λ h' st' sb=>?_
  have I1:Inv X pins σ H { s with heap:=h' }:=I.turned (t':=s.toks) (λ b o hb e=>(sb.2 b hb).trans e) f0 f1 f3 f4 f5
  obtain ⟨o,e,c,d⟩:=id st'
  exact ⟨u,rfl,b8I (s:={ s with heap:=h' }) e c d (by decide) ⟨x,H,I1,ru,⟨rfl,λ ys hy=>by rw [I.list_inj hy hq]; exact hx⟩,st',λ b hb=>(hf b hb).1⟩⟩
 done:=by
  intro X hP hw hK hc i pins s σ H E I hf st hg
  subst hP hw hK
  obtain ⟨xs,hq,hx⟩:=hg
  obtain ⟨its,rv,p,hz⟩:=I.list hq
  obtain ⟨f0,f1,f2,f3,f4,f5⟩:=hf it (by simp)
  have hl:=rv.length
  exact wpAny_pyNext_list_end (I.ok.hd hc) st p.isList (by simp; omega) λ h' eb=>⟨rfl,I.turned (t':=s.toks) (λ b o hb e=>eb b o hb e) f0 f1 f3 f4 f5⟩
 self:=λ _ _ _ _ _ st h=>wpAny_pyIter_listiter st h
theorem b2I {P:Program} {w:World} {K:Φρ} {tg:Expr} (it:Addr) (lo:Int) (n:Nat):Turn P w K tg (Itr lo n) [it] it (λ i h=>IsRangeIter h it (lo+(i:Nat)*1) ((n:Int) - (i:Nat)) 1) where
 mem:=by simp
 obj:=λ i h st b hb=>by
  have e:b=it:=by simpa using hb
  subst e
  exact ⟨_,st,λ v z=>by
   have z':Data.fields _=Data.cell v:=z
   cases z'⟩
 keep:=λ i h h' st k=>k it (by simp) _ st
 item:=by
  intro X hP hw hK hc i pins s σ H E I hf st hg
  subst hP hw hK
  obtain ⟨f0,f1,f2,f3,f4,f5⟩:=hf it (by simp)
  have W:=Walks.range (prog:=X.prog) (w:=X.w) (I.ok.hd hc) it lo 1 n
  refine W.item i s _ _ hg st λ v h' tk hv st' kk=>?_
  obtain ⟨t,rfl⟩:=hv
  have I1:Inv X pins σ H { s with heap:=h',toks:=tk }:=I.turned (λ b o hb e=>kk b o (by simpa using hb) e) f0 f1 f3 f4 f5
  refine ⟨_,rfl,b8I (s:={ s with heap:=h',toks:=tk }) (n:="range_iterator") st' rfl rfl (by decide) ⟨.int (lo+i),H,I1,⟨t,?_⟩,⟨rfl,rfl⟩,st',λ b hb=>(hf b hb).1⟩⟩
  rw [Int.mul_one]
 done:=by
  intro X hP hw hK hc i pins s σ H E I hf st hg
  subst hP hw hK
  obtain ⟨f0,f1,f2,f3,f4,f5⟩:=hf it (by simp)
  exact wpAny_pyNext_range_end (I.ok.hd hc) st (by have:n<=i:=hg; omega) λ h' eb=>⟨rfl,I.turned (t':=s.toks) (λ b o hb e=>eb b o hb e) f0 f1 f3 f4 f5⟩
 self:=λ _ _ _ _ _ st h=>wpAny_pyIter_rangeiter st h
end L2
namespace L2
open PySem PySem.Spec PyProof.Rows
section
variable {X:Cx} {tg:Expr}
def c0Y (K:Φρ) (tl:TE):TI:=λ σ H R=>tl σ H λ x H1=>∃ a,x = .ref a/\(∃ xs,SqL K H1 a xs)/\R (Itl K a) H1
theorem b8J {l:Expr} {tl:TE} (hl:PE X l tl):PI X tg l (c0Y X.K tl):=by
 intro pins s σ H R I h
 refine thn (hl pins s σ H _ I h) λ v s1 ⟨x,H1,I1,r1,q1⟩=>?_
 obtain ⟨a,e,⟨xs,hq⟩,q⟩:=q1
 subst e
 cases r1
 obtain ⟨its,rv,p,hz⟩:=I1.list hq
 refine wpAny_pyIter_list p.isList ?_
 refine ⟨s1.heap.objs.size,[s1.heap.objs.size],_,_,H1,rfl,I1.kept (t':=s1.toks) λ b o e=>Heap.get?_push_of_some _ e,b3E a _,⟨_,Heap.get?_push_size _ rfl,rfl,rfl⟩,λ b hb=>?_,q⟩
 have e:b=s1.heap.objs.size:=by simpa using hb
 subst e
 exact I1.fpOk (Nat.le_refl _) (I1.hok.fresh (Nat.le_refl _))
theorem b1M {pins:List (Addr × Obj)} {σ:St} {H:Hp} {s:Shared} {R:It->Hp->Prop} {E:Value->Shared->Prop} {lo hi:Int} {t u v:Tok} {tk:Nat} (I:Inv X pins σ H s) (h1 : -(2 ^ 62)<=lo) (h2:lo < 2 ^ 62) (h3 : -(2 ^ 62)<=hi) (h4:hi < 2 ^ 62)
  (q:R (Itr lo (hi - lo).toNat) H):wpAny (model X.prog X.w) X.A (pyIter (.ref s.heap.objs.size)) (PIE X pins σ tg R) E { s with heap:=s.heap.push { cls:=.type "range", data:=.fields #[.int lo t,.int hi u,.int 1 v] },toks:=tk }:=by
 refine wpAny_pyIter_range (IsRange.new ..) (small_one h1 h2 h3 h4) ?_
 have I1:Inv X pins σ H { s with heap:=s.heap.push { cls:=.type "range", data:=.fields #[.int lo t,.int hi u,.int 1 v] },toks:=tk }:=I.kept λ b o e=>Heap.get?_push_of_some _ e
 refine ⟨(s.heap.push { cls:=.type "range", data:=.fields #[.int lo t,.int hi u,.int 1 v] }).objs.size,[(s.heap.push { cls:=.type "range", data:=.fields #[.int lo t,.int hi u,.int 1 v] }).objs.size],_,_,H,rfl,
  I1.kept (t':=tk) λ b o e=>Heap.get?_push_of_some _ e,b2I _ lo (hi - lo).toNat,?_,λ b hb=>?_,q⟩
 ·have e1:lo+((0:Nat):Int)*1=lo:=by simp
  have e2:(((hi - lo).toNat:Nat):Int) - ((0:Nat):Int)=Builtin.Range.rangeSize lo hi 1:=by rw [rangeSize_one]; split <;> omega
  show IsRangeIter _ _ (lo+((0:Nat):Int)*1) ((((hi - lo).toNat:Nat):Int) - ((0:Nat):Int)) 1
  rw [e1,e2]
  exact Heap.get?_push_size _ rfl
 ·have e:b=(s.heap.push { cls:=.type "range", data:=.fields #[.int lo t,.int hi u,.int 1 v] }).objs.size:=by simpa using hb
  subst e
  exact I1.fpOk (Nat.le_refl _) (I1.hok.fresh (Nat.le_refl _))
def c2R (ta:TA):TI:=λ σ H R=>ta σ H λ vs H1=>∃ j:Int,vs=[.int j] /\ -(2 ^ 62)<=j/\j < 2 ^ 62/\R (Itr 0 j.toNat) H1
def c2S (ta:TA):TI:=λ σ H R=>ta σ H λ vs H1=>∃ i j:Int,vs=[.int i,.int j]/\(-(2 ^ 62)<=i/\i < 2 ^ 62 /\ -(2 ^ 62)<=j/\j < 2 ^ 62)/\R (Itr i (j - i).toNat) H1
theorem a1L {a:Expr} {ta:TA} {p pos:Pos} (hg:Gl X "range") (hm:X.mg "range" = none) (ha:PA X [a] ta) (hs:starEach [a] X.env=[(false,eval a X.env)]:=by rfl):PI X tg (.Call (.Name "range" p) [a] [] pos) (c2R ta):=by
 intro pins s σ H R I h
 refine Call_ (a5A I hg hm boot_range (PyProof.Rows.callWith_type1 (thn (ha pos pins s σ H _ I h) λ us s1 ⟨vs,H1,I1,r1,q1⟩=>?_) hs rfl))
 obtain ⟨j,e,q1,q2,q⟩:=q1
 subst e
 cases r1 with
 | cons r rr =>
  cases rr
  obtain ⟨t,rfl⟩:=r
  exact call_range_1 (b1M I1 (by omega) (by omega) q1 q2 (by simpa using q))
theorem a8O {a b:Expr} {ta:TA} {p pos:Pos} (hg:Gl X "range") (hm:X.mg "range" = none) (ha:PA X [a,b] ta) (hs:starEach [a,b] X.env=[(false,eval a X.env),(false,eval b X.env)]:=by rfl) (hs2:starEach [b] X.env=[(false,eval b X.env)]:=by rfl) :
  PI X tg (.Call (.Name "range" p) [a,b] [] pos) (c2S ta):=by
 intro pins s σ H R I h
 refine Call_ (a5A I hg hm boot_range (PyProof.Rows.callWith_type1 (thn (ha pos pins s σ H _ I h) λ us s1 ⟨vs,H1,I1,r1,q1⟩=>?_) (by rw [hs,hs2]) (by rw [hs2]; rfl)))
 obtain ⟨i,j,e,⟨q1,q2,q3,q4⟩,q⟩:=q1
 subst e
 cases r1 with
 | cons r rr =>
  cases rr with
  | cons r' rr =>
   cases rr
   obtain ⟨t,rfl⟩:=r
   obtain ⟨t',rfl⟩:=r'
   exact call_range_2 (b1M I1 q1 q2 q3 q4 q)
def tFor (wi:TI) (g:TG) (tb:TS):TS:=λ D σ H=>wi σ H λ J H1=>∃ W:Nat->Nat->St->Hp->Prop,(∃ m,W 0 m σ H1)/\∀ i m σ H,W i m σ H ->
 (J.stop i H/\D.nx σ H)\/(J.go i H/\∃ N:St->Hp->Prop,(∀ σ' H',N σ' H'->∃ m',m' < m/\W (i+1) m' σ' H')/\∀ x H',J.yld i H x H'->g x σ H' λ σ2 H2=>tb { D with nx:=N,ct:=N,bk:=D.nx } σ2 H2)
def a4H (fp:List Addr) (h:Heap):List (Addr × Obj):=fp.filterMap λ b=>(h.get? b).map λ o=>(b,o)
theorem a3B {fp:List Addr} {h:Heap} {b:Addr} {o:Obj} (hb:b∈fp) (e:h.get? b=some o):(b,o)∈a4H fp h:=List.mem_filterMap.mpr ⟨b,hb,by rw [e]; rfl⟩
theorem b3F {fp:List Addr} {h:Heap} {p:Addr × Obj} (hp:p∈a4H fp h):p.1∈fp/\h.get? p.1=some p.2:=by
 obtain ⟨b,hb,e⟩:=List.mem_filterMap.mp hp
 cases q:h.get? b with
 | none=>rw [q] at e; cases e
 | some o =>
  rw [q] at e
  have e':(b,o)=p:=Option.some.inj e
  subst e'
  exact ⟨hb,q⟩
theorem Inv.pinned {pins:List (Addr × Obj)} {σ:St} {H:Hp} {s:Shared} {fp:List Addr} (I:Inv X pins σ H s) (hf:∀ b∈fp,FpOk X pins H b) (ho:∀ b∈fp,∃ o,s.heap.get? b=some o/\∀ v,o.data ≠ .cell v):Inv X (pins++a4H fp s.heap) σ H s :=
 I.pins_of λ p hp=>(List.mem_append.mp hp).elim (λ z=>I.pin p (List.mem_append_right _ z)) λ z=>by
  obtain ⟨hb,e⟩:=b3F z
  obtain ⟨f0,f1,f2,_⟩:=hf p.1 hb
  obtain ⟨o,e',d⟩:=ho p.1 hb
  rw [e] at e'; cases e'
  exact ⟨e,f0,f1,f2,d⟩
theorem Inv.unpinned {pins pl:List (Addr × Obj)} {σ:St} {H:Hp} {s:Shared} (I:Inv X (pins++pl) σ H s):Inv X pins σ H s:=I.pins_of λ p hp=>I.pin p (List.mem_append_right _ (List.mem_append_left _ hp))
theorem a2A {iter:Expr} {body:List Stmt} {wi:TI} {g:TG} {tb:TS} {pos:Pos} (hp:PassesOwn (model X.prog X.w) X.A X.env X.xe) (hc:X.calm=true) (hi:PI X tg iter wi) (hg:PG X tg g) (hb:PSs X body tb)
  (hs:∀ x,foldedSetIterable iter X.env x=pure x:=by intro _; rfl):PS X (.For tg iter body [] pos) (tFor wi g tb):=by
 intro pins s σ H D I h
 refine wpAny_For (thn (hi pins s σ H _ I h) λ v s1 h1=>thn h1 λ itv s2 h2=>?_) hs
 obtain ⟨it,fp,tn,J,H2,e,I2,T,st2,f2,W,⟨m0,w0⟩,turn⟩:=h2
 subst e
 have stat:∀ {H':Hp},(∀ b∈fp,H' b=none)->∀ b∈fp,FpOk X pins H' b:=λ hn b hb=>⟨hn b hb,(f2 b hb).2⟩
 refine codeAny_forLoop_any (λ n s'=>∃ i σ' H',Inv X pins σ' H' s'/\tn i s'.heap/\(∀ b∈fp,H' b=none)/\W i n σ' H') ?_ m0 ⟨0,σ,H2,I2,st2,λ b hb=>(f2 b hb).1,w0⟩
 rintro n s3 ⟨i,σ3,H3,I3,st3,fr3,w3⟩
 rcases turn i n σ3 H3 w3 with ⟨stop,qn⟩ | ⟨go,N,hN,step⟩
 ·refine wpAny_passesOwn hp (thn (T.done X rfl rfl rfl hc i pins s3 σ3 H3 X.xe I3 (stat fr3) st3 stop) λ r s4 ⟨hr,I4⟩=>?_)
  subst hr
  exact wpAny_execs_nil ⟨σ3,H3,I4,qn⟩
 ·refine wpAny_passesOwn hp (thn (T.item X rfl rfl rfl hc i pins s3 σ3 H3 X.xe I3 (stat fr3) st3 go) λ r s4 ⟨u,hr,h4⟩=>?_)
  subst hr
  refine wpAny_passesOwn hp (thn h4 λ _ s5 ⟨x,H5,I5,r5,y5,st5,fr5⟩=>?_)
  have I5':=I5.pinned (stat fr5) (T.obj _ _ st5)
  refine wpAny_passesOwn hp (thn (hg _ s5 σ3 H5 x u _ I5' r5 (step x H5 y5)) λ _ s6 ⟨σ6,H6,I6,q6⟩=>?_)
  refine wpAny_passesOwn hp (thn (hb _ s6 σ6 H6 _ I6 q6) λ f s7 q7=>?_)
  have again:∀ {σ7:St} {H7:Hp},Inv X (pins++a4H fp s5.heap) σ7 H7 s7->N σ7 H7->∃ m,m < n/\∃ i σ' H',Inv X pins σ' H' s7/\tn i s7.heap/\(∀ b∈fp,H' b=none)/\W i m σ' H':=λ {σ7 H7} I7 n7=>by
   obtain ⟨m',hm,w7⟩:=hN σ7 H7 n7
   refine ⟨m',hm,i+1,σ7,H7,I7.unpinned,T.keep _ _ _ st5 λ b hb o e=>(I7.pin (b,o) (List.mem_append_right _ (List.mem_append_right _ (a3B hb e)))).1,λ b hb=>?_,w7⟩
   obtain ⟨o,e,d⟩:=T.obj _ _ st5 b hb
   exact (I7.pin (b,o) (List.mem_append_right _ (List.mem_append_right _ (a3B hb e)))).2.1
  cases f with
  | next=>obtain ⟨σ7,H7,I7,n7⟩:=q7; exact again I7 n7
  | cont=>obtain ⟨σ7,H7,I7,n7⟩:=q7; exact again I7 n7
  | brk=>obtain ⟨σ7,H7,I7,q7⟩:=q7; exact ⟨σ7,H7,I7.unpinned,q7⟩
  | ret v=>obtain ⟨x7,σ7,H7,I7,r7,q7⟩:=q7; exact ⟨x7,σ7,H7,I7.unpinned,r7,q7⟩
end
theorem a3X {K:Φρ} {a:Addr} {xs:List V} {g:TG} {tb:TS} {D:Ends} {σ:St} {H:Hp} (Pv:Nat->St->Hp->Prop) (h0:Pv 0 σ H) (hl:∀ i σ H,i<=xs.length->Pv i σ H->SqL K H a xs)
  (hs:∀ i x σ H,xs[i]?=some x->Pv i σ H->g x σ H λ σ2 H2=>tb { D with nx:=Pv (i+1),ct:=Pv (i+1),bk:=D.nx } σ2 H2) (hd:∀ σ H,Pv xs.length σ H->D.nx σ H) :
  ∃ W:Nat->Nat->St->Hp->Prop,(∃ m,W 0 m σ H)/\∀ i m σ H,W i m σ H ->
   ((Itl K a).stop i H/\D.nx σ H)\/((Itl K a).go i H/\∃ N:St->Hp->Prop,(∀ σ' H',N σ' H'->∃ m',m' < m/\W (i+1) m' σ' H')/\∀ x H',(Itl K a).yld i H x H'->g x σ H' λ σ2 H2=>tb { D with nx:=N,ct:=N,bk:=D.nx } σ2 H2):=by
 refine ⟨λ i m σ H=>m=xs.length - i/\i<=xs.length/\Pv i σ H,⟨xs.length,by simp,Nat.zero_le _,h0⟩,?_⟩
 rintro i m σ H ⟨rfl,hi,p⟩
 have q:=hl i σ H hi p
 by_cases hlt:i < xs.length
 ·refine .inr ⟨⟨xs,xs[i],q,by simp [hlt]⟩,Pv (i+1),λ σ' H' p'=>⟨xs.length - (i+1),by omega,rfl,hlt,p'⟩,λ x H' y=>?_⟩
  obtain ⟨e,y⟩:=y
  subst e
  exact hs i x σ _ (y xs q) p
 ·have e:i=xs.length:=by omega
  subst e
  exact .inl ⟨⟨xs,q,Nat.le_refl _⟩,hd σ H p⟩
theorem a1T {lo:Int} {n:Nat} {g:TG} {tb:TS} {D:Ends} {σ:St} {H:Hp} (Pv:Nat->St->Hp->Prop) (h0:Pv 0 σ H)
  (hs:∀ i σ H,i < n->Pv i σ H->g (.int (lo+i)) σ H λ σ2 H2=>tb { D with nx:=Pv (i+1),ct:=Pv (i+1),bk:=D.nx } σ2 H2) (hd:∀ σ H,Pv n σ H->D.nx σ H) :
  ∃ W:Nat->Nat->St->Hp->Prop,(∃ m,W 0 m σ H)/\∀ i m σ H,W i m σ H ->
   ((Itr lo n).stop i H/\D.nx σ H)\/((Itr lo n).go i H/\∃ N:St->Hp->Prop,(∀ σ' H',N σ' H'->∃ m',m' < m/\W (i+1) m' σ' H')/\∀ x H',(Itr lo n).yld i H x H'->g x σ H' λ σ2 H2=>tb { D with nx:=N,ct:=N,bk:=D.nx } σ2 H2):=by
 refine ⟨λ i m σ H=>m=n - i/\i<=n/\Pv i σ H,⟨n,by simp,Nat.zero_le _,h0⟩,?_⟩
 rintro i m σ H ⟨rfl,hi,p⟩
 by_cases hlt:i < n
 ·refine .inr ⟨hlt,Pv (i+1),λ σ' H' p'=>⟨n - (i+1),by omega,rfl,hlt,p'⟩,λ x H' y=>?_⟩
  obtain ⟨e,y⟩:=y
  subst e y
  exact hs i σ _ hlt p
 ·have e:i=n:=by omega
  subst e
  exact .inl ⟨Nat.le_refl _,hd σ H p⟩
end L2
namespace L2
open PySem PySem.Spec PyProof.Rows
abbrev R2:=V->V->Hp->VK->Prop
def OpR (X:Cx) (f:Value->Value->Sem Value) (r:R2):Prop :=
 ∀ (pins:List (Addr × Obj)) (s:Shared) (σ:St) (H:Hp) (x y:V) (v u:Value) (Q:VK),Inv X pins σ H s->RelV x v->RelV y u->r x y H Q ->
  wpAny (model X.prog X.w) X.A (f v u) (EP X pins σ Q) X.xe s
def UnR (X:Cx) (f:Value->Sem Value) (r:V->Hp->VK->Prop):Prop :=
 ∀ (pins:List (Addr × Obj)) (s:Shared) (σ:St) (H:Hp) (x:V) (v:Value) (Q:VK),Inv X pins σ H s->RelV x v->r x H Q ->
  wpAny (model X.prog X.w) X.A (f v) (EP X pins σ Q) X.xe s
def CallR (X:Cx) (f:Value) (r:List V->Hp->VK->Prop):Prop :=
 ∀ (pins:List (Addr × Obj)) (s:Shared) (σ:St) (H:Hp) (xs:List V) (us:List Value) (Q:VK),Inv X pins σ H s->Vals xs us->r xs H Q ->
  wpAny (model X.prog X.w) X.A (call f us) (EP X pins σ Q) X.xe s
def TruR (X:Cx) (r:V->Hp->(Bool->Hp->Prop)->Prop):Prop :=
 ∀ (pins:List (Addr × Obj)) (s:Shared) (σ:St) (H:Hp) (x:V) (v:Value) (Q:Bool->Hp->Prop),Inv X pins σ H s->RelV x v->r x H Q ->
  wpAny (model X.prog X.w) X.A (truthy v) (TP X pins σ Q) X.xe s
def tOp (r:R2) (ta tb:TE):TE:=λ σ H Q=>ta σ H λ x H1=>tb σ H1 λ y H2=>r x y H2 Q
def tUn (r:V->Hp->VK->Prop) (ta:TE):TE:=λ σ H Q=>ta σ H λ x H1=>r x H1 Q
def rI (C:Int->Int->Prop) (g:Int->Int->V):R2:=λ x y H Q=>∃ i j,x = .int i/\y = .int j/\C i j/\Q (g i j) H
def rI0 (g:Int->Int->V):R2:=λ x y H Q=>∃ i j,x = .int i/\y = .int j/\Q (g i j) H
def rU (g:Int->V):V->Hp->VK->Prop:=λ x H Q=>∃ i,x = .int i/\Q (g i) H
section
variable {X:Cx} {a b c:Expr} {ta tb tc:TE} {pos:Pos}
theorem binT (ha:PE X a ta) (hb:PE X b tb) {pins:List (Addr × Obj)} {s:Shared} {σ:St} {H:Hp} {R:V->V->Hp->Prop} (I:Inv X pins σ H s)
  (h:ta σ H λ x H1=>tb σ H1 λ y H2=>R x y H2) {Q:Value->Shared->Prop} {f:Value->Value->Sem Value}
  (hf:∀ v u s2 x y H2,Inv X pins σ H2 s2->RelV x v->RelV y u->R x y H2->wpAny (model X.prog X.w) X.A (f v u) Q X.xe s2) :
  wpAny (model X.prog X.w) X.A (eval a X.env) (λ v s₁=>wpAny (model X.prog X.w) X.A (eval b X.env) (λ u s₂=>wpAny (model X.prog X.w) X.A (f v u) Q X.xe s₂) X.xe s₁) X.xe s:=by
 refine thn (ha pins s σ H _ I h) λ v s1 ⟨x,H1,I1,r1,q1⟩=>?_
 refine thn (hb pins s1 σ H1 _ I1 q1) λ u s2 ⟨y,H2,I2,r2,q2⟩=>?_
 exact hf v u s2 x y H2 I2 r1 r2 q2
theorem a0K {op:Operator} {r:R2} (ho:OpR X (binaryOp op) r) (ha:PE X a ta) (hb:PE X b tb):PE X (.BinOp a op b pos) (tOp r ta tb):=by
 intro pins s σ H Q I h
 exact wpAny_BinOp (binT ha hb I h λ v u s2 x y H2 I2 rx ry q=>ho pins s2 σ H2 x y v u Q I2 rx ry q)
theorem b3G {op:UnaryOp} {r:V->Hp->VK->Prop} (ho:UnR X (unaryOp op) r) (ha:PE X a ta):PE X (.UnaryOp op a pos) (tUn r ta):=by
 intro pins s σ H Q I h
 exact UnaryOp_ (thn (ha pins s σ H _ I h) λ v s1 ⟨x,H1,I1,r1,q1⟩=>ho pins s1 σ H1 x v Q I1 r1 q1)
theorem opI {f:Value->Value->Sem Value} {C:Int->Int->Prop} {g:Int->Int->Int}
  (rule:∀ (i j:Int) (t u:Tok) (s:Shared) (Q:Value->Shared->Prop) (E:Value->Shared->Prop),C i j->Q (.int (g i j) s.toks) { s with toks:=s.toks+1 }->wpAny (model X.prog X.w) X.A (f (.int i t) (.int j u)) Q E s) :
  OpR X f (rI C λ i j=>.int (g i j)):=by
 intro pins s σ H x y v u Q I rx ry h
 obtain ⟨i,j,rfl,rfl,hc,q⟩:=h
 obtain ⟨t,rfl⟩:=rx
 obtain ⟨t',rfl⟩:=ry
 exact rule i j t t' s _ _ hc ⟨.int (g i j),H,I.tok _,⟨_,rfl⟩,q⟩
theorem opI0 {f:Value->Value->Sem Value} {g:Int->Int->Int}
  (rule:∀ (i j:Int) (t u:Tok) (s:Shared) (Q:Value->Shared->Prop) (E:Value->Shared->Prop),Q (.int (g i j) s.toks) { s with toks:=s.toks+1 }->wpAny (model X.prog X.w) X.A (f (.int i t) (.int j u)) Q E s) :
  OpR X f (rI0 λ i j=>.int (g i j)):=by
 intro pins s σ H x y v u Q I rx ry h
 obtain ⟨i,j,rfl,rfl,q⟩:=h
 obtain ⟨t,rfl⟩:=rx
 obtain ⟨t',rfl⟩:=ry
 exact rule i j t t' s _ _ ⟨.int (g i j),H,I.tok _,⟨_,rfl⟩,q⟩
theorem opB0 {f:Value->Value->Sem Value} {g:Int->Int->Bool}
  (rule:∀ (i j:Int) (t u:Tok) (s:Shared) (Q:Value->Shared->Prop) (E:Value->Shared->Prop),Q (.bool (g i j)) s->wpAny (model X.prog X.w) X.A (f (.int i t) (.int j u)) Q E s) :
  OpR X f (rI0 λ i j=>.bl (g i j)):=by
 intro pins s σ H x y v u Q I rx ry h
 obtain ⟨i,j,rfl,rfl,q⟩:=h
 obtain ⟨t,rfl⟩:=rx
 obtain ⟨t',rfl⟩:=ry
 exact rule i j t t' s _ _ ⟨.bl (g i j),H,I,rfl,q⟩
def CDiv (i j:Int):Prop:=0 < j/\j < 1073741824
def CPow (i j:Int):Prop:=0<=j/\j<=1000000/\i.natAbs < 2 ^ 64
def CMul (i j:Int):Prop:=(-(2 ^ 64) < i/\i < 2 ^ 64)\/(-(2 ^ 64) < j/\j < 2 ^ 64)
theorem CMul.ok {i j:Int} (h:CMul i j):IntMulOk i j:=by
 rcases h with ⟨h1,h2⟩ | ⟨h1,h2⟩
 ·exact .of_left (intBits_le_64 h1 h2)
 ·exact .of_right (intBits_le_64 h1 h2)
theorem a1R:OpR X (binaryOp .Add) (rI0 λ i j=>.int (i+j)):=opI0 λ _ _ _ _ _ _ _ q=>add_int q
theorem a6Y:OpR X (binaryOp .Sub) (rI0 λ i j=>.int (i - j)):=opI0 λ _ _ _ _ _ _ _ q=>sub_int q
theorem a3C:OpR X (binaryOp .Mult) (rI CMul λ i j=>.int (i*j)):=opI λ _ _ _ _ _ _ _ hc q=>mul_int q hc.ok
theorem a4C:OpR X (binaryOp .FloorDiv) (rI CDiv λ i j=>.int (i / j)):=opI λ i j _ _ _ _ _ hc q=>by
 have h1:(0:Int) < j:=hc.1
 have h2:j < 1073741824:=hc.2
 exact floordiv_int (by omega) (by rw [Int.fdiv_eq_ediv_of_nonneg i (by omega)]; exact q) (.inl (PyProof.noPylong_small (by omega)))
theorem a1M:OpR X (binaryOp .Mod) (rI (λ _ j=>0 < j) λ i j=>.int (i % j)):=opI λ i j _ _ _ _ _ hc q=>by
 have h1:(0:Int) < j:=hc
 exact mod_int' (by omega) (by rw [Int.fmod_eq_emod_of_nonneg i (by omega)]; exact q)
theorem a8P:OpR X (binaryOp .LShift) (rI CPow λ i j=>.int (i*2 ^ j.toNat)):=opI λ _ _ _ _ _ _ _ hc q=>lshift_int_small hc.1 hc.2.1 hc.2.2 q
theorem b7Q:OpR X (binaryOp .BitAnd) (rI0 λ i j=>.int (Builtin.bitAnd i j)):=opI0 λ _ _ _ _ _ _ _ q=>and_int q
theorem b8K:OpR X (binaryOp .BitOr) (rI0 λ i j=>.int (Builtin.bitOr i j)):=opI0 λ _ _ _ _ _ _ _ q=>or_int q
theorem unI {f:Value->Sem Value} {g:Int->Int}
  (rule:∀ (i:Int) (t:Tok) (s:Shared) (Q:Value->Shared->Prop) (E:Value->Shared->Prop),Q (.int (g i) s.toks) { s with toks:=s.toks+1 }->wpAny (model X.prog X.w) X.A (f (.int i t)) Q E s) :
  UnR X f (rU λ i=>.int (g i)):=by
 intro pins s σ H x v Q I rx h
 obtain ⟨i,rfl,q⟩:=h
 obtain ⟨t,rfl⟩:=rx
 exact rule i t s _ _ ⟨.int (g i),H,I.tok _,⟨_,rfl⟩,q⟩
theorem a8Q:UnR X (unaryOp .USub) (rU λ i=>.int (-i)):=unI λ _ _ _ _ _ q=>neg_int q
end
def scal:V->V->Bool
 | .non,.non=>true | .non,.int _=>true | .int _,.non=>true | .non,.bl _=>true | .bl _,.non=>true | .non,.str _=>true | .str _,.non=>true
 | .int _,.int _=>true | .bl _,.bl _=>true | .str _,.str _=>true | .byt _,.byt _=>true
 | .int _,.str _=>true | .str _,.int _=>true | .bl _,.str _=>true | .str _,.bl _=>true
 | _,_=>false
def rEq:R2:=λ x y H Q=>scal x y=true/\Q (.bl (decide (x=y))) H
def rNe:R2:=λ x y H Q=>scal x y=true/\Q (.bl (!decide (x=y))) H
theorem b3H {i j:Int}:decide (V.int i=V.int j)=(i == j):=by
 rw [Bool.eq_iff_iff]
 simp
theorem b7R {i j:Bool}:decide (V.bl i=V.bl j)=(i == j):=by
 rw [Bool.eq_iff_iff]
 simp
theorem b3I {i j:Str}:decide (V.str i=V.str j)=(i == j):=by
 rw [Bool.eq_iff_iff]
 simp
theorem b3J {i j:Array UInt8}:decide (V.byt i=V.byt j)=(i.toList == j.toList):=by
 rw [Bool.eq_iff_iff]
 cases i
 cases j
 simp
section
variable {X:Cx} {a b c:Expr} {ta tb tc:TE} {pos:Pos}
theorem a1B {pins:List (Addr × Obj)} {σ:St} {H:Hp} {s:Shared} {Q:VK} {k k':Bool} (I:Inv X pins σ H s) (q:Q (.bl k) H) (e:k=k'):EP X pins σ Q (.bool k') s:=by
 subst e
 exact ⟨.bl k,H,I,rfl,q⟩
theorem a2V:OpR X (compareOp .Eq) rEq:=by
 intro pins s σ H x y v u Q I rx ry h
 obtain ⟨hs,q⟩:=h
 cases x with
 | non =>
  cases rx
  cases y with
  | non=>cases ry; exact PySem.EqNone.eq_none_none (a1B I q (by simp))
  | bl j=>cases ry; exact PySem.EqNone.eq_none_bool (a1B I q (by simp))
  | int j=>obtain ⟨t',rfl⟩:=ry; exact PySem.EqNone.eq_none_int (a1B I q (by simp))
  | str j=>obtain ⟨t',rfl⟩:=ry; exact PySem.EqNone.eq_none_str (a1B I q (by simp))
  | _=>exact absurd (show false=true from hs) Bool.false_ne_true
 | bl i =>
  cases rx
  cases y with
  | non=>cases ry; exact PySem.EqNone.eq_bool_none (a1B I q (by simp))
  | bl j=>cases ry; exact eq_bool (a1B I q b7R)
  | str j=>obtain ⟨t',rfl⟩:=ry; exact PySem.EqMixed.eq_bool_str (a1B I q (by simp))
  | _=>exact absurd (show false=true from hs) Bool.false_ne_true
 | int i =>
  obtain ⟨t,rfl⟩:=rx
  cases y with
  | non=>cases ry; exact PySem.EqNone.eq_int_none (a1B I q (by simp))
  | int j=>obtain ⟨t',rfl⟩:=ry; exact eq_int (a1B I q b3H)
  | str j=>obtain ⟨t',rfl⟩:=ry; exact PySem.EqMixed.eq_int_str (a1B I q (by simp))
  | _=>exact absurd (show false=true from hs) Bool.false_ne_true
 | str i =>
  obtain ⟨t,rfl⟩:=rx
  cases y with
  | non=>cases ry; exact PySem.EqNone.eq_str_none (a1B I q (by simp))
  | bl j=>cases ry; exact PySem.EqMixed.eq_str_bool (a1B I q (by simp))
  | int j=>obtain ⟨t',rfl⟩:=ry; exact PySem.EqMixed.eq_str_int (a1B I q (by simp))
  | str j=>obtain ⟨t',rfl⟩:=ry; exact eq_str (a1B I q b3I)
  | _=>exact absurd (show false=true from hs) Bool.false_ne_true
 | byt i =>
  obtain ⟨t,rfl⟩:=rx
  cases y with
  | byt j=>obtain ⟨t',rfl⟩:=ry; exact PySem.W.eq_bytes (a1B I q b3J)
  | _=>exact absurd (show false=true from hs) Bool.false_ne_true
 | _=>cases y <;> exact absurd (show false=true from hs) Bool.false_ne_true
theorem c0Z:OpR X (compareOp .NotEq) rNe:=by
 intro pins s σ H x y v u Q I rx ry h
 obtain ⟨hs,q⟩:=h
 cases x with
 | non =>
  cases rx
  cases y with
  | non=>cases ry; exact PySem.EqNone.ne_none_none (a1B I q (by simp))
  | bl j=>cases ry; exact PySem.EqNone.ne_none_bool (a1B I q (by simp))
  | int j=>obtain ⟨t',rfl⟩:=ry; exact PySem.EqNone.ne_none_int (a1B I q (by simp))
  | str j=>obtain ⟨t',rfl⟩:=ry; exact PySem.EqNone.ne_none_str (a1B I q (by simp))
  | _=>exact absurd (show false=true from hs) Bool.false_ne_true
 | bl i =>
  cases rx
  cases y with
  | non=>cases ry; exact PySem.EqNone.ne_bool_none (a1B I q (by simp))
  | bl j=>cases ry; exact ne_bool (a1B I q (congrArg not b7R))
  | str j=>obtain ⟨t',rfl⟩:=ry; exact PySem.EqMixed.ne_bool_str (a1B I q (by simp))
  | _=>exact absurd (show false=true from hs) Bool.false_ne_true
 | int i =>
  obtain ⟨t,rfl⟩:=rx
  cases y with
  | non=>cases ry; exact PySem.EqNone.ne_int_none (a1B I q (by simp))
  | int j=>obtain ⟨t',rfl⟩:=ry; exact ne_int (a1B I q (congrArg not b3H))
  | str j=>obtain ⟨t',rfl⟩:=ry; exact PySem.EqMixed.ne_int_str (a1B I q (by simp))
  | _=>exact absurd (show false=true from hs) Bool.false_ne_true
 | str i =>
  obtain ⟨t,rfl⟩:=rx
  cases y with
  | non=>cases ry; exact PySem.EqNone.ne_str_none (a1B I q (by simp))
  | bl j=>cases ry; exact PySem.EqMixed.ne_str_bool (a1B I q (by simp))
  | int j=>obtain ⟨t',rfl⟩:=ry; exact PySem.EqMixed.ne_str_int (a1B I q (by simp))
  | str j=>obtain ⟨t',rfl⟩:=ry; exact ne_str (a1B I q (congrArg not b3I))
  | _=>exact absurd (show false=true from hs) Bool.false_ne_true
 | byt i =>
  obtain ⟨t,rfl⟩:=rx
  cases y with
  | byt j=>obtain ⟨t',rfl⟩:=ry; exact PySem.W.ne_bytes (a1B I q (congrArg not b3J))
  | _=>exact absurd (show false=true from hs) Bool.false_ne_true
 | _=>cases y <;> exact absurd (show false=true from hs) Bool.false_ne_true
theorem b2J:OpR X (compareOp .Lt) (rI0 λ i j=>.bl (decide (i < j))):=opB0 λ _ _ _ _ _ _ _ q=>lt_int q
theorem c1A:OpR X (compareOp .LtE) (rI0 λ i j=>.bl (decide (i<=j))):=opB0 λ _ _ _ _ _ _ _ q=>le_int q
theorem a5Q:OpR X (compareOp .Gt) (rI0 λ i j=>.bl (decide (j < i))):=opB0 λ _ _ _ _ _ _ _ q=>gt_int q
theorem c2T:OpR X (compareOp .GtE) (rI0 λ i j=>.bl (decide (j<=i))):=opB0 λ _ _ _ _ _ _ _ q=>ge_int q
theorem b1N : OpR X (compareOp .Is) (fun x y H Q => y = .non /\ Q (.bl (decide (x = .non))) H) := by
  intro pins s σ H x y v u Q I rx ry h
  obtain ⟨rfl, q⟩ := h
  cases ry
  refine is_none_gen (a1B I q ?_)
  cases x <;> first
    | (cases rx; rfl)
    | (obtain ⟨t, rfl⟩ := rx; rfl)
theorem a4U : OpR X (compareOp .IsNot) (fun x y H Q => y = .non /\ Q (.bl (!decide (x = .non))) H) := by
  intro pins s σ H x y v u Q I rx ry h
  obtain ⟨rfl, q⟩ := h
  cases ry
  refine isnot_none_gen (a1B I q ?_)
  cases x <;> first
    | (cases rx; rfl)
    | (obtain ⟨t, rfl⟩ := rx; rfl)
theorem a0O (b:Expr) {op:CmpOp} (h:op ≠ .In:=by decide) (h2:op ≠ .NotIn:=by decide):behindInMarks op b=false:=by
 have e1:(op == CmpOp.In)=false:=by cases op <;> first | rfl | exact absurd rfl h
 have e2:(op == CmpOp.NotIn)=false:=by cases op <;> first | rfl | exact absurd rfl h2
 cases b <;> simp [behindInMarks,e1,e2]
theorem a2W {op:CmpOp} {r:R2} (ho:OpR X (compareOp op) r) (ha:PE X a ta) (hb:PE X b tb) (hm:behindInMarks op b=false):PE X (.Compare a [op] [b] pos) (tOp r ta tb):=by
 intro pins s σ H Q I h
 exact wpAny_Compare1 (binT ha hb I h λ v u s2 x y H2 I2 rx ry q=>ho pins s2 σ H2 x y v u Q I2 rx ry q) hm
def c2U (t:TE):TT:=λ σ H Q=>t σ H λ x H'=>∃ k,x = .bl k/\Q k H'
theorem a0H {op:CmpOp} {r:R2} (ho:OpR X (compareOp op) r) (ha:PE X a ta) (hb:PE X b tb) (hm:behindInMarks op b=false):PT X (.Compare a [op] [b] pos) (c2U (tOp r ta tb)):=by
 intro pins s σ H Q I h
 refine wpAny_isTrue_Compare1 (thn (ha pins s σ H _ I h) λ v s1 ⟨x,H1,I1,r1,q1⟩=>thn (hb pins s1 σ H1 _ I1 q1) λ u s2 ⟨y,H2,I2,r2,q2⟩ =>
  thn (ho pins s2 σ H2 x y v u _ I2 r1 r2 q2) λ c s3 ⟨z,H3,I3,r3,k,e,q3⟩=>?_) hm
 subst e
 cases r3
 exact wpAny_truthy_bool ⟨H3,I3,q3⟩
def c1B (r r':R2) (ta tb tc:TE):TE:=λ σ H Q=>ta σ H λ x H1=>tb σ H1 λ y H2=>r x y H2 λ z H3=>∃ k,z = .bl k /\
 (if k=true then tc σ H3 λ w' H4=>r' y w' H4 Q else Q (.bl false) H3)
theorem b6C {op op':CmpOp} {r r':R2} (ho:OpR X (compareOp op) r) (ho':OpR X (compareOp op') r') (ha:PE X a ta) (hb:PE X b tb) (hc:PE X c tc)
  (hm:lastMarks [op,op'] [b,c]=false:=by with_unfolding_all rfl):PE X (.Compare a [op,op'] [b,c] pos) (c1B r r' ta tb tc):=by
 intro pins s σ H Q I h
 refine Compare_chain (thn (ha pins s σ H _ I h) λ v s1 ⟨x,H1,I1,r1,q1⟩=>chain_link (thn (hb pins s1 σ H1 _ I1 q1) λ u s2 ⟨y,H2,I2,r2,q2⟩ =>
  thn (ho pins s2 σ H2 x y v u _ I2 r1 r2 q2) λ d s3 ⟨z,H3,I3,r3,k,e,q3⟩=>?_)) hm
 subst e
 cases r3
 refine wpAny_truthy_bool ?_
 cases k with
 | false=>exact ite_ff ⟨.bl false,H3,I3,rfl,q3⟩
 | true=>exact ite_tt (chain_last (thn (hc pins s3 σ H3 _ I3 q3) λ w' s4 ⟨z',H4,I4,r4,q4⟩=>ho' pins s4 σ H4 y z' u w' Q I4 r2 r4 q4))
def TruV (K:Φρ) (x:V) (H:Hp) (k:Bool):Prop :=
 match x with
 | .non=>k=false
 | .bl b=>k=b
 | .int i=>k=(i != 0)
 | .str y=>y.length<=sizeLine/\k=((y.length:Int) != 0)
 | .byt y=>y.size<=sizeLine/\k=((y.size:Int) != 0)
 | .ref p=>(∃ xs,SqL K H p xs/\k = !xs.isEmpty)\/(∃ xs,SqT K H p xs/\k = !xs.isEmpty)\/∃ kvs,H p=some (.dK kvs)/\k = !kvs.isEmpty
 | _=>False
theorem b2K {κ:Type} {kvs:List (κ × V)} {vs:List (κ × Value)} (r:KV kvs vs):(!vs.isEmpty) = !kvs.isEmpty:=by
 cases r <;> rfl
theorem a6Z {xs:List V} {its:List Value} (r:Vals xs its):(!its.toArray.isEmpty) = !xs.isEmpty:=by
 cases r <;> simp
theorem a8R:(sizeLine:Nat) < 2 ^ 63:=by rw [sizeLine_eq]; decide
theorem b3K:TruR X (λ x H Q=>∃ k,TruV X.K x H k/\Q k H):=by
 intro pins s σ H x v Q I rx h
 obtain ⟨k,e,q⟩:=h
 have hl:=a8R
 have hs:sizeLine=16777216:=sizeLine_eq
 cases x with
 | non =>
  cases rx
  have e':k=false:=e
  subst e'
  exact truthy_none ⟨H,I,q⟩
 | bl b =>
  cases rx
  have e':k=b:=e
  subst e'
  exact wpAny_truthy_bool ⟨H,I,q⟩
 | int i =>
  obtain ⟨t,rfl⟩:=rx
  have e':k=(i != 0):=e
  subst e'
  exact PySem.P.truthy_int ⟨H,I,q⟩
 | str y =>
  obtain ⟨t,rfl⟩:=rx
  obtain ⟨hy,e'⟩:y.length<=sizeLine/\k=((y.length:Int) != 0):=e
  subst e'
  exact PySem.P.truthy_str (by omega) ⟨H,I.tok _,q⟩
 | byt y =>
  obtain ⟨t,rfl⟩:=rx
  obtain ⟨hy,e'⟩:y.size<=sizeLine/\k=((y.size:Int) != 0):=e
  subst e'
  exact PySem.W.truthy_bytes (by omega) ⟨H,I.tok _,q⟩
 | ref p =>
  cases rx
  have e':(∃ xs,SqL X.K H p xs/\k = !xs.isEmpty)\/(∃ xs,SqT X.K H p xs/\k = !xs.isEmpty)\/∃ kvs,H p=some (.dK kvs)/\k = !kvs.isEmpty:=e
  rcases e' with ⟨xs,hx,e'⟩ | ⟨xs,hx,e'⟩ | ⟨kvs,hx,e'⟩
  ·subst e'
   obtain ⟨its,r,pl,hz⟩:=I.list hx
   have hlen:=r.length
   exact wpAny_truthy_list pl.isList (by simp only [List.size_toArray]; omega) ⟨H,I.tok _,by rw [a6Z r]; exact q⟩
  ·subst e'
   obtain ⟨its,r,pl,hz⟩:=I.tuple hx
   have hlen:=r.length
   exact truthy_tuple pl (by simp only [List.size_toArray]; omega) ⟨H,I.tok _,by rw [a6Z r]; exact q⟩
  ·subst e'
   obtain ⟨hz,hS,vs,r,m⟩:kvs.length<=sizeLine/\(p == sysModules)=false/\∃ vs,KV kvs vs/\s.heap.DictOf (b0K X.prog X.w) p vs:=I.hok p _ hx
   have hlen:kvs.length=vs.length:=Paired.length r
   exact wpAny_truthy_dict hS m (by omega) ⟨H,I.tok _,by rw [b2K r]; exact q⟩
 | _=>exact (show False from e).elim
theorem b6D (ha:PE X a ta) (he:∀ whole,isTrue a X.env whole=(do let v <- whole; standAt a.pos; holding [v] (truthy v))) :
  PT X a (λ σ H Q=>ta σ H λ x H'=>∃ k,TruV X.K x H' k/\Q k H'):=by
 intro pins s σ H Q I h
 exact isTrue_plain (thn (ha pins s σ H _ I h) λ v s1 ⟨x,H1,I1,r1,q1⟩=>b3K pins s1 σ H1 x v Q I1 r1 q1) (he _)
theorem a6L {x:V} {us:List Value} (r:Vals [x] us):∃ u,us=[u]/\RelV x u:=by
 cases r with
 | cons r1 r2=>cases r2; exact ⟨_,rfl,r1⟩
theorem b8L {x y:V} {us:List Value} (r:Vals [x,y] us):∃ u w',us=[u,w']/\RelV x u/\RelV y w':=by
 cases r with
 | cons r1 r2 =>
  cases r2 with
  | cons r3 r4=>cases r4; exact ⟨_,_,rfl,r1,r3⟩
end
end L2
namespace L2
open PySem PySem.Spec PyProof.Rows
structure ObjM (h:Heap) (x dx C:Addr) (mA:Str->Option Value):Prop where
 obj:h.get? x=some (PySem.W.instObj C dx)
 ns:h.Ns1 dx mA
 ne:dx≠x
theorem b3L {h:Heap} {dx:Addr} {mA:Str->Option Value} (n:h.Ns1 dx mA):∃ od,h.get? dx=some od/\∀ name,PySem.W.lookIn name od=some (mA name):=by
 obtain ⟨o,es,ep,ho,hd,hk,_,hm⟩:=n
 refine ⟨o,ho,λ name=>?_⟩
 have e:=hm name
 unfold nsFind findBy at e
 rw [<- Array.find?_toList] at e
 unfold PySem.W.lookIn
 rw [hd]
 dsimp only
 split
 ·rename_i y q
  rw [q] at e
  exact congrArg some e
 ·rename_i q
  rw [q] at e
  have a:es.toList.any (·.refKey)=false:=by
   rw [List.any_eq_false]
   intro y hy
   obtain ⟨z,t,hkey⟩:=hk y (Array.mem_toList_iff.mp hy)
   simp [DictEntry.refKey,hkey]
  have a':¬ es.toList.any (·.refKey)=true:=by rw [a]; exact Bool.false_ne_true
  rw [if_neg a']
  exact congrArg some e
theorem ObjM.look {h:Heap} {x dx C:Addr} {mA:Str->Option Value} (I:ObjM h x dx C mA):∃ od,PySem.W.InstAt h x (PySem.W.instObj C dx) C (some od)/\∀ name,PySem.W.lookIn name od=some (mA name) :=
 let ⟨od,ho,hl⟩:=b3L I.ns
 ⟨od,⟨I.obj,rfl,rfl,ho⟩,hl⟩
section
variable {prog:Program} {w:World} {A:Around} {E:Value->Shared->Prop} {s:Shared} {K:Φρ} {x dx C f:Addr} {mA:Str->Option Value} {name:Str} {v:Value}
end
section
variable {P:Program} {w:World} {H H':Hp} {h h':Heap} {a C dx:Addr} {fs fs':List (Str × V)}
theorem b8M (hok:HOk P w H h) (e:H a=some (.ins C dx fs)):∃ mA,ObjM h a dx C mA/\(∀ f,RelO (fs.lookup f) (mA f))/\PySem.Within mA (fs.map (·.1))/\fs.length<=1000/\H dx=some (.own a):=by
 obtain ⟨d,z,ne,ob,mA,n,r,q⟩:=(show ObjOk P w H h a (.ins C dx fs) from hok a _ e)
 exact ⟨mA,⟨ob,n,ne⟩,r,q,z,d⟩
end
structure Cls (K:Φρ) (C:Addr):Prop where
 pg:PySem.W.plainGet K C Str.empty=true
 hd:PySem.W.hasDictIn K C=true
 po:PySem.W.plainOver K C=true
 sa:PySem.W.findIn K (.ref C) "__setattr__" = some (some (.builtin "object.__setattr__"))
theorem Cls.get {K:Φρ} {C:Addr} (c:Cls K C) (f:Str):PySem.W.plainGet K C f=true:=c.pg
section
variable {X:Cx} {pins:List (Addr × Obj)} {σ:St} {H:Hp} {s:Shared} {a C dx:Addr} {fs:List (Str × V)} {f:Str} {v:V} {A:Around} {E:Value->Shared->Prop}
end
section
variable {X:Cx} {o e value:Expr} {f:Str} {pos pos' tpos:Pos} {ta tv:TE}
end
section
variable {X:Cx} {pins:List (Addr × Obj)} {σ:St} {H:Hp} {s:Shared} {A:Around} {E:Value->Shared->Prop} {Q:Value->Shared->Prop} {c:Value} {b:Bool}
inductive TyOf (K:Φρ) (H:Hp):V->Value->Prop where
 | non:TyOf K H .non (.type "NoneType")
 | bl (x:Bool):TyOf K H (.bl x) (.type "bool")
 | int (i:Int):TyOf K H (.int i) (.type "int")
 | str (x:Str):TyOf K H (.str x) (.type "str")
 | flt (x:UInt64):TyOf K H (.flt x) (.type "float")
 | lst {a:Addr} {xs:List V} (e:H a=some (.lst xs)):TyOf K H (.ref a) (.type "list")
 | frz {a:Addr} {o:Obj} {xs:List V} (e:H a=some (.frz o (.lst xs))):TyOf K H (.ref a) (.type "list")
 | tup {a:Addr} {xs:List V} (e:H a=some (.tup xs)):TyOf K H (.ref a) (.type "tuple")
 | dK {a:Addr} {kvs:List (Key × V)} (e:H a=some (.dK kvs)):TyOf K H (.ref a) (.type "dict")
 | dT {a:Addr} {kvs:List (List Key × V)} (e:H a=some (.dT kvs)):TyOf K H (.ref a) (.type "dict")
 | ins {a C dx:Addr} {fs:List (Str × V)} (e:H a=some (.ins C dx fs)) (cl:Cls K C) (ha:PySem.W.findIn K (.ref C) "__class__" = some (some (.builtin "object.__class__")))
   (hn:PySem.W.specialIn K (.builtin "object.__class__") "__get__" = some (some (.builtin "getset_descriptor.__get__"))) (htk:PySem.W.takesIn K (.builtin "object.__class__")=some true)
   (hm:PySem.W.mroIn K C (.type "object")=some true):TyOf K H (.ref a) (.ref C)
theorem b3M {x:V} {u t:Value} (I:Inv X pins σ H s) (rx:RelV x u) (ty:TyOf X.K H x t) (e:PySem.W.kitOne X.K t c=some b) (h:∀ tk,Q (.bool b) { s with toks:=tk }) :
  wpAny (model X.prog X.w) A (call (.builtin "isinstance") [u,c]) Q E s:=by
 cases ty with
 | non=>cases (show u=Value.none from rx); exact PySem.W.kia_one PySem.W.kitx_none I.kIn True.intro e (λ z=>nomatch z) h
 | bl y=>cases (show u=Value.bool y from rx); exact PySem.W.kia_one PySem.W.kitx_bool I.kIn True.intro e (λ z=>nomatch z) h
 | int i=>obtain ⟨t,q⟩:=(show ∃ t,u=Value.int i t from rx); cases q; exact PySem.W.kia_one PySem.W.kitx_int I.kIn True.intro e (λ z=>nomatch z) h
 | str y=>obtain ⟨t,q⟩:=(show ∃ t,u=Value.str y t from rx); cases q; exact PySem.W.kia_one PySem.W.kitx_str I.kIn True.intro e (λ z=>nomatch z) h
 | flt y=>obtain ⟨t,q⟩:=(show ∃ t,u=Value.float y t from rx); cases q; exact PySem.W.kia_one PySem.W.kitx_float I.kIn True.intro e (λ z=>nomatch z) h
 | @lst a xs ea =>
  cases (show u=Value.ref a from rx)
  obtain ⟨_,_,n,_,h1⟩:=(show ObjOk X.prog X.w H s.heap a (.lst xs) from I.hok a _ ea)
  exact PySem.W.kia_one PySem.W.kitx_list I.kIn ⟨_,h1,rfl⟩ e (λ z=>nomatch z) h
 | @frz a ob xs ea =>
  cases (show u=Value.ref a from rx)
  obtain ⟨_,_,_,n,_,h1⟩:=(show ObjOk X.prog X.w H s.heap a (.frz ob (.lst xs)) from I.hok a _ ea)
  exact PySem.W.kia_one PySem.W.kitx_list I.kIn ⟨_,h1,rfl⟩ e (λ z=>nomatch z) h
 | @tup a xs ea =>
  cases (show u=Value.ref a from rx)
  obtain ⟨_,_,_,p⟩:=(show ObjOk X.prog X.w H s.heap a (.tup xs) from I.hok a _ ea)
  obtain ⟨o,h1,h2,_⟩:=p
  exact PySem.W.kia_one PySem.W.kitx_tuple I.kIn ⟨o,h1,h2⟩ e (λ z=>nomatch z) h
 | @dK a kvs ea =>
  cases (show u=Value.ref a from rx)
  obtain ⟨_,_,vs,_,p⟩:=(show ObjOk X.prog X.w H s.heap a (.dK kvs) from I.hok a _ ea)
  obtain ⟨o,es,ep,h1,h2,_⟩:=p
  exact PySem.W.kia_one PySem.W.kitx_dict I.kIn ⟨o,h1,h2.1⟩ e (λ z=>nomatch z) h
 | @dT a kvs ea =>
  cases (show u=Value.ref a from rx)
  obtain ⟨_,_,xs,_,o,es,ep,h1,h2,_⟩:=(show ObjOk X.prog X.w H s.heap a (.dT kvs) from I.hok a _ ea)
  exact PySem.W.kia_one PySem.W.kitx_dict I.kIn ⟨o,h1,h2.1⟩ e (λ z=>nomatch z) h
 | @ins a C dx fs ea cl ha hn htk hm =>
  cases (show u=Value.ref a from rx)
  obtain ⟨mA,O,_⟩:=b8M I.hok ea
  obtain ⟨od,J,_⟩:=O.look
  exact PySem.W.kia_one (PySem.W.kitx_own (cl.get _) cl.hd ha hn htk hm) I.kIn J e (λ z=>nomatch z) h
end
end L2
namespace L2
open PySem PySem.Spec PyProof.Rows
structure Room (k:Nat) (A:Around):Prop where
 hd:A.handled=none
 dp:A.depth+3*k+5 < recursionLimit
 un:A.units+16*k+200 < cLine
theorem Room.mono {j k:Nat} {A:Around} (r:Room k A) (h:j<=k):Room j A:=⟨r.hd,by have:=r.dp; omega,by have:=r.un; omega⟩
theorem Room.deeper {k:Nat} {A:Around} (r:Room (k+1) A) (env:Env):Room k (A.deeper env) :=
 ⟨r.hd,by have:=r.dp; show A.depth+1+3*k+5 < _; omega,by have:=r.un; show A.units+3+16*k+200 < _; omega⟩
theorem Room.depth {k:Nat} {A:Around} (r:Room k A):A.depth < recursionLimit:=by have:=r.dp; omega
def tNil:TA:=λ _ H Q=>Q [] H
def b3N (ta:TE) (tr:TA):TA:=λ σ H Q=>ta σ H λ x H1=>tr σ H1 λ xs H2=>Q (x::xs) H2
section
variable {X:Cx} {e:Expr} {es:List Expr} {te:TE} {t:TA} {pos:Pos}
theorem a0B:PA X [] tNil:=λ _ _ _ _ H Q I h=>Calls.spliced_nil ⟨[],H,I,.nil,h⟩
theorem a0A (ha:PE X e te) (hr:PA X es t) (hs:starEach (e::es) X.env=(false,eval e X.env)::starEach es X.env:=by rfl):PA X (e::es) (b3N te t):=by
 intro pos pins s σ H Q I h
 rw [hs]
 show wpAny _ _ (spliced ((false,eval e X.env)::backTo pos (starEach es X.env))) _ _ s
 refine Calls.spliced_cons (thn (ha pins s σ H _ I h) λ u s1 ⟨x,H1,I1,r1,q1⟩=>?_)
 exact thn (hr pos pins s1 σ H1 _ I1 q1) λ us s2 ⟨xs,H2,I2,r2,q2⟩=>⟨x::xs,H2,I2,.cons r1 r2,q2⟩
end
abbrev Sp:=List V->Hp->VK->XK->Prop
abbrev CXT:=List Env->Hp->Shared->XK->Value->Shared->Prop
structure Env0 (P:Program) (w:World) (K:Φρ) (mg:Str->Option Value) (base:Heap) (A:Around) (outer:List Env) (s:Shared) (H:Hp):Prop where
 frames:A.frames=some outer
 mod:Mod K mg base
 bs:∀ b o,base.get? b=some o->s.heap.get? b=some o/\H b=none
 bsz:base.objs.size<=s.heap.objs.size
 funs:s.heap.FunFrames base outer
 frf:∀ b∈frs outer,H b=none
 hok:HOk P w H s.heap
 bare:AllBare s.gens
def CE (outer:List Env) (P:Program) (w:World) (H:Hp) (s:Shared) (Q:VK) (u:Value) (s':Shared):Prop :=
 ∃ v H',s'.os=s.os/\AllBare s'.gens/\Un (frs outer) [] H H' s.heap s'.heap/\HOk P w H' s'.heap/\RelV v u/\Q v H'
def CR (CX:CXT) (outer:List Env) (P:Program) (w:World) (H:Hp) (s:Shared) (Q:VK) (E:XK) (r:Result) (s':Shared):Prop :=
 match r with
 | .ok (.ret u)=>CE outer P w H s Q u s'
 | .ok _=>False
 | .error e=>CX outer H s E e s'
structure FnOk (P:Program) (w:World) (K:Φρ) (mg:Str->Option Value) (base:Heap) (CX:CXT) (k:Nat) (f:Addr) (fd:FuncData) (ps:List Str) (sp:Sp):Prop where
 len:∀ vs H Q E,sp vs H Q E->vs.length=ps.length
 run:∀ (A:Around) (outer:List Env) (s:Shared) (H:Hp) (args:Args) (us:List Value) (vs:List V) (Q:VK) (E:XK),Room k A->Env0 P w K mg base A outer s H->BindsTo s fd args (ps.zip us)->Vals vs us->sp vs H Q E ->
  codeAny (model P w) A (.call (.ref f) args) (CR CX outer P w H s Q E) s
theorem FnOk.mono {P:Program} {w:World} {K:Φρ} {mg:Str->Option Value} {base:Heap} {CX:CXT} {j k:Nat} {f:Addr} {fd:FuncData} {ps:List Str} {sp:Sp} (F:FnOk P w K mg base CX j f fd ps sp) (h:j<=k) :
  FnOk P w K mg base CX k f fd ps sp:=⟨F.len,λ A outer s H args us vs Q E hr=>F.run A outer s H args us vs Q E (hr.mono h)⟩
section
variable {X:Cx} {pins:List (Addr × Obj)} {σ:St} {H:Hp} {s s':Shared}
theorem Inv.env0 (I:Inv X pins σ H s):Env0 X.prog X.w X.K X.mg X.base X.A X.stack s H :=
 ⟨I.ok.frames,I.ok.mod,I.bs,Nat.le_trans I.ok.bsz I.sz,I.stack,I.stkFree,I.hok,I.bare⟩
theorem Inv.after {Q:VK} {u:Value} (I:Inv X pins σ H s) (h:CE X.stack X.prog X.w H s Q u s'):EP X pins σ Q u s':=by
 obtain ⟨v,H',os,bare,un,hok,r,q⟩:=h
 obtain ⟨hh,g,d,t,os'⟩:=s'
 obtain rfl:os'=s.os:=os
 exact ⟨v,H',I.call (h':=hh) (g':=g) (d':=d) (t':=t) (ch:=[]) un hok bare (λ b z=>absurd z (by simp)),r,q⟩
end
def c2V (sp:Sp) (dvs:List V) (E:XK) (t:TA):TE:=λ σ H Q=>t σ H λ vs H1=>sp (vs++dvs) H1 Q E
def Binds (K:Φρ) (fd:FuncData) (ps:List Str) (ds:List Value):Prop :=
 ∀ (s:Shared) (us:List Value),K.In s.heap->(us++ds).length=ps.length->BindsTo s fd ⟨us,[]⟩ (ps.zip (us++ds))
theorem Binds.all {K:Φρ} {fd:FuncData} {ps:List Str} (h:∀ us:List Value,us.length=ps.length->bindArgs fd ⟨us,[]⟩=pure (ps.zip us)):Binds K fd ps []:=λ s us _ hl=>by
 rw [List.append_nil] at hl ⊢
 exact .of_eq (h us hl)
def b3O (CX:CXT) (X:Cx) (E:XK):Prop:=∀ (pins:List (Addr × Obj)) (σ:St) (H:Hp) (s:Shared) (e:Value) (s':Shared),Inv X pins σ H s->CX X.stack H s E e s'->X.xe e s'
section
variable {X:Cx} {CX:CXT} {k:Nat} {f C:Addr} {fd:FuncData} {ps:List Str} {sp:Sp} {dvs:List V} {ds:List Value} {E:XK} {x m:Str} {p pos apos:Pos} {e o:Expr} {es:List Expr} {ta:TE} {t:TA}
theorem c1C {pins:List (Addr × Obj)} {σ:St} {H:Hp} {s:Shared} {Q:VK} {us:List Value} {vs:List V} (F:FnOk X.prog X.w X.K X.mg X.base CX k f fd ps sp) (hr:Room k X.A) (hb:Binds X.K fd ps ds) (hd:Vals dvs ds) (hx:b3O CX X E)
  (I:Inv X pins σ H s) (r:Vals vs us) (h:sp (vs++dvs) H Q E):wpAny (model X.prog X.w) X.A (call (.ref f) us) (EP X pins σ Q) X.xe s:=by
 have r2:Vals (vs++dvs) (us++ds):=r.append hd
 have hl:(us++ds).length=ps.length:=by rw [<- r2.length]; exact F.len _ _ _ _ h
 refine wpAny_call (codeAny_mono (F.run X.A X.stack s H ⟨us,[]⟩ (us++ds) (vs++dvs) Q E hr I.env0 (hb s us I.kIn hl) r2 h) λ r s' hq=>?_)
 cases r with
 | error e=>exact hx pins σ H s e s' I hq
 | ok fl =>
  cases fl with
  | ret u=>exact I.after hq
  | next=>exact False.elim hq
  | brk=>exact False.elim hq
  | cont=>exact False.elim hq
theorem a0J (F:FnOk X.prog X.w X.K X.mg X.base CX k f fd ps sp) (hr:Room k X.A) (hg:Gl X x) (hm:X.mg x=some (.ref f)) (hk:PySem.W.keepIn X.K (.ref f)=true) (hb:Binds X.K fd ps ds) (hd:Vals dvs ds) (hx:b3O CX X E)
  (ha:PA X (e::es) t) (hdb:(x == ("__debug__" : Str))=false:=by decide) (he:starEach (e::es) X.env=(false,eval e X.env)::starEach es X.env:=by rfl) (hpl:(backTo pos (starEach es X.env)).any (·.1)=false:=by rfl) :
  PE X (.Call (.Name x p) (e::es) [] pos) (c2V sp dvs E t):=by
 intro pins s σ H Q I h
 refine wpAny_Call_Name_kw (a5O I hg hm ?_ hdb)
 refine PySem.W.callWith_K (h₀:=X.base) I.ok.mod.kin hk (thn (ha pos pins s σ H _ I h) λ us s1 ⟨vs,H1,I1,r,q⟩=>⟨I1.kIn,?_⟩) he hpl
 exact c1C F hr hb hd hx I1 r q
end
def PK (X:Cx) (kws:List Keyword) (t:TA):Prop :=
 ∀ (pos:Pos) (pins:List (Addr × Obj)) (s:Shared) (σ:St) (H:Hp) (Q:List V->Hp->Prop),Inv X pins σ H s->t σ H Q->wpAny (model X.prog X.w) X.A (evalAll ((backToKw pos (keywordEach kws X.env)).map (·.2))) (AP X pins σ Q) X.xe s
section
variable {X:Cx} {CX:CXT} {k:Nat} {f C:Addr} {fd:FuncData} {ps ks:List Str} {sp:Sp} {E:XK} {x m:Str} {p pos apos kpos:Pos} {e o:Expr} {es:List Expr} {kws:List Keyword} {te ta:TE} {t tk:TA} {nm:Option Str}
theorem c1D:PK X [] tNil:=λ _ _ _ _ H Q I h=>wpAny_evalAll_nil ⟨[],H,I,.nil,h⟩
theorem b8N (ha:PE X e te) (hr:PK X kws t):PK X (⟨nm,e,kpos⟩::kws) (b3N te t):=by
 intro pos pins s σ H Q I h
 show wpAny _ _ (evalAll ((do let v <- eval e X.env; standAt pos; pure v)::(backToKw pos (keywordEach kws X.env)).map (·.2))) _ _ s
 refine wpAny_evalAll_cons (wpAny_bind (thn (ha pins s σ H _ I h) λ u s1 ⟨x,H1,I1,r1,q1⟩=>wpAny_bind (wpAny_standAt (wpAny_pure ?_))))
 exact thn (hr pos pins s1 σ H1 _ I1 q1) λ us s2 ⟨xs,H2,I2,r2,q2⟩=>⟨x::xs,H2,I2,.cons r1 r2,q2⟩
variable {g:List Value->List Value->List Value} {gV:List V->List V->List V}
end
structure FnScope (N P:List Str) (sc:Scope):Prop where
 kind:sc.kind = .function
 co:sc.isCoroutine=false
 gen:sc.isGenerator=false
 nd:N.Nodup
 pre:N.take P.length=P
 par:∀ x∈P,sc.names.lookup x=some .local\/sc.names.lookup x=some .cell
 nofree:∀ y∈sc.names,y.2 ≠ .free
theorem a8S {kindOf:Str->Option NameKind} {x:Str}:∀ {binds:List (Str × Value)} {m:Str->Option Value},(∀ v,(x,v) ∉ binds)->bindL kindOf binds m x=m x
 | [],_,_=>rfl
 | (n,v)::r,m,h=>by
  unfold bindL
  rw [a8S λ w hw=>h w (List.mem_cons_of_mem _ hw)]
  split
  ·have:x≠n:=by rintro rfl; exact h v List.mem_cons_self
   simp [this]
  ·rfl
theorem a8T {kindOf:Str->Option NameKind} {x:Str}:∀ {binds:List (Str × Value)} {m:Str->Option Value},(∀ v,(x,v) ∉ binds)->bindC kindOf binds m x=m x
 | [],_,_=>rfl
 | (n,v)::r,m,h=>by
  unfold bindC
  rw [a8T λ w hw=>h w (List.mem_cons_of_mem _ hw)]
  split
  ·rfl
  ·have:x≠n:=by rintro rfl; exact h v List.mem_cons_self
   simp [this]
theorem a8U {kindOf:Str->Option NameKind} {x:Str} {v:Value}:∀ {P:List Str} {vs:List Value} {i:Nat} {m:Str->Option Value},P.Nodup->P[i]?=some x->vs[i]?=some v->kindOf x=some .local ->
  bindL kindOf (P.zip vs) m x=some v
 | [],_,_,_,_,h,_,_=>by simp at h
 | _::_,[],_,_,_,_,h,_=>by simp at h
 | p::P,w::vs,0,m,nd,h1,h2,hk=>by
  simp at h1 h2; subst h1; subst h2
  show bindL kindOf ((p,w)::P.zip vs) m p=_
  unfold bindL
  rw [a8S λ v hv=>(List.nodup_cons.mp nd).1 (List.of_mem_zip hv).1,if_pos hk]
  simp
 | p::P,w::vs,i+1,m,nd,h1,h2,hk=>by
  show bindL kindOf ((p,w)::P.zip vs) m x=_
  unfold bindL
  exact a8U (i:=i) (List.nodup_cons.mp nd).2 (by simpa using h1) (by simpa using h2) hk
theorem a8V {kindOf:Str->Option NameKind} {x:Str} {v:Value}:∀ {P:List Str} {vs:List Value} {i:Nat} {m:Str->Option Value},P.Nodup->P[i]?=some x->vs[i]?=some v->kindOf x≠some .local ->
  bindC kindOf (P.zip vs) m x=some v
 | [],_,_,_,_,h,_,_=>by simp at h
 | _::_,[],_,_,_,_,h,_=>by simp at h
 | p::P,w::vs,0,m,nd,h1,h2,hk=>by
  simp at h1 h2; subst h1; subst h2
  show bindC kindOf ((p,w)::P.zip vs) m p=_
  unfold bindC
  rw [a8T λ v hv=>(List.nodup_cons.mp nd).1 (List.of_mem_zip hv).1,if_neg hk]
  simp
 | p::P,w::vs,i+1,m,nd,h1,h2,hk=>by
  show bindC kindOf ((p,w)::P.zip vs) m x=_
  unfold bindC
  exact a8V (i:=i) (List.nodup_cons.mp nd).2 (by simpa using h1) (by simpa using h2) hk
def a7O (N:List Str) (vs:List V):St:=vs.map some++List.replicate (N.length - vs.length) none
def cxOf (CX:CXT) (P:Program) (w:World) (K:Φρ) (mg:Str->Option Value) (base:Heap) (N:List Str) (qual:Str) (scope:Scope) (f:Addr) (cd:Value) (A:Around) (outer:List Env) (s:Shared) (H:Hp) (E:XK):Cx where
 prog:=P
 w:=w
 K:=K
 mg:=mg
 base:=base
 A:=A.deeper (envOfC qual scope s.heap.objs.size f cd)
 N:=N
 s₀:=s
 H₀:=H
 env:=envOfC qual scope s.heap.objs.size f cd
 outer:=outer
 stack:=envOfC qual scope s.heap.objs.size f cd::outer
 ex:=[]
 calm:=true
 fn:=λ _=>true
 pn:=[]
 xe:=λ e s'=>wpAny (model P w) (A.deeper (envOfC qual scope s.heap.objs.size f cd)) (leaving (envOfC qual scope s.heap.objs.size f cd) e) (λ _ s''=>CX outer H s E e s'') (λ e' s''=>CX outer H s E e' s'') s'
theorem b1O {sc:Scope} {n:Nat} {x:Str} (h:sc.names.lookup x=some .cell):∃ c,(cellsFrom n sc.names []).lookup x=some c:=by
 have q:=PySem.W.cellsFrom_some sc.names n [] (.inl h)
 exact Option.isSome_iff_exists.mp q
theorem b3P {CX:CXT} {P:Program} {w:World} {K:Φρ} {mg:Str->Option Value} {base:Heap} {N ps:List Str} {qual:Str} {scope:Scope} {f:Addr} {cd:Value} {A:Around} {outer:List Env} {s s1:Shared} {H:Hp} {E:XK} {us:List Value} {vs:List V}
  (S:FnScope N ps scope) (hd:A.handled=none) (e0:Env0 P w K mg base A outer s H) (hl:vs.length=ps.length) (r:Vals vs us)
  (x:InCallC s s.heap.objs.size (bindL (envOfC qual scope s.heap.objs.size f cd).kindOf (ps.zip us) λ _=>none) (cellsFrom (s.heap.objs.size+1) scope.names []) (bindC (envOfC qual scope s.heap.objs.size f cd).kindOf (ps.zip us) λ _=>none) s1) :
  Inv (cxOf CX P w K mg base N qual scope f cd A outer s H E) [] (a7O N vs) H s1:=by
 have hpl:ps.length<=N.length:=by have:=congrArg List.length S.pre; rw [List.length_take] at this; omega
 obtain ⟨h1,tk,rfl,hk⟩:=x.done
 have noA:∀ b:Addr,b ∉ (cxOf CX P w K mg base N qual scope f cd A outer s H E).ex:=λ b z=>absurd (show b∈([]:List Addr) from z) (by simp)
 refine ⟨⟨e0.mod,S.kind,rfl,rfl,Nat.le_refl _,λ y z c h1 h2=>?_,λ y hy=>?_,λ y c _ h=>?_,λ _=>hd,Around.frames_deeper e0.frames,.inr ⟨rfl,rfl⟩,λ b z=>absurd z (noA b),e0.bs,e0.bsz,λ b _ _=>noA b,λ b z=>absurd z (noA b),e0.funs,e0.frf⟩,
  rfl,e0.bare,Un.kept hk,⟨_,x.toInCall.ns,λ i y v h1 h2 h3=>?_⟩,λ y c h=>⟨_,x.cell y c h⟩,e0.hok.fresh (Nat.le_refl _),λ y c h=>?_,λ p hp=>absurd (show p∈([]:List (Addr × Obj)) from hp) (by simp),e0.hok.kept hk,?_⟩
 ·exact name_of_addr x.apart (PySem.mem_of_lookup h1) (PySem.mem_of_lookup h2)
 ·have hy:scope.names.lookup y=some .cell\/scope.names.lookup y=some .free:=hy
  rcases hy with hy | hy
  ·exact b1O hy
  ·exact absurd rfl (S.nofree _ (PySem.mem_of_lookup hy))
 ·exact Nat.le_of_lt (x.above y c (PySem.mem_of_lookup h))
 ·have hi:i < vs.length:=by
   unfold a7O at h2
   by_cases hi:i < vs.length
   ·exact hi
   ·rw [List.getElem?_append_right (by simpa using hi)] at h2
    rw [List.getElem?_replicate] at h2
    split at h2 <;> cases h2
  have ha:vs[i]?=some v:=by
   unfold a7O at h2
   rw [List.getElem?_append_left (by simpa using hi),List.getElem?_map] at h2
   cases e:vs[i]? with
   | none=>rw [e] at h2; cases h2
   | some a=>rw [e] at h2; cases h2; rfl
  obtain ⟨u,hu,rv⟩:=r.get ha
  have hp:ps[i]?=some y:=by
   rw [<- S.pre,List.getElem?_take_of_lt (by omega)]; exact h1
  have ndP:ps.Nodup:=by rw [<- S.pre]; exact S.nd.sublist (List.take_sublist _ _)
  refine ⟨u,rv,?_⟩
  rcases S.par y (List.mem_of_getElem? hp) with k | k
  ·exact .inl ⟨k,a8U ndP hp hu k⟩
  ·obtain ⟨c,e⟩:=b1O (n:=s.heap.objs.size+1) k
   refine .inr ⟨.inl k,c,e,?_⟩
   have q:=x.cell y c e
   rw [a8V ndP hp hu (by show scope.names.lookup y≠_; rw [k]; decide)] at q
   exact q
 ·exact e0.hok.fresh (Nat.le_of_lt (x.above y c (PySem.mem_of_lookup h)))
 ·unfold a7O
  show _=N.length
  rw [List.length_append,List.length_map,List.length_replicate]
  omega
theorem c1E {CX:CXT} {P:Program} {w:World} {K:Φρ} {mg:Str->Option Value} {base:Heap} {k:Nat} {f:Addr} {name qual:Str} {params:Arguments} {body:List Stmt} {scope:Scope} {dV kV doc pm cdv ct oc:Value} {an od:Option Addr}
  {osl:Array (Option Value)} {N ps:List Str} {sp:Sp} (lk:K.lookup f=some ⟨oc,od,.func (PySem.W.fnOf name qual params body scope dV kV doc pm an cdv ct),osl⟩) (hcd:PySem.W.codeIn K cdv qual=true) (S:FnScope N ps scope)
  (len:∀ vs H Q E,sp vs H Q E->vs.length=ps.length)
  (hbody:∀ (A:Around) (outer:List Env) (s:Shared) (H:Hp) (vs:List V) (Q:VK) (E:XK),Room k (A.deeper (envOfC qual scope s.heap.objs.size f cdv))->sp vs H Q E ->
   ∃ t,PSs (cxOf CX P w K mg base N qual scope f cdv A outer s H E) body t/\t { nx:=λ _ H'=>Q .non H',rt:=Q } (a7O N vs) H) :
  FnOk P w K mg base CX (k+1) f (PySem.W.fnOf name qual params body scope dV kV doc pm an cdv ct) ps sp:=by
 refine ⟨len,λ A outer s H args us vs Q E hr e0 hb r hsp=>?_⟩
 have hl:=len _ _ _ _ hsp
 have KX:K.In s.heap:=e0.mod.kin.keeps λ b o e=>(e0.bs b o e).1
 have lim:s.heap.NoLimit:=e0.mod.nolimit.keeps λ b o e=>(e0.bs b o e).1
 have hkind:∀ y∈ps.zip us,scope.names.lookup y.1=some .local\/(scope.names.lookup y.1=some .cell/\((cellsFrom (s.heap.objs.size+1) scope.names []).lookup y.1).isSome=true):=λ ⟨n,v⟩ hy=>by
  rcases S.par n (List.of_mem_zip hy).1 with q | q
  ·exact .inl q
  ·exact .inr ⟨q,PySem.W.cellsFrom_some _ _ _ (.inl q)⟩
 refine codeAny_call_function hr.depth (KX _ _ lk) rfl S.co S.gen rfl (PySem.W.codeRec_of KX hcd) (hb _ _ _ _ ?_)
 refine wpAny_newFunctionEnv_cells S.kind hkind λ env he s1 x=>?_
 subst he
 refine ⟨lim.keeps x.toInCall.keep,codeAny_func ?_⟩
 obtain ⟨t,ht,hq⟩:=hbody A outer s H vs Q E (hr.deeper _) hsp
 have I:Inv (cxOf CX P w K mg base N qual scope f cdv A outer s H E) [] (a7O N vs) H s1:=b3P S hr.hd e0 hl r x
 refine wpAny_mono (ht [] s1 (a7O N vs) H _ I hq) (λ fl s' hs=>?_) λ e s' hs=>hs
 have fin:∀ {σ':St} {H':Hp} {v:V} {u:Value},Inv (cxOf CX P w K mg base N qual scope f cdv A outer s H E) [] σ' H' s'->RelV v u->Q v H'->CE outer P w H s Q u s' :=
  λ {σ' H' v u} J rv q=>⟨v,H',J.os,J.bare,J.base,J.hok,rv,q⟩
 cases fl with
 | ret u =>
  obtain ⟨v,σ',H',J,rv,q⟩:=hs
  exact fin J rv q
 | next =>
  obtain ⟨σ',H',J,q⟩:=hs
  exact fin (v:=V.non) (u:=Value.none) J rfl q
 | brk =>
  obtain ⟨_,_,_,q⟩:=hs
  exact False.elim q
 | cont =>
  obtain ⟨_,_,_,q⟩:=hs
  exact False.elim q
end L2
namespace L2
open PySem PySem.Spec PyProof.Rows
section
variable {X:Cx} {x:Str} {p pos:Pos} {e:Expr} {es:List Expr} {t:TA} {id T:String} {r:List V->Hp->VK->Prop}
def tCB (r:List V->Hp->VK->Prop) (t:TA):TE:=λ σ H Q=>t σ H λ vs H1=>r vs H1 Q
theorem a0I (hc:CallR X (.builtin id) r) (hg:Gl X x) (hm:X.mg x=none) (hv:bootBuiltins x=some (.builtin id)) (ha:PA X (e::es) t) (hn:x ≠ "__name__" := by decide) (hdb:(x == ("__debug__" : Str))=false:=by decide)
  (he:starEach (e::es) X.env=(false,eval e X.env)::starEach es X.env:=by rfl) (hpl:(backTo pos (starEach es X.env)).any (·.1)=false:=by rfl):PE X (.Call (.Name x p) (e::es) [] pos) (tCB r t):=by
 intro pins s σ H Q I h
 refine wpAny_Call_Name_kw (a5A I hg hm hv ?_ hn hdb)
 exact PyProof.Rows.callWith_builtin1 (thn (ha pos pins s σ H _ I h) λ us s1 ⟨vs,H1,I1,r1,q1⟩=>hc pins s1 σ H1 vs us Q I1 r1 q1) he hpl
theorem a3D (hc:CallR X (.type T) r) (hg:Gl X x) (hm:X.mg x=none) (hv:bootBuiltins x=some (.type T)) (ha:PA X (e::es) t) (hn:x ≠ "__name__" := by decide) (hdb:(x == ("__debug__" : Str))=false:=by decide)
  (he:starEach (e::es) X.env=(false,eval e X.env)::starEach es X.env:=by rfl) (hpl:(backTo pos (starEach es X.env)).any (·.1)=false:=by rfl):PE X (.Call (.Name x p) (e::es) [] pos) (tCB r t):=by
 intro pins s σ H Q I h
 refine wpAny_Call_Name_kw (a5A I hg hm hv ?_ hn hdb)
 exact PyProof.Rows.callWith_type1 (thn (ha pos pins s σ H _ I h) λ us s1 ⟨vs,H1,I1,r1,q1⟩=>hc pins s1 σ H1 vs us Q I1 r1 q1) he hpl
end
end L2
namespace HT
open PySem PyProof.Rows
section
open PySem.SeqAt
open PySem.AutoSeq1 (wpAny_loadPart')
open PySem.MeetsSeq PySem.MeetsSeq2 PySem.MeetsSeq3
end
section
variable {prog:Program} {w:World} {A:Around} {E:Value->Shared->Prop} {s:Shared}
def sIx (n d:Nat):Option Int->Nat
 | none=>d
 | some v=>if v < 0 then (v+(n:Int)).toNat else min v.toNat n
theorem sIx_nat (n d k:Nat):sIx n d (some (k:Int))=min k n:=by
 show (if (k:Int) < 0 then ((k:Int)+(n:Int)).toNat else min (k:Int).toNat n)=min k n
 rw [if_neg (by omega),Int.toNat_natCast]
end
end HT
namespace L2
open PySem PySem.Spec PyProof.Rows
abbrev TO:=St->Hp->(Option Int->Hp->Prop)->Prop
def PO (X:Cx) (e:Option Expr) (t:TO):Prop :=
 ∀ (pins:List (Addr × Obj)) (s:Shared) (σ:St) (H:Hp) (Q:Option Int->Hp->Prop),Inv X pins σ H s->t σ H Q ->
  wpAny (model X.prog X.w) X.A (evalPart e X.env) (λ u s'=>∃ o H',Inv X pins σ H' s'/\IsPart u o/\Q o H') X.xe s
def b8O:TO:=λ _ H Q=>Q none H
def c2W (t:TE):TO:=λ σ H Q=>t σ H λ x H1=>∃ i,x = .int i/\Q (some i) H1
section
variable {X:Cx} {e:Expr} {te:TE} {lo hi:Option Expr} {tl th:TO} {pos p2:Pos}
theorem a7P:PO X none b8O:=by
 intro pins s σ H Q I h
 rw [evalPart_none]
 exact wpAny_pure ⟨none,H,I,.none,h⟩
theorem a3Q (h:PE X e te):PO X (some e) (c2W te):=by
 intro pins s σ H Q I hw
 rw [evalPart_some]
 refine thn (h pins s σ H _ I hw) λ u s1 ⟨x,H1,I1,r1,q1⟩=>?_
 obtain ⟨i,rfl,q⟩:=q1
 obtain ⟨t,rfl⟩:=r1
 exact ⟨some i,H1,I1,.int i t,q⟩
def SlR (X:Cx) (r:V->Option Int->Option Int->Hp->VK->Prop):Prop :=
 ∀ (pins:List (Addr × Obj)) (s:Shared) (σ:St) (H:Hp) (x:V) (v vl vu:Value) (lo hi:Option Int) (sl:Addr) (Q:VK),Inv X pins σ H s->RelV x v->s.heap.IsSliceOf sl vl vu .none->IsPart vl lo->IsPart vu hi->r x lo hi H Q ->
  ∃ T id,typeLookup (.type T) "__getitem__" = pure (some (.builtin id))/\s.TypeIs v T/\wpAny (model X.prog X.w) X.A (getItem v (.ref sl)) (EP X pins σ Q) X.xe s
def tSl (r:V->Option Int->Option Int->Hp->VK->Prop) (te:TE) (tl th:TO):TE:=λ σ H Q=>te σ H λ x H1=>tl σ H1 λ l H2=>th σ H2 λ u H3=>r x l u H3 Q
theorem a3Y {r:V->Option Int->Option Int->Hp->VK->Prop} (hr:SlR X r) (he:PE X e te) (hl:PO X lo tl) (hu:PO X hi th):PE X (.Subscript e (.Slice lo hi none p2) pos) (tSl r te tl th):=by
 intro pins s σ H Q I h
 refine Subscript_ (thn (he pins s σ H _ I h) λ v s1 ⟨x,H1,I1,r1,q1⟩=>?_)
 refine wpAny_Slice (thn (hl pins s1 σ H1 _ I1 q1) λ vl s2 ⟨l,H2,I2,pl,q2⟩=>thn (hu pins s2 σ H2 _ I2 q2) λ vu s3 ⟨u,H3,I3,pu,q3⟩=>?_)
 rw [evalPart_none]
 refine wpAny_pure ?_
 have I4:Inv X pins σ H3 { s3 with heap:=s3.heap.push { cls:=.type "slice", data:=.fields #[vl,vu,.none] } }:=I3.kept (t':=s3.toks) λ b ob q=>Heap.get?_push_of_some _ q
 obtain ⟨T,id,hT,ht,hg⟩:=hr pins { s3 with heap:=s3.heap.push { cls:=.type "slice", data:=.fields #[vl,vu,.none] } } σ H3 x v vl vu l u s3.heap.objs.size Q I4 r1 (Heap.IsSliceOf.new ..) pl pu q3
 show wpAny (model X.prog X.w) X.A (subscriptTail e (.Slice lo hi none p2) v (.ref s3.heap.objs.size)) (EP X pins σ Q) X.xe { s3 with heap:=s3.heap.push { cls:=.type "slice", data:=.fields #[vl,vu,.none] } }
 exact tail_any (ops:=[.ref s3.heap.objs.size,v]) ht hT hg (by with_unfolding_all rfl)
def cutV (xs:List V) (lo hi:Option Int):List V:=(xs.drop (HT.sIx xs.length 0 lo)).take (HT.sIx xs.length xs.length hi - HT.sIx xs.length 0 lo)
theorem b0L (xs:List V) (lo hi:Option Int):(cutV xs lo hi).length<=xs.length:=by
 unfold cutV
 rw [List.length_take,List.length_drop]
 omega
end
end L2
namespace L2
open PySem PySem.Spec PyProof.Rows
def ixN (n:Nat) (i:Int):Option Nat:=if 0<=i then (if i < n then some i.toNat else none) else if -(n:Int)<=i then some (i+n).toNat else none
def atI {α:Type} (xs:List α) (i:Int):Option α:=(ixN xs.length i).bind λ j=>xs[j]?
theorem b3Q {n:Nat} {i:Int} {j:Nat} (h:ixN n i=some j):seqIndex? i n=some j/\j < n /\ -(n:Int)<=i/\i < n:=by
 unfold ixN at h
 by_cases h0:0<=i
 ·rw [if_pos h0] at h
  by_cases h1:i < n
  ·rw [if_pos h1] at h
   have e:i.toNat=j:=Option.some.inj h
   exact ⟨by rw [seqIndex_of h0 h1,e],by omega,by omega,h1⟩
  ·rw [if_neg h1] at h; cases h
 ·rw [if_neg h0] at h
  by_cases h1 : -(n:Int)<=i
  ·rw [if_pos h1] at h
   have e:(i+n).toNat=j:=Option.some.inj h
   exact ⟨by rw [seqIndex_neg (by omega) h1,e],by omega,h1,by omega⟩
  ·rw [if_neg h1] at h; cases h
theorem b3R {α:Type} {xs:List α} {i:Int} {v:α} (h:atI xs i=some v):∃ j,seqIndex? i xs.length=some j/\xs[j]?=some v/\j < xs.length /\ -(xs.length:Int)<=i/\i < xs.length:=by
 unfold atI at h
 cases e:ixN xs.length i with
 | none=>rw [e] at h; cases h
 | some j =>
  rw [e] at h
  obtain ⟨h1,h2,h3,h4⟩:=b3Q e
  exact ⟨j,h1,h,h2,h3,h4⟩
theorem a1W {α:Type} {xs:List α} {j:Nat} {v:α} (h:xs[j]?=some v):atI xs (j:Int)=some v:=by
 have hj:j < xs.length:=(List.getElem?_eq_some_iff.mp h).1
 have e:ixN xs.length (j:Int)=some j:=by
  unfold ixN
  rw [if_pos (by omega),if_pos (by omega)]; simp
 unfold atI; rw [e]; exact h
def b8P (b:Expr):Prop:=∀ o i,subscripted b false o i=operate [o,i] (getItem o i)
def IxR (X:Cx) (r:R2):Prop :=
 ∀ (value slice:Expr) (pins:List (Addr × Obj)) (s:Shared) (σ:St) (H:Hp) (x y:V) (v u:Value) (Q:VK),Inv X pins σ H s->RelV x v->RelV y u->r x y H Q ->
  subscripted slice false v u=operate [v,u] (getItem v u)->wpAny (model X.prog X.w) X.A (subscriptTail value slice v u) (EP X pins σ Q) X.xe s
def MtR (X:Cx) (id:String) (r:V->List V->Hp->VK->Prop):Prop :=
 ∀ (pins:List (Addr × Obj)) (s:Shared) (σ:St) (H:Hp) (x:V) (xs:List V) (v:Value) (us:List Value) (Q:VK),Inv X pins σ H s->RelV x v->Vals xs us->r x xs H Q ->
  wpAny (model X.prog X.w) X.A (call (.builtin id) (v::us)) (EP X pins σ Q) X.xe s
section
variable {X:Cx} {a b:Expr} {ta tb:TE} {pos:Pos}
theorem a0U {r:R2} (hr:IxR X r) (ha:PE X a ta) (hb:PE X b tb) (hs:b8P b):PE X (.Subscript a b pos) (tOp r ta tb):=by
 intro pins s σ H Q I h
 exact Subscript_ (binT ha hb I h λ v u s2 x y H2 I2 rx ry q=>hr a b pins s2 σ H2 x y v u Q I2 rx ry q (hs _ _))
def rIxL (K:Φρ):R2:=λ x y H Q=>∃ p xs i v,x = .ref p/\y = .int i/\SqL K H p xs/\atI xs i=some v/\Q v H
def rIxT (K:Φρ):R2:=λ x y H Q=>∃ p xs i v,x = .ref p/\y = .int i/\SqT K H p xs/\atI xs i=some v/\Q v H
theorem b8Q:IxR X (rIxL X.K):=by
 intro value slice pins s σ H x y v u Q I rx ry h hs
 obtain ⟨p,xs,i,z,rfl,rfl,hq,he,q⟩:=h
 cases rx
 obtain ⟨t,rfl⟩:=ry
 obtain ⟨its,r,pl,hz⟩:=I.list hq
 obtain ⟨j,h1,h2,h3,h4,h5⟩:=b3R he
 obtain ⟨w,ew,rw'⟩:=r.get h2
 have hl:=r.length
 have hn:=a8R
 have fin:EP X pins σ Q w s:=⟨z,H,I,rw',q⟩
 by_cases h0:0<=i
 ·have hj:i.toNat=j:=by
   rw [seqIndex_of h0 h5] at h1
   exact Option.some.inj h1
  exact item_listR pl.isList h0 (by omega) (by rw [hj]; simpa using ew) fin hs
 ·have hj:(i+(its.toArray.size:Int)).toNat=j:=by
   rw [seqIndex_neg (by omega) h4] at h1
   rw [List.size_toArray,<- hl]
   exact Option.some.inj h1
  exact subscriptTail_builtinR (x:=w) pl.isList.typeIs slot_list_getitem.lookup
   (wpAny_getItem_list_neg (Q:=λ r s'=>r=w/\EP X pins σ Q r s') pl.isList (by omega) (by rw [List.size_toArray] <;> omega) (by omega) (by rw [hj]; simpa using ew) ⟨rfl,fin⟩) hs
theorem c1F:IxR X (rIxT X.K):=by
 intro value slice pins s σ H x y v u Q I rx ry h hs
 obtain ⟨p,xs,i,z,rfl,rfl,hq,he,q⟩:=h
 cases rx
 obtain ⟨t,rfl⟩:=ry
 obtain ⟨its,r,pl,hz⟩:=I.tuple hq
 obtain ⟨j,h1,h2,h3,h4,h5⟩:=b3R he
 obtain ⟨w,ew,rw'⟩:=r.get h2
 have hl:=r.length
 have hn:=a8R
 have fin:EP X pins σ Q w s:=⟨z,H,I,rw',q⟩
 exact subscriptTail_builtinR (x:=w) pl.typeIs slot_tuple_getitem.lookup
  (getItem_tuple (j:=j) (Q:=λ r s'=>r=w/\EP X pins σ Q r s') pl (by omega) (by omega) (by rw [List.size_toArray,<- hl]; exact h1) (by simpa using ew) ⟨rfl,fin⟩) hs
theorem b2L (its:List Value) (n j:Nat) (u:Value):Obj.mapSeq (·.setIfInBounds j u) { cls:=.type "list", data:=.seq its.toArray n }={ cls:=.type "list", data:=.seq (its.set j u).toArray n }:=by
 simp [Obj.mapSeq]
theorem Inv.lst {pins:List (Addr × Obj)} {σ:St} {H:Hp} {s:Shared} {p:Addr} {xs:List V} (I:Inv X pins σ H s) (h:H p=some (.lst xs)) :
  ∃ (its:List Value) (n:Nat),Vals xs its/\s.heap.get? p=some { cls:=.type "list", data:=.seq its.toArray n }/\xs.length<=sizeLine:=by
 obtain ⟨z,its,n,r,e⟩:=I.hok p _ h
 exact ⟨its,n,r,e,z⟩
theorem Inv.lstUpd {pins:List (Addr × Obj)} {σ:St} {H:Hp} {s:Shared} {p:Addr} {xs ys:List V} {its its':List Value} {n n':Nat} {f:Obj->Obj} (I:Inv X pins σ H s) (h:H p=some (.lst xs))
  (ho:s.heap.get? p=some { cls:=.type "list", data:=.seq its.toArray n }) (hf:f { cls:=.type "list", data:=.seq its.toArray n }={ cls:=.type "list", data:=.seq its'.toArray n' }) (r:Vals ys its') (hz:ys.length<=sizeLine) (t:Nat) :
  Inv X pins σ (upd H p (.lst ys)) { s with heap:=s.heap.update p f,toks:=t }:=by
 have e:(s.heap.update p f).get? p=some { cls:=.type "list", data:=.seq its'.toArray n' }:=by
  rw [Heap.get?_update_self f ho (by rw [hf] <;> rfl),hf]
 refine I.write (x:=p) (e:=p) (by rw [h]; trivial) (.inl rfl) (λ b u hb q=>(Heap.get?_update_other _ _ (Ne.symm hb)).trans q) ⟨_,e⟩ ?_
 exact ⟨hz,its',n',r,e⟩
def c2X:V->V->V->Hp->(Hp->Prop)->Prop:=λ o i v H Q=>∃ p xs k j,o = .ref p/\i = .int k/\H p=some (.lst xs)/\ixN xs.length k=some j/\Q (upd H p (.lst (xs.set j v)))
theorem b6E:PSet X c2X:=by
 intro pins s σ H o i v ov iv u Q I ro ri rv h
 obtain ⟨p,xs,k,j,rfl,rfl,hp,hj,q⟩:=h
 cases ro
 obtain ⟨t,rfl⟩:=ri
 obtain ⟨its,n,r,ho,hz⟩:=I.lst hp
 obtain ⟨h1,h2,h3,h4⟩:=b3Q hj
 have hl:=r.length
 have hn:=a8R
 have I':Inv X pins σ (upd H p (.lst (xs.set j v))) { s with heap:=s.heap.update p (Obj.mapSeq (·.setIfInBounds j u)) } :=
  I.lstUpd hp ho (b2L its n j u) (r.set rv j) (by rw [List.length_set]; exact hz) s.toks
 by_cases h0:0<=k
 ·have hk:k.toNat=j:=by
   rw [seqIndex_of h0 h4] at h1
   exact Option.some.inj h1
  exact PySem.W.ki_setAt ho h0 (by omega) (by rw [List.size_toArray,<- hl]; exact h4) (by rw [hk]; exact ⟨_,I',q⟩)
 ·have hk:(k+(its.toArray.size:Int)).toNat=j:=by
   rw [seqIndex_neg (by omega) h3] at h1
   rw [List.size_toArray,<- hl]
   exact Option.some.inj h1
  exact PySem.W.ki_setBack ho (by omega) (by rw [List.size_toArray,<- hl]; exact h3) (by omega) (by rw [hk]; exact ⟨_,I',q⟩)
theorem a8W (lo hi:Option Int) (n:Nat):(sliceBounds lo hi none n).1=((HT.sIx n 0 lo:Nat):Int)/\(sliceBounds lo hi none n).2.1=((HT.sIx n n hi:Nat):Int)/\(sliceBounds lo hi none n).2.2=1:=by
 refine ⟨?_,?_,rfl⟩
 ·cases lo with
  | none=>simp [sliceBounds,HT.sIx]
  | some i =>
   simp only [sliceBounds,HT.sIx,Option.getD_none,show (1:Int) > 0 by decide,if_true]
   by_cases h:i < 0
   ·simp only [h,if_true] <;> omega
   ·simp only [h,if_false] <;> omega
 ·cases hi with
  | none=>simp [sliceBounds,HT.sIx]
  | some i =>
   simp only [sliceBounds,HT.sIx,Option.getD_none,show (1:Int) > 0 by decide,if_true]
   by_cases h:i < 0
   ·simp only [h,if_true] <;> omega
   ·simp only [h,if_false] <;> omega
theorem a7Q (its:List Value) (lo hi:Option Int):slicePick its.toArray lo hi none=((its.drop (HT.sIx its.length 0 lo)).take (HT.sIx its.length its.length hi - HT.sIx its.length 0 lo)).toArray:=by
 obtain ⟨h1,h2,h3⟩:=a8W lo hi its.toArray.size
 unfold slicePick
 rw [h1,h2,h3]
 simp only [sliceRange_one,pick_run,List.size_toArray] <;> rfl
def rSlL (K:Φρ):V->Option Int->Option Int->Hp->VK->Prop:=λ x lo hi H Q=>∃ a xs,x = .ref a/\SqL K H a xs/\∀ p,H p=none->Q (.ref p) (upd H p (.lst (cutV xs lo hi)))
theorem b8R:SlR X (rSlL X.K):=by
 intro pins s σ H x v vl vu lo hi sl Q I rx hs pl pu h
 obtain ⟨a,xs,rfl,hx,q⟩:=h
 cases rx
 obtain ⟨its,r,ht,hz⟩:=I.list hx
 have hlen:=r.length
 refine ⟨"list", _,slot_list_getitem.lookup,ht.isList.typeIs,?_⟩
 refine wpAny_getItem_list_slice ht.isList hs pl pu .none (by simp) ?_ (by rw [List.size_toArray] <;> omega)
 rw [a7Q,<- hlen]
 refine ⟨.ref s.heap.objs.size,_,I.laid (t':=s.toks) (o:=.lst (cutV xs lo hi)) (λ b ob q=>Heap.get?_push_of_some _ q) (Nat.le_refl _) ?_,rfl,q _ (I.hok.fresh (Nat.le_refl _))⟩
 exact ⟨Nat.le_trans (b0L xs lo hi) hz,_,0,(r.drop (HT.sIx xs.length 0 lo)).take (HT.sIx xs.length xs.length hi - HT.sIx xs.length 0 lo),Heap.get?_push_size _ rfl⟩
def a8X:V->Bool
 | .non=>true
 | .bl _=>true
 | .int _=>true
 | .str _=>true
 | _=>false
def eqV:V->V->Bool
 | .non,.non=>true
 | .bl a,.bl b=>a == b
 | .bl a,.int b=>(if a then 1 else 0) == b
 | .int a,.bl b=>a == (if b then 1 else 0)
 | .int a,.int b=>a == b
 | .str a,.str b=>a == b
 | _,_=>false
theorem c1G {A:Around} {s:Shared} {y x:V} {u v:Value} (ry:RelV y u) (rx:RelV x v) (fy:a8X y=true) (fx:a8X x=true):SeqAt.EqAt A s u v (eqV y x):=by
 cases y with
 | non =>
  cases ry
  cases x with
  | non=>cases rx; exact SeqAt.EqAt.same _
  | bl b=>cases rx; exact SeqAt.EqAt.none_bool b
  | int b=>obtain ⟨t,rfl⟩:=rx; exact SeqAt.EqAt.none_int b t
  | str b=>obtain ⟨t,rfl⟩:=rx; exact SeqAt.EqAt.none_str b t
  | _=>exact absurd (show false=true from fx) Bool.false_ne_true
 | bl a =>
  cases ry
  cases x with
  | non=>cases rx; exact SeqAt.EqAt.bool_none a
  | bl b=>cases rx; exact SeqAt.EqAt.bool_bool a b
  | int b=>obtain ⟨t,rfl⟩:=rx; exact SeqAt.EqAt.bool_int a b t
  | str b=>obtain ⟨t,rfl⟩:=rx; exact SeqAt.EqAt.bool_str a b t
  | _=>exact absurd (show false=true from fx) Bool.false_ne_true
 | int a =>
  obtain ⟨t',rfl⟩:=ry
  cases x with
  | non=>cases rx; exact SeqAt.EqAt.int_none a t'
  | bl b=>cases rx; exact SeqAt.EqAt.int_bool a t' b
  | int b=>obtain ⟨t,rfl⟩:=rx; exact SeqAt.EqAt.int_int a t' b t
  | str b=>obtain ⟨t,rfl⟩:=rx; exact SeqAt.EqAt.int_str a t' b t
  | _=>exact absurd (show false=true from fx) Bool.false_ne_true
 | str a =>
  obtain ⟨t',rfl⟩:=ry
  cases x with
  | non=>cases rx; exact SeqAt.EqAt.str_none a t'
  | bl b=>cases rx; exact SeqAt.EqAt.str_bool a t' b
  | int b=>obtain ⟨t,rfl⟩:=rx; exact SeqAt.EqAt.str_int a t' b t
  | str b=>obtain ⟨t,rfl⟩:=rx; exact SeqAt.EqAt.str_str a t' b t
  | _=>exact absurd (show false=true from fx) Bool.false_ne_true
 | _=>exact absurd (show false=true from fy) Bool.false_ne_true
def eqU (x:V) (u:Value):Bool:=match u with
 | .none=>eqV .non x
 | .bool b=>eqV (.bl b) x
 | .int i _=>eqV (.int i) x
 | .str z _=>eqV (.str z) x
 | _=>false
theorem b7S {x y:V} {u:Value} (r:RelV y u) (f:a8X y=true):eqU x u=eqV y x:=by
 cases y with
 | non=>cases r; rfl
 | bl b=>cases r; rfl
 | int i=>obtain ⟨t,rfl⟩:=r; rfl
 | str z=>obtain ⟨t,rfl⟩:=r; rfl
 | _=>exact absurd (show false=true from f) Bool.false_ne_true
theorem b0M {x:V}:∀ {xs:List V} {us:List Value},Vals xs us->xs.all a8X=true->us.any (eqU x)=xs.any λ y=>eqV y x
 | _,_,.nil,_=>rfl
 | y::xs,u::us,.cons r t,f=>by
  rw [List.all_cons,Bool.and_eq_true] at f
  rw [List.any_cons,List.any_cons,b7S r f.1,b0M t f.2]
theorem a7R {A:Around} {s:Shared} {x:V} {v:Value} (rx:RelV x v) (fx:a8X x=true):∀ {xs:List V} {us:List Value},Vals xs us->xs.all a8X=true->∀ u∈us,SeqAt.EqAt A s u v (eqU x u)
 | _,_,.nil,_=>λ u hu=>by cases hu
 | y::xs,u::us,.cons r t,f=>λ u' hu=>by
  rw [List.all_cons,Bool.and_eq_true] at f
  rcases List.mem_cons.mp hu with rfl | hu
  ·rw [b7S r f.1]; exact c1G r rx f.1 fx
  ·exact a7R rx fx t f.2 u' hu
def inV (x:V) (xs:List V):Bool:=xs.any λ y=>eqV y x
def rIn (K:Φρ) (neg:Bool):R2:=λ x y H Q=>∃ p xs,y = .ref p/\(SqL K H p xs\/SqT K H p xs)/\a8X x=true/\xs.all a8X=true/\Q (.bl (if neg then !inV x xs else inV x xs)) H
theorem b3S:OpR X (compareOp .In) (rIn X.K false):=by
 intro pins s σ H x y v u Q I rx ry h
 obtain ⟨p,xs,rfl,hq,fx,fs,q⟩:=h
 cases ry
 rcases hq with hq | hq
 ·obtain ⟨its,r,pl,hz⟩:=I.list hq
  refine SeqAt.in_listAt (eqU x) pl.isList (λ w hw=>a7R rx fx r fs w (by simpa using hw)) ⟨.bl _,H,I,rfl,?_⟩
  rw [show its.toArray.any (eqU x)=its.any (eqU x) by simp,b0M r fs]
  exact q
 ·obtain ⟨its,r,pl,hz⟩:=I.tuple hq
  refine SeqAt.in_tupleAt (eqU x) pl (λ w hw=>a7R rx fx r fs w (by simpa using hw)) ⟨.bl _,H,I,rfl,?_⟩
  rw [show its.toArray.any (eqU x)=its.any (eqU x) by simp,b0M r fs]
  exact q
theorem a8Y:CallR X (.builtin "len") (λ xs H Q=>∃ p ys,xs=[.ref p]/\(SqL X.K H p ys\/SqT X.K H p ys)/\Q (.int ys.length) H):=by
 intro pins s σ H xs us Q I r h
 obtain ⟨p,ys,rfl,hq,q⟩:=h
 obtain ⟨u,rfl,rx⟩:=a6L r
 cases rx
 have hn:=a8R
 rcases hq with hq | hq
 ·obtain ⟨its,r',pl,hz⟩:=I.list hq
  have hlen:=r'.length
  exact Calls.call_len_list pl.isList (by simp only [List.size_toArray] <;> omega) ⟨.int ys.length,H,I.tok _,⟨s.toks+1,by rw [List.size_toArray,hlen]⟩,q⟩
 ·obtain ⟨its,r',pl,hz⟩:=I.tuple hq
  have hlen:=r'.length
  exact len_tuple pl (by simp only [List.size_toArray] <;> omega) ⟨.int ys.length,H,I.tok _,⟨s.toks+1,by rw [List.size_toArray,hlen]⟩,q⟩
theorem a8Z:CallR X (.type "list") (λ xs H Q=>∃ p ys,xs=[.ref p]/\(SqL X.K H p ys\/SqT X.K H p ys)/\∀ l,H l=none->Q (.ref l) (upd H l (.lst ys))):=by
 intro pins s σ H xs us Q I r h
 obtain ⟨p,ys,rfl,hq,q⟩:=h
 obtain ⟨u,rfl,rx⟩:=a6L r
 cases rx
 have fin:∀ (its:List Value),Vals ys its->ys.length<=sizeLine->∀ (h':Heap) (c':Nat),(∀ b o',s.heap.get? b=some o'->h'.get? b=some o') ->
   h'.get? s.heap.objs.size=some { cls:=.type "list", dict:=none,data:=.seq its.toArray c',slots:=#[] }->EP X pins σ Q (.ref s.heap.objs.size) { s with heap:=h' }:=λ its r' hz h' c' kp e =>
  ⟨.ref s.heap.objs.size,_,I.laid (t':=s.toks) kp (Nat.le_refl _) (show ObjOk X.prog X.w _ h' _ (.lst ys) from ⟨hz,its,c',r',e⟩),rfl,q _ (I.hok.fresh (Nat.le_refl _))⟩
 rcases hq with hq | hq
 ·obtain ⟨its,r',pl,hz⟩:=I.list hq
  have hlen:=r'.length
  obtain ⟨o,ho,hc,n,hd⟩:=pl.isList
  exact call_list_seq p (.inl rfl) ho hc hd (λ h' c' kp e=>fin its r' hz h' c' kp e) (by simp only [List.size_toArray] <;> omega)
 ·obtain ⟨its,r',pl,hz⟩:=I.tuple hq
  have hlen:=r'.length
  obtain ⟨o,ho,hc,n,hd⟩:=pl
  exact call_list_seq p (.inr rfl) ho hc hd (λ h' c' kp e=>fin its r' hz h' c' kp e) (by simp only [List.size_toArray] <;> omega)
def tyV (K:Φρ) (T:String) (x:V) (H:Hp):Prop:=match x with
 | .str _=>T = "str"
 | .int _=>T = "int"
 | .ref p=>(T = "list" /\ ∃ xs,SqL K H p xs)\/(T = "tuple" /\ ∃ o,K.lookup p=some o/\o.cls = .type "tuple" /\ o.dict=none) \/
   (T = "dict" /\ ((∃ kvs,H p=some (.dK kvs))\/∃ kvs,H p=some (.dT kvs)))\/(T = "set" /\ ∃ S n,H p=some (.set S n))
 | _=>False
theorem b7T {pins:List (Addr × Obj)} {σ:St} {H:Hp} {s:Shared} {T:String} {x:V} {v:Value} (I:Inv X pins σ H s) (r:RelV x v) (ty:tyV X.K T x H) :
  s.TypeIs v T/\∀ a,v = .ref a->∃ ob,s.heap.get? a=some ob/\ob.dict=none:=by
 cases x with
 | str z =>
  obtain ⟨t,rfl⟩:=r
  cases (show T = "str" from ty)
  exact ⟨typeIs_str s z t,λ _ e=>nomatch e⟩
 | int i =>
  obtain ⟨t,rfl⟩:=r
  cases (show T = "int" from ty)
  exact ⟨typeIs_int s i t,λ _ e=>nomatch e⟩
 | ref p =>
  cases r
  rcases ty with ⟨rfl,xs,hq⟩ | ⟨rfl,o,hk,hc,hd⟩ | ⟨rfl,hk⟩ | ⟨rfl,S,n,hk⟩
  ·obtain ⟨its,_,pl,_⟩:=I.list hq
   refine ⟨pl.isList.typeIs,λ a e=>?_⟩
   cases e
   obtain ⟨o,n,e,c,hd,_⟩:=pl
   exact ⟨o,e,hd⟩
  ·refine ⟨⟨o,I.kIn p o hk,hc⟩,λ a e=>?_⟩
   cases e
   exact ⟨o,I.kIn _ o hk,hd⟩
  ·have z:∃ o,s.heap.get? p=some o/\o.ExactDict:=by
    rcases hk with ⟨kvs,hk⟩ | ⟨kvs,hk⟩
    ·obtain ⟨_,_,_,_,o,_,_,e,ex,_⟩:=I.hok p _ hk
     exact ⟨o,e,ex⟩
    ·obtain ⟨_,_,_,_,o,_,_,e,ex,_⟩:=I.hok p _ hk
     exact ⟨o,e,ex⟩
   obtain ⟨o,e,ex⟩:=z
   refine ⟨⟨o,e,ex.1⟩,λ a e2=>?_⟩
   cases e2
   exact ⟨o,e,ex.2.1⟩
  ·obtain ⟨o,_,_,_,e,ex,_⟩:=I.hok p _ hk
   refine ⟨⟨o,e,ex.1⟩,λ a e2=>?_⟩
   cases e2
   exact ⟨o,e,ex.2.1⟩
 | _=>exact False.elim ty
def tBM0 (K:Φρ) (T:String) (r:V->List V->Hp->VK->Prop) (to:TE):TE:=λ σ H Q=>to σ H λ x H1=>tyV K T x H1/\r x [] H1 Q
def tBM (K:Φρ) (T:String) (r:V->List V->Hp->VK->Prop) (to:TE) (t:TA):TE:=λ σ H Q=>to σ H λ x H1=>tyV K T x H1/\t σ H1 λ xs H2=>r x xs H2 Q
variable {o e:Expr} {es:List Expr} {to:TE} {t:TA} {name:Str} {apos cpos:Pos} {T id:String} {r:V->List V->Hp->VK->Prop}
theorem c1H (pa:PlainAttrs T) (slot:Slot T name id) (hty:typeOf (.builtin id)=pure (.type "method_descriptor")) (hm:MtR X id r) (ho:PE X o to)
  (hbase:attributeBase o name X.env (eval o X.env)=eval o X.env:=by rfl) (hline:(apos.endLine == cpos.line)=true:=by rfl):PE X (.Call (.Attribute o name apos) [] [] cpos) (tBM0 X.K T r to):=by
 intro pins s σ H Q I h
 refine wpAny_Call_method0_late hbase hline (thn (ho pins s σ H _ I h) λ v s1 ⟨x,H1,I1,r1,ty,q1⟩=>?_)
 obtain ⟨h1,h2⟩:=b7T I1 r1 ty
 exact ⟨T,id,pa,slot,hty,h1,h2,Calls.callWith_builtin rfl (PySem.evalArgs_none (hm pins s1 σ H1 x [] v [] Q I1 r1 .nil q1))⟩
theorem c2Y (pa:PlainAttrs T) (slot:Slot T name id) (hty:typeOf (.builtin id)=pure (.type "method_descriptor")) (hm:MtR X id r) (ho:PE X o to) (ha:PA X (e::es) t)
  (hbase:attributeBase o name X.env (eval o X.env)=eval o X.env:=by rfl)
  (hfew:((backTo cpos (starEach (e::es) X.env)).all (λ x=>!x.1) && (backToKw cpos (keywordEach [] X.env)).all (λ x=>x.1.isSome)
   && decide ((e::es).length+([]:List Keyword).length+(if ([]:List Keyword).isEmpty then 0 else 1) < 30))=true:=by rfl)
  (hline:(apos.endLine == cpos.line)=true:=by rfl) (hs:starEach (e::es) X.env=(false,eval e X.env)::starEach es X.env:=by rfl) (hplain:(backTo cpos (starEach es X.env)).any (·.1)=false:=by rfl) :
  PE X (.Call (.Attribute o name apos) (e::es) [] cpos) (tBM X.K T r to t):=by
 intro pins s σ H Q I h
 refine wpAny_Call_method_late hbase hfew hline rfl (thn (ho pins s σ H _ I h) λ v s1 ⟨x,H1,I1,r1,ty,q1⟩=>?_)
 obtain ⟨h1,h2⟩:=b7T I1 r1 ty
 refine ⟨T,id,pa,slot,hty,h1,h2,?_⟩
 have hA:=ha cpos pins s1 σ H1 _ I1 q1
 rw [hs] at hA ⊢
 refine Calls.callWith_builtin (by show (false || (backTo cpos (starEach es X.env)).any (·.1))=false; rw [hplain] <;> rfl) (Calls.evalArgs_plain ?_)
 exact thn hA λ us s2 ⟨vs,H2,I2,r2,q2⟩=>hm pins s2 σ H2 x vs v us Q I2 r1 r2 q2
end
end L2
namespace L2
open PySem PySem.Spec PyProof.Rows
def MtM (X:Cx) (id:String) (r:V->List V->Hp->VK->Prop):Prop :=
 ∀ (pins:List (Addr × Obj)) (s:Shared) (σ:St) (H:Hp) (x:V) (xs:List V) (v:Value) (us:List Value) (Q:VK),Inv X pins σ H s->RelV x v->Vals xs us->r x xs H Q ->
  wpAny (model X.prog X.w) X.A (call (.builtin id) (v::us)) (EP X pins σ Q) X.xe s
theorem Vals.one:∀ {x:V} {us:List Value},Vals [x] us->∃ u,us=[u]/\RelV x u
 | _,_,.cons r .nil=>⟨_,rfl,r⟩
theorem Vals.two:∀ {x y:V} {us:List Value},Vals [x,y] us->∃ u v,us=[u,v]/\RelV x u/\RelV y v
 | _,_,_,.cons r (.cons q .nil)=>⟨_,_,rfl,r,q⟩
section
variable {X:Cx} {pins:List (Addr × Obj)} {σ:St} {H:Hp} {s:Shared} {l b:Addr} {xs ys zs:List V}
theorem Inv.lset {its its':List Value} {n:Nat} {f:Array Value->Array Value} {t':Nat} (I:Inv X pins σ H s) (hH:H l=some (.lst xs))
  (e:s.heap.get? l=some { cls:=.type "list", data:=.seq its.toArray n }) (hf:f its.toArray=its'.toArray) (hv:Vals ys its') (hz:ys.length<=sizeLine) :
  Inv X pins σ (upd H l (.lst ys)) { s with heap:=s.heap.update l (Obj.mapSeq f),toks:=t' }:=by
 have q:=PySem.IsL.update e f
 rw [hf] at q
 refine I.write (x:=l) (e:=l) (by rw [hH]; exact trivial) (.inl rfl) (λ b' u hb hu=>(Heap.get?_update_other s.heap (Obj.mapSeq f) (Ne.symm hb)).trans hu) ⟨_,q⟩ ?_
 exact ⟨hz,its',_,hv,q⟩
theorem Inv.lnew {its:List Value} {t':Nat} (I:Inv X pins σ H s) (hv:Vals ys its) (hz:ys.length<=sizeLine) :
  Inv X pins σ (upd H s.heap.objs.size (.lst ys)) { s with heap:=s.heap.push { cls:=.type "list", data:=.seq its.toArray },toks:=t' } :=
 I.laid (λ _ _ q=>Heap.get?_push_of_some _ q) (Nat.le_refl _) ⟨hz,its,0,hv,Heap.get?_push_size _ rfl⟩
theorem Inv.fresh (I:Inv X pins σ H s):H s.heap.objs.size=none:=I.hok.fresh (Nat.le_refl _)
theorem Inv.lstM (I:Inv X pins σ H s) (hH:H l=some (.lst xs)):xs.length<=sizeLine/\∃ (its:List Value) (n:Nat),Vals xs its/\xs.length=its.length/\s.heap.get? l=some { cls:=.type "list", data:=.seq its.toArray n }:=by
 obtain ⟨z,its,n,r,e⟩:=I.hok l _ hH
 exact ⟨z,its,n,r,r.length,e⟩
end
section
variable {X:Cx}
def b8S:V->List V->Hp->VK->Prop:=λ x vs H Q=>∃ l xs y,x = .ref l/\vs=[y]/\H l=some (.lst xs)/\xs.length < sizeLine/\Q .non (upd H l (.lst (xs++[y])))
theorem mt_append:MtM X "list.append" b8S:=by
 intro pins s σ H x vs v us Q I rx rv h
 obtain ⟨l,xs,y,rfl,rfl,hH,hz,q⟩:=h
 cases rx
 obtain ⟨u,rfl,ru⟩:=rv.one
 obtain ⟨z,its,n,r,hl,e⟩:=I.lstM hH
 refine call_meets F.slot_list_append ⟨_,e,rfl⟩ F.entry_list_append (F.args_list_append_2 _ _) (PySem.list_append l its.toArray n u (by rw [List.size_toArray]; omega)) ⟨e,?_⟩
 refine ⟨.non,_,I.lset (its':=its++[u]) hH e (by simp) (r.append (.cons ru .nil)) ?_,rfl,q⟩
 rw [List.length_append,List.length_singleton]
 omega
def rCat:R2:=λ x y H Q=>∃ l b xs zs,x = .ref l/\y = .ref b/\H l=some (.lst xs)/\H b=some (.lst zs)/\xs.length+zs.length<=sizeLine/\∀ p,H p=none->Q (.ref p) (upd H p (.lst (xs++zs)))
theorem op_cat:OpR X (binaryOp .Add) rCat:=by
 intro pins s σ H x y v u Q I rx ry h
 obtain ⟨l,b,xs,zs,rfl,rfl,hH,hB,hz,q⟩:=h
 cases rx
 cases ry
 obtain ⟨z,its,n,r,hl,e⟩:=I.lstM hH
 obtain ⟨z2,its2,n2,r2,hl2,e2⟩:=I.lstM hB
 refine PySem.P.add_list e e2 ?_ (by rw [List.size_toArray,List.size_toArray]; omega)
 have ea:its.toArray++its2.toArray=(its++its2).toArray:=by simp
 rw [ea]
 exact ⟨.ref _,_,I.lnew (t':=s.toks) (r.append r2) (by rw [List.length_append]; omega),rfl,q _ I.fresh⟩
end
section
variable {prog:Program} {w:World} {A:Around} {E:Value->Shared->Prop} {s:Shared}
end
section
variable {X:Cx}
end
end L2
namespace Att
open PySem PySem.W PySem.Calls PyProof.Rows
theorem a5R {P:Params} {h:Heap}:∀ (ns:List Int) (vs:List Value),WellAll P h vs (ns.map WData.int)->IntsAre vs ns:=by
 intro ns
 induction ns with
 | nil =>
  intro vs w
  rw [List.map_nil] at w
  cases w
  exact .nil
 | cons n ns ih =>
  intro vs w
  rw [List.map_cons] at w
  cases w with
  | cons a b =>
   cases a
   exact .cons _ _ (ih _ b)
theorem b3T {l : OpenLaw} {n : Nat} (hn : l.most = some n) {P : Params} {h : Heap} {args : List WData} {vals : List Value}
    (hpre : l.row.toRowW.claim.pre args = true) (hwl : WellAll P h vals args) :
    ∃ a vs ns, vals = [Value.ref a] /\ args = [WData.list (ns.map WData.int)] /\ h.get? a = some { cls := .type "list", data := .seq vs.toArray } /\ IntsAre vs ns /\ ns.length <= n := by
  have hsh : WShape.hasAll [] args [.list .int] = true := (pre_splitW hpre).1
  have hc : l.pre.holds [] { args := args } = true := (pre_splitW hpre).2
  obtain ⟨d, r, rfl, h1, h2⟩ := hasAllW_cons hsh
  obtain rfl := hasAllW_nil h2
  obtain ⟨xs, rfl, h3⟩ := hasW_list h1
  obtain ⟨ns, rfl⟩ := items_int h3
  have hlen : ns.length <= n := by
    unfold OpenLaw.pre at hc
    have h4 : (WTm.not (.lt (.lit (.int (n : Int))) (.len (.arg 0)))).holds [] { args := [.list (ns.map .int)] } = true := by
      have h4 := (holds_andW hc).1
      rw [hn] at h4
      exact h4
    have h5 := condW_of h4 (w_not (w_lt w_lit (w_len_list (w_arg rfl))))
    rw [List.length_map] at h5
    refine Nat.le_of_not_lt fun q => ?_
    have q' : (n : Int) < ((ns.length : Nat) : Int) := by omega
    first
      | (rw [decide_eq_true q'] at h5; exact absurd h5 (by decide))
      | (simp at h5; omega)
  cases hwl with
  | cons w1 w2 =>
    cases w2
    cases w1 with
    | list ho hall => exact ⟨_, _, ns, rfl, rfl, ho, a5R ns _ hall, hlen⟩
theorem b3U (l : OpenLaw) (args : List WData) : l.row.toRowW.claim.post args (.bool true) args = true :=
  postW_of (r := l.row.toRowW) (X := (true == true))
    (show WShape.has [] (.bool true) .bool = true by first | rfl | decide | simp [WShape.has, WShape.arms, WShape.armsAll])
    (show (WTm.eq .res (.lit (.bool true))).value [] { args := args, res := some (.bool true), after := args } = some (.bool (true == true)) from w_eq_bool (w_res rfl) w_lit) rfl
theorem attach_call {l:OpenLaw} {n:Nat} {q:Program} {loose:List Str} {XP:(Str->Option Value)->Heap->Prop} {YP:World->Heap->Prop} {d:DefRec}
  (hn:l.most=some n) (hdf:d.params.defaults=[])
  (call:∀ (w:World) (s₀ s₁:Shared) (mg mb:Str->Option Value) (fa:Addr) (o:Obj) (pm cd doc:Value) (a:Addr) (vs:List Value) (ns:List Int),
   Ground q loose [] XP w s₀ mg mb s₁.heap->YP w s₁.heap ->
   s₁.heap.get? fa=some o->o.data = .func (docDef d.name d.params d.body d.scope pm cd doc)->s₁.heap.CodeRec cd d.name->mg d.name=some (.ref fa) ->
   s₁.heap.get? a=some { cls:=.type "list", data:=.seq vs.toArray }->IntsAre vs ns->ns.length<=n->s₁.gens = #[] ->
   codeAny (model l.prog w) callerA (.call (.ref fa) ⟨[.ref a],[]⟩) (λ r s'=>r = .ok (.ret (.bool true))/\OldK s₁.heap s'.heap/\s'.os=s₁.os/\AllBare s'.gens) s₁) :
  WalkO q loose XP YP l.row.toRowW d [] (λ f vs=>PySem.call f vs):=by
 intro w s₀ s₁ mg mb G Y fa o pm cd doc dV kV ho hd hcd hD hmg hg args vals as hpre hlay hrd hwl hlo
 obtain rfl:dV = .none:=Dflts.none hD hdf
 obtain rfl:kV = .none:=Dflts.noKw hD
 obtain ⟨a,vs,ns,rfl,rfl,hobj,hints,hlen⟩:=b3T hn hpre hwl
 refine enter_call (codeAny_mono (call w s₀ s₁ mg mb fa o pm cd doc a vs ns G Y ho (fd_plain hd) hcd hmg hobj hints hlen hg) λ r s' hq=>?_)
 obtain ⟨rfl,h2,h3,h4⟩:=hq
 exact ⟨.inl ⟨.bool true,.bool true,[],rfl,λ _=>rfl,.bool true,b3U l _,λ _=>⟨List.Pairwise.nil,λ _ hm=>(nomatch hm)⟩⟩,h2,h3,h4⟩
section
variable {prog:Program} {w:World} {A:Around} {E:Value->Shared->Prop} {s:Shared} {K:Frag}
end
end Att
namespace L2
open PySem PySem.Spec PyProof.Rows
theorem a9A:∀ {vs:List Value} {ns:List Int},IntsAre vs ns->Vals (ns.map V.int) vs
 | _,_,.nil=>.nil
 | _,_,.cons n t h=>.cons ⟨t,rfl⟩ (a9A h)
def Only (H:Hp):Prop:=∀ b,H b=none\/∃ o xs,H b=some (.frz o (.lst xs))
theorem b6F {P:Program} {w:World} {K:Φρ} {mg mb:Str->Option Value} {CX:CXT} {k:Nat} {fa a:Addr} {fd:FuncData} {x:Str} {sp:Sp} {s₁:Shared} {vs:List Value} {ns:List Int}
  (KX:K.In s₁.heap) (hns:s₁.heap.Ns mainGlobals mg) (hb:s₁.heap.Ns builtinsNs mb) (hbb:∀ x:Str,x ≠ "__name__" -> mb x=bootBuiltins x) (hlim:s₁.heap.NoLimit) (hg:s₁.gens = #[])
  (ha:s₁.heap.get? a=some { cls:=.type "list", data:=.seq vs.toArray }) (hi:IntsAre vs ns) (hl:ns.length<=sizeLine) (hr:Room k callerA)
  (F:∀ base:Heap,K.In base->base.Ns mainGlobals mg->FnOk P w K mg base CX k fa fd [x] sp) (hbind:∀ (s:Shared) (u:Value),BindsTo s fd ⟨[u],[]⟩ [(x,u)])
  (hsp:∀ H:Hp,Only H->SqL K H a (ns.map V.int)->sp [.ref a] H (λ v _=>v = .bl true) λ _ _ _=>False)
  (hCX:∀ H e s',CX [] H s₁ (λ _ _ _=>False) e s'->False) :
  codeAny (model P w) callerA (.call (.ref fa) ⟨[.ref a],[]⟩) (λ r s'=>r = .ok (.ret (.bool true))/\OldK s₁.heap s'.heap/\s'.os=s₁.os/\AllBare s'.gens) s₁:=by
 have rv:=a9A hi
 have lenV:=hi.length
 have core:∀ H:Hp,Only H->SqL K H a (ns.map V.int)->HOk P w H s₁.heap->(∀ b,H b≠none->b=a)->(H a≠none->K.lookup a=none) ->
   codeAny (model P w) callerA (.call (.ref fa) ⟨[.ref a],[]⟩) (λ r s'=>r = .ok (.ret (.bool true))/\OldK s₁.heap s'.heap/\s'.os=s₁.os/\AllBare s'.gens) s₁:=by
  intro H hO hS hok hA hK
  have base_of:∀ {b:Addr} {o:Obj},s₁.heap.get? b=some o->H b=none->(hidT s₁.heap H).get? b=some o:=λ e n=>b6A e n
  have noA:∀ {b:Addr} {o:Obj} {es:Array DictEntry} {ep:Nat},s₁.heap.get? b=some o->o.data = .dict es ep->H b=none:=λ {b o es ep} e d=>by
   cases q:H b with
   | none=>rfl
   | some u =>
    have e':b=a:=hA b (by rw [q]; simp)
    subst e'
    rw [ha] at e; cases e
    have d':Data.seq vs.toArray _=Data.dict es ep:=d
    cases d'
  have nsK:∀ {b:Addr} {m:Str->Option Value},s₁.heap.Ns b m->(hidT s₁.heap H).Ns b m:=λ {b m} ⟨o,es,ep,e,d,r⟩=>⟨o,es,ep,base_of e (noA e d),d,r⟩
  have hKb:K.In (hidT s₁.heap H):=λ b o e=>base_of (KX b o e) (by
   cases q:H b with
   | none=>rfl
   | some u =>
    have e':b=a:=hA b (by rw [q]; simp)
    subst e'
    rw [hK (by rw [q]; simp)] at e; cases e)
  have hM:Mod K mg (hidT s₁.heap H):=⟨hKb,nsK hns,⟨mb,nsK hb,hbb⟩,let ⟨mc,h1,h2⟩:=hlim; ⟨mc,nsK h1,h2⟩⟩
  have e0:Env0 P w K mg (hidT s₁.heap H) callerA [] s₁ H:=⟨rfl,hM,λ b o e=>b8H e,Nat.le_of_eq (b3B _ _),trivial,λ b hb=>absurd (show b∈([]:List Addr) from hb) (by simp),hok,.of_eq hg⟩
  refine codeAny_mono ((F _ hKb (nsK hns)).run callerA [] s₁ H ⟨[.ref a],[]⟩ [.ref a] [.ref a] _ _ hr e0 (hbind s₁ (.ref a)) (.cons rfl .nil) (hsp H hO hS)) λ r s' h=>?_
  cases r with
  | error e=>exact (hCX H e s' h).elim
  | ok fl =>
   cases fl with
   | next=>exact False.elim h
   | brk=>exact False.elim h
   | cont=>exact False.elim h
   | ret u =>
    obtain ⟨v,H',os,bare,un,hok',r',q⟩:=h
    have q':v = .bl true:=q
    subst q'
    obtain rfl:u=Value.bool true:=r'
    refine ⟨rfl,OldK.of_keep λ b o e=>?_,os,bare⟩
    cases q:H b with
    | none=>exact un.keep b o e q (by intro z; exact absurd (show b∈([]:List Addr) from z) (by simp)) (by simp)
    | some u =>
     rcases hO b with z | ⟨ob,xs,z⟩
     ·rw [q] at z; cases z
     ·have z2:=un.frzs b ob _ z
      obtain ⟨e1,_⟩:=hok b _ z
      obtain ⟨e2,_⟩:=hok' b _ z2
      rw [e] at e1; cases e1
      exact e2
 cases hk:K.lookup a with
 | some o =>
  have e:=KX a o hk
  rw [ha] at e
  cases e
  refine core (λ _=>none) (λ _=>.inl rfl) (.inr ⟨_,vs.toArray,_,hk,rfl,rfl,rfl,by rw [List.size_toArray,lenV]; exact hl,by simpa using rv⟩) (λ b u z=>by have z':(none:Option HO)=some u:=z; cases z') (λ b z=>absurd rfl z) λ z=>absurd rfl z
 | none =>
  refine core (λ b=>if b=a then some (.frz { cls:=.type "list", data:=.seq vs.toArray } (.lst (ns.map V.int))) else none) (λ b=>?_) (.inl (.inr ⟨{ cls:=.type "list", data:=.seq vs.toArray },if_pos rfl⟩)) (λ b u z=>?_) (λ b z=>?_) λ _=>hk
  ·by_cases hb:b=a
   ·exact .inr ⟨_,_,if_pos hb⟩
   ·exact .inl (if_neg hb)
  ·by_cases hb:b=a
   ·have z':=(if_pos hb).symm.trans z
    cases z'
    subst hb
    exact ⟨ha,by rw [List.length_map]; exact hl,vs,_,rv,ha⟩
   ·have z':=(if_neg hb).symm.trans z
    cases z'
  ·by_cases hb:b=a
   ·exact hb
   ·exact absurd (if_neg hb) z
end L2
namespace L2
open PySem PySem.Spec PyProof.Rows
abbrev KOf {K:Φρ} {h:Heap} (_:K.In h):Φρ:=K
theorem b8T {l:PySem.W.OpenLaw} {n k:Nat} {q:Program} {loose:List Str} {XP:(Str->Option Value)->Heap->Prop} {YP:World->Heap->Prop} {d:DefRec} {K:Params->Φρ} {CX:World->CXT} {sp:World->Sp} {x:Str}
  (hn:l.most=some n) (hn2:n<=sizeLine) (hdf:d.params.defaults=[]) (hr:Room k callerA)
  (hY:∀ (w:World) (h:Heap),YP w h->(K w.params).In h)
  (F:∀ (w:World) (mg:Str->Option Value) (fa:Addr) (h:Heap),(K w.params).In h->h.Ns mainGlobals mg->mg d.name=some (.ref fa) ->
   ∃ fd:FuncData,(∀ (s:Shared) (u:Value),BindsTo s fd ⟨[u],[]⟩ [(x,u)]) /\
    ∀ base:Heap,(K w.params).In base->base.Ns mainGlobals mg->FnOk l.prog w (K w.params) mg base (CX w) k fa fd [x] (sp w))
  (hsp:∀ (w:World) (H:Hp) (a:Addr) (ns:List Int),ns.length<=n->Only H->SqL (K w.params) H a (ns.map V.int)->sp w [.ref a] H (λ v _=>v = .bl true) λ _ _ _=>False)
  (hCX:∀ (w:World) (H:Hp) (s:Shared) (e:Value) (s':Shared),CX w [] H s (λ _ _ _=>False) e s'->False) :
  PySem.W.WalkO q loose XP YP l.row.toRowW d [] (λ f vs=>PySem.call f vs):=by
 refine Att.attach_call hn hdf λ w s₀ s₁ mg mb fa o pm cd doc a vs ns G Y ho hd hcd hmg hobj hints hlen hg=>?_
 have KX:=hY w _ Y
 obtain ⟨fd,hb,hF⟩:=F w mg fa _ KX G.T.g hmg
 exact b6F KX G.T.g G.T.b G.T.builtins G.T.nolimit hg hobj hints (Nat.le_trans hlen hn2) hr hF hb (λ H hO hS=>hsp w H a ns hlen hO hS) λ H e s'=>hCX w H s₁ e s'
theorem walk_ofK {l:PySem.W.OpenLaw} {n k:Nat} {q:Program} {loose:List Str} {XP:(Str->Option Value)->Heap->Prop} {YP:World->Heap->Prop} {d:DefRec} {K:Params->Φρ} {CX:CXT} {sp:Φρ->Sp} {x:Str}
  (hn:l.most=some n) (hn2:n<=sizeLine) (hdf:d.params.defaults=[]) (hr:Room k callerA)
  (hY:∀ (w:World) (h:Heap),YP w h->(K w.params).In h)
  (F:∀ (w:World) (mg:Str->Option Value) (fa:Addr) (h:Heap),(K w.params).In h->h.Ns mainGlobals mg->mg d.name=some (.ref fa) ->
   ∃ fd:FuncData,(∀ (s:Shared) (u:Value),BindsTo s fd ⟨[u],[]⟩ [(x,u)]) /\
    ∀ base:Heap,(K w.params).In base->base.Ns mainGlobals mg->FnOk l.prog w (K w.params) mg base CX k fa fd [x] (sp (K w.params)))
  (hsp:∀ (K:Φρ) (H:Hp) (a:Addr) (ns:List Int),ns.length<=n->Only H->SqL K H a (ns.map V.int)->sp K [.ref a] H (λ v _=>v = .bl true) λ _ _ _=>False)
  (hCX:∀ (H:Hp) (s:Shared) (e:Value) (s':Shared),CX [] H s (λ _ _ _=>False) e s'->False) :
  PySem.W.WalkO q loose XP YP l.row.toRowW d [] (λ f vs=>PySem.call f vs) :=
 b8T (K:=K) (CX:=λ _=>CX) (sp:=λ w=>sp (K w.params)) hn hn2 hdf hr hY F (λ w H a ns h1 h2 h3=>hsp (K w.params) H a ns h1 h2 h3) λ _ H s e s'=>hCX H s e s'
end L2
namespace L2
open PySem PySem.Spec PyProof.Rows
def a1P (s:Stmt):Arguments:=match s with
 | .FunctionDef _ a _ _ _ _ _ _ _ _=>a
 | _=>{ posonlyargs:=[],args:=[],vararg:=none,kwonlyargs:=[],kw_defaults:=[],kwarg:=none,defaults:=[] }
def a1I (s:Stmt):List Stmt:=match s with
 | .FunctionDef _ _ b _ _ _ _ _ _ _=>b
 | _=>[]
def a0F (s:Stmt):Scope:=match s with
 | .FunctionDef _ _ _ _ _ _ sc _ _ _=>sc
 | _=>{ kind:=.function,names:=[],isGenerator:=false,isCoroutine:=false }
abbrev CX0:CXT:=λ _ _ _ _ _ _=>False
abbrev E0:XK:=λ _ _ _=>False
theorem a1A {X:Cx}:b3O CX0 X E0:=λ _ _ _ _ _ _ _ h=>h.elim
structure Fun (K:Φρ) (x qual:Str) (st:Stmt) (f:Addr) (fd:FuncData):Prop where
 ex:∃ (oc:Value) (od:Option Addr) (kV doc pm:Value) (an:Option Addr) (cdv ct:Value) (osl:Array (Option Value)),
  fd=PySem.W.fnOf x qual (a1P st) (a1I st) (a0F st) .none kV doc pm an cdv ct/\K.lookup f=some ⟨oc,od,.func fd,osl⟩/\PySem.W.codeIn K cdv qual=true
 kp:PySem.W.keepIn K (.ref f)=true
section
variable {P:Program} {w:World} {K:Φρ} {mg:Str->Option Value} {base:Heap}
theorem Fun.ok {x qual:Str} {st:Stmt} {f:Addr} {fd:FuncData} {N ps:List Str} {k:Nat} {sp:Sp} (F:Fun K x qual st f fd) (S:FnScope N ps (a0F st)) (len:∀ vs H Q E,sp vs H Q E->vs.length=ps.length)
  (hbody:∀ (cdv:Value) (A:Around) (outer:List Env) (s:Shared) (H:Hp) (vs:List V) (Q:VK) (E:XK),Room k (A.deeper (envOfC qual (a0F st) s.heap.objs.size f cdv))->sp vs H Q E ->
   ∃ t,PSs (cxOf CX0 P w K mg base N qual (a0F st) f cdv A outer s H E).nox (a1I st) t/\t { nx:=λ _ H'=>Q .non H',rt:=Q } (a7O N vs) H):FnOk P w K mg base CX0 (k+1) f fd ps sp:=by
 obtain ⟨oc,od,kV,doc,pm,an,cdv,ct,osl,rfl,lk,hcd⟩:=F.ex
 refine c1E lk hcd S len λ A outer s H vs Q E hr hsp=>?_
 obtain ⟨t,h,q⟩:=hbody cdv A outer s H vs Q E hr hsp
 exact ⟨t,h.nox,q⟩
theorem Fun.binds {x qual:Str} {st:Stmt} {f:Addr} {fd:FuncData} {ps:List Str} (F:Fun K x qual st f fd)
  (h:∀ (kV doc pm:Value) (an:Option Addr) (cdv ct:Value) (us:List Value),us.length=ps.length->bindArgs (PySem.W.fnOf x qual (a1P st) (a1I st) (a0F st) .none kV doc pm an cdv ct) ⟨us,[]⟩=pure (ps.zip us)):Binds K fd ps []:=by
 obtain ⟨oc,od,kV,doc,pm,an,cdv,ct,osl,rfl,lk,hcd⟩:=F.ex
 exact .all (h kV doc pm an cdv ct)
theorem c1I {x qual:Str} {st:Stmt} {f:Addr} {oc:Value} {od an:Option Addr} {osl:Array (Option Value)} {kV doc pm cdv ct:Value} (l:K.lookup f=some ⟨oc,od,.func (PySem.W.fnOf x qual (a1P st) (a1I st) (a0F st) .none kV doc pm an cdv ct),osl⟩)
  (c:PySem.W.codeIn K cdv qual=true) (k:PySem.W.keepIn K (.ref f)=true):Fun K x qual st f (PySem.W.fnOf x qual (a1P st) (a1I st) (a0F st) .none kV doc pm an cdv ct):=⟨⟨oc,od,kV,doc,pm,an,cdv,ct,osl,rfl,l,c⟩,k⟩
end
theorem a1U {n:Nat} (h:n<=1000):n < sizeLine:=Nat.lt_of_le_of_lt h (by decide)
section
variable {X:Cx}
theorem pv (i:Nat) {x:Str} {pos:Pos} (hN:X.N[i]?=some x:=by rfl) (hv:Vis X.env.scope x:=by first | exact Or.inl rfl | exact Or.inr (Or.inl rfl) | exact Or.inr (Or.inr rfl)) (hd:(x == ("__debug__" : Str))=false:=by decide)
  (hcd:(x == ("__classdict__" : Str))=false:=by decide):PE X (.Name x pos) (tVar i):=c0V hN hv hd hcd
end
theorem iteF {A B:Prop} (h:B):if false=true then A else B:=by
 rw [if_neg Bool.false_ne_true]
 exact h
theorem iteT {A B:Prop} (h:A):if true=true then A else B:=by
 rw [if_pos rfl]
 exact h
theorem ite2 {c A B:Prop} [Decidable c] (h1:c->A) (h2:¬ c->B):if c then A else B:=by
 by_cases h:c
 ·rw [if_pos h]
  exact h1 h
 ·rw [if_neg h]
  exact h2 h
def Same (H H':Hp):Prop:=∀ b o,H b=some o->H' b=some o
theorem Same.refl (H:Hp):Same H H:=λ _ _ h=>h
theorem Same.trans {H H1 H2:Hp} (a:Same H H1) (b:Same H1 H2):Same H H2:=λ c o h=>b c o (a c o h)
theorem Same.free {H H':Hp} (e:Same H H') {l:Addr} (h:H' l=Option.none):H l=Option.none:=by
 cases q:H l with
 | none=>rfl
 | some o =>
  rw [e l o q] at h
  cases h
theorem Same.seq {K:Φρ} {H H':Hp} {a:Addr} {xs:List V} (e:Same H H') (h:SqL K H a xs):SqL K H' a xs:=by
 rcases h with (h | ⟨o,h⟩) | h
 ·exact .inl (.inl (e _ _ h))
 ·exact .inl (.inr ⟨o,e _ _ h⟩)
 ·exact .inr h
end L2
namespace L2
open PySem PySem.Spec PyProof.Rows
def clOf (cells:List (Str × Addr)):List (Str × NameKind)->List (Str × Addr)->List (Str × Addr)
 | [],acc=>acc
 | (n,k)::r,acc=>clOf cells r (if k == .free then (match cells.lookup n with | some c=>(n,c)::acc | none=>acc) else acc)
theorem b7U {env:Env}:∀ (ns:List (Str × NameKind)) (acc:List (Str × Addr)),(∀ x∈ns,x.2 = .free->∃ c,env.cells.lookup x.1=some c) ->
  (forIn ns acc λ (x:Str × NameKind) (cs:List (Str × Addr))=>(if x.2 == NameKind.free then do let a <- cellOf env x.1; pure (ForInStep.yield ((x.1,a)::cs)) else pure (ForInStep.yield cs):Sem (ForInStep (List (Str × Addr)))))=pure (clOf env.cells ns acc)
 | [],acc,_=>by simp [clOf]
 | (n,k)::r,acc,h=>by
  rw [List.forIn_cons]
  have ih:=λ a=>b7U (env:=env) r a λ x hx=>h x (List.mem_cons_of_mem _ hx)
  unfold clOf
  by_cases hk:(k == NameKind.free)=true
  ·obtain ⟨c,hc⟩:=h (n,k) List.mem_cons_self (by simpa using hk)
   have hc':env.cells.lookup n=some c:=hc
   have hce:cellOf env n=pure c:=by simp only [cellOf,hc']
   simp only [hk,if_true,hce,pure_bind,hc']
   exact ih _
  ·simp only [hk,if_false,pure_bind,ih]
   simp
theorem a7A {scope:Scope} {env:Env} (h:∀ x∈scope.names,x.2 = .free->∃ c,env.cells.lookup x.1=some c):closureFor scope env=pure (clOf env.cells scope.names []):=by
 have q:=b7U (env:=env) scope.names [] h
 unfold closureFor
 rw [<- q]
 first
  | rfl
  | simp
theorem a5K {cells:List (Str × Addr)}:∀ (ns:List (Str × NameKind)) (acc:List (Str × Addr)) {x:Str} {c:Addr},(∀ y d,acc.lookup y=some d->cells.lookup y=some d)->(clOf cells ns acc).lookup x=some c->cells.lookup x=some c
 | [],acc,x,c,ha,h=>ha x c h
 | (n,k)::r,acc,x,c,ha,h=>by
  unfold clOf at h
  refine a5K r _ (λ y d hy=>?_) h
  split at hy
  ·split at hy
   ·rename_i c' hc'
    rw [List.lookup_cons] at hy
    split at hy
    ·rename_i e
     have e':y=n:=by simpa using e
     subst e'
     rw [hc']; exact hy
    ·exact ha y d hy
   ·exact ha y d hy
  ·exact ha y d hy
theorem a9B {cells:List (Str × Addr)}:∀ (ns:List (Str × NameKind)) (acc:List (Str × Addr)) {x:Str},(∃ c,acc.lookup x=some c)->∃ c,(clOf cells ns acc).lookup x=some c
 | [],acc,x,h=>h
 | (n,k)::r,acc,x,h=>by
  unfold clOf
  refine a9B r _ ?_
  split
  ·split
   ·rw [List.lookup_cons]
    split
    ·exact ⟨_,rfl⟩
    ·exact h
   ·exact h
  ·exact h
theorem a7S {cells:List (Str × Addr)}:∀ (ns:List (Str × NameKind)) (acc:List (Str × Addr)) {x:Str},(x,NameKind.free)∈ns->(∃ c,cells.lookup x=some c)->∃ c,(clOf cells ns acc).lookup x=some c
 | [],acc,x,h,_=>nomatch h
 | (n,k)::r,acc,x,h,hc=>by
  unfold clOf
  rcases List.mem_cons.mp h with e | h
  ·cases e
   obtain ⟨c,hc⟩:=hc
   refine a9B r _ ?_
   simp [hc]
  ·exact a7S r _ h hc
end L2
namespace L2
open PySem PySem.Spec PyProof.Rows
theorem Inv.track {X:Cx} {pins:List (Addr × Obj)} {σ:St} {H:Hp} {s:Shared} {a:Addr} {o:HO} (I:Inv X pins σ H s) (hn:H a=none) (h0:X.s₀.heap.objs.size<=a) (hL:a≠X.env.locals)
  (hc:∀ x c,X.env.cells.lookup x=some c->c≠a) (hp:∀ p∈X.pn++pins,p.1≠a) (new:ObjOk X.prog X.w (upd H a o) s.heap a o):Inv X pins σ (upd H a o) s:=by
 have ne:∀ b u,H b=some u->b≠a:=λ b u e=>a0S e hn
 have q:=I.step (g':=s.gens) (d':=s.drawn) (t':=s.toks) (h':=s.heap) (H':=upd H a o) (ch:=[a]) (λ b hb=>?_) (λ b ob _ _ _ e _=>e) (λ b ob _ _ _ e _=>⟨ob.slots,e⟩) (λ b ob hb _ n=>?_)
  (λ b ob _ e=>⟨ob,e⟩) (λ b xs e=>by rw [a0Y (ne b _ e)]; exact e) (λ b ob u e=>by rw [a0Y (ne b _ e)]; exact e) (λ b ps e=>⟨#[],by rw [a0Y (ne b _ e),e]; simp⟩) (λ m hm=>hm) (λ b u e=>?_) I.bare
 ·exact q
 ·have e:b=a:=by simpa using hb
  subst e
  exact ⟨.inr h0,hL,hc,hp⟩
 ·rw [a0Y (λ z=>hb (by simp [z]))]; exact n
 ·by_cases hb:b=a
  ·subst hb; rw [a2T] at e; cases e; exact new
  ·rw [a0Y hb] at e
   exact (I.hok b u e).stay (λ c v _ q=>q) (λ c q=>by rw [a0Y (a0S q hn)]; exact q) λ c xs q=>by rw [a0Y (a0S q hn)]; exact q
def a3R (X:Cx) (N':List Str) (scope:Scope) (C:Addr) (s:Shared) (H:Hp) (fp:List Addr) (xe:Value->Shared->Prop):Cx :=
 { X with N:=N',s₀:=s,H₀:=H,env:=compEnvC scope (clOf X.env.cells scope.names []) C X.env,outer:=X.stack,ex:=fp,fn:=λ _=>false,xe:=xe }
structure BlkOk (X:Cx) (N':List Str) (ix:List (Option Nat)) (scope:Scope):Prop where
 kind:scope.kind = .function
 nocell:∀ y∈scope.names,y.2 ≠ .cell
 locs:∀ y∈scope.names,y.2 = .local->scope.names.lookup y.1=some .local
 free:∀ y∈scope.names,y.2 = .free->X.env.kindOf y.1=some .cell\/X.env.kindOf y.1=some .free
 len:ix.length=N'.length
 cap:∀ (i j:Nat),ix[i]?=some (some j)->∃ x,N'[i]?=some x/\X.N[j]?=some x/\scope.names.lookup x=some .free
def capt (ix:List (Option Nat)) (σ:St):St:=ix.map λ o=>o.bind λ j=>(σ[j]?).join
theorem a5B {env:Env} {x:Str}:∀ {names:List (Str × NameKind)},names.lookup x=some .free->(names.map λ (n,k)=>if (k == NameKind.free && env.scope.kind == .function && env.kindOf n == some .cell) then (n,NameKind.cell) else (n,k)).lookup x=some .cell\/(names.map λ (n,k)=>if (k == NameKind.free && env.scope.kind == .function && env.kindOf n == some .cell) then (n,NameKind.cell) else (n,k)).lookup x=some .free
 | [],h=>by simp at h
 | (n,k)::r,h=>by
  have ih:=@a5B env x r
  simp only [List.map_cons]
  cases hx:x == n with
  | true =>
   simp only [List.lookup_cons,hx] at h
   cases h
   by_cases hc:(NameKind.free == NameKind.free && env.scope.kind == .function && env.kindOf n == some .cell)=true
   ·rw [if_pos hc]; left; simp [List.lookup_cons,hx]
   ·rw [if_neg hc]; right; simp [List.lookup_cons,hx]
  | false =>
   simp only [List.lookup_cons,hx] at h
   by_cases hc:(k == NameKind.free && env.scope.kind == .function && env.kindOf n == some .cell)=true
   ·rw [if_pos hc]; simp only [List.lookup_cons,hx]; exact ih h
   ·rw [if_neg hc]; simp only [List.lookup_cons,hx]; exact ih h
theorem a5C {env:Env} {x:Str}:∀ {names:List (Str × NameKind)},(∀ y∈names,y.2 ≠ .cell)->((names.map λ (n,k)=>if (k == NameKind.free && env.scope.kind == .function && env.kindOf n == some .cell) then (n,NameKind.cell) else (n,k)).lookup x=some .cell\/(names.map λ (n,k)=>if (k == NameKind.free && env.scope.kind == .function && env.kindOf n == some .cell) then (n,NameKind.cell) else (n,k)).lookup x=some .free)->(x,NameKind.free)∈names
 | [],_,h=>by simp at h
 | (n,k)::r,hn,h=>by
  have ih:=@a5C env x r λ y hy=>hn y (List.mem_cons_of_mem _ hy)
  simp only [List.map_cons] at h
  cases hx:x == n with
  | true =>
   have e:x=n:=by simpa using hx
   subst e
   have hk:=hn (x,k) List.mem_cons_self
   by_cases hc:(k == NameKind.free && env.scope.kind == .function && env.kindOf x == some .cell)=true
   ·have hf:k = .free:=by
     simp only [Bool.and_eq_true,beq_iff_eq] at hc
     exact hc.1.1
    subst hf
    exact List.mem_cons_self
   ·rw [if_neg hc] at h
    simp only [List.lookup_cons,hx] at h
    rcases h with h | h
    ·exact absurd (Option.some.inj h) hk
    ·have hf:k = .free:=Option.some.inj h
     subst hf
     exact List.mem_cons_self
  | false =>
   refine List.mem_cons_of_mem _ (ih ?_)
   by_cases hc:(k == NameKind.free && env.scope.kind == .function && env.kindOf n == some .cell)=true
   ·rw [if_pos hc] at h; simpa only [List.lookup_cons,hx] using h
   ·rw [if_neg hc] at h; simpa only [List.lookup_cons,hx] using h
theorem a9C {X:Cx} {pins:List (Addr × Obj)} {σ:St} {H:Hp} {s:Shared} {N':List Str} {ix:List (Option Nat)} {scope:Scope} {i:Nat} {x:Str} {v:V} (B:BlkOk X N' ix scope) (I:Inv X pins σ H s)
  (h1:N'[i]?=some x) (h2:(capt ix σ)[i]?=some (some v)):∃ u c,RelV v u/\(clOf X.env.cells scope.names []).lookup x=some c/\X.env.cells.lookup x=some c/\s.heap.IsCell c (some u) /\
   ((relabel scope X.env).names.lookup x=some .cell\/(relabel scope X.env).names.lookup x=some .free):=by
 have clB:∀ x c,(clOf X.env.cells scope.names []).lookup x=some c->X.env.cells.lookup x=some c:=λ x c h=>a5K scope.names [] (λ _ _ z=>by simp at z) h
 obtain ⟨j,hj,hv⟩:∃ j,ix[i]?=some (some j)/\σ[j]?=some (some v):=by
  unfold capt at h2
  rw [List.getElem?_map] at h2
  cases e:ix[i]? with
  | none=>rw [e] at h2; cases h2
  | some o =>
   rw [e] at h2
   cases o with
   | none=>cases h2
   | some j =>
    refine ⟨j,rfl,?_⟩
    have h2':(σ[j]?).join=some v:=Option.some.inj h2
    cases e2:σ[j]? with
    | none=>rw [e2] at h2'; cases h2'
    | some o2=>rw [e2] at h2'; have:o2=some v:=h2'; rw [this]
 obtain ⟨x',hx1,hx2,hx3⟩:=B.cap i j hj
 have exx:x'=x:=by
  have h1':N'[i]?=some x:=h1
  rw [hx1] at h1'; exact Option.some.inj h1'
 subst exx
 have hmem:=PySem.mem_of_lookup hx3
 have hout:=B.free _ hmem rfl
 obtain ⟨m0,_,hl⟩:=I.loc
 obtain ⟨u,r,l⟩:=hl j x' v hx2 hv (by
  rcases hout with e | e
  ·exact .inr (.inl e)
  ·exact .inr (.inr e))
 rcases l with ⟨k,_⟩ | ⟨k,c,e,z⟩
 ·rcases hout with e | e
  ·rw [e] at k; cases k
  ·rw [e] at k; cases k
 ·obtain ⟨c',hc'⟩:=a7S scope.names [] hmem (I.ok.has x' hout)
  have:=clB x' c' hc'
  rw [e] at this; cases this
  exact ⟨u,c,r,hc',e,z,a5B hx3⟩
theorem b3V {X:Cx} {pins:List (Addr × Obj)} {σ:St} {H:Hp} {s s4:Shared} {N':List Str} {ix:List (Option Nat)} {scope:Scope} {C:Addr} {fp:List Addr} {xe:Value->Shared->Prop} {m:Str->Option Value}
  (B:BlkOk X N' ix scope) (I:Inv X pins σ H s) (hf:∀ b∈fp,FpOk X pins H b) (hC:s.heap.objs.size<=C) (hfs:∀ b∈fp,b < s.heap.objs.size)
  (ho:s4.os=s.os) (hg:s4.gens=s.gens) (hk:∀ b o,s.heap.get? b=some o->s4.heap.get? b=some o) (hns:s4.heap.Ns C m) :
  Inv (a3R X N' scope C s H fp xe) pins (capt ix σ) H s4:=by
 have clB:∀ x c,(clOf X.env.cells scope.names []).lookup x=some c->X.env.cells.lookup x=some c:=λ x c h=>a5K scope.names [] (λ _ _ z=>by simp at z) h
 have hfree:H C=none:=I.hok.fresh hC
 have neC:∀ b o,s.heap.get? b=some o->b≠C:=λ b o e=>Nat.ne_of_lt (Nat.lt_of_lt_of_le (Heap.lt_size e) hC)
 refine ⟨⟨I.ok.mod,B.kind,I.ok.glob,I.ok.blt,hC,λ x y c h1 h2=>I.ok.inj x y c (clB x c h1) (clB y c h2),λ x hx=>?_,λ x c h=>absurd (show false=true from h) Bool.false_ne_true,I.ok.hd,I.ok.frames,.inl rfl,λ b hb=>⟨?_,λ x c e=>?_⟩,I.bs,?_,λ b o e hb=>?_,λ b hb z=>?_,I.stack,I.stkFree⟩,
  ho,?_,Un.kept hk,⟨m,hns,λ i x v h1 h2 h3=>?_⟩,λ x c e=>?_,hfree,λ x c e=>I.freeC x c (clB x c e),λ p hp=>?_,I.hok.kept hk,?_⟩
 ·have hx':=a5C (env:=X.env) (x:=x) B.nocell hx
  exact a7S scope.names [] hx' (I.ok.has x (B.free _ hx' rfl))
 ·exact Nat.ne_of_lt (Nat.lt_of_lt_of_le (hfs b hb) hC)
 ·exact (hf b hb).2.2.2.2.1 x c (clB x c e)
 ·exact Nat.le_trans I.ok.bsz I.sz
 ·obtain ⟨_,_,_,q,_⟩:=hf b hb
  rcases q with q | q
  ·exact I.ok.noex b o e q
  ·exact absurd (Nat.lt_of_lt_of_le (Heap.lt_size (I.ok.bs b o e).1) q) (Nat.lt_irrefl _)
 ·obtain ⟨_,q1,q2,_⟩:=hf b hb
  rcases List.mem_cons.mp (I.stkSub b z) with e | e
  ·exact q1 e
  ·exact q2 e
 ·rw [hg]; exact I.bare
 ·obtain ⟨u,c,r,hc1,_,⟨oc,z1,z2⟩,hk'⟩:=a9C B I h1 h2
  exact ⟨u,r,.inr ⟨hk',c,hc1,oc,hk _ _ z1,z2⟩⟩
 ·obtain ⟨v,oc,h1,h2⟩:=I.cell x c (clB x c e)
  exact ⟨v,oc,hk _ _ h1,h2⟩
 ·obtain ⟨e,n,ne,nf,d⟩:=I.pin p hp
  refine ⟨hk _ _ e,n,neC _ _ e,λ z=>?_,d⟩
  rcases List.mem_cons.mp (I.stkSub p.1 z) with e' | e'
  ·exact ne e'
  ·exact nf e'
 ·show (ix.map _).length=N'.length
  rw [List.length_map]; exact B.len
end L2
namespace L2
open PySem PySem.Spec PyProof.Rows
theorem b0N {prog:Program} {w:World} {A:Around} {R:Result->Shared->Prop} {s:Shared} {elt target iter:Expr} {ifs:List Expr} {scope:Scope} {pos:Pos} {it acc:Value} {env:Env} (Iv:Nat->Shared->Prop)
  (turn:∀ n s,Iv n s->wpAny (model prog w) A (pyNext it) (λ r s₁=>match r with
   | none=>R (.ok .next) s₁
   | some v=>wpAny (model prog w) A (letOwnedTupleGo target it v) (λ _ s₁'=>wpAny (model prog w) A (assign target env v) (λ _ s₂ =>
     wpAny (model prog w) A (forIn ifs true λ c r=>if r=true then do let ok <- isTrue c env (eval c env); pure (ForInStep.yield ok) else pure (ForInStep.yield r)) (λ ok s₃ =>
      if ok=true then wpAny (model prog w) A (eval elt env) (λ x s₄ =>
       wpAny (model prog w) A (call (.builtin "list.append") [acc,x]) (λ _ s₅=>∃ m,m < n/\Iv m s₅) (notedBy (model prog w) A env λ e s'=>R (.error e) s') s₄) (notedBy (model prog w) A env λ e s'=>R (.error e) s') s₃
      else ∃ m,m < n/\Iv m s₃) (notedBy (model prog w) A env λ e s'=>R (.error e) s') s₂) (notedBy (model prog w) A env λ e s'=>R (.error e) s') s₁') (notedBy (model prog w) A env λ e s'=>R (.error e) s') s₁) (notedBy (model prog w) A env λ e s'=>R (.error e) s') s)
  (n:Nat) (h:Iv n s) :
  codeAny (model prog w) A (.compLoop (.ListComp elt [⟨target,iter,ifs,0⟩] scope pos) 0 it acc env) R s:=by
 refine codeAny_loop rfl Iv (λ n s hI=>?_) n h
 show wpAny _ A ((compTurn (.ListComp elt [⟨target,iter,ifs,0⟩] scope pos) 0 it acc env).onRaise (λ x=>do noteFrame x env; theTreesLotGoes x)) _ _ s
 refine wpAny_noted ?_
 rw [compTurn_list]
 refine wpAny_bind (wpAny_standAt (wpAny_bind (wpAny_mono (turn n s hI) (λ r s₁ h₁=>?_) λ _ _ h'=>h')))
 cases r with
 | none=>exact wpAny_pure h₁
 | some v =>
  refine wpAny_bind (wpAny_mono h₁ (λ _ s₁' h₁'=>?_) λ _ _ h'=>h')
  refine wpAny_bind (wpAny_mono h₁' (λ _ s₂ h₂=>wpAny_bind (wpAny_mono h₂ (λ ok s₃ h₃=>?_) λ _ _ h'=>h')) λ _ _ h'=>h')
  cases ok with
  | false=>exact wpAny_pure ⟨rfl,h₃⟩
  | true =>
   exact wpAny_bind (wpAny_bind (wpAny_mono h₃ (λ x s₄ h₄=>wpAny_bind (wpAny_mono h₄ (λ _ s₅ h₅=>wpAny_pure (wpAny_pure ⟨rfl,h₅⟩)) λ _ _ h'=>h')) λ _ _ h'=>h'))
def PTs (X:Cx) (ifs:List Expr) (t:TT):Prop :=
 ∀ (pins:List (Addr × Obj)) (s:Shared) (σ:St) (H:Hp) (Q:Bool->Hp->Prop),Inv X pins σ H s->t σ H Q ->
  wpAny (model X.prog X.w) X.A (forIn ifs true λ c r=>if r=true then do let ok <- isTrue c X.env (eval c X.env); pure (ForInStep.yield ok) else pure (ForInStep.yield r)) (TP X pins σ Q) X.xe s
def c1J:TT:=λ _ H Q=>Q true H
theorem a2J {X:Cx}:PTs X [] c1J:=λ _ _ _ H _ I h=>wpAny_tests_nil ⟨H,I,h⟩
theorem a4D {X:Cx} {c:Expr} {t:TT} (h:PT X c t):PTs X [c] t:=λ pins s σ H Q I hw=>wpAny_tests_one (h pins s σ H Q I hw)
def a4B (ix:List (Option Nat)) (g:TG) (tt:TT) (te:TE) (σ:St) (H1:Hp) (Q:VK) (J:It):Prop:=∃ W:Nat->Nat->List V->Hp->Prop,(∃ m,W 0 m [] H1)/\∀ i m ys H,W i m ys H ->
 (J.stop i H/\ys.length<=sizeLine/\∀ p,H p=none->Q (.ref p) (upd H p (.lst ys))) \/
 (J.go i H/\ys.length<=sizeLine/\∃ N:List V->Hp->Prop,(∀ ys' H',N ys' H'->∃ m',m' < m/\W (i+1) m' ys' H')/\∀ x H',J.yld i H x H'->g x (capt ix σ) H' λ σ2 H2=>tt σ2 H2 λ b H3=>if b=true then te σ2 H3 λ v H4=>N (ys++[v]) H4 else N ys H3)
def tLC (ix:List (Option Nat)) (wi:TI) (g:TG) (tt:TT) (te:TE):TE:=λ σ H Q=>wi σ H λ J H1=>a4B ix g tt te σ H1 Q J
section
variable {X:Cx} {elt tg iter:Expr} {ifs:List Expr} {scope:Scope} {pos:Pos} {N':List Str} {ix:List (Option Nat)} {wi:TI} {g:TG} {tt:TT} {te:TE}
theorem b7V (B:BlkOk X N' ix scope) (hc:X.calm=true)
  (hg:∀ C s H fp xe,PG (a3R X N' scope C s H fp xe) tg g) (ht:∀ C s H fp xe,PTs (a3R X N' scope C s H fp xe) ifs tt) (he:∀ C s H fp xe,PE (a3R X N' scope C s H fp xe) elt te)
  {pins:List (Addr × Obj)} {s2:Shared} {σ:St} {H2:Hp} {Q:VK} {it:Addr} {fp:List Addr} {tn:Nat->Heap->Prop} {J:It} {RR:Value->Addr->Result->Shared->Prop} {E:Value->Shared->Prop}
  (I2:Inv X pins σ H2 s2) (T:Turn X.prog X.w X.K tg J fp it tn) (st2:tn 0 s2.heap) (f2:∀ b∈fp,FpOk X pins H2 b)
  (q:∃ W:Nat->Nat->List V->Hp->Prop,(∃ m,W 0 m [] H2)/\∀ i m ys H,W i m ys H ->
   (J.stop i H/\ys.length<=sizeLine/\∀ p,H p=none->Q (.ref p) (upd H p (.lst ys))) \/
   (J.go i H/\ys.length<=sizeLine/\∃ N:List V->Hp->Prop,(∀ ys' H',N ys' H'->∃ m',m' < m/\W (i+1) m' ys' H')/\∀ x H',J.yld i H x H'->g x (capt ix σ) H' λ σ2 H2=>tt σ2 H2 λ b H3=>if b=true then te σ2 H3 λ v H4=>N (ys++[v]) H4 else N ys H3))
  (hRR:∀ D C s' H' ys,Inv X pins σ (upd H' D (.lst ys)) s'->H' D=none->Q (.ref D) (upd H' D (.lst ys))->(∃ m,s'.heap.Ns C m)->upd H' D (.lst ys) C=none->C≠X.env.locals->X.s₀.heap.objs.size<=C->(∀ x c,X.env.cells.lookup x=some c->c≠C)->(∀ p∈X.pn++pins,p.1≠C)->RR (.ref D) C (.ok .next) s') :
  wpAny (model X.prog X.w) X.A (newList []) (λ acc s₃=>wpAny (model X.prog X.w) X.A (newFunctionEnv scope X.env.globals (clOf X.env.cells scope.names []) [] X.env.qual none .none (some X.env)) (λ cenv s₄ =>
   codeAny (model X.prog X.w) X.A (.compStart (.ListComp elt [⟨tg,iter,ifs,0⟩] scope pos) 0 (.ref it) acc { cenv with scope:=relabel scope X.env }) (RR acc cenv.locals) s₄) E s₃) E s2:=by
 have hfs:∀ b∈fp,b < s2.heap.objs.size:=λ b hb=>by
  obtain ⟨o,e,_⟩:=T.obj _ _ st2 b hb
  exact Heap.lt_size e
 refine wpAny_newObj_type (wpAny_newFunctionEnv B.nocell (by intro y hy; simp at hy) (λ h₁ hns₁ hsb₁=>?_) B.kind)
 dsimp only at hns₁ hsb₁ ⊢
 generalize hH3:s2.heap.push { cls:=.type "list", dict:=none,data:=.seq ([]:List Value).toArray }=H3 at hns₁ hsb₁ ⊢
 have hC:H3.objs.size=s2.heap.objs.size+1:=by rw [<- hH3,Heap.size_push]
 have hDC:s2.heap.objs.size≠H3.objs.size:=by rw [hC]; exact Nat.ne_of_lt (Nat.lt_succ_self _)
 have below:∀ b,b < s2.heap.objs.size->b≠H3.objs.size/\b≠s2.heap.objs.size:=λ b hb=>⟨by rw [hC]; exact Nat.ne_of_lt (Nat.lt_succ_of_lt hb),Nat.ne_of_lt hb⟩
 have old:∀ b o,s2.heap.get? b=some o->h₁.get? b=some o:=λ b o e=>hsb₁.extBut b o (below b (Heap.lt_size e)).1 (Heap.get?_push_of_some _ (hH3 ▸ Heap.get?_push_of_some _ e))
 have hacc:h₁.get? s2.heap.objs.size=some { cls:=.type "list", data:=.seq ([]:List Value).toArray 0 }:=hsb₁.extBut _ _ hDC (Heap.get?_push_of_some _ (hH3 ▸ Heap.get?_push_size _ rfl))
 have hCle:s2.heap.objs.size<=H3.objs.size:=by rw [hC]; exact Nat.le_succ _
 generalize hD:s2.heap.objs.size=D at *
 generalize hCC:H3.objs.size=C at *
 obtain ⟨W,⟨m0,w0⟩,turn⟩:=q
 let xe:Value->Shared->Prop:=notedBy (model X.prog X.w) X.A (compEnvC scope (clOf X.env.cells scope.names []) C X.env) λ e s'=>RR (.ref D) C (.error e) s'
 let X':Cx:=a3R X N' scope C s2 H2 fp xe
 have DL:D ∉ frs X.stack:=λ z=>by
  rcases List.mem_cons.mp (I2.stkSub D z) with e | e
  ·exact absurd I2.lt (by rw [<- e,hD]; exact Nat.lt_irrefl _)
  ·exact I2.nofs (by rw [hD]; exact Nat.le_refl _) e
 have cellLt:∀ x c,X.env.cells.lookup x=some c->c < D:=λ x c e=>by
  obtain ⟨v,oc,h,_⟩:=I2.cell x c e
  rw [<- hD]; exact Heap.lt_size h
 have clB:∀ x c,(clOf X.env.cells scope.names []).lookup x=some c->X.env.cells.lookup x=some c:=λ x c h=>a5K scope.names [] (λ _ _ z=>by simp at z) h
 have pinLt:∀ p∈X.pn++pins,p.1 < D:=λ p hp=>by rw [<- hD]; exact Heap.lt_size (I2.pin p hp).1
 have fpX:∀ {pl:List (Addr × Obj)} {H':Hp},(∀ b∈fp,H' b=none)->(∀ p∈pl,p∈pins\/p.1=D)->∀ b∈fp,FpOk X' pl H' b:=λ {pl H'} hn hpl b hb=>by
  obtain ⟨_,q1,q2,q3,q4,q5⟩:=f2 b hb
  refine ⟨hn b hb,(below b (hfs b hb)).1,λ z=>?_,.inl hb,λ x c e=>q4 x c (clB x c e),λ p hp=>?_⟩
  ·rcases List.mem_cons.mp (I2.stkSub b z) with e | e
   ·exact q1 e
   ·exact q2 e
  ·rcases List.mem_append.mp hp with hp | hp
   ·exact q5 p (List.mem_append_left _ hp)
   ·rcases hpl p hp with z | z
    ·exact q5 p (List.mem_append_right _ z)
    ·rw [z]; exact Ne.symm (below b (hfs b hb)).2
 have loop:∀ s₃:Shared,s₃={ s2 with heap:=h₁,toks:=s2.toks+([]:List (Str × Value)).length } ->
   codeAny (model X.prog X.w) X.A (.compLoop (.ListComp elt [⟨tg,iter,ifs,0⟩] scope pos) 0 (.ref it) (.ref D) (compEnvC scope (clOf X.env.cells scope.names []) C X.env)) (RR (.ref D) C) s₃:=by
  rintro s₃ rfl
  refine b0N (λ n s'=>∃ i H' ys its k,Inv X' pins (capt ix σ) H' s'/\tn i s'.heap/\(∀ b∈fp,H' b=none)/\H' D=none/\s'.heap.get? D=some { cls:=.type "list", data:=.seq (List.toArray its) k }/\Vals ys its/\W i n ys H') ?_ m0
   ⟨0,H2,[],[],0,b3V B I2 f2 (by rw [hD]; exact hCle) (λ b hb=>by rw [hD]; exact hfs b hb) rfl rfl old hns₁,T.keep _ _ _ st2 λ b _ o e=>old b o e,λ b hb=>(f2 b hb).1,I2.hok.fresh (by rw [hD]; exact Nat.le_refl _),hacc,.nil,w0⟩
  rintro n s' ⟨i,H',ys,its,k,I',st',fr',hDn,hDo,rv,w'⟩
  have hDX:∀ v,({ cls:=.type "list", data:=.seq (List.toArray its) k }:Obj).data ≠ .cell v:=λ v z=>by
   have z':Data.seq (List.toArray its) k=Data.cell v:=z
   cases z'
  have pinD:∀ {σ':St} {H'':Hp} {s'':Shared} {its':List Value} {k':Nat},Inv X' pins σ' H'' s''->H'' D=none->s''.heap.get? D=some { cls:=.type "list", data:=.seq (List.toArray its') k' }->Inv X' (pins++[(D,{ cls:=.type "list", data:=.seq (List.toArray its') k' })]) σ' H'' s'':=λ {σ' H'' s'' its' k'} J hn ho =>
   J.pins_of λ p hp=>(List.mem_append.mp hp).elim (λ z=>J.pin p (List.mem_append_right _ z)) λ z=>by
    have e:p=(D,{ cls:=.type "list", data:=.seq (List.toArray its') k' }):=by simpa using z
    subst e
    exact ⟨ho,hn,hDC,DL,λ v z=>by
     have z':Data.seq (List.toArray its') k'=Data.cell v:=z
     cases z'⟩
  have plD:∀ {its':List Value} {k':Nat},∀ p∈pins++[(D,({ cls:=.type "list", data:=.seq (List.toArray its') k' }:Obj))],p∈pins\/p.1=D:=λ {its' k'} p hp=>(List.mem_append.mp hp).elim .inl λ z=>by
   have e:p=(D,{ cls:=.type "list", data:=.seq (List.toArray its') k' }):=by simpa using z
   subst e
   exact .inr rfl
  have unD:∀ {pl:List (Addr × Obj)} {σ':St} {H'':Hp} {s'':Shared},Inv X' (pins++pl) σ' H'' s''->Inv X' pins σ' H'' s'':=λ J=>J.pins_of λ p hp=>J.pin p (List.mem_append_right _ (List.mem_append_left _ hp))
  have I'p:=pinD I' hDn hDo
  rcases turn i n ys H' w' with ⟨stop,hsz,fin⟩ | ⟨go,hsz,N,hN,step⟩
  ·refine wpAny_mono (T.done X' rfl rfl rfl hc i _ s' (capt ix σ) H' X'.xe I'p (fpX fr' plD) st' stop) (λ r s5 ⟨hr,I5⟩=>?_) λ _ _ z=>z
   subst hr
   have hDo5:s5.heap.get? D=some { cls:=.type "list", data:=.seq (List.toArray its) k }:=(I5.pin (D,_) (List.mem_append_right _ (List.mem_append_right _ (List.mem_singleton.mpr rfl)))).1
   have sz0:X.s₀.heap.objs.size<=D:=by rw [<- hD]; exact I2.sz
   have J:Inv X pins σ H' s5:=I2.call' (ch:=fp) I5.os I5.base I5.hok I5.bare λ b hb=>by
    obtain ⟨_,q1,_,q3,q4,q5⟩:=f2 b hb
    exact ⟨q3,q1,q4,q5⟩
   have nL:X.env.locals < D:=by rw [<- hD]; exact I2.lt
   have J2:Inv X pins σ (upd H' D (.lst ys)) s5:=Inv.track J hDn sz0 (Nat.ne_of_gt nL) (λ x c e=>Nat.ne_of_lt (cellLt x c e)) (λ p hp=>Nat.ne_of_lt (pinLt p hp)) ⟨hsz,its,k,rv,hDo5⟩
   obtain ⟨mC,hnC,_⟩:=I5.loc
   have DltC:D < C:=Nat.lt_of_le_of_ne hCle hDC
   refine hRR D C s5 H' ys J2 hDn (fin D hDn) ⟨mC,hnC⟩ ?_ (Nat.ne_of_gt (Nat.lt_trans nL DltC)) (Nat.le_trans sz0 hCle) (λ x c e=>Nat.ne_of_lt (Nat.lt_trans (cellLt x c e) DltC)) λ p hp=>Nat.ne_of_lt (Nat.lt_trans (pinLt p hp) DltC)
   rw [a0Y (Ne.symm hDC)]
   exact I5.free
  ·refine wpAny_mono (T.item X' rfl rfl rfl hc i _ s' (capt ix σ) H' X'.xe I'p (fpX fr' plD) st' go) (λ r s5 ⟨u,hr,h5⟩=>?_) λ _ _ z=>z
   subst hr
   refine wpAny_mono h5 (λ _ s6 ⟨x,H6,I6,r6,y6,st6,fr6⟩=>?_) λ _ _ z=>z
   have I6':=I6.pinned (fpX fr6 plD) (T.obj _ _ st6)
   refine wpAny_mono (hg C s2 H2 fp xe _ s6 (capt ix σ) H6 x u _ I6' r6 (step x H6 y6)) (λ _ s7 ⟨σ7,H7,I7,q7⟩=>?_) λ _ _ z=>z
   have after:∀ {σ8:St} {H8:Hp} {s8:Shared},Inv X' ((pins++[(D,{ cls:=.type "list", data:=.seq (List.toArray its) k })])++a4H fp s6.heap) σ8 H8 s8 ->
     Inv X' pins (capt ix σ) H8 s8/\tn (i+1) s8.heap/\(∀ b∈fp,H8 b=none)/\H8 D=none/\s8.heap.get? D=some { cls:=.type "list", data:=.seq (List.toArray its) k }:=λ {σ8 H8 s8} I8=>by
    have pD:=I8.pin (D,{ cls:=.type "list", data:=.seq (List.toArray its) k }) (List.mem_append_right _ (List.mem_append_left _ (List.mem_append_right _ (List.mem_singleton.mpr rfl))))
    have fpP:∀ b∈fp,∀ o,s6.heap.get? b=some o->s8.heap.get? b=some o/\H8 b=none:=λ b hb o e=>by
     have z:=I8.pin (b,o) (List.mem_append_right _ (List.mem_append_right _ (a3B hb e)))
     exact ⟨z.1,z.2.1⟩
    refine ⟨⟨I8.ok,I8.os,I8.bare,I8.base,?_,I8.cell,I8.free,I8.freeC,λ p hp=>?_,I8.hok,?_⟩,T.keep _ _ _ st6 λ b hb o e=>(fpP b hb o e).1,λ b hb=>?_,pD.2.1,pD.1⟩
    ·obtain ⟨m8,hn8,_⟩:=I8.loc
     refine ⟨m8,hn8,λ i x v h1 h2 h3=>?_⟩
     obtain ⟨u,c,r,hc1,hc2,⟨oc,z1,z2⟩,hk'⟩:=a9C B I2 h1 h2
     obtain ⟨sl,e8⟩:=I8.base.any z1 (I2.freeC x c hc2) λ z=>(f2 c z).2.2.2.2.1 x c hc2 rfl
     exact ⟨u,r,.inr ⟨hk',c,hc1,_,e8,z2⟩⟩
    ·rcases List.mem_append.mp hp with hp | hp
     ·exact I8.pin p (List.mem_append_left _ hp)
     ·exact I8.pin p (List.mem_append_right _ (List.mem_append_left _ (List.mem_append_left _ hp)))
    ·show (capt ix σ).length=N'.length
     unfold capt
     rw [List.length_map]; exact B.len
    ·obtain ⟨o,e,_⟩:=T.obj _ _ st6 b hb
     exact (fpP b hb o e).2
   refine wpAny_mono (ht C s2 H2 fp xe _ s7 σ7 H7 _ I7 q7) (λ b s8 ⟨H8,I8,q8⟩=>?_) λ _ _ z=>z
   cases b with
   | false =>
    rw [if_neg Bool.false_ne_true] at q8 ⊢
    obtain ⟨m',hm,w8⟩:=hN _ _ q8
    obtain ⟨J,tn8,f8,d8,o8⟩:=after I8
    exact ⟨m',hm,i+1,H8,ys,its,k,J,tn8,f8,d8,o8,rv,w8⟩
   | true =>
    rw [if_pos rfl] at q8 ⊢
    refine wpAny_mono (he C s2 H2 fp xe _ s8 σ7 H8 _ I8 q8) (λ v s9 ⟨y,H9,I9,r9,q9⟩=>?_) λ _ _ z=>z
    obtain ⟨J,tn9,f9,d9,o9⟩:=after I9
    obtain ⟨m',hm,w9⟩:=hN _ _ q9
    refine append_at (hsz:=by rw [List.size_toArray,<- rv.length]; exact hsz) o9 λ h10 hs10 hD10=>?_
    refine ⟨m',hm,i+1,H9,ys++[y],its++[v],k+1,?_,T.keep _ _ _ tn9 λ b hb o e=>hs10.extBut b o (λ z=>?_) e,f9,d9,by rw [List.push_toArray] at hD10; exact hD10,rv.append (.cons r9 .nil),w9⟩
    ·refine J.turned (t':=s9.toks) (it:=D) (λ b o hb e=>hs10.extBut b o hb e) d9 hDC (.inr (by show s2.heap.objs.size<=D; rw [hD]; exact Nat.le_refl _)) (λ x c e=>Nat.ne_of_lt (cellLt x c (clB x c e))) λ p hp=>Nat.ne_of_lt (pinLt p hp)
    ·exact (below b (hfs b hb)).2 z
 exact codeAny_compStart_list (loop _ rfl) (T.self X.A 0 _ _ _ (T.keep _ _ _ st2 λ b _ o e=>old b o e) (loop _ rfl))
end
end L2
namespace L2
open PySem PySem.Spec PyProof.Rows
def a5L (outer:Scope) (N N':List Str) (ix:List (Option Nat)) (scope:Scope):Bool :=
 (scope.kind == .function) && (scope.names.all λ y=>y.2 != .cell) && (scope.names.all λ y=>y.2 != .local || scope.names.lookup y.1 == some .local) &&
 (scope.names.all λ y=>y.2 != .free || outer.names.lookup y.1 == some .cell || outer.names.lookup y.1 == some .free) && (ix.length == N'.length) &&
 (List.range ix.length).all λ i=>match ix[i]? with
  | some (some j)=>(match N'[i]? with | some x=>N[j]? == some x && scope.names.lookup x == some .free | none=>false)
  | _=>true
theorem b7W {X:Cx} {N':List Str} {ix:List (Option Nat)} {scope:Scope} (h:a5L X.env.scope X.N N' ix scope=true):BlkOk X N' ix scope:=by
 unfold a5L at h
 simp only [Bool.and_eq_true] at h
 obtain ⟨⟨⟨⟨⟨h1,h2⟩,h3⟩,h4⟩,h5⟩,h6⟩:=h
 refine ⟨?_,λ y hy=>?_,λ y hy hl=>?_,λ y hy hl=>?_,by simpa using h5,λ i j e=>?_⟩
 ·simpa using h1
 ·have:=List.all_eq_true.mp h2 y hy
  simpa using this
 ·have:=List.all_eq_true.mp h3 y hy
  rw [hl] at this
  simpa using this
 ·have:=List.all_eq_true.mp h4 y hy
  rw [hl] at this
  simp at this
  exact this
 ·have hi:i < ix.length:=(List.getElem?_eq_some_iff.mp e).1
  have:=List.all_eq_true.mp h6 i (List.mem_range.mpr hi)
  rw [e] at this
  simp only at this
  cases q:N'[i]? with
  | none=>rw [q] at this; simp at this
  | some x =>
   rw [q] at this
   simp at this
   exact ⟨x,rfl,this.1,this.2⟩
section
variable {X:Cx} {elt tg iter:Expr} {ifs:List Expr} {scope:Scope} {pos:Pos} {N':List Str} {ix:List (Option Nat)} {wi:TI} {g:TG} {tt:TT} {te:TE}
theorem a6M (N':List Str) (ix:List (Option Nat)) (hB:a5L X.env.scope X.N N' ix scope=true) (hc:X.calm=true) (hi:PI X tg iter wi)
  (hg:∀ C s H fp xe,PG (a3R X N' scope C s H fp xe) tg g) (ht:∀ C s H fp xe,PTs (a3R X N' scope C s H fp xe) ifs tt) (he:∀ C s H fp xe,PE (a3R X N' scope C s H fp xe) elt te)
  (hs:∀ x,foldedSetIterable iter X.env x=pure x:=by intro _; rfl):PE X (.ListComp elt [⟨tg,iter,ifs,0⟩] scope pos) (tLC ix wi g tt te):=by
 intro pins s σ H Q I h
 have B:=b7W hB
 rw [eval_ListComp]
 refine wpAny_comprehension_free (use:=none) rfl hs (a7A λ y hy hf=>I.ok.has y.1 (B.free y hy hf)) B.kind B.locs (thn (hi pins s σ H _ I h) λ v s1 h1=>thn h1 λ itv s2 h2=>?_)
 obtain ⟨it,fp,tn,J,H2,e,I2,T,st2,f2,q⟩:=h2
 subst e
 refine b7V B hc hg ht he I2 T st2 f2 q ?_
 intro D C s' H' ys J2 hDn hq ⟨m,hn⟩ hC1 hC2 hC3 hC4 hC5
 refine ⟨m,hn,λ h' hs'=>?_⟩
 exact ⟨.ref D,_,J2.turned (t':=s'.toks) (it:=C) (λ b o hb e=>hs'.extBut b o hb e) hC1 hC2 (.inr hC3) hC4 hC5,rfl,hq⟩
theorem a2M {i:Nat} {x:Str} {pos' spos:Pos} (N':List Str) (ix:List (Option Nat)) (hN:X.N.Nodup) (hi':X.N[i]?=some x) (hx:X.env.scope.names.lookup x=some .local)
  (hB:a5L X.env.scope X.N N' ix scope=true) (hc:X.calm=true) (hi:PI X tg iter wi)
  (hg:∀ C s H fp xe,PG (a3R X N' scope C s H fp xe) tg g) (ht:∀ C s H fp xe,PTs (a3R X N' scope C s H fp xe) ifs tt) (he:∀ C s H fp xe,PE (a3R X N' scope C s H fp xe) elt te)
  (hsw:swapsWith (.ListComp elt [⟨tg,iter,ifs,0⟩] scope pos) (some (.Name x pos')) spos.line X.env=pure true)
  (hs:∀ x,foldedSetIterable iter X.env x=pure x:=by intro _; rfl):PS X (.Assign [.Name x pos'] (.ListComp elt [⟨tg,iter,ifs,0⟩] scope pos) spos) (tAsg (tLC ix wi g tt te) (b3D i)):=by
 intro pins s σ H D0 I h
 have B:=b7W hB
 rw [exec_Assign_Name_used _ _ _ _ hsw]
 refine wpAny_bind (wpAny_standAt (wpAny_bind ?_))
 show wpAny _ X.A (do let _ <- comprehension (.ListComp elt [⟨tg,iter,ifs,0⟩] scope pos) scope X.env _ (newList []) false (eval iter X.env) (some (assign (.Name x pos') X.env))) _ _ s
 refine wpAny_bind (wpAny_mono (wpAny_comprehension_free (use:=some (assign (.Name x pos') X.env)) (Q:=λ _ s'=>SP X pins D0 .next s') rfl hs (a7A λ y hy hf=>I.ok.has y.1 (B.free y hy hf)) B.kind B.locs
  (thn (hi pins s σ H _ I h) λ v s1 h1=>thn h1 λ itv s2 h2=>?_)) (λ _ s' hq=>wpAny_pure (wpAny_pure hq)) λ _ _ e=>e)
 obtain ⟨it,fp,tn,J,H2,e,I2,T,st2,f2,q⟩:=h2
 subst e
 refine b7V (Q:=λ x H1=>b3D i x σ H1 D0.nx) B hc hg ht he I2 T st2 f2 q ?_
 intro D C s' H' ys J2 hDn hq ⟨m,hn⟩ hC1 hC2 hC3 hC4 hC5
 show wpAny _ X.A (assign (.Name x pos') X.env (.ref D)) _ _ _
 refine wpAny_assign_Name (a8L (v:=.ref D) J2 hN hi' (.inl hx) rfl (λ s'' I'' hsb=>?_) (.inr hx))
 obtain ⟨a,hsb,ha⟩:=hsb
 have aC:C≠a:=by
  rcases ha with rfl | ha
  ·exact hC2
  ·exact λ z=>hC4 x a ha z.symm
 refine ⟨m,hn.sameBut hsb aC,λ h'' hs''=>?_⟩
 exact ⟨_,_,I''.turned (t':=s''.toks) (it:=C) (λ b o hb e=>hs''.extBut b o hb e) hC1 hC2 (.inr hC3) hC4 hC5,hq⟩
end
section
variable {K:Φρ} {a:Addr} {xs:List V} {ix:List (Option Nat)} {g:TG} {tt:TT} {te:TE} {σ:St} {H1:Hp} {Q:VK}
theorem b0O (Pv:Nat->List V->Hp->Prop) (h0:Pv 0 [] H1) (hl:∀ i ys H,i<=xs.length->Pv i ys H->SqL K H a xs/\ys.length<=sizeLine)
  (hs:∀ i x ys H,xs[i]?=some x->Pv i ys H->g x (capt ix σ) H λ σ2 H2=>tt σ2 H2 λ b H3=>if b=true then te σ2 H3 λ v H4=>Pv (i+1) (ys++[v]) H4 else Pv (i+1) ys H3)
  (hd:∀ ys H,Pv xs.length ys H->∀ p,H p=none->Q (.ref p) (upd H p (.lst ys))):a4B ix g tt te σ H1 Q (Itl K a):=by
 refine ⟨λ i m ys H=>m=xs.length - i/\i<=xs.length/\Pv i ys H,⟨xs.length,by simp,Nat.zero_le _,h0⟩,?_⟩
 rintro i m ys H ⟨rfl,hi,p⟩
 obtain ⟨q,z⟩:=hl i ys H hi p
 by_cases hlt:i < xs.length
 ·refine .inr ⟨⟨xs,xs[i],q,by simp [hlt]⟩,z,Pv (i+1),λ ys' H' p'=>⟨xs.length - (i+1),by omega,rfl,hlt,p'⟩,λ x H' y=>?_⟩
  obtain ⟨e,y⟩:=y
  subst e
  exact hs i x ys _ (y xs q) p
 ·have e:i=xs.length:=by omega
  subst e
  exact .inl ⟨⟨xs,q,Nat.le_refl _⟩,z,hd ys H p⟩
theorem b6G {lo:Int} {n:Nat} (Pv:Nat->List V->Hp->Prop) (h0:Pv 0 [] H1) (hl:∀ i ys H,i<=n->Pv i ys H->ys.length<=sizeLine)
  (hs:∀ i ys H,i < n->Pv i ys H->g (.int (lo+i)) (capt ix σ) H λ σ2 H2=>tt σ2 H2 λ b H3=>if b=true then te σ2 H3 λ v H4=>Pv (i+1) (ys++[v]) H4 else Pv (i+1) ys H3)
  (hd:∀ ys H,Pv n ys H->∀ p,H p=none->Q (.ref p) (upd H p (.lst ys))):a4B ix g tt te σ H1 Q (Itr lo n):=by
 refine ⟨λ i m ys H=>m=n - i/\i<=n/\Pv i ys H,⟨n,by simp,Nat.zero_le _,h0⟩,?_⟩
 rintro i m ys H ⟨rfl,hi,p⟩
 have z:=hl i ys H hi p
 by_cases hlt:i < n
 ·refine .inr ⟨hlt,z,Pv (i+1),λ ys' H' p'=>⟨n - (i+1),by omega,rfl,hlt,p'⟩,λ x H' y=>?_⟩
  obtain ⟨e,y⟩:=y
  subst e y
  exact hs i ys _ hlt p
 ·have e:i=n:=by omega
  subst e
  exact .inl ⟨Nat.le_refl _,z,hd ys H p⟩
end
theorem c2Z {K:Φρ} {a:Addr} {xs:List V} {ix:List (Option Nat)} {g:TG} {tt:TT} {te:TE} {σ:St} {H1:Hp} {Q:VK} (f:V->Option V) (hx:SqL K H1 a xs) (hz:xs.length<=sizeLine)
  (hs:∀ x H (N:Option V->Hp->Prop),x∈xs->Same H1 H->(∀ H',Same H1 H'->N (f x) H')->g x (capt ix σ) H λ σ2 H2=>tt σ2 H2 λ b H3=>if b=true then te σ2 H3 λ v H4=>N (some v) H4 else N none H3)
  (hd:∀ H p,Same H1 H->H p=none->Q (.ref p) (upd H p (.lst (xs.filterMap f)))):a4B ix g tt te σ H1 Q (Itl K a):=by
 refine b0O (K:=K) (a:=a) (xs:=xs) (λ i ys H=>ys=(xs.take i).filterMap f/\Same H1 H) ⟨rfl,Same.refl _⟩ (λ i ys H hi ⟨e,s⟩=>⟨s.seq hx,?_⟩) (λ i x ys H hi ⟨e,s⟩=>?_) λ ys H ⟨e,s⟩ p hp=>?_
 ·subst e
  refine Nat.le_trans (List.length_filterMap_le _ _) (Nat.le_trans ?_ hz)
  rw [List.length_take]; exact Nat.min_le_right _ _
 ·have hm:x∈xs:=List.mem_of_getElem? hi
  obtain ⟨hil,hix⟩:=List.getElem?_eq_some_iff.mp hi
  have et:xs.take (i+1)=xs.take i++[x]:=by rw [List.take_succ_eq_append_getElem hil,hix]
  refine hs x H (λ o H'=>match o with | some v=>(ys++[v]=(xs.take (i+1)).filterMap f/\Same H1 H') | none=>(ys=(xs.take (i+1)).filterMap f/\Same H1 H')) hm s λ H' s'=>?_
  cases ef:f x with
  | some v =>
   refine ⟨?_,s'⟩
   rw [e,et,List.filterMap_append]
   simp [ef]
  | none =>
   refine ⟨?_,s'⟩
   rw [e,et,List.filterMap_append]
   simp [ef]
 ·subst e
  rw [List.take_length]
  exact hd H p s hp
theorem c1K {lo:Int} {n:Nat} {ix:List (Option Nat)} {g:TG} {tt:TT} {te:TE} {σ:St} {H1:Hp} {Q:VK} (f:Nat->Option V) (hz:n<=sizeLine)
  (hs:∀ i H (N:Option V->Hp->Prop),i < n->Same H1 H->(∀ H',Same H1 H'->N (f i) H')->g (.int (lo+i)) (capt ix σ) H λ σ2 H2=>tt σ2 H2 λ b H3=>if b=true then te σ2 H3 λ v H4=>N (some v) H4 else N none H3)
  (hd:∀ H p,Same H1 H->H p=none->Q (.ref p) (upd H p (.lst ((List.range n).filterMap f)))):a4B ix g tt te σ H1 Q (Itr lo n):=by
 refine b6G (λ i ys H=>ys=(List.range i).filterMap f/\Same H1 H) ⟨rfl,Same.refl _⟩ (λ i ys H hi ⟨e,s⟩=>?_) (λ i ys H hi ⟨e,s⟩=>?_) λ ys H ⟨e,s⟩ p hp=>?_
 ·subst e
  refine Nat.le_trans (List.length_filterMap_le _ _) (Nat.le_trans ?_ hz)
  rw [List.length_range]; exact hi
 ·refine hs i H (λ o H'=>match o with | some v=>(ys++[v]=(List.range (i+1)).filterMap f/\Same H1 H') | none=>(ys=(List.range (i+1)).filterMap f/\Same H1 H')) hi s λ H' s'=>?_
  cases ef:f i with
  | some v =>
   refine ⟨?_,s'⟩
   rw [e,List.range_succ,List.filterMap_append]
   simp [ef]
  | none =>
   refine ⟨?_,s'⟩
   rw [e,List.range_succ,List.filterMap_append]
   simp [ef]
 ·subst e
  exact hd H p s hp
end L2
namespace L2
open PySem PySem.Spec PyProof.Rows
mutual
inductive IsD (K:Φρ) (H:Hp):V->PyData->Prop
 | non:IsD K H .non .none
 | bl (b:Bool):IsD K H (.bl b) (.bool b)
 | int (i:Int):IsD K H (.int i) (.int i)
 | str (x:Str):IsD K H (.str x) (.str x)
 | lst {a:Addr} {xs:List V} {ds:List PyData}:SqL K H a xs->IsDs K H xs ds->IsD K H (.ref a) (.list ds)
 | tup {a:Addr} {xs:List V} {ds:List PyData}:SqT K H a xs->IsDs K H xs ds->IsD K H (.ref a) (.tuple ds)
inductive IsDs (K:Φρ) (H:Hp):List V->List PyData->Prop
 | nil:IsDs K H [] []
 | cons {x:V} {xs:List V} {d:PyData} {ds:List PyData}:IsD K H x d->IsDs K H xs ds->IsDs K H (x::xs) (d::ds)
end
theorem Same.tupq {K:Φρ} {H H':Hp} {a:Addr} {xs:List V} (e:Same H H') (h:SqT K H a xs):SqT K H' a xs:=by
 rcases h with (h | ⟨o,h⟩) | h
 ·exact .inl (.inl (e _ _ h))
 ·exact .inl (.inr ⟨o,e _ _ h⟩)
 ·exact .inr h
mutual
theorem IsD.reads {X:Cx} {pins:List (Addr × Obj)} {σ:St} {H:Hp} {s:Shared} (I:Inv X pins σ H s):∀ {v:V} {d:PyData} {u:Value},IsD X.K H v d->RelV v u->∃ as,Reads s.heap u d as
 | _,_,_,.non,r=>by cases r; exact ⟨_,.none⟩
 | _,_,_,.bl b,r=>by cases r; exact ⟨_,.bool b⟩
 | _,_,_,.int i,r=>by obtain ⟨t,rfl⟩:=r; exact ⟨_,.int i t⟩
 | _,_,_,.str x,r=>by obtain ⟨t,rfl⟩:=r; exact ⟨_,.str x t⟩
 | _,_,_,.lst h q,r=>by
  cases r
  obtain ⟨its,rv,⟨o,n,e,c,_,d⟩,_⟩:=I.list h
  obtain ⟨as,ra⟩:=IsDs.reads I q rv
  exact ⟨_,.list e c d (by simpa using ra)⟩
 | _,_,_,.tup h q,r=>by
  cases r
  obtain ⟨its,rv,⟨o,e,c,n,d⟩,_⟩:=I.tuple h
  obtain ⟨as,ra⟩:=IsDs.reads I q rv
  exact ⟨_,.tuple e c d (by simpa using ra)⟩
theorem IsDs.reads {X:Cx} {pins:List (Addr × Obj)} {σ:St} {H:Hp} {s:Shared} (I:Inv X pins σ H s):∀ {xs:List V} {ds:List PyData} {us:List Value},IsDs X.K H xs ds->Vals xs us->∃ as,ReadsAll s.heap us ds as
 | _,_,_,.nil,.nil=>⟨_,.nil⟩
 | _,_,_,.cons h q,.cons r t=>by
  obtain ⟨as,ra⟩:=IsD.reads I h r
  obtain ⟨bs,rb⟩:=IsDs.reads I q t
  exact ⟨_,.cons ra rb⟩
end
theorem IsDs.ints {K:Φρ} {H:Hp}:∀ ns:List Int,IsDs K H (ns.map V.int) (ns.map PyData.int)
 | []=>.nil
 | n::ns=>.cons (.int n) (IsDs.ints ns)
section
variable {X:Cx}
def rEqD (K:Φρ) (neg:Bool):R2:=λ x y H Q=>∃ d d',IsD K H x d/\IsD K H y d'/\SeqAt.shaped d=true/\SeqAt.shaped d'=true/\Q (.bl (if neg then !PyData.eqv d d' else PyData.eqv d d')) H
theorem c1L (hu:X.A.units+64 < cLine):OpR X (compareOp .Eq) (rEqD X.K false):=by
 intro pins s σ H x y v u Q I rx ry h
 obtain ⟨d,d',h1,h2,s1,s2,q⟩:=h
 obtain ⟨as,ra⟩:=h1.reads I rx
 obtain ⟨bs,rb⟩:=h2.reads I ry
 exact eq_dataH ra rb s1 s2 hu ⟨.bl _,H,I,rfl,q⟩
theorem c1M (hu:X.A.units+64 < cLine):OpR X (compareOp .NotEq) (rEqD X.K true):=by
 intro pins s σ H x y v u Q I rx ry h
 obtain ⟨d,d',h1,h2,s1,s2,q⟩:=h
 obtain ⟨as,ra⟩:=h1.reads I rx
 obtain ⟨bs,rb⟩:=h2.reads I ry
 exact ne_dataH ra rb s1 s2 hu ⟨.bl _,H,I,rfl,q⟩
def rInD (K:Φρ) (neg:Bool):R2:=λ x y H Q=>∃ d ds,IsD K H x d/\IsD K H y (.list ds)/\SeqAt.shaped d=true/\SeqAt.shaped (.list ds)=true/\Q (.bl (if neg then !ds.any (λ e=>PyData.eqv e d) else ds.any (λ e=>PyData.eqv e d))) H
theorem c1N (hu:X.A.units+65 < cLine):OpR X (compareOp .In) (rInD X.K false):=by
 intro pins s σ H x y v u Q I rx ry h
 obtain ⟨d,ds,h1,h2,s1,s2,q⟩:=h
 obtain ⟨as,ra⟩:=h1.reads I rx
 obtain ⟨bs,rb⟩:=h2.reads I ry
 exact SeqAt.in_list_reads rb ra (SeqAt.canLay_of_shaped s2) (SeqAt.canLay_of_shaped s1) (room_in_shaped s1 hu) ⟨.bl _,H,I,rfl,q⟩
theorem b3W (hu:X.A.units+65 < cLine):OpR X (compareOp .NotIn) (rInD X.K true):=by
 intro pins s σ H x y v u Q I rx ry h
 obtain ⟨d,ds,h1,h2,s1,s2,q⟩:=h
 obtain ⟨as,ra⟩:=h1.reads I rx
 obtain ⟨bs,rb⟩:=h2.reads I ry
 exact SeqAt.notIn_list_reads rb ra (SeqAt.canLay_of_shaped s2) (SeqAt.canLay_of_shaped s1) (room_in_shaped s1 hu) ⟨.bl _,H,I,rfl,q⟩
def clsV:V->Option Value
 | .ty n=>some (.type n)
 | .ref a=>some (.ref a)
 | _=>none
theorem b1P {c:V} {cv u:Value} (h:clsV c=some cv) (r:RelV c u):u=cv:=by
 cases c with
 | ty n=>cases h; exact r
 | ref a=>cases h; exact r
 | _=>cases h
theorem b0P:CallR X (.builtin "isinstance") (λ xs H Q=>∃ x c cv t b,xs=[x,c]/\clsV c=some cv/\TyOf X.K H x t/\PySem.W.kitOne X.K t cv=some b/\Q (.bl b) H):=by
 intro pins s σ H xs us Q I r h
 obtain ⟨x,c,cv,t,b,rfl,hc,ty,hk,q⟩:=h
 obtain ⟨u1,u2,rfl,r1,r2⟩:=b8L r
 obtain rfl:=b1P hc r2
 exact b3M I r1 ty hk λ tk=>⟨.bl b,H,I.tok tk,rfl,q⟩
abbrev Cx.in1 (X:Cx):Cx:={ X with A:=X.A.in1 }
theorem Inv.in1 {pins:List (Addr × Obj)} {σ:St} {H:Hp} {s:Shared} (I:Inv X pins σ H s):Inv X.in1 pins σ H s :=
 ⟨⟨I.ok.mod,I.ok.kind,I.ok.glob,I.ok.blt,I.ok.above,I.ok.inj,I.ok.has,I.ok.cab,I.ok.hd,I.ok.frames,I.ok.stk,I.ok.exf,I.ok.bs,I.ok.bsz,I.ok.noex,I.ok.exfs,I.ok.funs,I.ok.frf⟩,I.os,I.bare,I.base,I.loc,I.cell,I.free,I.freeC,I.pin,I.hok,I.len⟩
theorem Inv.of_in1 {pins:List (Addr × Obj)} {σ:St} {H:Hp} {s:Shared} (I:Inv X.in1 pins σ H s):Inv X pins σ H s :=
 ⟨⟨I.ok.mod,I.ok.kind,I.ok.glob,I.ok.blt,I.ok.above,I.ok.inj,I.ok.has,I.ok.cab,I.ok.hd,I.ok.frames,I.ok.stk,I.ok.exf,I.ok.bs,I.ok.bsz,I.ok.noex,I.ok.exfs,I.ok.funs,I.ok.frf⟩,I.os,I.bare,I.base,I.loc,I.cell,I.free,I.freeC,I.pin,I.hok,I.len⟩
def Truths (K:Φρ) (H:Hp) (xs:List V) (bs:List Bool):Prop:=Paired (λ x b=>TruV K x H b) xs bs
theorem Truths.get {K:Φρ} {H:Hp}:∀ {xs:List V} {bs:List Bool} {i:Nat} {x:V},Truths K H xs bs->xs[i]?=some x->∃ b,bs[i]?=some b/\TruV K x H b
 | _,_,_,_,.nil,h=>by simp at h
 | _,_,0,_,.cons h r,e=>by
  simp at e; subst e
  exact ⟨_,rfl,h⟩
 | _,_,i+1,_,.cons h r,e=>by
  obtain ⟨d,e1,q⟩:=Truths.get (i:=i) r (by simpa using e)
  exact ⟨d,by simpa using e1,q⟩
theorem Truths.bls {K:Φρ} {H:Hp}:∀ bs:List Bool,Truths K H (bs.map V.bl) bs
 | []=>.nil
 | b::bs=>.cons rfl (Truths.bls bs)
theorem b6H {pins:List (Addr × Obj)} {σ:St} {H:Hp} {p it:Addr} {ys:List V} {bs:List Bool} {R:Result->Shared->Prop} (hc:X.calm=true) (hq:SqL X.K H p ys) (ht:Truths X.K H ys bs) (f:FpOk X pins H it) :
  ∀ (k i:Nat) (s:Shared),ys.length - i=k->Inv X pins σ H s->s.heap.IsListIter it p i->(∀ s',Inv X pins σ H s'->R (.ok (.ret (.bool ((bs.drop i).all id)))) s') ->
  codeAny (model X.prog X.w) X.A (.builtin "all.loop" ⟨[.ref it],[]⟩) R s:=by
 obtain ⟨f0,f1,f2,f3,f4,f5⟩:=f
 intro k
 induction k with
 | zero =>
  intro i s hk I st hR
  obtain ⟨its,rv,pl,hz⟩:=I.list hq
  have hl:=rv.length
  refine codeAny_builtin F.entry_all_loop ?_
  rw [Around.under_plainId F.plain_all_loop _]
  show wpAny _ X.A.in1 (pyNext (.ref it) >>= _) _ _ s
  refine wpAny_bind (wpAny_pyNext_list_end (I.ok.hd hc) st pl.isList (by simp; omega) λ h' eb=>?_)
  refine wpAny_bind (wpAny_rule (wpAny_pure ?_))
  have q:=hR _ (I.turned (t':=s.toks) (λ b o hb e=>eb b o hb e) f0 f1 f3 f4 f5)
  have hlb:bs.length=ys.length:=(Paired.length ht).symm
  rw [List.drop_of_length_le (by omega)] at q
  exact q
 | succ k ih =>
  intro i s hk I st hR
  obtain ⟨its,rv,pl,hz⟩:=I.list hq
  have hl:=rv.length
  have hlt:i < ys.length:=by omega
  have hx:ys[i]?=some ys[i]:=by simp [hlt]
  obtain ⟨u,hu,ru⟩:=rv.get hx
  obtain ⟨b,hb,tb⟩:=ht.get hx
  refine codeAny_builtin F.entry_all_loop ?_
  rw [Around.under_plainId F.plain_all_loop _]
  show wpAny _ X.A.in1 (pyNext (.ref it) >>= _) _ _ s
  refine wpAny_bind (wpAny_pyNext_list_item st pl.isList (x:=u) (by simpa using hu) λ h' st' sb=>?_)
  have I1:Inv X pins σ H { s with heap:=h' }:=I.turned (t':=s.toks) (λ b o hb e=>(sb.2 b hb).trans e) f0 f1 f3 f4 f5
  have hdb:bs.drop i=b::bs.drop (i+1):=by
   obtain ⟨hlb,eb⟩:=List.getElem?_eq_some_iff.mp hb
   rw [List.drop_eq_getElem_cons hlb,eb]
  rw [hdb] at hR
  have I1p:Inv X (pins++a4H [it] h') σ H { s with heap:=h' }:=I1.pinned (fp:=[it]) (λ c hcc=>by rw [List.mem_singleton.mp hcc]; exact ⟨f0,f1,f2,f3,f4,f5⟩) λ c hcc=>by
   rw [List.mem_singleton.mp hcc]
   obtain ⟨o,e,c',d⟩:=st'
   exact ⟨o,e,λ v z=>by rw [d] at z; cases z⟩
  refine wpAny_bind (wpAny_holding (wpAny_mono (b3K (X:=X.in1.nox) _ _ σ H ys[i] u (λ c H'=>c=b/\H'=H) ((Inv.in1 I1p).wish _) ru ⟨b,tb,rfl,rfl⟩) (λ c s2 ⟨H',I2,e1,e2⟩=>?_) λ _ _ z=>False.elim z))
  rw [e2] at I2
  subst e1
  have I2':Inv X (pins++a4H [it] h') σ H s2:=Inv.of_in1 I2.unwish
  have I2'':Inv X pins σ H s2:=I2'.unpinned
  have st2:s2.heap.IsListIter it p (i+1):=st'.at λ o e=>(I2'.pin (it,o) (List.mem_append_right _ (List.mem_append_right _ (a3B (List.mem_singleton.mpr rfl) e)))).1
  refine wpAny_bind (wpAny_letGo ?_)
  cases c with
  | true =>
   simp only [if_true]
   exact wpAny_pure ⟨plainId_quiet F.plain_all_loop _,ih (i+1) s2 (by omega) I2'' st2 λ s' I'=>by simpa using hR s' I'⟩
  | false =>
   simp only [Bool.false_eq_true,if_false]
   refine wpAny_bind (wpAny_rule (wpAny_pure ?_))
   simpa using hR s2 I2''
theorem b3X (hc:X.calm=true):CallR X (.builtin "all") (λ xs H Q=>∃ p ys bs,xs=[.ref p]/\SqL X.K H p ys/\Truths X.K H ys bs/\Q (.bl (bs.all id)) H):=by
 intro pins s σ H xs us Q I r h
 obtain ⟨p,ys,bs,rfl,hq,ht,q⟩:=h
 obtain ⟨u,rfl,rx⟩:=a6L r
 cases rx
 refine call_function_tree F.kind_all F.plain_all F.entry_all (F.args_all1 _) ?_
 unfold Builtin.«all»
 refine wpAny_bind (m:=oneArg "all" _) (wpAny_pure ?_)
 obtain ⟨its,rv,pl,hz⟩:=I.list hq
 refine wpAny_bind (wpAny_pyIter_list pl.isList ?_)
 have I1:Inv X pins σ H { s with heap:=s.heap.push { cls:=.type "list_iterator", data:=.fields #[.ref p,.int 0 0] } }:=I.kept (t':=s.toks) λ b o e=>Heap.get?_push_of_some _ e
 refine wpAny_pure ⟨plainId_quiet F.plain_all_loop _,b6H hc hq ht (I.fpOk (Nat.le_refl _) (I.hok.fresh (Nat.le_refl _))) ys.length 0 _ (Nat.sub_zero _) I1 ⟨_,Heap.get?_push_size _ rfl,rfl,rfl⟩ λ s' I'=>?_⟩
 exact ⟨.bl _,H,I',rfl,by simpa using q⟩
theorem b6I {pins:List (Addr × Obj)} {σ:St} {H:Hp} {p it:Addr} {ys:List V} {bs:List Bool} {R:Result->Shared->Prop} (hc:X.calm=true) (hq:SqL X.K H p ys) (ht:Truths X.K H ys bs) (f:FpOk X pins H it) :
  ∀ (k i:Nat) (s:Shared),ys.length - i=k->Inv X pins σ H s->s.heap.IsListIter it p i->(∀ s',Inv X pins σ H s'->R (.ok (.ret (.bool ((bs.drop i).any id)))) s') ->
  codeAny (model X.prog X.w) X.A (.builtin "any.loop" ⟨[.ref it],[]⟩) R s:=by
 obtain ⟨f0,f1,f2,f3,f4,f5⟩:=f
 intro k
 induction k with
 | zero =>
  intro i s hk I st hR
  obtain ⟨its,rv,pl,hz⟩:=I.list hq
  have hl:=rv.length
  refine codeAny_builtin F.entry_any_loop ?_
  rw [Around.under_plainId F.plain_any_loop _]
  show wpAny _ X.A.in1 (pyNext (.ref it) >>= _) _ _ s
  refine wpAny_bind (wpAny_pyNext_list_end (I.ok.hd hc) st pl.isList (by simp; omega) λ h' eb=>?_)
  refine wpAny_bind (wpAny_rule (wpAny_pure ?_))
  have q:=hR _ (I.turned (t':=s.toks) (λ b o hb e=>eb b o hb e) f0 f1 f3 f4 f5)
  have hlb:bs.length=ys.length:=(Paired.length ht).symm
  rw [List.drop_of_length_le (by omega)] at q
  exact q
 | succ k ih =>
  intro i s hk I st hR
  obtain ⟨its,rv,pl,hz⟩:=I.list hq
  have hl:=rv.length
  have hlt:i < ys.length:=by omega
  have hx:ys[i]?=some ys[i]:=by simp [hlt]
  obtain ⟨u,hu,ru⟩:=rv.get hx
  obtain ⟨b,hb,tb⟩:=ht.get hx
  refine codeAny_builtin F.entry_any_loop ?_
  rw [Around.under_plainId F.plain_any_loop _]
  show wpAny _ X.A.in1 (pyNext (.ref it) >>= _) _ _ s
  refine wpAny_bind (wpAny_pyNext_list_item st pl.isList (x:=u) (by simpa using hu) λ h' st' sb=>?_)
  have I1:Inv X pins σ H { s with heap:=h' }:=I.turned (t':=s.toks) (λ b o hb e=>(sb.2 b hb).trans e) f0 f1 f3 f4 f5
  have hdb:bs.drop i=b::bs.drop (i+1):=by
   obtain ⟨hlb,eb⟩:=List.getElem?_eq_some_iff.mp hb
   rw [List.drop_eq_getElem_cons hlb,eb]
  rw [hdb] at hR
  have I1p:Inv X (pins++a4H [it] h') σ H { s with heap:=h' }:=I1.pinned (fp:=[it]) (λ c hcc=>by rw [List.mem_singleton.mp hcc]; exact ⟨f0,f1,f2,f3,f4,f5⟩) λ c hcc=>by
   rw [List.mem_singleton.mp hcc]
   obtain ⟨o,e,c',d⟩:=st'
   exact ⟨o,e,λ v z=>by rw [d] at z; cases z⟩
  refine wpAny_bind (wpAny_holding (wpAny_mono (b3K (X:=X.in1.nox) _ _ σ H ys[i] u (λ c H'=>c=b/\H'=H) ((Inv.in1 I1p).wish _) ru ⟨b,tb,rfl,rfl⟩) (λ c s2 ⟨H',I2,e1,e2⟩=>?_) λ _ _ z=>False.elim z))
  rw [e2] at I2
  subst e1
  have I2':Inv X (pins++a4H [it] h') σ H s2:=Inv.of_in1 I2.unwish
  have I2'':Inv X pins σ H s2:=I2'.unpinned
  have st2:s2.heap.IsListIter it p (i+1):=st'.at λ o e=>(I2'.pin (it,o) (List.mem_append_right _ (List.mem_append_right _ (a3B (List.mem_singleton.mpr rfl) e)))).1
  refine wpAny_bind (wpAny_letGo ?_)
  cases c with
  | false =>
   simp only [Bool.false_eq_true,if_false]
   exact wpAny_pure ⟨plainId_quiet F.plain_any_loop _,ih (i+1) s2 (by omega) I2'' st2 λ s' I'=>by simpa using hR s' I'⟩
  | true =>
   simp only [if_true]
   refine wpAny_bind (wpAny_rule (wpAny_pure ?_))
   simpa using hR s2 I2''
theorem b3Y (hc:X.calm=true):CallR X (.builtin "any") (λ xs H Q=>∃ p ys bs,xs=[.ref p]/\SqL X.K H p ys/\Truths X.K H ys bs/\Q (.bl (bs.any id)) H):=by
 intro pins s σ H xs us Q I r h
 obtain ⟨p,ys,bs,rfl,hq,ht,q⟩:=h
 obtain ⟨u,rfl,rx⟩:=a6L r
 cases rx
 refine call_function_tree F.kind_any F.plain_any F.entry_any (F.args_any1 _) ?_
 unfold Builtin.«any»
 refine wpAny_bind (m:=oneArg "any" _) (wpAny_pure ?_)
 obtain ⟨its,rv,pl,hz⟩:=I.list hq
 refine wpAny_bind (wpAny_pyIter_list pl.isList ?_)
 have I1:Inv X pins σ H { s with heap:=s.heap.push { cls:=.type "list_iterator", data:=.fields #[.ref p,.int 0 0] } }:=I.kept (t':=s.toks) λ b o e=>Heap.get?_push_of_some _ e
 refine wpAny_pure ⟨plainId_quiet F.plain_any_loop _,b6I hc hq ht (I.fpOk (Nat.le_refl _) (I.hok.fresh (Nat.le_refl _))) ys.length 0 _ (Nat.sub_zero _) I1 ⟨_,Heap.get?_push_size _ rfl,rfl,rfl⟩ λ s' I'=>?_⟩
 exact ⟨.bl _,H,I',rfl,by simpa using q⟩
end
end L2
namespace L2
open PySem PySem.Spec PyProof.Rows
structure Dn (K:Φρ) (mg:Str->Option Value) (x:Str) (st:Stmt) (ps:List Str) where
 f:Addr
 fd:FuncData
 F:Fun K x x st f fd
 b:Binds K fd ps []
 m:mg x=some (.ref f)
 bd:∀ (s:Shared) (us:List Value),us.length=ps.length->BindsTo s fd ⟨us,[]⟩ (ps.zip us)
structure Bl (mg:Str->Option Value):Prop where
 get:∀ x:Str,x∈(["len", "range", "list", "isinstance", "int", "bool", "str", "all", "any", "sorted", "set", "min", "max", "tuple", "enumerate", "dict", "ValueError"]:List Str)->mg x=none
theorem Bl.len {mg:Str->Option Value} (B:Bl mg):mg "len" = none:=B.get _ (by decide +kernel)
theorem Bl.range {mg:Str->Option Value} (B:Bl mg):mg "range" = none:=B.get _ (by decide +kernel)
theorem Bl.list {mg:Str->Option Value} (B:Bl mg):mg "list" = none:=B.get _ (by decide +kernel)
theorem Bl.isinstance {mg:Str->Option Value} (B:Bl mg):mg "isinstance" = none:=B.get _ (by decide +kernel)
theorem Bl.int {mg:Str->Option Value} (B:Bl mg):mg "int" = none:=B.get _ (by decide +kernel)
theorem Bl.bool {mg:Str->Option Value} (B:Bl mg):mg "bool" = none:=B.get _ (by decide +kernel)
theorem Bl.all {mg:Str->Option Value} (B:Bl mg):mg "all" = none:=B.get _ (by decide +kernel)
theorem Bl.any {mg:Str->Option Value} (B:Bl mg):mg "any" = none:=B.get _ (by decide +kernel)
theorem Bl.sorted {mg:Str->Option Value} (B:Bl mg):mg "sorted" = none:=B.get _ (by decide +kernel)
theorem Bl.max {mg:Str->Option Value} (B:Bl mg):mg "max" = none:=B.get _ (by decide +kernel)
theorem Bl.enumerate {mg:Str->Option Value} (B:Bl mg):mg "enumerate" = none:=B.get _ (by decide +kernel)
theorem Bl.ValueError {mg:Str->Option Value} (B:Bl mg):mg "ValueError" = none:=B.get _ (by decide +kernel)
theorem a5S {K:Φρ}:PySem.W.kitOne K (.type "int") (.type "int")=some true:=by rfl
theorem a5D {K:Φρ}:PySem.W.kitOne K (.type "int") (.type "bool")=some false:=by rfl
theorem b0Q {K:Φρ}:PySem.W.kitOne K (.type "NoneType") (.type "int")=some false:=by rfl
theorem a9D {K:Φρ}:PySem.W.kitOne K (.type "NoneType") (.type "bool")=some false:=by rfl
end L2
namespace L2
open PySem PySem.Spec PyProof.Rows
section
variable {X:Cx} {K:Φρ}
theorem a0X (e:X.K=K):IxR X (rIxL K):=by subst e; exact b8Q
theorem a0P (e:X.K=K):IxR X (rIxT K):=by subst e; exact c1F
theorem b8U (e:X.K=K) (hu:X.A.units+64 < cLine):OpR X (compareOp .Eq) (rEqD K false):=by subst e; exact c1L hu
theorem a7T (e:X.K=K) (hu:X.A.units+64 < cLine):OpR X (compareOp .NotEq) (rEqD K true):=by subst e; exact c1M hu
theorem a2K (e:X.K=K) (hu:X.A.units+65 < cLine):OpR X (compareOp .In) (rInD K false):=by subst e; exact c1N hu
theorem b2M (e:X.K=K) (hu:X.A.units+65 < cLine):OpR X (compareOp .NotIn) (rInD K true):=by subst e; exact b3W hu
theorem b8V (e:X.K=K):OpR X (compareOp .In) (rIn K false):=by subst e; exact b3S
def rLen (K:Φρ):List V->Hp->VK->Prop:=λ xs H Q=>∃ p ys,xs=[.ref p]/\(SqL K H p ys\/SqT K H p ys)/\Q (.int ys.length) H
theorem a0R (e:X.K=K):CallR X (.builtin "len") (rLen K):=by subst e; exact a8Y
def b8W (K:Φρ):List V->Hp->VK->Prop:=λ xs H Q=>∃ p ys,xs=[.ref p]/\(SqL K H p ys\/SqT K H p ys)/\∀ l,H l=none->Q (.ref l) (upd H l (.lst ys))
theorem b2N (e:X.K=K):CallR X (.type "list") (b8W K):=by subst e; exact a8Z
def c3A (K:Φρ):List V->Hp->VK->Prop:=λ xs H Q=>∃ x c cv t b,xs=[x,c]/\clsV c=some cv/\TyOf K H x t/\PySem.W.kitOne K t cv=some b/\Q (.bl b) H
theorem a2F (e:X.K=K):CallR X (.builtin "isinstance") (c3A K):=by subst e; exact b0P
def rAll (K:Φρ):List V->Hp->VK->Prop:=λ xs H Q=>∃ p ys bs,xs=[.ref p]/\SqL K H p ys/\Truths K H ys bs/\Q (.bl (bs.all id)) H
def rAny (K:Φρ):List V->Hp->VK->Prop:=λ xs H Q=>∃ p ys bs,xs=[.ref p]/\SqL K H p ys/\Truths K H ys bs/\Q (.bl (bs.any id)) H
theorem a5T (e:X.K=K) (hc:X.calm=true):CallR X (.builtin "all") (rAll K):=by subst e; exact b3X hc
theorem a9E (e:X.K=K) (hc:X.calm=true):CallR X (.builtin "any") (rAny K):=by subst e; exact b3Y hc
theorem a0Z {tg l:Expr} {tl:TE} (e:X.K=K) (hl:PE X l tl):PI X tg l (c0Y K tl):=by subst e; exact b8J hl
def tTru (K:Φρ) (ta:TE):TT:=λ σ H Q=>ta σ H λ x H'=>∃ k,TruV K x H' k/\Q k H'
theorem a1D {a:Expr} {ta:TE} (e:X.K=K) (ha:PE X a ta) (he:∀ whole,isTrue a X.env whole=(do let v <- whole; standAt a.pos; holding [v] (truthy v))):PT X a (tTru K ta):=by subst e; exact b6D ha he
theorem a3S {es:List Expr} {k:Nat} {t:TGs} {n:Nat} {pos:Pos} (e:X.K=K) (hc:X.calm=true) (h:PGs X es t)
  (hn:(assignEach es X.env).length=n:=by rfl) (hst:(assignEach es X.env).findIdx? (·.1)=none:=by rfl):PG X (.Tuple es k pos) (gTup K n t):=by subst e; exact c0W hc h hn hst
theorem b8X {o:Expr} {to:TE} {name:Str} {apos cpos:Pos} {T id:String} {r:V->List V->Hp->VK->Prop} (e:X.K=K) (pa:PlainAttrs T) (slot:Slot T name id) (hty:typeOf (.builtin id)=pure (.type "method_descriptor")) (hm:MtR X id r) (ho:PE X o to)
  (hbase:attributeBase o name X.env (eval o X.env)=eval o X.env:=by rfl) (hline:(apos.endLine == cpos.line)=true:=by rfl):PE X (.Call (.Attribute o name apos) [] [] cpos) (tBM0 K T r to):=by subst e; exact c1H pa slot hty hm ho hbase hline
theorem a5E {o e:Expr} {es:List Expr} {to:TE} {t:TA} {name:Str} {apos cpos:Pos} {T id:String} {r:V->List V->Hp->VK->Prop} (e0:X.K=K) (pa:PlainAttrs T) (slot:Slot T name id) (hty:typeOf (.builtin id)=pure (.type "method_descriptor")) (hm:MtR X id r) (ho:PE X o to) (ha:PA X (e::es) t)
  (hbase:attributeBase o name X.env (eval o X.env)=eval o X.env:=by rfl)
  (hfew:((backTo cpos (starEach (e::es) X.env)).all (λ x=>!x.1) && (backToKw cpos (keywordEach [] X.env)).all (λ x=>x.1.isSome)
   && decide ((e::es).length+([]:List Keyword).length+(if ([]:List Keyword).isEmpty then 0 else 1) < 30))=true:=by rfl)
  (hline:(apos.endLine == cpos.line)=true:=by rfl) (hs:starEach (e::es) X.env=(false,eval e X.env)::starEach es X.env:=by rfl) (hplain:(backTo cpos (starEach es X.env)).any (·.1)=false:=by rfl) :
  PE X (.Call (.Attribute o name apos) (e::es) [] cpos) (tBM K T r to t):=by subst e0; exact c2Y pa slot hty hm ho ha hbase hfew hline hs hplain
def b8Y:V->List V->Hp->VK->Prop:=λ x vs H Q=>∃ l xs i y,x = .ref l/\vs=[.int i,y]/\H l=some (.lst xs)/\xs.length < 1000/\0<=i/\i<=(xs.length:Int)/\Q .non (upd H l (.lst (xs.take i.toNat++y::xs.drop i.toNat)))
theorem mt_insert:MtM X "list.insert" b8Y:=by
 intro pins s σ H x vs v us Q I rx rv h
 obtain ⟨l,xs,i,y,rfl,rfl,hH,hz,h0,h1,q⟩:=h
 cases rx
 obtain ⟨u1,u2,rfl,ru1,ru2⟩:=rv.two
 obtain ⟨t,rfl⟩:=ru1
 obtain ⟨z,its,n,r,hl,e⟩:=I.lstM hH
 have hlen:=r.length
 have hs:sizeLine=16777216:=sizeLine_eq
 have hfit:¬(!Builtin.List.listFitsIndex i)=true:=by
  unfold Builtin.List.listFitsIndex
  simp
  omega
 refine call_meets F.slot_list_insert ⟨_,e,rfl⟩ F.entry_list_insert (F.args_list_insert_3 _ _ _) (AutoSeq1.list_insert_list_int_val_1 l its.toArray n i t u2 hfit (by rw [List.size_toArray]; omega)) ⟨e,?_⟩
 refine ⟨.non,_,I.lset (its':=its.take i.toNat++u2::its.drop i.toNat) hH e ?_ ((r.take i.toNat).append (.cons ru2 (r.drop i.toNat))) ?_,rfl,q⟩
 ·have hk:min i.toNat its.length=i.toNat:=by omega
  simp [show ¬ i < 0 by omega,hk]
  exact List.take_of_length_le (by simp)
 ·rw [List.length_append,List.length_cons,List.length_take,List.length_drop]
  omega
end
end L2
namespace L2
open PySem PySem.Spec PyProof.Rows
def tCut (t u:TS):TS:=λ D σ H=>∃ J:St->Hp->Prop,t { D with nx:=J } σ H/\∀ σ' H',J σ' H'->u D σ' H'
theorem a3I {X:Cx} {st:Stmt} {rest:List Stmt} {t u:TS} (h1:PS X st t) (h2:PSs X rest u):PSs X (st::rest) (tCut t u):=by
 intro pins s σ H D I h
 obtain ⟨J,q1,q2⟩:=h
 refine wpAny_execs_cons (thn (h1 pins s σ H { D with nx:=J } I q1) λ f s1 q=>?_)
 cases f with
 | next =>
  obtain ⟨σ',H',I',q⟩:=q
  exact h2 pins s1 σ' H' D I' (q2 σ' H' q)
 | ret v=>exact q
 | brk=>exact q
 | cont=>exact q
end L2
namespace L2
open PySem PySem.Spec PyProof.Rows
structure New (H:Hp) (p:Addr) (o:HO) (H':Hp):Prop where
 fresh:H p=none
 here:H' p=some o
 rest:∀ b,b≠p->H' b=H b
theorem New.mk0 {H:Hp} {p:Addr} {o:HO} (h:H p=none):New H p o (upd H p o):=⟨h,a2T,λ _ hb=>a0Y hb⟩
theorem New.same {H H':Hp} {p:Addr} {o:HO} (n:New H p o H'):Same H H':=λ b u e=>(n.rest b (a0S e n.fresh)).trans e
theorem New.ne {H H':Hp} {p b:Addr} {o u:HO} (n:New H p o H') (h:H b=some u):b≠p:=a0S h n.fresh
structure Chg (H:Hp) (l:Addr) (o:HO) (H':Hp):Prop where
 here:H' l=some o
 rest:∀ b,b≠l->H' b=H b
theorem Chg.mk0 {H:Hp} {l:Addr} {o:HO}:Chg H l o (upd H l o):=⟨a2T,λ _ hb=>a0Y hb⟩
section
variable {X:Cx} {K:Φρ} {es:List Expr} {t:TA} {pos:Pos}
def c1O (t:TA):TE:=λ σ H Q=>t σ H λ xs H1=>xs.length<=1000/\∀ p H',New H1 p (.tup xs) H'->Q (.ref p) H'
def c3B (t:TA):TE:=λ σ H Q=>t σ H λ xs H1=>xs.length<=1000/\∀ p H',New H1 p (.lst xs) H'->Q (.ref p) H'
theorem a0T {x1} (h:PA X es t):PE X (.Tuple es x1 pos) (c1O t):=by
 intro pins s σ H Q I hq
 refine wpAny_Tuple_spliced (thn (h pos pins s σ H _ I hq) λ us s1 ⟨xs,H1,I1,r,z,q⟩=>?_)
 have z':xs.length<=sizeLine:=Nat.le_of_lt (a1U z)
 refine ⟨by rw [<- r.length]; exact z',?_⟩
 have hf:H1 s1.heap.objs.size=none:=I1.hok.fresh (Nat.le_refl _)
 refine ⟨.ref s1.heap.objs.size,upd H1 s1.heap.objs.size (.tup xs),I1.laid (t':=s1.toks) (λ b u e=>Heap.get?_push_of_some _ e) (Nat.le_refl _) ?_,rfl,q _ _ (New.mk0 hf)⟩
 exact ⟨z',us,r,⟨_,Heap.get?_push_size _ rfl,rfl,_,rfl⟩⟩
theorem a1Q (h:PA X es t):PE X (.List es pos) (c3B t):=by
 intro pins s σ H Q I hq
 refine wpAny_List_spliced (thn (h pos pins s σ H _ I hq) λ us s1 ⟨xs,H1,I1,r,z,q⟩=>?_)
 have z':xs.length<=sizeLine:=Nat.le_of_lt (a1U z)
 refine ⟨by rw [<- r.length]; exact z',?_⟩
 have hf:H1 s1.heap.objs.size=none:=I1.hok.fresh (Nat.le_refl _)
 refine ⟨.ref s1.heap.objs.size,upd H1 s1.heap.objs.size (.lst xs),I1.laid (t':=s1.toks) (λ b u e=>Heap.get?_push_of_some _ e) (Nat.le_refl _) ?_,rfl,q _ _ (New.mk0 hf)⟩
 exact ⟨z',us,0,r,Heap.get?_push_size _ rfl⟩
theorem OpR.weak {f:Value->Value->Sem Value} {r r':R2} (h:OpR X f r) (m:∀ x y H Q,r' x y H Q->r x y H Q):OpR X f r':=λ pins s σ H x y v u Q I rx ry q=>h pins s σ H x y v u Q I rx ry (m x y H Q q)
theorem CallR.weak {f:Value} {r r':List V->Hp->VK->Prop} (h:CallR X f r) (m:∀ xs H Q,r' xs H Q->r xs H Q):CallR X f r':=λ pins s σ H xs us Q I rs q=>h pins s σ H xs us Q I rs (m xs H Q q)
def c3C:R2:=λ x y H Q=>∃ l b xs zs,x = .ref l/\y = .ref b/\H l=some (.lst xs)/\H b=some (.lst zs)/\xs.length+zs.length<=1000/\∀ p H',New H p (.lst (xs++zs)) H'->Q (.ref p) H'
theorem a2Q:OpR X (binaryOp .Add) c3C:=op_cat.weak λ x y H Q ⟨l,b,xs,zs,e1,e2,h1,h2,z,q⟩=>⟨l,b,xs,zs,e1,e2,h1,h2,Nat.le_of_lt (a1U z),λ p hp=>q p _ (New.mk0 hp)⟩
def rSlN (K:Φρ):V->Option Int->Option Int->Hp->VK->Prop:=λ x lo hi H Q=>∃ a xs,x = .ref a/\SqL K H a xs/\∀ p H',New H p (.lst (cutV xs lo hi)) H'->Q (.ref p) H'
theorem a3Z (e:X.K=K):SlR X (rSlN K):=by
 subst e
 exact λ pins s σ H x v vl vu lo hi sl Q I rx hs pl pu ⟨a,xs,e,h,q⟩=>b8R pins s σ H x v vl vu lo hi sl Q I rx hs pl pu ⟨a,xs,e,h,λ p hp=>q p _ (New.mk0 hp)⟩
def b7X (K:Φρ):List V->Hp->VK->Prop:=λ xs H Q=>∃ p ys,xs=[.ref p]/\(SqL K H p ys\/SqT K H p ys)/\∀ l H',New H l (.lst ys) H'->Q (.ref l) H'
theorem a2P (e:X.K=K):CallR X (.type "list") (b7X K):=(b2N e).weak λ xs H Q ⟨p,ys,e,h,q⟩=>⟨p,ys,e,h,λ l hl=>q l _ (New.mk0 hl)⟩
theorem MtM.weak {id:String} {r r':V->List V->Hp->VK->Prop} (h:MtM X id r) (m:∀ x xs H Q,r' x xs H Q->r x xs H Q):MtM X id r':=λ pins s σ H x xs v us Q I rx rs q=>h pins s σ H x xs v us Q I rx rs (m x xs H Q q)
def c3D:V->List V->Hp->VK->Prop:=λ x vs H Q=>∃ l xs y,x = .ref l/\vs=[y]/\H l=some (.lst xs)/\xs.length < 1000/\∀ H',Chg H l (.lst (xs++[y])) H'->Q .non H'
theorem a2B:MtM X "list.append" c3D:=mt_append.weak λ x vs H Q ⟨l,xs,y,e1,e2,h,z,q⟩=>⟨l,xs,y,e1,e2,h,a1U (Nat.le_of_lt z),q _ Chg.mk0⟩
def c3E:V->List V->Hp->VK->Prop:=λ x vs H Q=>∃ l xs i y,x = .ref l/\vs=[.int i,y]/\H l=some (.lst xs)/\xs.length < 1000/\0<=i/\i<=(xs.length:Int)/\∀ H',Chg H l (.lst (xs.take i.toNat++y::xs.drop i.toNat)) H'->Q .non H'
theorem b2O:MtM X "list.insert" c3E:=mt_insert.weak λ x vs H Q ⟨l,xs,i,y,e1,e2,h,z,h0,h1,q⟩=>⟨l,xs,i,y,e1,e2,h,z,h0,h1,q _ Chg.mk0⟩
end
theorem a9F {K:Φρ} {a:Addr} {xs:List V} {ix:List (Option Nat)} {g:TG} {tt:TT} {te:TE} {σ:St} {H1:Hp} {Q:VK} (f:V->Option V) (hx:SqL K H1 a xs) (hz:xs.length<=1000)
  (hs:∀ x H (N:Option V->Hp->Prop),x∈xs->Same H1 H->(∀ H',Same H1 H'->N (f x) H')->g x (capt ix σ) H λ σ2 H2=>tt σ2 H2 λ b H3=>if b=true then te σ2 H3 λ v H4=>N (some v) H4 else N none H3)
  (hd:∀ H p H',Same H1 H->New H p (.lst (xs.filterMap f)) H'->Q (.ref p) H'):a4B ix g tt te σ H1 Q (Itl K a) :=
 c2Z f hx (Nat.le_of_lt (a1U hz)) hs λ H p s hp=>hd H p _ s (New.mk0 hp)
theorem a7U {lo:Int} {n:Nat} {ix:List (Option Nat)} {g:TG} {tt:TT} {te:TE} {σ:St} {H1:Hp} {Q:VK} (f:Nat->Option V) (hz:n<=1000)
  (hs:∀ i H (N:Option V->Hp->Prop),i < n->Same H1 H->(∀ H',Same H1 H'->N (f i) H')->g (.int (lo+i)) (capt ix σ) H λ σ2 H2=>tt σ2 H2 λ b H3=>if b=true then te σ2 H3 λ v H4=>N (some v) H4 else N none H3)
  (hd:∀ H p H',Same H1 H->New H p (.lst ((List.range n).filterMap f)) H'->Q (.ref p) H'):a4B ix g tt te σ H1 Q (Itr lo n) :=
 c1K f (Nat.le_of_lt (a1U hz)) hs λ H p s hp=>hd H p _ s (New.mk0 hp)
end L2
namespace Lw
open PySem L2
theorem b6J {H:Hp} {p:Addr} (h:H p=none) (o:HO):Same H (upd H p o):=λ b u q=>by rw [a0Y (a0S q h)]; exact q
theorem a2X {α β:Type} {f:α->Option β} {g:α->β}:∀ {l:List α},(∀ x∈l,f x=some (g x))->l.filterMap f=l.map g
 | [],_=>rfl
 | x::r,h=>by
  rw [List.filterMap_cons_some (h x List.mem_cons_self),List.map_cons,a2X λ y hy=>h y (List.mem_cons_of_mem _ hy)]
theorem b8Z {f:V->Option V} {g:Int->V} {ns:List Int} (h:∀ v∈ns,f (.int v)=some (g v)):(ns.map V.int).filterMap f=ns.map g:=by
 rw [List.filterMap_map]
 exact a2X h
theorem a7V {ns:List Int} {k:Int} (h0:0<=k) (h:k < (ns.length:Int)):atI (ns.map V.int) k=some (.int (ns.getD k.toNat 0)):=by
 have hk:k.toNat < ns.length:=by omega
 have ek:k=((k.toNat:Nat):Int):=by omega
 have q:atI (ns.map V.int) ((k.toNat:Nat):Int)=some (.int (ns.getD k.toNat 0)):=a1W (by
  rw [List.getElem?_map,List.getElem?_eq_getElem hk,τα,List.getElem?_eq_getElem hk]; rfl)
 rw [<- ek] at q
 exact q
def Scr (K:Φρ) (H:Hp) (a:Addr) (ns:List Int):Prop:=(∃ o,H a=some (.frz o (.lst (ns.map V.int)))) \/
 ∃ (o:Obj) (its:Array Value) (n:Nat),K.lookup a=some o/\o.cls = .type "list" /\ o.dict=none/\o.data = .seq its n/\its.size<=sizeLine/\Vals (ns.map V.int) its.toList
theorem Scr.seq {K:Φρ} {H:Hp} {a:Addr} {ns:List Int} (h:Scr K H a ns):SqL K H a (ns.map V.int):=by
 rcases h with ⟨o,h⟩ | h
 ·exact .inl (.inr ⟨o,h⟩)
 ·exact .inr h
theorem Scr.of {K:Φρ} {H:Hp} {a:Addr} {ns:List Int} (hO:Only H) (h:SqL K H a (ns.map V.int)):Scr K H a ns:=by
 rcases h with (h | ⟨o,h⟩) | h
 ·rcases hO a with z | ⟨ob,xs,z⟩
  ·rw [z] at h; cases h
  ·rw [z] at h; cases h
 ·exact .inl ⟨o,h⟩
 ·exact .inr h
theorem Scr.same {K:Φρ} {H H':Hp} {a:Addr} {ns:List Int} (e:Same H H') (h:Scr K H a ns):Scr K H' a ns:=by
 rcases h with ⟨o,h⟩ | h
 ·exact .inl ⟨o,e _ _ h⟩
 ·exact .inr h
def spLaw (K:Φρ):Sp:=λ vs H Q _=>∃ (a:Addr) (ns:List Int),vs=[.ref a]/\Scr K H a ns/\ns.length<=63/\∀ H',Q (.bl true) H'
end Lw
namespace L2
open PySem PySem.Spec PyProof.Rows
theorem b6K {K:Φρ} {h:Heap} {mg:Str->Option Value} {x:Str} {st:Stmt} {ps:List Str} {f:Addr} {oc:Value} {od an:Option Addr} {osl:Array (Option Value)} {kV doc pm cdv ct:Value} (X:K.In h) (G:h.Ns mainGlobals mg)
  (a:PySem.W.nsIn K mainGlobals x=some (some (.ref f))) (l:K.lookup f=some ⟨oc,od,.func (PySem.W.fnOf x x (a1P st) (a1I st) (a0F st) .none kV doc pm an cdv ct),osl⟩) (c:PySem.W.codeIn K cdv x=true) (k:PySem.W.keepIn K (.ref f)=true)
  (hb:∀ (kV doc pm:Value) (an:Option Addr) (cdv ct:Value) (us:List Value),us.length=ps.length->bindArgs (PySem.W.fnOf x x (a1P st) (a1I st) (a0F st) .none kV doc pm an cdv ct) ⟨us,[]⟩=pure (ps.zip us)) :
  Nonempty (Dn K mg x st ps) :=
 have F:=c1I (st:=st) l c k
 ⟨⟨f,_,F,F.binds hb,PySem.W.mg_of X G a,λ s us hl=>.of_eq (hb _ _ _ _ _ _ us hl)⟩⟩
theorem bl_mk {K:Φρ} {h:Heap} {mg:Str->Option Value} (X:K.In h) (G:h.Ns mainGlobals mg)
  (z1:PySem.W.nsIn K mainGlobals "len" = some none) (z2:PySem.W.nsIn K mainGlobals "range" = some none) (z3:PySem.W.nsIn K mainGlobals "list" = some none) (z4:PySem.W.nsIn K mainGlobals "isinstance" = some none) (z5:PySem.W.nsIn K mainGlobals "int" = some none)
  (z6:PySem.W.nsIn K mainGlobals "bool" = some none) (z7:PySem.W.nsIn K mainGlobals "str" = some none) (z8:PySem.W.nsIn K mainGlobals "all" = some none) (z9:PySem.W.nsIn K mainGlobals "any" = some none) (z10:PySem.W.nsIn K mainGlobals "sorted" = some none)
  (z11:PySem.W.nsIn K mainGlobals "set" = some none) (z12:PySem.W.nsIn K mainGlobals "min" = some none) (z13:PySem.W.nsIn K mainGlobals "max" = some none) (z14:PySem.W.nsIn K mainGlobals "tuple" = some none) (z15:PySem.W.nsIn K mainGlobals "enumerate" = some none)
  (z16:PySem.W.nsIn K mainGlobals "dict" = some none) (z17:PySem.W.nsIn K mainGlobals "ValueError" = some none):Bl mg:=by
 refine ⟨λ x hx=>?_⟩
 simp only [List.mem_cons,List.not_mem_nil,or_false] at hx
 rcases hx with rfl | rfl | rfl | rfl | rfl | rfl | rfl | rfl | rfl | rfl | rfl | rfl | rfl | rfl | rfl | rfl | rfl
 ·exact PySem.W.mg_none_of X G z1
 ·exact PySem.W.mg_none_of X G z2
 ·exact PySem.W.mg_none_of X G z3
 ·exact PySem.W.mg_none_of X G z4
 ·exact PySem.W.mg_none_of X G z5
 ·exact PySem.W.mg_none_of X G z6
 ·exact PySem.W.mg_none_of X G z7
 ·exact PySem.W.mg_none_of X G z8
 ·exact PySem.W.mg_none_of X G z9
 ·exact PySem.W.mg_none_of X G z10
 ·exact PySem.W.mg_none_of X G z11
 ·exact PySem.W.mg_none_of X G z12
 ·exact PySem.W.mg_none_of X G z13
 ·exact PySem.W.mg_none_of X G z14
 ·exact PySem.W.mg_none_of X G z15
 ·exact PySem.W.mg_none_of X G z16
 ·exact PySem.W.mg_none_of X G z17
theorem law_at {P:Program} {w:World} {K:Φρ} {mg:Str->Option Value} {fa:Addr} {st:Stmt} {k:Nat} {sp:Sp} {x:Str} (hfa:mg "law" = some (.ref fa)) (d:Dn K mg "law" st [x]) (F:∀ base:Heap,FnOk P w K mg base CX0 k d.f d.fd [x] sp) :
  ∃ fd:FuncData,(∀ (s:Shared) (u:Value),BindsTo s fd ⟨[u],[]⟩ [(x,u)])/\∀ base:Heap,K.In base->base.Ns mainGlobals mg->FnOk P w K mg base CX0 k fa fd [x] sp:=by
 have e:fa=d.f:=by
  have:=hfa.symm.trans d.m
  have:=Option.some.inj this
  cases this
  rfl
 subst e
 exact ⟨d.fd,λ s u=>d.bd s [u] rfl,λ base _ _=>F base⟩
end L2
namespace L2
open PySem PySem.Spec PyProof.Rows
def Ite (K:Φρ) (a:Addr):It :=
 ⟨λ i H=>∃ xs x,SqL K H a xs/\xs[i]?=some x,λ i H x H'=>∃ p y,x = .ref p/\New H p (.tup [.int i,y]) H'/\∀ xs,SqL K H a xs->xs[i]?=some y,λ i H=>∃ xs,SqL K H a xs/\xs.length<=i⟩
theorem b3Z {P:Program} {w:World} {K:Φρ} {elts:List Expr} {k:Nat} {pos:Pos} (a it e:Addr) (hei:e≠it):Turn P w K (.Tuple elts k pos) (Ite K a) [e,it] e (λ i h=>(∃ old,IsEnum h e it i old)/\h.IsListIter it a i) where
 mem:=by simp
 obj:=λ i h st b hb=>by
  obtain ⟨⟨old,he⟩,hit⟩:=st
  rcases List.mem_cons.mp hb with rfl | hb
  ·exact ⟨_,he,λ v z=>by
    have z':Data.fields _=Data.cell v:=z
    cases z'⟩
  ·rw [List.mem_singleton.mp hb]
   obtain ⟨o,e1,c,d⟩:=hit
   exact ⟨o,e1,λ v z=>by rw [d] at z; cases z⟩
 keep:=λ i h h' st kk=>by
  obtain ⟨⟨old,he⟩,hit⟩:=st
  exact ⟨⟨old,kk e (by simp) _ he⟩,hit.at λ o q=>kk it (by simp) o q⟩
 item:=by
  intro X hP hw hK hc i pins s σ H E I hf st hg
  subst hP hw hK
  obtain ⟨xs,x,hq,hx⟩:=hg
  obtain ⟨its,rv,pl,hz⟩:=I.list hq
  obtain ⟨u,hu,ru⟩:=rv.get hx
  obtain ⟨⟨old,he⟩,hit⟩:=st
  obtain ⟨f0,f1,f2,f3,f4,f5⟩:=hf e (by simp)
  obtain ⟨g0,g1,g2,g3,g4,g5⟩:=hf it (by simp)
  refine wpAny_pyNext_enum_item he hit pl.isList (x:=u) (by simpa using hu) hei λ h' ho hit' hT hsz hk=>?_
  refine ⟨_,rfl,wpAny_letOwnedTupleGo_enum ho λ h2 he2 hs2=>?_⟩
  have eT:s.heap.objs.size≠e:=Nat.ne_of_gt (Heap.lt_size he)
  have iT:s.heap.objs.size≠it:=by
   obtain ⟨o,e1,_⟩:=hit
   exact Nat.ne_of_gt (Heap.lt_size e1)
  have hT2:h2.get? s.heap.objs.size=some { cls:=.type "tuple", data:=.seq #[.int i s.toks,u] }:=(hs2.2 _ eT).trans hT
  have kp:∀ b o,b≠e->b≠it->s.heap.get? b=some o->h2.get? b=some o:=λ b o h1 h2' q=>(hs2.2 b h1).trans (hk b o h1 h2' q)
  have I1:Inv X pins σ H { s with heap:=h2,toks:=s.toks+1 }:=by
   refine I.step (g':=s.gens) (d':=s.drawn) (H':=H) (ch:=[e,it]) (λ b hb=>?_) (λ b o _ _ hc q _=>kp b o (λ z=>hc (by simp [z])) (λ z=>hc (by simp [z])) q) (λ b o _ _ hc q _=>⟨o.slots,kp b o (λ z=>hc (by simp [z])) (λ z=>hc (by simp [z])) q⟩) (λ _ _ _ _ n=>n)
    (λ b o hc q=>⟨o,kp b o (λ z=>hc (by simp [z])) (λ z=>hc (by simp [z])) q⟩) (λ _ _ q=>q) (λ _ _ _ q=>q) (λ b ps q=>⟨#[],by rw [q]; simp⟩) (λ m hm=>?_) (λ b o q=>?_) I.bare
   ·rcases List.mem_cons.mp hb with rfl | hb
    ·exact ⟨f3,f1,f4,f5⟩
    ·rw [List.mem_singleton.mp hb]; exact ⟨g3,g1,g4,g5⟩
   ·obtain ⟨o,es,ep,q,r⟩:=hm
    exact ⟨o,es,ep,kp _ o (Ne.symm f1) (Ne.symm g1) q,r⟩
   ·have nb:∀ c v,H c=some v->c≠e/\c≠it:=λ c v q=>⟨a0S q f0,a0S q g0⟩
    refine (I.hok b o q).stay (λ c v hcc r=>kp c v ?_ ?_ r) (λ _ q=>q) λ _ _ q=>q
    ·rcases hcc with z | z
     ·rw [z]; exact (nb b o q).1
     ·exact (nb c _ z).1
    ·rcases hcc with z | z
     ·rw [z]; exact (nb b o q).2
     ·exact (nb c _ z).2
  have hfree:H s.heap.objs.size=none:=I.hok.fresh (Nat.le_refl _)
  have I2:Inv X pins σ (upd H s.heap.objs.size (.tup [.int i,x])) { s with heap:=h2,toks:=s.toks+1 }:=by
   refine Inv.track I1 hfree I.sz (Nat.ne_of_gt I.lt) (λ y c q=>?_) (λ p hp=>Nat.ne_of_lt (Heap.lt_size (I.pin p hp).1)) ?_
   ·obtain ⟨v,oc,q1,_⟩:=I.cell y c q
    exact Nat.ne_of_lt (Heap.lt_size q1)
   ·exact ⟨(by show 2<=sizeLine; decide),[.int i s.toks,u],.cons ⟨_,rfl⟩ (.cons ru .nil),⟨_,hT2,rfl,_,rfl⟩⟩
  refine ⟨.ref s.heap.objs.size,_,I2,rfl,⟨_,x,rfl,New.mk0 hfree,λ ys hy=>by rw [I.list_inj hy hq]; exact hx⟩,⟨⟨u,?_⟩,hit'.at λ o q=>(hs2.2 it (Ne.symm hei)).trans q⟩,λ b hb=>?_⟩
  ·have e1:((i+1:Nat):Int)=(i:Int)+1:=by omega
   show IsEnum h2 e it ((i+1:Nat):Int) u
   rw [e1]; exact he2
  ·rcases List.mem_cons.mp hb with rfl | hb
   ·rw [a0Y (Ne.symm eT)]; exact f0
   ·rw [List.mem_singleton.mp hb,a0Y (Ne.symm iT)]; exact g0
 done:=by
  intro X hP hw hK hc i pins s σ H E I hf st hg
  subst hP hw hK
  obtain ⟨xs,hq,hx⟩:=hg
  obtain ⟨its,rv,pl,hz⟩:=I.list hq
  obtain ⟨⟨old,he⟩,hit⟩:=st
  obtain ⟨g0,g1,g2,g3,g4,g5⟩:=hf it (by simp)
  have hl:=rv.length
  exact wpAny_pyNext_enum_end (I.ok.hd hc) he hit pl.isList (by simp; omega) λ h' eb=>⟨rfl,I.turned (t':=s.toks) (λ b o hb q=>eb b o hb q) g0 g1 g3 g4 g5⟩
 self:=λ _ _ _ _ _ st h=>by
  obtain ⟨⟨old,he⟩,_⟩:=st
  exact wpAny_pyIter_enum he h
section
variable {X:Cx} {K:Φρ}
def c3F (K:Φρ) (ta:TA):TI:=λ σ H R=>ta σ H λ vs H1=>∃ a,vs=[.ref a]/\(∃ xs,SqL K H1 a xs)/\R (Ite K a) H1
theorem b4A {elts:List Expr} {k:Nat} {tpos:Pos} {l:Expr} {ta:TA} {p pos:Pos} (e0:X.K=K) (hg:Gl X "enumerate") (hm:X.mg "enumerate" = none) (ha:PA X [l] ta) (hs:starEach [l] X.env=[(false,eval l X.env)]:=by rfl) :
  PI X (.Tuple elts k tpos) (.Call (.Name "enumerate" p) [l] [] pos) (c3F K ta):=by
 subst e0
 intro pins s σ H R I h
 refine wpAny_Call_Name_kw (a5A I hg hm boot_enumerate ?_)
 refine PyProof.Rows.callWith_type1 (thn (ha pos pins s σ H _ I h) λ us s1 ⟨vs,H1,I1,r1,q1⟩=>?_) hs (by rfl)
 obtain ⟨a,e,⟨xs,hq⟩,q⟩:=q1
 subst e
 obtain ⟨u,rfl,ru⟩:=a6L r1
 cases ru
 obtain ⟨its,rv,pl,hz⟩:=I1.list hq
 refine call_enumerate_list pl.isList λ h' he hit hsz hk=>?_
 refine wpAny_pyIter_enum he ?_
 have I2:Inv X pins σ H1 { s1 with heap:=h' }:=I1.kept (t':=s1.toks) hk
 refine ⟨s1.heap.objs.size+1,[s1.heap.objs.size+1,s1.heap.objs.size],_,_,H1,rfl,I2,b3Z a s1.heap.objs.size (s1.heap.objs.size+1) (Nat.ne_of_gt (Nat.lt_succ_self _)),⟨⟨_,he⟩,hit⟩,λ b hb=>?_,q⟩
 have hb':s1.heap.objs.size<=b:=by
  rcases List.mem_cons.mp hb with rfl | hb
  ·exact Nat.le_succ _
  ·rw [List.mem_singleton.mp hb]; exact Nat.le_refl _
 exact I1.fpOk hb' (I1.hok.fresh hb')
end
theorem b6L {K:Φρ} {a:Addr} {xs:List V} {g:TG} {tb:TS} {D:Ends} {σ:St} {H:Hp} (Pv:Nat->St->Hp->Prop) (h0:Pv 0 σ H) (hl:∀ i σ H,i<=xs.length->Pv i σ H->SqL K H a xs)
  (hs:∀ (i:Nat) x σ H p H',xs[i]?=some x->Pv i σ H->New H p (.tup [.int i,x]) H'->g (.ref p) σ H' λ σ2 H2=>tb { D with nx:=Pv (i+1),ct:=Pv (i+1),bk:=D.nx } σ2 H2) (hd:∀ σ H,Pv xs.length σ H->D.nx σ H) :
  ∃ W:Nat->Nat->St->Hp->Prop,(∃ m,W 0 m σ H)/\∀ i m σ H,W i m σ H ->
   ((Ite K a).stop i H/\D.nx σ H)\/((Ite K a).go i H/\∃ N:St->Hp->Prop,(∀ σ' H',N σ' H'->∃ m',m' < m/\W (i+1) m' σ' H')/\∀ x H',(Ite K a).yld i H x H'->g x σ H' λ σ2 H2=>tb { D with nx:=N,ct:=N,bk:=D.nx } σ2 H2):=by
 refine ⟨λ i m σ H=>m=xs.length - i/\i<=xs.length/\Pv i σ H,⟨xs.length,by simp,Nat.zero_le _,h0⟩,?_⟩
 rintro i m σ H ⟨rfl,hi,p⟩
 have q:=hl i σ H hi p
 by_cases hlt:i < xs.length
 ·refine .inr ⟨⟨xs,xs[i],q,by simp [hlt]⟩,Pv (i+1),λ σ' H' p'=>⟨xs.length - (i+1),by omega,rfl,hlt,p'⟩,λ x H' y=>?_⟩
  obtain ⟨pp,y0,rfl,nw,ex⟩:=y
  exact hs i y0 σ H pp H' (ex xs q) p nw
 ·have e:i=xs.length:=by omega
  subst e
  exact .inl ⟨⟨xs,q,Nat.le_refl _⟩,hd σ H p⟩
theorem b9A {K:Φρ} {a:Addr} {xs:List V} {ix:List (Option Nat)} {g:TG} {tt:TT} {te:TE} {σ:St} {H1:Hp} {Q:VK} (f:Nat->V->Option V) (hx:SqL K H1 a xs) (hz:xs.length<=1000)
  (hs:∀ (i:Nat) x H p H0 (N:Option V->Hp->Prop),xs[i]?=some x->Same H1 H->New H p (.tup [.int i,x]) H0->(∀ H',Same H1 H'->N (f i x) H')->g (.ref p) (capt ix σ) H0 λ σ2 H2=>tt σ2 H2 λ b H3=>if b=true then te σ2 H3 λ v H4=>N (some v) H4 else N none H3)
  (hd:∀ H p H',Same H1 H->New H p (.lst ((List.range xs.length).filterMap λ i=>(xs[i]?).bind (f i))) H'->Q (.ref p) H'):a4B ix g tt te σ H1 Q (Ite K a):=by
 refine ⟨λ i m ys H=>m=xs.length - i/\i<=xs.length/\ys=(List.range i).filterMap (λ i=>(xs[i]?).bind (f i))/\Same H1 H,⟨xs.length,by simp,Nat.zero_le _,rfl,Same.refl _⟩,?_⟩
 rintro i m ys H ⟨rfl,hi,e,s⟩
 have zy:ys.length<=sizeLine:=by
  rw [e]
  refine Nat.le_trans (List.length_filterMap_le _ _) ?_
  rw [List.length_range]; exact Nat.le_trans hi (Nat.le_of_lt (a1U hz))
 have q:=s.seq hx
 by_cases hlt:i < xs.length
 ·refine .inr ⟨⟨xs,xs[i],q,by simp [hlt]⟩,zy,λ ys' H'=>ys'=(List.range (i+1)).filterMap (λ i=>(xs[i]?).bind (f i))/\Same H1 H',λ ys' H' ⟨e',s'⟩=>⟨xs.length - (i+1),by omega,rfl,hlt,e',s'⟩,λ x H' y=>?_⟩
  obtain ⟨pp,y0,rfl,nw,ex⟩:=y
  have ey:=ex xs q
  refine hs i y0 H pp H' (λ o H'=>match o with | some v=>(ys++[v]=(List.range (i+1)).filterMap (λ i=>(xs[i]?).bind (f i))/\Same H1 H') | none=>(ys=(List.range (i+1)).filterMap (λ i=>(xs[i]?).bind (f i))/\Same H1 H')) ey s nw λ H' s'=>?_
  cases ef:f i y0 with
  | some v =>
   refine ⟨?_,s'⟩
   rw [e,List.range_succ,List.filterMap_append]
   simp [ey,ef]
  | none =>
   refine ⟨?_,s'⟩
   rw [e,List.range_succ,List.filterMap_append]
   simp [ey,ef]
 ·have e':i=xs.length:=by omega
  subst e'
  refine .inl ⟨⟨xs,q,Nat.le_refl _⟩,zy,λ p hp=>?_⟩
  subst e
  exact hd H p _ s (New.mk0 hp)
theorem a7B {K:Φρ} {a:Addr} {xs:List V} {ix:List (Option Nat)} {g:TG} {tt:TT} {te:TE} {σ:St} {H1:Hp} {Q:VK} (f:Nat->Option V) (hx:SqL K H1 a xs) (hz:xs.length<=1000)
  (hs:∀ (i:Nat) x H (N:Option V->Hp->Prop),xs[i]?=some x->Same H1 H->(∀ H',Same H1 H'->N (f i) H')->g x (capt ix σ) H λ σ2 H2=>tt σ2 H2 λ b H3=>if b=true then te σ2 H3 λ v H4=>N (some v) H4 else N none H3)
  (hd:∀ H p H',Same H1 H->New H p (.lst ((List.range xs.length).filterMap f)) H'->Q (.ref p) H'):a4B ix g tt te σ H1 Q (Itl K a):=by
 refine b0O (K:=K) (a:=a) (xs:=xs) (λ i ys H=>ys=(List.range i).filterMap f/\Same H1 H) ⟨rfl,Same.refl _⟩ (λ i ys H hi ⟨e,s⟩=>⟨s.seq hx,?_⟩) (λ i x ys H hi ⟨e,s⟩=>?_) λ ys H ⟨e,s⟩ p hp=>?_
 ·subst e
  refine Nat.le_trans (List.length_filterMap_le _ _) ?_
  rw [List.length_range]; exact Nat.le_trans hi (Nat.le_of_lt (a1U hz))
 ·refine hs i x H (λ o H'=>match o with | some v=>(ys++[v]=(List.range (i+1)).filterMap f/\Same H1 H') | none=>(ys=(List.range (i+1)).filterMap f/\Same H1 H')) hi s λ H' s'=>?_
  cases ef:f i with
  | some v =>
   refine ⟨?_,s'⟩
   rw [e,List.range_succ,List.filterMap_append]
   simp [ef]
  | none =>
   refine ⟨?_,s'⟩
   rw [e,List.range_succ,List.filterMap_append]
   simp [ef]
 ·subst e
  exact hd H p _ s (New.mk0 hp)
end L2
namespace Bg
open PySem L2 Lw
abbrev Row:=Option Int × List Int
def a9G (ns:List Int):Bool:=(List.range (ns.length - 1)).all λ i=>decide (ns.getD i 0 < ns.getD (i+1) 0)
def setF (n:Int) (ns:List Int):Bool:=(ns.all λ v=>decide (0<=v/\v < n)) && a9G ns
def a5F (n:Int):Option Int->Bool
 | none=>false
 | some i=>decide (0<=i/\i < n)
def upOk (k:Nat) (u:Option Int):Bool:=if k=0 then u.isNone else a5F k u
def a0G (rs:List Row) (k:Nat):Row:=rs.getD k (none,[])
def a1N (n:Int) (rs:List Row) (k:Nat):Bool:=upOk k (a0G rs k).1 && setF n (a0G rs k).2
def a0V (n:Int) (rs:List Row):Option Nat:=if rs.isEmpty then some 0 else (List.range rs.length).find? λ k=>!a1N n rs k
def has (v:Int) (r:Row):Bool:=decide (v∈r.2)
def a0W (n:Nat) (rs:List Row):Option Nat:=(List.range n).find? λ v=>!(rs.any (has v))
def a1O (ts:List ζζ) (rs:List Row):Option ζζ:=ts.find? λ t=>!(rs.any λ r=>has t.1 r && has t.2 r)
def a4V (rs:List Row) (u:Option Int) (v:Int):Bool:=match u with
 | none=>false
 | some i=>has v (a0G rs i.toNat)
def a2N (rs:List Row) (v:Int) (k:Nat):Bool:=has v (a0G rs k) && !a4V rs (a0G rs k).1 v
def a2G (rs:List Row) (v:Int):List Nat:=(List.range rs.length).filter (a2N rs v)
def a3T (rs:List Row) (v:Int):Option (Nat × Nat):=match a2G rs v with
 | j::k::_=>some (j,k)
 | _=>none
def a1K (n:Nat) (rs:List Row):Option (Nat × Nat × Nat):=(List.range n).findSome? λ (v:Nat)=>(a3T rs (v:Int)).map λ p=>(v,p.1,p.2)
inductive Flt where
 | ok | row (k:Nat) | place (v:Nat) | tie (a b:Int) | apart (v j k:Nat)
 deriving DecidableEq
def a2H (n:Nat) (ts:List ζζ) (rs:List Row):Flt:=match a0V n rs with
 | some k=>.row k
 | none=>match a0W n rs with
  | some v=>.place v
  | none=>match a1O ts rs with
   | some t=>.tie t.1 t.2
   | none=>match a1K n rs with
    | some p=>.apart p.1 p.2.1 p.2.2
    | none=>.ok
def upV:Option Int->V
 | none=>.non
 | some i=>.int i
def RowV (K:Φρ) (H:Hp) (v:V) (r:Row):Prop:=∃ p b,v = .ref p/\SqT K H p [upV r.1,.ref b]/\SqL K H b (r.2.map V.int)/\r.2.length<=1000
def RowsAt (K:Φρ) (H:Hp) (a:Addr) (rs:List Row):Prop:=∃ xs,SqL K H a xs/\Paired (RowV K H) xs rs/\rs.length<=1000
def TieV (K:Φρ) (H:Hp) (v:V) (t:Int × Int):Prop:=∃ p,v = .ref p/\SqT K H p [.int t.1,.int t.2]
def TiesAt (K:Φρ) (H:Hp) (a:Addr) (ts:List ζζ):Prop:=∃ xs,SqL K H a xs/\Paired (TieV K H) xs ts/\ts.length<=1000
def GraphV (K:Φρ) (H:Hp) (v:V) (n:Int) (ts:List ζζ):Prop:=∃ p a,v = .ref p/\SqT K H p [.int n,.ref a]/\TiesAt K H a ts
def FltV (H:Hp) (v:V):Flt->Prop
 | .ok=>v = .non
 | .row k=>∃ p,v = .ref p/\H p=some (.tup [.str "row", .int k])
 | .place x=>∃ p,v = .ref p/\H p=some (.tup [.str "place", .int x])
 | .tie a b=>∃ p,v = .ref p/\H p=some (.tup [.str "tie", .int a,.int b])
 | .apart x j k=>∃ p,v = .ref p/\H p=some (.tup [.str "apart", .int x,.int j,.int k])
theorem RowV.same {K:Φρ} {H H':Hp} {v:V} {r:Row} (e:Same H H') (h:RowV K H v r):RowV K H' v r:=by
 obtain ⟨p,b,h1,h2,h3,h4⟩:=h
 exact ⟨p,b,h1,e.tupq h2,e.seq h3,h4⟩
theorem RowsAt.same {K:Φρ} {H H':Hp} {a:Addr} {rs:List Row} (e:Same H H') (h:RowsAt K H a rs):RowsAt K H' a rs:=by
 obtain ⟨xs,h1,h2,h3⟩:=h
 exact ⟨xs,e.seq h1,Paired.mapP h2 λ _ _ q=>q.same e,h3⟩
theorem TiesAt.same {K:Φρ} {H H':Hp} {a:Addr} {ts:List ζζ} (e:Same H H') (h:TiesAt K H a ts):TiesAt K H' a ts:=by
 obtain ⟨xs,h1,h2,h3⟩:=h
 exact ⟨xs,e.seq h1,Paired.mapP h2 λ _ _ ⟨p,q1,q2⟩=>⟨p,q1,e.tupq q2⟩,h3⟩
theorem GraphV.same {K:Φρ} {H H':Hp} {v:V} {n:Int} {ts:List ζζ} (e:Same H H') (h:GraphV K H v n ts):GraphV K H' v n ts:=by
 obtain ⟨p,a,h1,h2,h3⟩:=h
 exact ⟨p,a,h1,e.tupq h2,h3.same e⟩
theorem a1C {α β:Type} {F:α->β->Prop}:∀ {xs:List α} {ys:List β} {i:Nat} {x:α},Paired F xs ys->xs[i]?=some x->∃ y,ys[i]?=some y/\F x y
 | _,_,_,_,.nil,h=>by simp at h
 | _,_,0,_,.cons h r,e=>by
  simp at e; subst e
  exact ⟨_,rfl,h⟩
 | _,_,i+1,_,.cons h r,e=>by
  obtain ⟨d,e1,q⟩:=a1C (i:=i) r (by simpa using e)
  exact ⟨d,by simpa using e1,q⟩
theorem a1F {α β:Type} {F:α->β->Prop}:∀ {xs:List α} {ys:List β} {i:Nat} {y:β},Paired F xs ys->ys[i]?=some y->∃ x,xs[i]?=some x/\F x y
 | _,_,_,_,.nil,h=>by simp at h
 | _,_,0,_,.cons h r,e=>by
  simp at e; subst e
  exact ⟨_,rfl,h⟩
 | _,_,i+1,_,.cons h r,e=>by
  obtain ⟨d,e1,q⟩:=a1F (i:=i) r (by simpa using e)
  exact ⟨d,by simpa using e1,q⟩
theorem a3U {rs:List Row} {i:Nat} {r:Row} (h:rs[i]?=some r):a0G rs i=r:=by
 unfold a0G; rw [τα,h]; rfl
theorem a1Z {rs:List Row} {i:Nat} (h:i < rs.length):rs[i]?=some (a0G rs i):=by
 unfold a0G; rw [τα,List.getElem?_eq_getElem h]; rfl
theorem a9H (rs:List Row) (p:Row->Bool):((List.range rs.length).map λ i=>p (a0G rs i)).any id=rs.any p:=by
 rw [List.any_map,Bool.eq_iff_iff]
 simp only [List.any_eq_true,List.mem_range,Function.comp,id]
 constructor
 ·rintro ⟨i,hi,h⟩
  exact ⟨a0G rs i,List.mem_of_getElem? (a1Z hi),h⟩
 ·rintro ⟨r,hr,h⟩
  obtain ⟨i,hi,rfl⟩:=List.getElem_of_mem hr
  exact ⟨i,hi,by rw [a3U (List.getElem?_eq_getElem hi)]; exact h⟩
theorem b4B {α:Type} {p:α->Bool}:∀ {l:List α} {i:Nat} {x:α},l[i]?=some x->p x=true->(∀ j z,j < i->l[j]?=some z->p z=false)->l.find? p=some x
 | [],_,_,h,_,_=>by simp at h
 | y::r,0,x,h,hp,_=>by
  simp at h; subst h
  rw [List.find?_cons,hp]
 | y::r,i+1,x,h,hp,hn=>by
  have h0:=hn 0 y (Nat.succ_pos _) rfl
  rw [List.find?_cons,h0]
  exact b4B (i:=i) (by simpa using h) hp λ j z hj hz=>hn (j+1) z (Nat.succ_lt_succ hj) (by simpa using hz)
theorem a7W {α β:Type} {f g:α->Option β}:∀ {l:List α},(∀ x∈l,f x=g x)->l.filterMap f=l.filterMap g
 | [],_=>rfl
 | x::r,h=>by
  have ih:=a7W (f:=f) (g:=g) (l:=r) λ y hy=>h y (List.mem_cons_of_mem _ hy)
  rw [List.filterMap_cons,List.filterMap_cons,h x List.mem_cons_self,ih]
theorem a3J {α β:Type} {f:α->Option β}:∀ {l:List α},(∀ x∈l,f x=none)->l.findSome? f=none
 | [],_=>rfl
 | x::r,h=>by
  rw [List.findSome?_cons,h x List.mem_cons_self]
  exact a3J λ y hy=>h y (List.mem_cons_of_mem _ hy)
theorem a3V {α β:Type} {f:α->Option β}:∀ {l m:List α},(∀ x∈l,f x=none)->(l++m).findSome? f=m.findSome? f
 | [],_,_=>rfl
 | x::r,m,h=>by
  rw [List.cons_append,List.findSome?_cons,h x List.mem_cons_self]
  exact a3V λ y hy=>h y (List.mem_cons_of_mem _ hy)
theorem a6N {β:Type} {f:Nat->Option β} {n i:Nat} {b:β} (hi:i < n) (h:f i=some b) (hn:∀ j < i,f j=none):(List.range n).findSome? f=some b:=by
 have e:n=i+(n - i):=by omega
 rw [e,List.range_add]
 rw [a3V λ x hx=>hn x (List.mem_range.mp hx)]
 obtain ⟨k,hk⟩:∃ k,n - i=k+1:=⟨n - i - 1,by omega⟩
 rw [hk,List.range_succ_eq_map,List.map_cons,List.findSome?_cons,Nat.add_zero,h]
theorem a4E {β:Type} {f:Nat->Option β} {n:Nat} (hn:∀ j < n,f j=none):(List.range n).findSome? f=none:=a3J λ x hx=>hn x (List.mem_range.mp hx)
theorem b4C (ns:List Int) (v:Int):(ns.map PyData.int).any (λ e=>PyData.eqv e (.int v))=decide (v∈ns):=by
 induction ns with
 | nil=>rfl
 | cons a r ih =>
  rw [List.map_cons,List.any_cons,ih,PyData.eqv]
  by_cases h:a=v
  ·subst h; simp
  ·have h':¬ v=a:=λ z=>h z.symm
   simp [h,h']
theorem a7C (ns:List Int):PyData.depthAll (ns.map PyData.int)=0:=by
 induction ns with
 | nil=>rfl
 | cons a r ih=>rw [List.map_cons,PyData.depthAll,ih]; rfl
theorem b1Q (ns:List Int):PyData.canLayAll0 (ns.map PyData.int)=true:=by
 induction ns with
 | nil=>rfl
 | cons a r ih=>rw [List.map_cons,PyData.canLayAll0,ih]; rfl
theorem a2R (ns:List Int):SeqAt.shaped (.list (ns.map PyData.int))=true:=by
 unfold SeqAt.shaped
 rw [PyData.canLay0,b1Q,PyData.depth,a7C]
 decide
theorem a3O {K:Φρ} {H:Hp} {b:Addr} {ns:List Int} {v:Int} {Q:VK} (hS:SqL K H b (ns.map V.int)) (q:Q (.bl (decide (v∈ns))) H):rInD K false (.int v) (.ref b) H Q :=
 ⟨_,_,.int v,.lst hS (IsDs.ints ns),rfl,a2R ns,by rw [b4C]; exact q⟩
theorem b4D {K:Φρ} {H:Hp} {b:Addr} {ns:List Int} {v:Int} {Q:VK} (hS:SqL K H b (ns.map V.int)) (q:Q (.bl (!decide (v∈ns))) H):rInD K true (.int v) (.ref b) H Q :=
 ⟨_,_,.int v,.lst hS (IsDs.ints ns),rfl,a2R ns,by rw [b4C]; exact q⟩
end Bg
namespace L2
open PySem PySem.Spec PyProof.Rows
def c3G:V->V->V->Hp->(Hp->Prop)->Prop:=λ o i v H Q=>∃ p xs k j,o = .ref p/\i = .int k/\H p=some (.lst xs)/\ixN xs.length k=some j/\∀ H',Chg H p (.lst (xs.set j v)) H'->Q H'
theorem a4I {X:Cx}:PSet X c3G:=λ pins s σ H o i v ov iv u Q I ro ri rv ⟨p,xs,k,j,e1,e2,h1,h2,q⟩=>b6E pins s σ H o i v ov iv u Q I ro ri rv ⟨p,xs,k,j,e1,e2,h1,h2,q _ Chg.mk0⟩
theorem a7X {n j:Nat} (h:j < n):ixN n (j:Int)=some j:=by
 unfold ixN
 rw [if_pos (by omega),if_pos (by omega)]; simp
theorem Same.chg {H H':Hp} {l:Addr} {o:HO} {H0:Hp} (s:Same H0 H) (h0:H0 l=none) (c:Chg H l o H'):Same H0 H':=λ b u e=>(c.rest b (a0S e h0)).trans (s b u e)
end L2
namespace Bg
open PySem L2 Lw
theorem b4E (a b:Int) (r:List Int):a9G (a::b::r)=(decide (a < b) && a9G (b::r)):=by
 unfold a9G
 have e:(a::b::r).length - 1=(b::r).length - 1+1:=by simp
 rw [e,List.range_succ_eq_map,List.all_cons,List.all_map]
 rfl
theorem b1R:∀ ls:List Int,a9G ls=true↔ls.Pairwise (· < ·)
 | []=>by simp [a9G]
 | [a]=>by simp [a9G]
 | a::b::r=>by
  rw [b4E,Bool.and_eq_true,b1R (b::r),decide_eq_true_iff,List.pairwise_cons (a:=a)]
  constructor
  ·rintro ⟨h1,h2⟩
   refine ⟨λ c hc=>?_,h2⟩
   rcases List.mem_cons.mp hc with rfl | hc
   ·exact h1
   ·exact Int.lt_trans h1 ((List.pairwise_cons.mp h2).1 c hc)
  ·rintro ⟨h1,h2⟩
   exact ⟨h1 b List.mem_cons_self,h2⟩
theorem a2C (n:Int) (ls:List Int):setF n ls=true↔(∀ v∈ls,0<=v/\v < n)/\ls.Pairwise (· < ·):=by
 unfold setF
 rw [Bool.and_eq_true,b1R,List.all_eq_true]
 constructor
 ·rintro ⟨h1,h2⟩
  exact ⟨λ v hv=>of_decide_eq_true (h1 v hv),h2⟩
 ·rintro ⟨h1,h2⟩
  exact ⟨λ v hv=>decide_eq_true (h1 v hv),h2⟩
def TieL (H:Hp) (v:V) (t:Int × Int):Prop:=∃ p,v = .ref p/\H p=some (.tup [.int t.1,.int t.2])
def RowL (l:Addr) (H:Hp) (v:V) (r:Row):Prop:=∃ p b,v = .ref p/\H p=some (.tup [upV r.1,.ref b])/\H b=some (.lst (r.2.map V.int))/\b≠l/\r.2.length<=1000
theorem TieL.v {K:Φρ} {H:Hp} {v:V} {t:Int × Int} (h:TieL H v t):TieV K H v t:=by
 obtain ⟨p,e,q⟩:=h
 exact ⟨p,e,SqT.of q⟩
theorem TieL.same {H H':Hp} {v:V} {t:Int × Int} (s:Same H H') (h:TieL H v t):TieL H' v t:=by
 obtain ⟨p,e,q⟩:=h
 exact ⟨p,e,s _ _ q⟩
theorem TieL.chg {H H':Hp} {l:Addr} {xs ys:List V} {v:V} {t:Int × Int} (hl:H l=some (.lst xs)) (c:Chg H l (.lst ys) H') (h:TieL H v t):TieL H' v t:=by
 obtain ⟨p,e,q⟩:=h
 exact ⟨p,e,(c.rest p (b8G q hl (by intro z; cases z))).trans q⟩
theorem RowL.same {l:Addr} {H H':Hp} {v:V} {r:Row} (s:Same H H') (h:RowL l H v r):RowL l H' v r:=by
 obtain ⟨p,b,e,q1,q2,n,z⟩:=h
 exact ⟨p,b,e,s _ _ q1,s _ _ q2,n,z⟩
theorem RowL.chg {H H':Hp} {l:Addr} {xs ys:List V} {v:V} {r:Row} (hl:H l=some (.lst xs)) (c:Chg H l (.lst ys) H') (h:RowL l H v r):RowL l H' v r:=by
 obtain ⟨p,b,e,q1,q2,n,z⟩:=h
 exact ⟨p,b,e,(c.rest p (b8G q1 hl (by intro z; cases z))).trans q1,(c.rest b n).trans q2,n,z⟩
theorem a1X {α β:Type} {F:α->β->Prop}:∀ {xs:List α} {ys:List β} {x:α} {y:β},Paired F xs ys->F x y->Paired F (xs++[x]) (ys++[y])
 | _,_,_,_,.nil,h=>.cons h .nil
 | _,_,_,_,.cons h r,q=>.cons h (a1X r q)
def upD:Option Int->PyData
 | none=>.none
 | some i=>.int i
def rowD (r:Row):PyData:=.tuple [upD r.1,.list (r.2.map PyData.int)]
def tieD (t:Int × Int):PyData:=.tuple [.int t.1,.int t.2]
theorem RowV.isD {K:Φρ} {H:Hp} {v:V} {r:Row} (h:RowV K H v r):IsD K H v (rowD r):=by
 obtain ⟨p,b,rfl,q1,q2,z⟩:=h
 refine .tup q1 (.cons ?_ (.cons (.lst q2 (IsDs.ints _)) .nil))
 cases r.1 with
 | none=>exact .non
 | some i=>exact .int i
theorem TieV.isD {K:Φρ} {H:Hp} {v:V} {t:Int × Int} (h:TieV K H v t):IsD K H v (tieD t):=by
 obtain ⟨p,rfl,q1⟩:=h
 exact .tup q1 (.cons (.int _) (.cons (.int _) .nil))
theorem b0R {K:Φρ} {H:Hp} {α:Type} {F:V->α->Prop} {f:α->PyData} (hf:∀ v x,F v x->IsD K H v (f x)):∀ {xs:List V} {ys:List α},Paired F xs ys->IsDs K H xs (ys.map f)
 | _,_,.nil=>.nil
 | _,_,.cons h r=>.cons (hf _ _ h) (b0R hf r)
def b9B (rs:List Row):PyData:=.list (rs.map rowD)
def b2P (ts:List ζζ):PyData:=.list (ts.map tieD)
theorem RowsAt.isD {K:Φρ} {H:Hp} {a:Addr} {rs:List Row} (h:RowsAt K H a rs):IsD K H (.ref a) (b9B rs):=by
 obtain ⟨xs,h1,h2,_⟩:=h
 exact .lst h1 (b0R (λ v x q=>q.isD) h2)
theorem TiesAt.isD {K:Φρ} {H:Hp} {a:Addr} {ts:List ζζ} (h:TiesAt K H a ts):IsD K H (.ref a) (b2P ts):=by
 obtain ⟨xs,h1,h2,_⟩:=h
 exact .lst h1 (b0R (λ v x q=>q.isD) h2)
def webD (n:Int) (ts:List ζζ):PyData:=.tuple [.int n,b2P ts]
theorem GraphV.isD {K:Φρ} {H:Hp} {v:V} {n:Int} {ts:List ζζ} (h:GraphV K H v n ts):IsD K H v (webD n ts):=by
 obtain ⟨p,a,rfl,q1,q2⟩:=h
 exact .tup q1 (.cons (.int _) (.cons q2.isD .nil))
theorem b0S {α:Type} {f:α->PyData} (h:∀ x,(f x).canLay0=true):∀ l:List α,PyData.canLayAll0 (l.map f)=true
 | []=>rfl
 | x::r=>by rw [List.map_cons,PyData.canLayAll0,h x,b0S h r]; rfl
theorem a4J {α:Type} {f:α->PyData} {k:Nat} (h:∀ x,(f x).depth<=k):∀ l:List α,PyData.depthAll (l.map f)<=k
 | []=>Nat.zero_le _
 | x::r=>by
  rw [List.map_cons,PyData.depthAll]
  exact Nat.max_le.mpr ⟨h x,a4J h r⟩
theorem b9C (r:Row):(rowD r).canLay0=true:=by
 unfold rowD
 rw [PyData.canLay0,PyData.canLayAll0,PyData.canLayAll0,PyData.canLay0,b1Q]
 cases r.1 <;> rfl
theorem b4F (r:Row):(rowD r).depth<=2:=by
 unfold rowD
 rw [PyData.depth,PyData.depthAll,PyData.depthAll,PyData.depth,a7C]
 cases r.1 <;> simp [upD,PyData.depth,PyData.depthAll]
theorem b9D (t:Int × Int):(tieD t).canLay0=true:=rfl
theorem a9I (t:Int × Int):(tieD t).depth<=1:=by
 unfold tieD
 simp [PyData.depth,PyData.depthAll]
theorem a2D (rs:List Row):SeqAt.shaped (b9B rs)=true:=by
 unfold SeqAt.shaped b9B
 rw [PyData.canLay0,b0S b9C,PyData.depth,Bool.true_and]
 exact decide_eq_true (by have:=a4J b4F rs; omega)
theorem b0T (ts:List ζζ):SeqAt.shaped (b2P ts)=true:=by
 unfold SeqAt.shaped b2P
 rw [PyData.canLay0,b0S b9D,PyData.depth,Bool.true_and]
 exact decide_eq_true (by have:=a4J a9I ts; omega)
theorem a4W (n:Int) (ts:List ζζ):SeqAt.shaped (webD n ts)=true:=by
 have h:=b0T ts
 unfold SeqAt.shaped at h ⊢
 rw [Bool.and_eq_true] at h
 have h2:(b2P ts).depth<=2:=by
  unfold b2P
  rw [PyData.depth]
  have:=a4J a9I ts; omega
 unfold webD
 rw [PyData.canLay0,PyData.canLayAll0,PyData.canLayAll0,h.1,PyData.depth,PyData.depthAll,PyData.depthAll,PyData.depthAll,PyData.depth]
 simp only [PyData.canLay0,PyData.canLayAll0,Bool.and_true,Bool.true_and]
 refine decide_eq_true ?_
 omega
theorem a4K {d:PyData} (h:SeqAt.shaped d=true):PyData.eqv d d=true:=SeqAt.eqv_refl d (SeqAt.canLay_of_shaped h)
end Bg
set_option maxHeartbeats 4100000
namespace L2
open PySem PySem.Spec PyProof.Rows
section
variable {X:Cx} {K:Φρ} {a b:Expr} {rest:List Expr} {pos:Pos} {ta tb:TE}
end
end L2
set_option maxHeartbeats 4100000
namespace L2
open PySem PySem.Spec PyProof.Rows
section
variable {K:Φρ} {a:Addr} {xs:List V} {ix:List (Option Nat)} {g:TG} {tt:TT} {te:TE} {σ:St} {H1:Hp} {Q:VK}
end
section
variable {X:Cx} {K:Φρ}
end
end L2
namespace Srt
open PySem PySem.W PyProof.Rows
def Ok (n:Nat) (key:Nat->Int) {α:Type}:KasT α->(α->Prop)->Prop
 | .ret a,Q=>Q a
 | .ask i j k,Q=>i < n/\j < n/\Ok n key (k (decide (key i < key j))) Q
section
variable {n:Nat} {key:Nat->Int} {α β:Type}
theorem Ok.mono {Q Q':α->Prop} (h:∀ a,Q a->Q' a):∀ {t:KasT α},Ok n key t Q->Ok n key t Q'
 | .ret _,x=>h _ x
 | .ask _ _ _,⟨a,b,x⟩=>⟨a,b,Ok.mono h x⟩
theorem Ok.bind {f:α->KasT β} {Q:β->Prop}:∀ {t:KasT α},Ok n key t (λ a=>Ok n key (f a) Q)->Ok n key (t.bind f) Q
 | .ret _,x=>x
 | .ask _ _ _,⟨a,b,x⟩=>⟨a,b,Ok.bind x⟩
theorem Ok.wp {cmp:Nat->Nat->(Bool->Shared->Prop)->Shared->Prop} {s:Shared} {Q:α->Prop} {R:α->Shared->Prop} (hc:∀ i j (C:Bool->Shared->Prop),i < n->j < n->C (decide (key i < key j)) s->cmp i j C s) (hq:∀ a,Q a->R a s) :
  ∀ {t:KasT α},Ok n key t Q->t.kasWp cmp R s
 | .ret _,x=>hq _ x
 | .ask i j k,⟨a,b,x⟩=>hc i j _ a b (Ok.wp hc hq x)
structure Pm (n:Nat) (p:Array Nat):Prop where
 perm:p.Perm (List.range n).toArray
theorem Pm.size {p:Array Nat} (h:Pm n p):p.size=n:=by
 have:=h.perm.size_eq
 simpa using this
theorem Pm.lt {p:Array Nat} (h:Pm n p) {i:Nat} (hi:i < n):p.getD i 0 < n:=by
 have hs:=h.size
 have hi':i < p.size:=by omega
 have hm:p[i]∈(List.range n):=by
  have:=(Array.perm_iff_toList_perm.mp h.perm).mem_iff (a:=p[i])
  simpa using this
 have:p.getD i 0=p[i]:=by simp [Array.getD,hi']
 rw [this]; exact List.mem_range.mp hm
theorem Pm.of {p q:Array Nat} (h:Pm n p) (e:q.Perm p):Pm n q:=⟨e.trans h.perm⟩
def KK (key:Nat->Int) (p:Array Nat) (i:Nat):Int:=key (p.getD i 0)
theorem a7D (p:Array Nat) (i:Nat):p.getD i 0=(p[i]?).getD 0:=by simp [Array.getD_eq_getD_getElem?]
theorem a9J {p:Array Nat} {i j:Nat} (hj:j<=p.size) (k:Nat):KK key (kas_rev p i j) k=if i<=k/\k < j then KK key p (i+j - 1 - k) else KK key p k:=by
 unfold KK kas_rev
 rw [a7D,getElem?_mirror_all hj]
 split <;> rw [a7D]
theorem b7Y {p:Array Nat} {k d:Nat} (hk:k < p.size) (hd:d<=k) (i:Nat):KK key (bubble p k d) i=if i=k - d then KK key p k else if k - d < i/\i<=k then KK key p (i - 1) else KK key p i:=by
 unfold KK
 rw [a7D,a7D p k,a7D p (i - 1),a7D p i,getElem?_bubble hk d hd]
 split
 ·rfl
 ·split <;> rfl
def Srtd (key:Nat->Int) (p:Array Nat) (m:Nat):Prop:=∀ i j,i<=j->j < m->KK key p i<=KK key p j
def Down (key:Nat->Int) (p:Array Nat) (m:Nat):Prop:=∀ i j,i<=j->j < m->KK key p j<=KK key p i
theorem Pm.rev {p:Array Nat} (h:Pm n p) (i j:Nat):Pm n (kas_rev p i j):=h.of (mirror_perm _ _ _ _)
theorem b4G {p:Array Nat} (hp:Pm n p):∀ (f m:Nat),1<=m->m+f<=n->Srtd key p m->Ok n key (kas_asc p f m) (λ r=>m<=r/\r<=m+f/\Srtd key p r/\(r=m+f\/KK key p r < KK key p (r - 1)))
 | 0,m,_,_,hs=>⟨Nat.le_refl _,Nat.le_refl _,hs,.inl rfl⟩
 | f+1,m,h1,hm,hs=>by
  refine ⟨hp.lt (by omega),hp.lt (by omega),?_⟩
  by_cases c:key (p.getD m 0) < key (p.getD (m - 1) 0)
  ·rw [decide_eq_true c]; dsimp only; rw [if_pos rfl]
   exact ⟨Nat.le_refl _,by omega,hs,.inr c⟩
  ·rw [decide_eq_false c]; dsimp only; rw [if_neg Bool.false_ne_true]
   refine Ok.mono (λ r ⟨a,b,d,e⟩=>⟨by omega,by omega,d,?_⟩) (b4G hp f (m+1) (by omega) (by omega) ?_)
   ·intro i j hij hj
    by_cases hjm:j < m
    ·exact hs i j hij hjm
    ·have:j=m:=by omega
     subst this
     by_cases hi:i=j
     ·subst hi; exact Int.le_refl _
     ·have q:=hs i (j - 1) (by omega) (by omega)
      have c':KK key p (j - 1)<=KK key p j:=by unfold KK; omega
      omega
   ·rcases e with e | e
    ·exact .inl (by omega)
    ·exact .inr e
theorem b1S {p:Array Nat} (hp:Pm n p) {m:Nat} (h1:1<=m) (hm:m<=n) (hd:Down key p m):Ok n key (kas_tail3 m n p) (λ r=>Pm n r.2/\1<=r.1/\r.1<=n/\Srtd key r.2 r.1):=by
 refine Ok.bind (Ok.mono (λ r ⟨a,b,c,_⟩=>?_) (b4G (hp.rev 0 m) (n - m) m h1 (by omega) ?_))
 ·intro i j hij hj
  have hs:=hp.size
  rw [a9J (by omega),a9J (by omega),if_pos (by omega),if_pos (by omega)]
  exact hd _ _ (by omega) (by omega)
 ·exact ⟨hp.rev 0 m,by show 1<=r; omega,by show r<=n; omega,c⟩
theorem a5U {p:Array Nat} {m q:Nat} (hm:m<=p.size) (he:∀ i,m - (q+1)<=i->i < m->KK key p i=KK key p (m - 1)) (k:Nat):KK key (kas_rev p (m - (q+1)) m) k=KK key p k:=by
 rw [a9J hm]
 by_cases c:m - (q+1)<=k/\k < m
 ·rw [if_pos c,he k c.1 c.2,he _ (by omega) (by omega)]
 ·rw [if_neg c]
theorem a7Y:∀ (f:Nat) {p:Array Nat} (m q:Nat),Pm n p->1<=m->m+f<=n->Down key p m->q+1<=m->(∀ i,m - (q+1)<=i->i < m->KK key p i=KK key p (m - 1)) ->
  Ok n key (kas_desc f p m q) (λ r=>Pm n r.1/\1<=r.2.1/\r.2.1<=n/\Down key r.1 r.2.1/\r.2.2+1<=r.2.1/\∀ i,r.2.1 - (r.2.2+1)<=i->i < r.2.1->KK key r.1 i=KK key r.1 (r.2.1 - 1))
 | 0,p,m,q,hp,h1,hm,hd,hq,he=>⟨hp,h1,by show m<=n; omega,hd,hq,he⟩
 | f+1,p,m,q,hp,h1,hm,hd,hq,he=>by
  refine ⟨hp.lt (by omega),hp.lt (by omega),?_⟩
  have hs:=hp.size
  have one:∀ (p':Array Nat),(∀ k,KK key p' k=KK key p k)->KK key p m<=KK key p (m - 1)->Down key p' (m+1):=λ p' hk c i j hij hj=>by
   rw [hk,hk]
   by_cases hjm:j < m
   ·exact hd i j hij hjm
   ·have:j=m:=by omega
    subst this
    by_cases hi:i=j
    ·subst hi; exact Int.le_refl _
    ·have:=hd i (j - 1) (by omega) (by omega); omega
  by_cases c:key (p.getD m 0) < key (p.getD (m - 1) 0)
  ·rw [decide_eq_true c]; dsimp only; rw [if_pos rfl]
   have c1:KK key p m<=KK key p (m - 1):=by unfold KK; omega
   by_cases hq0:q > 0
   ·rw [if_pos hq0]
    exact a7Y f (m+1) 0 (hp.rev _ _) (by omega) (by omega) (one _ (a5U (by omega) he) c1) (by omega) λ i a b=>by congr 1; omega
   ·rw [if_neg hq0]
    exact a7Y f (m+1) 0 hp (by omega) (by omega) (one _ (λ _=>rfl) c1) (by omega) λ i a b=>by congr 1; omega
  ·rw [decide_eq_false c]; dsimp only; rw [if_neg Bool.false_ne_true]
   refine ⟨hp.lt (by omega),hp.lt (by omega),?_⟩
   by_cases d:key (p.getD (m - 1) 0) < key (p.getD m 0)
   ·rw [decide_eq_true d]; dsimp only; rw [if_pos rfl]
    exact ⟨hp,h1,by show m<=n; omega,hd,hq,he⟩
   ·rw [decide_eq_false d]; dsimp only; rw [if_neg Bool.false_ne_true]
    have e:KK key p m=KK key p (m - 1):=by unfold KK; omega
    refine a7Y f (m+1) (q+1) hp (by omega) (by omega) (one _ (λ _=>rfl) (by omega)) (by omega) λ i a b=>?_
    rw [show m+1 - 1=m by omega]
    by_cases hi:i=m
    ·subst hi; rfl
    ·rw [e]; exact he i (by omega) (by omega)
theorem a5V {p:Array Nat} (hp:Pm n p) {m:Nat} (hm:m+1<=n) (hd:Down key p (m+1)):Ok n key (kas_descPart m n p) (λ r=>Pm n r.2/\1<=r.1/\r.1<=n/\Srtd key r.2 r.1):=by
 refine Ok.bind (Ok.mono (λ r ⟨a,b,c,d,e,g⟩=>?_) (a7Y (n - (m+1)) (m+1) 0 hp (by omega) (by omega) hd (by omega) λ i x y=>by congr 1; omega))
 have hs:=a.size
 by_cases q:r.2.2 > 0
 ·rw [if_pos q]
  exact b1S (a.rev _ _) b c λ i j x y=>by rw [a5U (by omega) g,a5U (by omega) g]; exact d i j x y
 ·rw [if_neg q]
  exact b1S a b c d
theorem b6M {p:Array Nat} (hp:Pm n p) (h1:1<=n):Ok n key (kas_count n p) (λ r=>Pm n r.2/\1<=r.1/\r.1<=n/\Srtd key r.2 r.1):=by
 refine Ok.bind (Ok.mono (λ m ⟨a,b,c,d⟩=>?_) (b4G hp (n - 1) 1 (Nat.le_refl _) (by omega) λ i j x y=>by have:i=j:=(by omega); subst this; exact Int.le_refl _))
 by_cases e:m=n
 ·rw [if_pos (by simpa using e)]
  exact ⟨hp,a,by omega,c⟩
 ·rw [if_neg (by simpa using e)]
  have lt:KK key p m < KK key p (m - 1):=by
   rcases d with d | d
   ·omega
   ·exact d
  have hs:=hp.size
  by_cases g:m > 1
  ·rw [if_pos g]
   refine ⟨hp.lt (by omega),hp.lt (by omega),?_⟩
   by_cases z:key (p.getD 0 0) < key (p.getD (m - 1) 0)
   ·rw [decide_eq_true z]; dsimp only; rw [if_pos rfl]
    exact ⟨hp,a,by show m<=n; omega,c⟩
   ·rw [decide_eq_false z]; dsimp only; rw [if_neg Bool.false_ne_true]
    refine a5V (hp.rev _ _) (by omega) ?_
    have z':KK key p (m - 1)<=KK key p 0:=by unfold KK; omega
    have all:∀ i,i < m->KK key p i=KK key p 0:=λ i hi=>by
     have q1:=c 0 i (by omega) hi
     have q2:=c i (m - 1) (by omega) (by omega)
     omega
    intro i j hij hj
    rw [a9J (by omega),a9J (by omega)]
    by_cases hjm:j < m
    ·rw [if_pos (by omega),if_pos (by omega)]
     have u1:=all (0+m - 1 - j) (by omega)
     have u2:=all (0+m - 1 - i) (by omega)
     omega
    ·have:j=m:=by omega
     subst this
     rw [if_neg (by omega)]
     by_cases hi:i < j
     ·rw [if_pos (by omega)]
      have u1:=all (j - 1) (by omega)
      have u2:=all (0+j - 1 - i) (by omega)
      omega
     ·rw [if_neg (by omega)]
      have:i=j:=by omega
      subst this; exact Int.le_refl _
  ·rw [if_neg g]
   have m1:m=1:=by omega
   subst m1
   refine a5V hp (by omega) λ i j hij hj=>?_
   by_cases hi:i=j
   ·subst hi; exact Int.le_refl _
   ·have i0:i=0:=by omega
    have j1:j=1:=by omega
    subst i0; subst j1
    exact Int.le_of_lt lt
theorem a7Z {p:Array Nat} (hp:Pm n p) {k:Nat} (hk:k < n) (hs:Srtd key p k):∀ (f l r:Nat),l<=r->r<=k->r - l<=f->(∀ i,i < l->KK key p i<=KK key p k)->(∀ i,r<=i->i < k->KK key p k < KK key p i) ->
  Ok n key (kas_place p k f l r) (λ l=>l<=k/\(∀ i,i < l->KK key p i<=KK key p k)/\∀ i,l<=i->i < k->KK key p k < KK key p i)
 | 0,l,r,h1,h2,h3,lo,hi=>⟨by omega,lo,λ i a b=>hi i (by omega) b⟩
 | f+1,l,r,h1,h2,h3,lo,hi=>by
  unfold kas_place
  by_cases c:l ≥ r
  ·rw [if_pos c]
   exact ⟨by omega,lo,λ i a b=>hi i (by omega) b⟩
  ·rw [if_neg c]
   refine ⟨hp.lt hk,hp.lt (by omega),?_⟩
   by_cases d:key (p.getD k 0) < key (p.getD ((l+r) / 2) 0)
   ·rw [decide_eq_true d]; dsimp only; rw [if_pos rfl]
    refine a7Z hp hk hs f l ((l+r) / 2) (by omega) (by omega) (by omega) lo λ i a b=>?_
    have:=hs ((l+r) / 2) i a b
    have d':KK key p k < KK key p ((l+r) / 2):=d
    omega
   ·rw [decide_eq_false d]; dsimp only; rw [if_neg Bool.false_ne_true]
    refine a7Z hp hk hs f ((l+r) / 2+1) r (by omega) h2 (by omega) (λ i a=>?_) hi
    have:=hs i ((l+r) / 2) (by omega) (by omega)
    have d':KK key p ((l+r) / 2)<=KK key p k:=by unfold KK; omega
    omega
theorem b7Z:∀ (f:Nat) {p:Array Nat} (k:Nat),Pm n p->k+f=n->Srtd key p k->Ok n key (kas_bin f p k) (λ p=>Pm n p/\Srtd key p n)
 | 0,p,k,hp,hk,hs=>⟨hp,by have:k=n:=(by omega); rw [<- this]; exact hs⟩
 | f+1,p,k,hp,hk,hs=>by
  refine Ok.bind (Ok.mono (λ l ⟨a,lo,hi⟩=>?_) (a7Z hp (by omega) hs k 0 k (by omega) (Nat.le_refl _) (by omega) (λ i h=>by omega) λ i h1 h2=>by omega))
  have hz:=hp.size
  refine b7Z f (k+1) (hp.of (bubble_perm _ _ _)) (by omega) λ i j hij hj=>?_
  rw [b7Y (by omega) (by omega),b7Y (by omega) (by omega)]
  rw [show k - (k - l)=l by omega]
  by_cases i1:i=l
  ·rw [if_pos i1]
   by_cases j1:j=l
   ·rw [if_pos j1]; exact Int.le_refl _
   ·rw [if_neg j1,if_pos (by omega)]
    exact Int.le_of_lt (hi (j - 1) (by omega) (by omega))
  ·rw [if_neg i1]
   by_cases i2:l < i/\i<=k
   ·rw [if_pos i2,if_neg (by omega),if_pos (by omega)]
    exact hs (i - 1) (j - 1) (by omega) (by omega)
   ·rw [if_neg i2]
    by_cases j1:j=l
    ·rw [if_pos j1]; exact lo i (by omega)
    ·rw [if_neg j1]
     by_cases j2:l < j/\j<=k
     ·rw [if_pos j2]; exact hs i (j - 1) (by omega) (by omega)
     ·rw [if_neg j2]; exact hs i j hij (by omega)
theorem b9E (h1:1<=n):Ok n key (kas_sort n) (λ p=>Pm n p/\Srtd key p n):=by
 refine Ok.bind (Ok.mono (λ r ⟨a,b,c,d⟩=>?_) (b6M ⟨Array.Perm.refl _⟩ h1))
 by_cases e:r.1 < n
 ·rw [if_pos e]
  refine b7Z _ _ a (by omega) ?_
  rw [show max r.1 1=r.1 by omega]
  exact d
 ·rw [if_neg e]
  exact ⟨a,by have:r.1=n:=(by omega); rw [<- this]; exact d⟩
end
end Srt
set_option maxHeartbeats 4100000
namespace Srt
open PySem PyProof.Rows PySem.Calls PySem.W
section
variable {prog:Program} {wo:World} {A:Around} {E:Value->Shared->Prop} {s:Shared}
def Asks (prog:Program) (wo:World) (A:Around) (κ:SortKind) (zs:List Value) (key:Nat->Int) (s:Shared):Prop :=
 (∀ (E:Value->Shared->Prop) (R:SortKind->Shared->Prop),R κ s->wpAny (model prog wo) A (keyKind' zs.toArray) R E s) /\
 ∀ (i j:Nat) (C:Bool->Shared->Prop),i < zs.length->j < zs.length->C (decide (key i < key j)) s->kas_ask prog wo A κ zs i j C s
abbrev b0U (zs:List Value) (p:Array Nat):Array Value:=List.toArray (p.toList.map λ i=>zs.getD i Value.none)
theorem c1P (zs:List Value):b0U zs (List.range zs.length).toArray=zs.toArray:=by
 unfold b0U
 congr 1
 apply List.ext_getElem?
 intro i
 by_cases h:i < zs.length
 ·simp [h]
 ·simp [h]
theorem a9K {a:Addr} {zs:List Value} {n:Nat} {κ:SortKind} {key:Nat->Int} {P:PySem.Fin->Shared->Prop} (oa:s.heap.get? a=some (seqObj "list" zs.toArray n)) (h64:zs.length < 64)
  (hk:2<=zs.length->∀ h',(∀ b o,b≠a->s.heap.get? b=some o->h'.get? b=some o)->Asks prog wo A κ zs key { s with heap:=h' })
  (h:∀ p,Pm zs.length p->Srtd key p zs.length->P (.done (.ret .none)) { s with heap:=sortedHeap s.heap a zs (b0U zs p) }) :
  wpAny (model prog wo) A (Builtin.«list.sort» ⟨[.ref a],[]⟩) P E s:=by
 rw [list_sort_plain]
 have la:a < s.heap.objs.size:=Heap.lt_size oa
 refine wpAny_bind (listItems_at oa rfl ?_)
 refine wpAny_bind (listUpdate_at oa rfl ?_ (by rw [List.size_toArray,sizeLine_eq]; omega) (Nat.zero_le _))
 obtain ⟨ep,oa1⟩:∃ ep,(s.heap.update a (Obj.mapSeq λ _=>#[])).get? a=some (seqObj "list" #[] ep):=⟨_,get?_update_seq oa (λ _=>#[])⟩
 refine wpAny_bind (seqEpoch_at oa1 rfl ?_)
 refine wpAny_bind (wpAny_newTuple ?_ (by show zs.length<=_; rw [sizeLine_eq]; omega))
 refine wpAny_bind (wpAny_newList (wpAny_holding ?_) (Nat.zero_le _))
 have oa6:(((s.heap.update a (Obj.mapSeq λ _=>#[])).push (seqObj "tuple" zs.toArray 0)).push (seqObj "list" #[] 0)).get? a=some (seqObj "list" #[] ep):=by
  rw [Heap.get?_push_ne _ _ _ (by rw [size_push',Heap.size_update]; exact Nat.ne_of_lt (Nat.lt_succ_of_lt la)),Heap.get?_push_ne _ _ _ (by rw [Heap.size_update]; exact Nat.ne_of_lt la)]
  exact oa1
 show wpAny (model prog wo) A _ P E { s with heap:=((s.heap.update a (Obj.mapSeq λ _=>#[])).push (seqObj "tuple" zs.toArray 0)).push (seqObj "list" #[] 0) }
 dsimp only
 have lz:zs.toArray.size=zs.length:=by simp
 by_cases g2:zs.toArray.size < 2
 ·rw [if_pos g2,if_pos g2]
  refine wpAny_bind (wpAny_pure ?_); rw [StateT.run_pure]; refine wpAny_bind (wpAny_pure ?_); dsimp only
  refine wpAny_bind (seqEpoch_at oa6 rfl ?_)
  refine wpAny_bind (listUpdate_at oa6 rfl ?_ (Nat.zero_le _) (by rw [Array.size_map]; show (pairsOf zs).size<=_; rw [pairsOf_size,sizeLine_eq]; omega))
  simp only [if_false,Bool.false_eq_true,bne_self_eq_false]
  have q:=h (List.range zs.length).toArray ⟨Array.Perm.refl _⟩ (λ i j hij hj=>by have:i=j:=(by omega); subst this; exact Int.le_refl _)
  rw [c1P] at q
  refine wpAny_pure ?_
  have e:(arrOf (SortSt.mk' general' (zs.toArray.zip zs.toArray) #[] 7 none)).map (·.2)=zs.toArray:=by
   show (zs.toArray.zip zs.toArray).map (·.2)=zs.toArray
   rw [Array.map_snd_zip]
   exact Nat.le_refl _
  rw [e]
  exact q
 ·rw [if_neg g2,if_neg g2]
  have h2':2<=zs.length:=by omega
  obtain ⟨ak,ac⟩:=hk h2' (((s.heap.update a (Obj.mapSeq λ _=>#[])).push (seqObj "tuple" zs.toArray 0)).push (seqObj "list" #[] 0)) λ b o hb e=>Heap.get?_push_of_some _ (Heap.get?_push_of_some _ (by rw [Heap.get?_update_ne _ _ _ _ hb]; exact e))
  refine wpAny_bind (ak _ _ ?_)
  have ask:(kas_sort zs.length).kasWp (kas_ask prog wo A κ zs) (λ p s'=>s'={ s with heap:=((s.heap.update a (Obj.mapSeq λ _=>#[])).push (seqObj "tuple" zs.toArray 0)).push (seqObj "list" #[] 0) }/\Pm zs.length p/\Srtd key p zs.length)
    { s with heap:=((s.heap.update a (Obj.mapSeq λ _=>#[])).push (seqObj "tuple" zs.toArray 0)).push (seqObj "list" #[] 0) } :=
   Ok.wp (n:=zs.length) (key:=key) ac (λ p hp=>⟨rfl,hp⟩) (b9E (by omega))
  rw [kas_ask_eq] at ask
  have est:SortSt.mk' κ (zs.toArray.zip zs.toArray) #[] 7 none=kas_st κ (pairsOf zs) (List.toArray (List.range zs.length)):=by
   have e:=kas_range (pairsOf zs)
   rw [pairsOf_size] at e
   show SortSt.mk' κ (pairsOf zs) #[] 7 none=SortSt.mk' κ ((List.toArray (List.range zs.length)).map (kas_item (pairsOf zs))) #[] 7 none
   rw [e]
  have rn:=kas_runs (E:=E) (Q:=λ _ st' s'=>∃ p:Array Nat,p.size=zs.length/\arrOf st'=p.map (kas_item (pairsOf zs))/\failedOf st'=none/\(s'={ s with heap:=((s.heap.update a (Obj.mapSeq λ _=>#[])).push (seqObj "tuple" zs.toArray 0)).push (seqObj "list" #[] 0) }/\Pm zs.length p/\Srtd key p zs.length))
   h2' h64 (λ p' st' s' a1 a2 a3 a4=>⟨p',a1,a2,a3,a4⟩) ask
  rw [<- est] at rn
  refine wpAny_bind (wpAny_mono rn ?_ λ _ _ e=>e)
  rintro ⟨⟨⟩,st'⟩ s' ⟨p,hp,ra,hf,rfl,pm,sr⟩
  dsimp only
  have hout:(arrOf st').map (·.2)=b0U zs p:=by
   apply Array.toList_inj.mp
   rw [ra,Array.map_map,Array.toList_map]
   exact List.map_congr_left λ i _=>by show (kas_item (pairsOf zs) i).2=_; rw [kas_item_eq]
  have hso:(b0U zs p).size=zs.length:=by rw [List.size_toArray,List.length_map,Array.length_toList,hp]
  rw [hout]
  refine wpAny_bind (seqEpoch_at oa6 rfl ?_)
  refine wpAny_bind (listUpdate_at oa6 rfl ?_ (Nat.zero_le _) (Nat.le_trans (Nat.le_of_eq hso) (by rw [sizeLine_eq]; omega)))
  rw [hf]
  simp only [if_false,Bool.false_eq_true,bne_self_eq_false]
  exact wpAny_pure (h p pm sr)
theorem b4H {l:Addr} {zs:List Value} {κ:SortKind} {key:Nat->Int} {R:Value->Shared->Prop} (il:s.heap.IsList l zs.toArray) (h64:zs.length < 64)
  (hk:2<=zs.length->∀ (A':Around) (h':Heap),(∀ b o,s.heap.get? b=some o->h'.get? b=some o)->Asks prog wo A' κ zs key { s with heap:=h' })
  (h:∀ p,Pm zs.length p->Srtd key p zs.length->R (.ref (s.heap.objs.size+1)) { s with heap:=sortedAll s.heap zs (b0U zs p) }) :
  wpAny (model prog wo) A (call (.builtin "sorted") [.ref l]) R E s:=by
 apply Calls.call_function_entry kind_sorted plain_sorted entry_sorted (args_sorted1 _)
 unfold Builtin.«sorted»
 refine wpAny_bind (m:=checkCount "sorted" 1 1 _) (wpAny_pure ?_); refine wpAny_bind (collect_list il ?_ (by rw [sizeLine_eq]; omega))
 refine wpAny_bind (wpAny_newList ?_ (by rw [sizeLine_eq]; omega))
 have lz:((s.heap.push (seqObj "list" #[] 0)).update s.heap.objs.size (Obj.mapSeq (· ++ zs.toArray))).objs.size=s.heap.objs.size+1:=by
  rw [Heap.size_update]; exact size_push' _ _
 have oL:(((s.heap.push (seqObj "list" #[] 0)).update s.heap.objs.size (Obj.mapSeq (· ++ zs.toArray))).push (seqObj "list" zs.toArray 0)).get? (s.heap.objs.size+1)=some (seqObj "list" zs.toArray 0):=by
  rw [<- lz]; exact Heap.get?_push_size _ rfl
 show wpAny _ _ _ _ _ { s with heap:=((s.heap.push (seqObj "list" #[] 0)).update s.heap.objs.size (Obj.mapSeq (· ++ zs.toArray))).push (seqObj "list" zs.toArray 0) }
 rw [lz]
 refine wpAny_bind (wpAny_holding (wpAny_call_entry slot_list_sort ⟨_,oL,rfl⟩ entry_list_sort (a9K (κ:=κ) (key:=key) oL h64 (λ g2 h' kp=>hk g2 _ h' λ b o e=>?_) λ p a1 a2=>⟨_,rfl,?_⟩) (args_list_sort _)))
 ·have lb:b < s.heap.objs.size:=Heap.lt_size e
  refine kp b o (Nat.ne_of_lt (Nat.lt_succ_of_lt lb)) ?_
  rw [Heap.get?_push_ne _ _ _ (by rw [lz]; exact Nat.ne_of_lt (Nat.lt_succ_of_lt lb)),Heap.get?_update_ne _ _ _ _ (Nat.ne_of_lt lb),Heap.get?_push_ne _ _ _ (Nat.ne_of_lt lb)]
  exact e
 ·exact wpAny_pure ⟨_,rfl,h p a1 a2⟩
end
end Srt
set_option maxHeartbeats 4100000
namespace Srt
open PySem PyProof.Rows PySem.Calls PySem.W
theorem a9L {α:Type} {p q:α->Bool} (h:∀ x,p x=true->q x=true) (l:List α):l.countP p<=l.countP q:=by
 induction l with
 | nil=>exact Nat.le_refl _
 | cons a r ih =>
  rw [List.countP_cons,List.countP_cons]
  by_cases c:p a=true
  ·rw [if_pos c,if_pos (h a c)]; omega
  ·rw [if_neg c]; omega
theorem a9M {α:Type} {p q:α->Bool} (h:∀ x,p x=true->q x=true) {x:α}:∀ {l:List α},x∈l->p x=false->q x=true->l.countP p < l.countP q
 | a::r,hx,h1,h2=>by
  rw [List.countP_cons,List.countP_cons]
  have le:=a9L h r
  rcases List.mem_cons.mp hx with rfl | hx
  ·rw [if_neg (by rw [h1]; exact Bool.false_ne_true),if_pos h2]; omega
  ·have ih:=a9M h hx h1 h2
   by_cases c:p a=true
   ·rw [if_pos c,if_pos (h a c)]; omega
   ·rw [if_neg c]; omega
def rank (ls:List (List Int)) (i:Nat):Int:=(ls.countP λ z=>decide (z < ls.getD i []):Nat)
theorem c3H {x y z:List Int} (h:z < y) (h2:¬ x < y):z < x:=by
 by_cases c:z < x
 ·exact c
 ·exact absurd (List.lt_of_le_of_lt (List.not_lt.mp c) h) h2
theorem b4I {ls:List (List Int)} {i j:Nat} (hi:i < ls.length):decide (rank ls i < rank ls j)=decide (ls.getD i [] < ls.getD j []):=by
 have hm:ls.getD i []∈ls:=by
  rw [τα,List.getElem?_eq_getElem hi]; exact List.getElem_mem hi
 unfold rank
 by_cases c:ls.getD i [] < ls.getD j []
 ·rw [decide_eq_true c]
  refine decide_eq_true (Int.ofNat_lt.mpr (a9M (λ z hz=>?_) hm ?_ ?_))
  ·exact decide_eq_true (List.lt_trans (of_decide_eq_true hz) c)
  ·exact decide_eq_false (List.lt_irrefl _)
  ·exact decide_eq_true c
 ·rw [decide_eq_false c]
  refine decide_eq_false λ z=>?_
  have:=a9L (p:=λ z=>decide (z < ls.getD j [])) (q:=λ z=>decide (z < ls.getD i [])) (λ z hz=>decide_eq_true (c3H (of_decide_eq_true hz) c)) ls
  omega
section
variable {prog:Program} {w:World} {A:Around} {E:Value->Shared->Prop} {s:Shared} {Q:Bool->Shared->Prop}
theorem b1T:∀ {xs ys:List Value} {ns ms:List Int} (i:Nat),IntsAre xs ns->IntsAre ys ms->Q (decide (ns < ms)) s->KatLex prog w A true (decide (xs.length < ys.length)) Q (xs.zip ys) i s
 | _,_,_,_,i,.nil,.nil,h=>by
  refine kat_nil ?_
  exact h
 | _,_,_,_,i,.nil,.cons (vs:=ys) (ns:=ms) m u y,h=>by
  refine kat_nil ?_
  have e:decide (([]:List Int) < m::ms)=true:=decide_eq_true (List.Lex.nil)
  rw [e] at h
  have e2:decide (([]:List Value).length < (Value.int m u::ys).length)=true:=by simp
  rw [e2]; exact h
 | _,_,_,_,i,.cons (vs:=xs) (ns:=ns) n t x,.nil,h=>by
  refine kat_nil ?_
  have e:decide (n::ns < ([]:List Int))=false:=decide_eq_false (List.not_lt_nil _)
  rw [e] at h
  have e2:decide ((Value.int n t::xs).length < ([]:List Value).length)=false:=by simp
  rw [e2]; exact h
 | _,_,_,_,i,.cons (vs:=xs) (ns:=ns) n t x,.cons (vs:=ys) (ns:=ms) m u y,h=>by
  have ef:decide ((Value.int n t::xs).length < (Value.int m u::ys).length)=decide (xs.length < ys.length):=by
   simp only [List.length_cons,Nat.add_lt_add_iff_right]
  rw [ef]
  refine kat_cons (wpAny_eqBool_int ?_)
  by_cases c:n=m
  ·subst c
   rw [beq_self_eq_true]
   refine kat_yes (b1T (i+1) x y ?_)
   have e:decide (n::ns < n::ms)=decide (ns < ms):=by
    have:(n::ns < n::ms)↔ns < ms:=by rw [List.cons_lt_cons_iff]; simp
    simp only [this]
   rw [e] at h; exact h
  ·rw [beq_eq_false_iff_ne.mpr c]
   refine kat_no ?_
   have e:decide (n::ns < m::ms)=decide (n < m):=by
    have:(n::ns < m::ms)↔n < m:=by rw [List.cons_lt_cons_iff]; simp [c]
    simp only [this]
   rw [e] at h
   cases z:(true && i == 0) with
   | true=>exact oneLt_int h
   | false=>exact kat_one _ _ (lt_int h)
structure TupI (h:Heap) (v:Value) (ns:List Int):Prop where
 at':∃ a o xs n,v = .ref a/\h.get? a=some o/\o.cls = .type "tuple" /\ o.data = .seq xs n/\IntsAre xs.toList ns
 ne:ns≠[]
inductive TupsI (h:Heap):List Value->List (List Int)->Prop
 | nil:TupsI h [] []
 | cons {v ns vs ls}:TupI h v ns->TupsI h vs ls->TupsI h (v::vs) (ns::ls)
theorem TupsI.keep {h h':Heap} (k:∀ b o,h.get? b=some o->h'.get? b=some o):∀ {vs ls},TupsI h vs ls->TupsI h' vs ls
 | _,_,.nil=>.nil
 | _,_,.cons ⟨⟨a,o,xs,n,e,ho,r⟩,ne⟩ t=>.cons ⟨⟨a,o,xs,n,e,k _ _ ho,r⟩,ne⟩ (TupsI.keep k t)
theorem TupsI.len {h:Heap}:∀ {vs ls},TupsI h vs ls->vs.length=ls.length
 | _,_,.nil=>rfl
 | _,_,.cons _ t=>by rw [List.length_cons,List.length_cons,t.len]
theorem TupsI.get {h:Heap}:∀ {vs ls},TupsI h vs ls->∀ {i},i < vs.length->TupI h (vs.getD i .none) (ls.getD i [])
 | _,_,.cons a t,0,_=>a
 | _,_,.cons a t,i+1,hi=>by
  have:=t.get (i:=i) (by simpa using hi)
  simpa using this
theorem TupsI.kat {h:Heap}:∀ {vs ls},TupsI h vs ls->∃ fs,KatTups h vs fs/\fs.length=vs.length/\∀ v∈fs,∃ n t,v=Value.int n t
 | _,_,.nil=>⟨[],KatTups.nil,rfl,λ v hv=>absurd hv List.not_mem_nil⟩
 | _,_,.cons (ns:=ns) ⟨⟨a,o,xs,n,e,ho,hc,hd,hi⟩,ne⟩ t=>by
  obtain ⟨fs,k,l,q⟩:=t.kat
  subst e
  obtain ⟨xl⟩:=xs
  have hi:IntsAre xl ns:=hi
  cases hi with
  | nil=>exact absurd rfl ne
  | cons m u r =>
   refine ⟨.int m u::fs,KatTups.cons ho hc hd rfl k,by rw [List.length_cons,List.length_cons,l],λ v hv=>?_⟩
   rcases List.mem_cons.mp hv with rfl | hv
   ·exact ⟨m,u,rfl⟩
   ·exact q v hv
theorem b4J {vs:List Value} {ls:List (List Int)} (h:TupsI s.heap vs ls) (h2:2<=vs.length):Asks prog w A (tuples' true) vs (rank ls) s:=by
 refine ⟨λ E Q q=>?_,λ i j C hi hj q=>?_⟩
 ·obtain ⟨fs,k,l,ty⟩:=h.kat
  refine kat_kind (T:=.type "int") k (by omega) (λ v hv=>?_) rfl q
  obtain ⟨n,t,rfl⟩:=ty v hv
  exact Looks.of_pure rfl
 ·obtain ⟨⟨a,o,xs,n,e1,ho,hc,hd,hx⟩,_⟩:=h.get hi
  obtain ⟨⟨a',o',ys,n',e2,ho',hc',hd',hy⟩,_⟩:=h.get hj
  unfold kas_ask
  rw [e1,e2]
  refine kat_lt ho hd ho' hd' ?_
  rw [b4I (by rw [<- h.len]; exact hi)] at q
  exact b1T 0 hx hy q
end
end Srt
set_option maxHeartbeats 4100000
namespace L2
open PySem PySem.Spec PyProof.Rows Bg Srt
def TupV (K:Φρ) (H:Hp) (v:V) (ns:List Int):Prop:=∃ p,v = .ref p/\SqT K H p (ns.map V.int)
def c1Q (K:Φρ):List V->Hp->VK->Prop:=λ xs H Q=>∃ l vs,∃ ls:List (List Int),xs=[.ref l]/\SqL K H l vs/\Paired (TupV K H) vs ls/\(∀ ns∈ls,ns≠[])/\vs.length < 64 /\
 ∀ (q:List Nat) p H',q.Perm (List.range vs.length)->(q.map λ i=>ls.getD i []).Pairwise (λ a b=>¬ b < a)->New H p (.lst (q.map λ i=>vs.getD i .non)) H'->Q (.ref p) H'
theorem a5W:∀ {ns:List Int} {us:List Value},Vals (ns.map V.int) us->IntsAre us ns
 | [],_,.nil=>.nil
 | n::ns,_,.cons r t=>by
  obtain ⟨k,rfl⟩:=r
  exact .cons n k (a5W t)
section
variable {X:Cx} {K:Φρ}
theorem b4K {pins:List (Addr × Obj)} {σ:St} {H:Hp} {s:Shared} (I:Inv X pins σ H s):∀ {vs:List V} {us:List Value} {ls:List (List Int)},Vals vs us->Paired (TupV X.K H) vs ls->(∀ ns∈ls,ns≠[])->TupsI s.heap us ls
 | _,_,_,.nil,p,_=>by
  cases p
  exact .nil
 | _,_,_,.cons r t,p,ne=>by
  cases p with
  | cons a b =>
   obtain ⟨pt,rfl,hT⟩:=a
   obtain ⟨its,ri,⟨o,ho,hc,n,hd⟩,_⟩:=I.tuple hT
   cases r
   exact .cons ⟨⟨pt,o,its.toArray,n,rfl,ho,hc,hd,by simpa using a5W ri⟩,ne _ List.mem_cons_self⟩ (b4K I t b λ ns h=>ne ns (List.mem_cons_of_mem _ h))
theorem a9N:∀ {vs:List V} {us:List Value},Vals vs us->∀ i,i < vs.length->RelV (vs.getD i .non) (us.getD i .none)
 | _,_,.cons r t,0,_=>r
 | _,_,.cons r t,i+1,hi=>by
  have:=a9N t i (by simpa using hi)
  simpa using this
theorem b1U {vs:List V} {us:List Value} (r:Vals vs us):∀ (q:List Nat),(∀ i∈q,i < vs.length)->Vals (q.map λ i=>vs.getD i .non) (q.map λ i=>us.getD i .none)
 | [],_=>.nil
 | i::q,h=>.cons (a9N r i (h i List.mem_cons_self)) (b1U r q λ j hj=>h j (List.mem_cons_of_mem _ hj))
theorem a9O (e:X.K=K):CallR X (.builtin "sorted") (c1Q K):=by
 subst e
 intro pins s σ H xs us Q I r h
 obtain ⟨l,vs,ls,rfl,hL,hP,ne,h64,q⟩:=h
 obtain ⟨u,rfl,rx⟩:=a6L r
 cases rx
 obtain ⟨its,r',pl,hz⟩:=I.list hL
 have hlen:=r'.length
 have ht:=b4K I r' hP ne
 have hl2:=ht.len
 refine b4H (κ:=tuples' true) (key:=rank ls) pl.isList (by omega) (λ h2 A' h' kp=>b4J (ht.keep kp) h2) λ p pm sr=>?_
 obtain ⟨c,hc⟩:=sortedAll_at s.heap its (b0U its p)
 have hs:=pm.size
 have mem:∀ i∈p.toList,i < its.length:=λ i hi=>by
  have:=(Array.perm_iff_toList_perm.mp pm.perm).mem_iff (a:=i)
  have h1:=this.mp hi
  simpa using h1
 have z:(p.toList.map λ i=>vs.getD i V.non).length=its.length:=by rw [List.length_map,Array.length_toList]; exact hs
 refine ⟨.ref (s.heap.objs.size+1),_,I.laid (t':=s.toks) (o:=.lst (p.toList.map λ i=>vs.getD i V.non)) (λ b o eo=>sortedAll_old eo) (Nat.le_succ _) ?_,rfl,?_⟩
 ·exact ⟨by rw [z,<- hlen]; exact hz,_,c,b1U r' p.toList (λ i hi=>by rw [hlen]; exact mem i hi),hc⟩
 ·refine q p.toList _ _ ?_ ?_ (New.mk0 (I.hok.fresh (Nat.le_succ _)))
  ·have:=Array.perm_iff_toList_perm.mp pm.perm
   rw [hlen]; exact this
  ·rw [List.pairwise_iff_getElem]
   intro i j hi hj hij
   rw [List.length_map,Array.length_toList,hs] at hi hj
   have q1:=sr i j (Nat.le_of_lt hij) hj
   unfold Srt.KK at q1
   have li:=pm.lt hi
   have lj:=pm.lt hj
   rw [List.getElem_map,List.getElem_map]
   have e1:p.getD i 0=p.toList[i]'(by rw [Array.length_toList,hs]; exact hi):=by simp [Array.getD,hs,hi]
   have e2:p.getD j 0=p.toList[j]'(by rw [Array.length_toList,hs]; exact hj):=by simp [Array.getD,hs,hj]
   rw [<- e1,<- e2]
   intro c
   have z1:=b4I (ls:=ls) (i:=p.getD j 0) (j:=p.getD i 0) (by omega)
   rw [decide_eq_true c] at z1
   have:=of_decide_eq_true z1
   omega
end
end L2
set_option maxHeartbeats 4100000
namespace L2
open PySem PySem.Spec PyProof.Rows
section
variable {X:Cx} {K:Φρ}
def c3I (K:Φρ):List V->Hp->VK->Prop:=λ xs H Q=>∃ p ns,xs=[.ref p]/\SqL K H p (List.map V.int ns)/\0 < ns.length/\∀ M,M∈ns->(∀ a∈ns,a<=M)->Q (.int M) H
theorem b4L (e:X.K=K) (cm:X.calm=true):CallR X (.builtin "max") (c3I K):=by
 subst e
 intro pins s σ H xs us Q I r h
 obtain ⟨p,ns,rfl,hL,hne,q⟩:=h
 obtain ⟨u,rfl,rx⟩:=a6L r
 cases rx
 obtain ⟨its,r',pl,hz⟩:=I.list hL
 have hi:=a5W r'
 have hlen:=hi.length
 obtain ⟨zs,ez⟩:=hi.allInts.items
 have hsz:0 < zs.size:=by
  have:=congrArg Array.size ez
  rw [List.size_toArray] at this
  have e2:(intItems zs).size=zs.size:=by simp [intItems]
  omega
 have en:zs.toList.map (·.1)=ns:=by
  rw [<- nums_intItems,<- ez]
  exact hi.numsOf
 refine max_intList (xs:=zs) (I.ok.hd cm) (by rw [<- ez]; exact pl.isList) hsz λ v h' tk hv hk=>?_
 obtain ⟨t,rfl⟩:=intItems_at hv
 obtain ⟨h1,h2⟩:=argBest_gt (numAt zs) (zs.size - 1)
 refine ⟨.int _,H,I.kept hk,⟨t,rfl⟩,q _ ?_ λ a ha=>?_⟩
 ·rw [numAt_eq,<- en]; exact getD_mem (by rw [List.length_map,Array.length_toList]; omega)
 ·rw [<- en] at ha
  obtain ⟨j,hj,rfl⟩:=mem_getD ha
  rw [List.length_map,Array.length_toList] at hj
  rw [<- numAt_eq]; exact h2 j (by omega)
end
theorem b4M (us:List Int) (i j:Nat):cutV (us.map V.int) (some (i:Int)) (some ((i+j:Nat):Int))=((us.drop i).take j).map V.int:=by
 unfold cutV
 rw [HT.sIx_nat,HT.sIx_nat,List.length_map,<- List.map_drop,<- List.map_take]
 congr 1
 rcases Nat.lt_or_ge us.length i with c | c
 ·have e1:min i us.length=us.length:=by omega
  rw [e1,List.drop_of_length_le (Nat.le_refl _),List.drop_of_length_le (by omega)]
  simp
 ·have e1:min i us.length=i:=by omega
  rw [e1]
  rcases Nat.lt_or_ge us.length (i+j) with d | d
  ·have e2:min (i+j) us.length=us.length:=by omega
   rw [e2,List.take_of_length_le (by rw [List.length_drop]; omega),List.take_of_length_le (by rw [List.length_drop]; omega)]
  ·have e2:min (i+j) us.length=i+j:=by omega
   rw [e2]
   congr 1
   omega
end L2
set_option maxHeartbeats 4100000
namespace L2
open PySem PySem.Spec PyProof.Rows
theorem b4N (a b:Value):argsOk "max" ⟨[a],[("default", b)]⟩:=by unfold argsOk; kernel_rfl
section
variable {prog:Program} {w:World} {A:Around} {R:Result->Shared->Prop} {I:Addr} {fp wr:List Addr} {n:Nat} {P:Nat->Value->Prop} {St:Nat->Heap->Prop} {kw:List (Str × Value)}
theorem b4O (W:Walks prog w A.in1 I fp wr n P St) (bt:Nat->Nat->Bool) (hcmp:CmpOf prog w A.in1 .Gt P bt) (S:Addr) (hSf:S ∉ fp) :
  ∀ (k j:Nat) (s:Shared) (vb:Value) (c:Nat),n - (j+1)=k->j+1<=n->St (j+1) s.heap->P (argBest bt j) vb->s.heap.get? S=some { cls:=.type "list", dict:=none,data:=.seq #[vb,vb] c,slots:=#[] } ->
  (∀ v h' tk,P (argBest bt (n - 1)) v->(∀ b o,b ∉ wr->b≠S->s.heap.get? b=some o->h'.get? b=some o)->R (.ok (.ret v)) { s with heap:=h',toks:=tk }) ->
  codeAny (model prog w) A (.builtin "max.loop" ⟨[.ref I,.none,.ref S],kw⟩) R s:=by
 have hSw:S ∉ wr:=λ h=>hSf (W.sub _ h)
 have hname:(toString "max" ++ toString ".loop" : String) = "max.loop" := by decide
 intro k
 induction k with
 | zero =>
  intro j s vb c hk hj hst hPb hS hR
  have hin:j+1=n:=by omega
  refine codeAny_builtin PySem.F.entry_max_loop ?_
  rw [Around.under_plainId PySem.F.plain_max_loop _]
  refine wpAny_bind (wpAny_seqItems hS rfl ?_)
  show wpAny _ A.in1 (tryCatch (pyNext (.ref I)) _ >>= _) _ _ s
  refine wpAny_bind (wpAny_tryCatch (W.done s _ _ (hin ▸ hst) λ h' tk hk'=>?_))
  have hS':=hk' S _ hSw hS
  show wpAny _ A.in1 (updateSeq S (λ _=>#[]) >>= _) _ _ _
  refine wpAny_bind ?_
  refine wpAny_updateSeq hS' rfl (wpAny_bind (wpAny_letGo (wpAny_pure ?_)))
  exact hR vb _ tk (by rw [<- hin]; exact hPb) λ b o hbw hbS e=>(Heap.get?_update_other _ _ (Ne.symm hbS)).trans (hk' b o hbw e)
 | succ k ih =>
  intro j s vb c hk hj hst hPb hS hR
  have hlt:j+1 < n:=by omega
  refine codeAny_builtin PySem.F.entry_max_loop ?_
  rw [Around.under_plainId PySem.F.plain_max_loop _]
  refine wpAny_bind (wpAny_seqItems hS rfl ?_)
  show wpAny _ A.in1 (tryCatch (pyNext (.ref I)) _ >>= _) _ _ s
  refine wpAny_bind (wpAny_tryCatch (W.item (j+1) s _ _ hlt hst λ v h' tk hP hst' hk'=>?_))
  have hS':=hk' S _ hSw hS
  show wpAny _ A.in1 (tryCatch (holding [v,v] (richCompare .Gt v vb >>= _)) _ >>= _) _ _ _
  refine wpAny_bind (wpAny_tryCatch (wpAny_holding (wpAny_bind (hcmp (j+1) (argBest bt j) v vb _ _ _ hP hPb ?_))))
  refine wpAny_bind (wpAny_holding (wpAny_truthy_bool ?_))
  refine wpAny_bind (wpAny_letGo (wpAny_pure ?_))
  cases hb:bt (j+1) (argBest bt j) with
  | true =>
   simp only [if_true]
   refine wpAny_bind ?_
   refine wpAny_updateSeq hS' rfl (wpAny_bind (wpAny_letGo ?_))
   rw [hname]
   refine wpAny_pure ⟨plainId_quiet PySem.F.plain_max_loop _,ih (j+1) _ v _ (by omega) hlt (W.frame _ _ _ hst' λ b hbf o e=>?_) (by simp only [argBest,hb,if_true]; exact hP) (Heap.get?_update_self _ hS' rfl) λ v' h'' tk'' hP' hk''=>?_⟩
   ·exact (Heap.get?_update_other _ _ (λ h:S=b=>hSf (by rw [h]; exact hbf))).trans e
   ·exact hR v' h'' tk'' hP' λ b o hbw hbS e=>hk'' b o hbw hbS ((Heap.get?_update_other _ _ (Ne.symm hbS)).trans (hk' b o hbw e))
  | false =>
   simp only [Bool.false_eq_true,if_false]
   refine wpAny_bind (wpAny_letGo ?_)
   rw [hname]
   refine wpAny_pure ⟨plainId_quiet PySem.F.plain_max_loop _,ih (j+1) _ vb c (by omega) hlt hst' (by simp only [argBest,hb,Bool.false_eq_true,if_false]; exact hPb) hS' λ v' h'' tk'' hP' hk''=>?_⟩
   exact hR v' h'' tk'' hP' λ b o hbw hbS e=>hk'' b o hbw hbS (hk' b o hbw e)
theorem b2Q (W:Walks prog w A.in1 I fp wr n P St) (bt:Nat->Nat->Bool) (hcmp:CmpOf prog w A.in1 .Gt P bt) (S:Addr) (hSf:S ∉ fp) (hn:0 < n) {s:Shared} {c:Nat} (hst:St 0 s.heap)
  (hS:s.heap.get? S=some { cls:=.type "list", dict:=none,data:=.seq #[] c,slots:=#[] })
  (hR:∀ v h' tk,P (argBest bt (n - 1)) v->(∀ b o,b ∉ wr->b≠S->s.heap.get? b=some o->h'.get? b=some o)->R (.ok (.ret v)) { s with heap:=h',toks:=tk }) :
  codeAny (model prog w) A (.builtin "max.loop" ⟨[.ref I,.none,.ref S],kw⟩) R s:=by
 have hSw:S ∉ wr:=λ h=>hSf (W.sub _ h)
 have hname:(toString "max" ++ toString ".loop" : String) = "max.loop" := by decide
 refine codeAny_builtin PySem.F.entry_max_loop ?_
 rw [Around.under_plainId PySem.F.plain_max_loop _]
 refine wpAny_bind (wpAny_seqItems hS rfl ?_)
 show wpAny _ A.in1 (tryCatch (pyNext (.ref I)) _ >>= _) _ _ s
 refine wpAny_bind (wpAny_tryCatch (W.item 0 s _ _ hn hst λ v h' tk hP hst' hk'=>?_))
 have hS':=hk' S _ hSw hS
 show wpAny _ A.in1 (updateSeq S (λ _=>#[v,v]) >>= _) _ _ _
 refine wpAny_bind ?_
 refine wpAny_updateSeq hS' rfl ?_
 rw [hname]
 refine wpAny_pure ⟨plainId_quiet PySem.F.plain_max_loop _,b4O W bt hcmp S hSf _ 0 _ v _ rfl hn (W.frame _ _ _ hst' λ b hbf o e=>?_) hP (Heap.get?_update_self _ hS' rfl) λ v' h'' tk'' hP' hk''=>?_⟩
 ·exact (Heap.get?_update_other _ _ (λ h:S=b=>hSf (by rw [h]; exact hbf))).trans e
 ·exact hR v' h'' tk'' hP' λ b o hbw hbS e=>hk'' b o hbw hbS ((Heap.get?_update_other _ _ (Ne.symm hbS)).trans (hk' b o hbw e))
theorem b4P (W:Walks prog w A.in1 I fp wr n P St) (n0:n=0) (S:Addr) (hSf:S ∉ fp) {s:Shared} {c:Nat} {nm:Str} {d:Value} (hst:St 0 s.heap)
  (hS:s.heap.get? S=some { cls:=.type "list", dict:=none,data:=.seq #[] c,slots:=#[] })
  (hR:∀ h' tk,(∀ b o,b ∉ wr->b≠S->s.heap.get? b=some o->h'.get? b=some o)->R (.ok (.ret d)) { s with heap:=h',toks:=tk }) :
  codeAny (model prog w) A (.builtin "max.loop" ⟨[.ref I,.none,.ref S],[(nm,d)]⟩) R s:=by
 subst n0
 have hSw:S ∉ wr:=λ h=>hSf (W.sub _ h)
 refine codeAny_builtin PySem.F.entry_max_loop ?_
 rw [Around.under_plainId PySem.F.plain_max_loop _]
 refine wpAny_bind (wpAny_seqItems hS rfl ?_)
 show wpAny _ A.in1 (tryCatch (pyNext (.ref I)) _ >>= _) _ _ s
 refine wpAny_bind (wpAny_tryCatch (W.done s _ _ hst λ h' tk hk'=>?_))
 have fin:=hR h' tk λ b o hbw hbS e=>hk' b o hbw e
 repeat (first | exact fin | wp_step)
end
section
variable {prog:Program} {w:World} {A:Around} {E:Value->Shared->Prop} {s:Shared} {xs:Array (Int × Tok)} {l:Addr}
theorem b4Q {d:Value} {Q:Value->Shared->Prop} (hh:A.handled=none) (hl:s.heap.IsList l (intItems xs))
  (h:∀ v h' tk,(0 < xs.size->(intItems xs)[argBest (λ i j=>decide (numAt xs i > numAt xs j)) (xs.size - 1)]?=some v)->(xs.size=0->v=d)->(∀ b o,s.heap.get? b=some o->h'.get? b=some o)->Q v { s with heap:=h',toks:=tk }) :
  wpAny (model prog w) A (call (.builtin "max") [.ref l] [("default", d)]) Q E s:=by
 have hname:(toString "max" ++ toString ".loop" : String) = "max.loop" := by decide
 refine wpAny_call (codeAny_call_builtin PySem.F.plain_max PySem.F.entry_max ?_)
 simp only [checkBuiltinCall,PySem.F.kind_max]
 have ha:=b4N (.ref l) d
 have go:wpAny (model prog w) A.in1 (Builtin.«max» ⟨[.ref l],[("default", d)]⟩) (λ fin s'=>match fin with
   | .done f=>(match (Except.ok f:Result) with | .ok (.ret v)=>Q v s' | .ok _=>False | .error e=>E e s')
   | .again c'=>c'.quiet=true/\codeAny (model prog w) A c' (λ r s'=>match r with | .ok (.ret v)=>Q v s' | .ok _=>False | .error e=>E e s') s') E s:=by
  show wpAny _ A.in1 (Builtin.Builtins.bindParams "max" ["key", "default"] 0 ⟨[],[("default", d)]⟩ >>= _) _ _ s
  refine wpAny_bind (wpAny_of_eq (show Builtin.Builtins.bindParams "max" ["key", "default"] 0 ⟨[],[("default", d)]⟩=pure [none,some d] from by kernel_rfl) ?_)
  refine wpAny_bind (wpAny_pure ?_)
  refine wpAny_bind (iter_intList hl λ s₂ e st hfp hlI=>?_)
  subst e
  refine wpAny_bind (wpAny_newObj_type ?_)
  have W:=Walks.list (prog:=prog) (w:=w) (A:=A.in1) hh s.heap.objs.size l hlI (intItems xs)
  have hSf:(s.heap.push { cls:=.type "list_iterator", data:=.fields #[.ref l,.int 0 0] }).objs.size ∉ [s.heap.objs.size,l]:=λ hm=>Nat.lt_irrefl _ (hfp _ hm)
  have esz:(intItems xs).size=xs.size:=by simp [intItems]
  rw [hname]
  refine wpAny_pure ⟨plainId_quiet PySem.F.plain_max_loop _,?_⟩
  have keep2:∀ {h':Heap},(∀ b o,b ∉ [s.heap.objs.size]->b≠(s.heap.push { cls:=.type "list_iterator", data:=.fields #[.ref l,.int 0 0] }).objs.size ->
    ((s.heap.push { cls:=.type "list_iterator", data:=.fields #[.ref l,.int 0 0] }).push { cls:=.type "list", data:=.seq #[] }).get? b=some o->h'.get? b=some o)->∀ b o,s.heap.get? b=some o->h'.get? b=some o:=λ {h'} hk =>
   old_kept (h':=h') λ b o hb e=>hk b o hb (Nat.ne_of_lt (Heap.lt_size e)) (Heap.get?_push_of_some _ e)
  by_cases hz:0 < xs.size
  ·refine b2Q W _ (CmpOf.ints_gt (numAt xs) (λ _ _=>intItems_at)) _ hSf (by rw [esz]; exact hz) (W.frame _ _ _ st λ b _ o e=>Heap.get?_push_of_some _ e) (Heap.get?_push_size _ rfl) λ v h' tk hP hk=>?_
   exact h v h' tk (λ _=>by rw [esz] at hP; exact hP) (λ z=>by omega) (keep2 hk)
  ·have z0:xs.size=0:=by omega
   refine b4P W (by rw [esz]; exact z0) _ hSf (W.frame _ _ _ st λ b _ o e=>Heap.get?_push_of_some _ e) (Heap.get?_push_size _ rfl) λ h' tk hk=>?_
   exact h d h' tk (λ c=>absurd c hz) (λ _=>rfl) (keep2 hk)
 cases hsig:Manifest.signature? "max" with
 | none=>exact wpAny_pure go
 | some sig =>
  simp only [argsOk,hsig] at ha
  have h2:Bind.checkArgs "max" sig ⟨[.ref l],[("default", d)]⟩=pure ():=ha
  show wpAny _ A.in1 (Bind.checkArgs "max" sig ⟨[.ref l],[("default", d)]⟩) _ _ s
  rw [h2]; exact wpAny_pure go
end
section
variable {X:Cx} {K:Φρ}
def c3J (K:Φρ) (ta tk:TA):TE:=λ σ H Q=>ta σ H λ vs H1=>tk σ H1 λ ws H2=>∃ p ns d,vs=[.ref p]/\ws=[.int d]/\SqL K H2 p (List.map V.int ns)/\(ns=[]->Q (.int d) H2)/\∀ M,M∈ns->(∀ a∈ns,a<=M)->Q (.int M) H2
theorem b9F {e ed:Expr} {ta tk:TA} {p pos kpos:Pos} (eK:X.K=K) (cm:X.calm=true) (hm:X.mg "max" = none) (ha:PA X [e] ta) (hk:PK X [⟨some "default", ed,kpos⟩] tk) (hg:Gl X "max" := by rfl)
  (he:backTo pos (starEach [e] X.env)=(false,eval e X.env)::backTo pos (starEach [] X.env):=by rfl) (hplain:(backTo pos (starEach [e] X.env)).any (·.1)=false:=by rfl) :
  PE X (.Call (.Name "max" p) [e] [⟨some "default", ed,kpos⟩] pos) (c3J K ta tk):=by
 subst eK
 intro pins s σ H Q I h
 refine wpAny_Call_Name_kw (a5A I hg hm (show bootBuiltins "max" = some (.builtin "max") by decide +kernel) ?_)
 refine PyProof.Rows.callWith_kw (id:="max") (thn (ha pos pins s σ H _ I h) λ us s1 ⟨vs,H1,I1,r,q⟩=>?_) he hplain
 refine thn (hk pos pins s1 σ H1 _ I1 q) λ ws s2 ⟨zs,H2,I2,rz,q2⟩=>?_
 obtain ⟨pl,ns,d,rfl,rfl,hL,q0,q1⟩:=q2
 obtain ⟨u,rfl,rx⟩:=a6L r
 cases rx
 obtain ⟨u2,rfl,ry⟩:=a6L rz
 obtain ⟨td',rfl⟩:=(show ∃ t,u2=Value.int d t from ry)
 obtain ⟨its,r',pl',hz⟩:=I2.list hL
 have hi:=a5W r'
 obtain ⟨zs,ez⟩:=hi.allInts.items
 have esz:zs.size=ns.length:=by
  have:=congrArg Array.size ez
  rw [List.size_toArray] at this
  have e2:(intItems zs).size=zs.size:=by simp [intItems]
  have:=hi.length
  omega
 have en:zs.toList.map (·.1)=ns:=by
  rw [<- nums_intItems,<- ez]
  exact hi.numsOf
 refine b4Q (xs:=zs) (I2.ok.hd cm) (by rw [<- ez]; exact pl'.isList) λ v h' tk hv hv0 hk=>?_
 by_cases c:0 < zs.size
 ·obtain ⟨t,rfl⟩:=intItems_at (hv c)
  obtain ⟨h1,h2⟩:=argBest_gt (numAt zs) (zs.size - 1)
  refine ⟨.int _,H2,I2.kept hk,⟨t,rfl⟩,q1 _ ?_ λ a ha=>?_⟩
  ·rw [numAt_eq,<- en]; exact getD_mem (by rw [List.length_map,Array.length_toList]; omega)
  ·rw [<- en] at ha
   obtain ⟨j,hj,rfl⟩:=mem_getD ha
   rw [List.length_map,Array.length_toList] at hj
   rw [<- numAt_eq]; exact h2 j (by omega)
 ·have z0:zs.size=0:=by omega
  rw [hv0 z0]
  refine ⟨.int d,H2,I2.kept hk,⟨_,rfl⟩,q0 ?_⟩
  exact List.eq_nil_of_length_eq_zero (by omega)
end
end L2
set_option maxHeartbeats 4100000
namespace L2
open PySem PySem.Spec PyProof.Rows
section
variable {prog:Program} {w:World} {A:Around} {R:Result->Shared->Prop} {I:Addr} {fp wr:List Addr} {n:Nat} {P:Nat->Value->Prop} {St:Nat->Heap->Prop} {kw:List (Str × Value)}
end
section
variable {prog:Program} {w:World} {A:Around} {E:Value->Shared->Prop} {s:Shared} {xs:Array (Int × Tok)} {l:Addr}
end
section
variable {X:Cx} {K:Φρ}
end
end L2
namespace L2
open PySem PySem.Spec PySem.Calls PyProof.Rows
section
variable {X:Cx}
end
end L2
namespace L2
open PySem PySem.Spec PyProof.Rows
section
variable {X:Cx}
def c3K:V->List V->Hp->VK->Prop:=λ x vs H Q=>∃ m:Nat,x = .int (m:Int)/\vs=[]/\Q (.int ((Builtin.Int.intBits (m:Int):Nat):Int)) H
theorem b9G:MtR X "int.bit_length" c3K:=by
 intro pins s σ H x xs v us Q I rx rs h
 obtain ⟨m,rfl,rfl,q⟩:=h
 obtain ⟨t,rfl⟩:=(show ∃ t,v=Value.int (m:Int) t from rx)
 cases rs
 exact call_int_bit_length ⟨.int _,H,I.tok _,⟨_,rfl⟩,q⟩
end
theorem b4R (a b:Nat):Builtin.bitAnd (a:Int) (b:Int)=((a &&& b:Nat):Int):=by
 unfold Builtin.bitAnd
 simp
theorem b4S (a b:Nat):Builtin.bitOr (a:Int) (b:Int)=((a ||| b:Nat):Int):=by
 unfold Builtin.bitOr Builtin.bitAnd Builtin.bitNot
 rw [decide_eq_false (show ¬ (0:Int) <= -(a:Int) - 1 by omega),decide_eq_false (show ¬ (0:Int) <= -(b:Int) - 1 by omega)]
 dsimp only
 rw [show (-(-(a:Int) - 1) - 1).toNat=a by omega,show (-(-(b:Int) - 1) - 1).toNat=b by omega]
 omega
theorem b4T {m k:Nat} (h:m < 2 ^ k):Builtin.Int.intBits (m:Int)<=k:=by
 unfold Builtin.Int.intBits
 split
 ·exact Nat.zero_le _
 ·rename_i c
  have hm:m≠0:=λ z=>c (by rw [z]; rfl)
  rw [Int.natAbs_natCast]
  exact (Nat.log2_lt hm).mpr h
theorem b4U {m v:Nat} (h:m.testBit v=true):v < Builtin.Int.intBits (m:Int):=by
 unfold Builtin.Int.intBits
 have hm:m≠0:=λ z=>by rw [z] at h; simp at h
 have hc:¬ (((m:Int) == 0)=true):=by simpa using hm
 rw [if_neg hc,Int.natAbs_natCast]
 have:=Nat.ge_two_pow_of_testBit h
 exact Nat.lt_succ_of_le ((Nat.le_log2 hm).mpr this)
def a3K (m:Nat):List Nat:=(List.range 10).filter (m.testBit ·)
theorem b0V {m:Nat} (h:m < 2 ^ 10):(List.range (Builtin.Int.intBits (m:Int))).filter (m.testBit ·)=a3K m:=by
 unfold a3K
 have hk:=b4T h
 obtain ⟨d,ed⟩:∃ d,10=Builtin.Int.intBits (m:Int)+d:=⟨10 - Builtin.Int.intBits (m:Int),by omega⟩
 rw [ed,List.range_add,List.filter_append]
 have:((List.range d).map (λ x=>Builtin.Int.intBits (m:Int)+x)).filter (m.testBit ·)=[]:=by
  rw [List.filter_eq_nil_iff]
  intro x hx hb
  obtain ⟨y,_,rfl⟩:=List.mem_map.mp hx
  have:=b4U hb
  omega
 rw [this,List.append_nil]
theorem a8A (m v:Nat):(m &&& 2 ^ v=0)↔m.testBit v=false:=by
 constructor
 ·intro h
  have:(m &&& 2 ^ v).testBit v=false:=by rw [h]; simp
  rw [Nat.testBit_and,Nat.testBit_two_pow_self,Bool.and_true] at this
  exact this
 ·intro h
  refine Nat.eq_of_testBit_eq λ i=>?_
  rw [Nat.testBit_and,Nat.zero_testBit,Nat.testBit_two_pow]
  by_cases c:v=i
  ·subst c; rw [h]; rfl
  ·rw [decide_eq_false c,Bool.and_false]
theorem b9H {m v:Nat} (h:m.testBit v=true):∀ u,(m - 2 ^ v).testBit u=(m.testBit u && !decide (u=v)):=by
 induction v generalizing m with
 | zero =>
  intro u
  have h1:m % 2=1:=by rw [Nat.testBit_zero] at h; exact of_decide_eq_true h
  cases u with
  | zero =>
   rw [Nat.testBit_zero,Nat.testBit_zero]
   have:(m - 2 ^ 0) % 2=0:=by omega
   rw [this]; simp
  | succ u =>
   rw [Nat.testBit_succ,Nat.testBit_succ]
   have:(m - 2 ^ 0) / 2=m / 2:=by omega
   rw [this]; simp
 | succ v ih =>
  intro u
  rw [Nat.testBit_succ] at h
  have le:2 ^ v<=m / 2:=Nat.ge_two_pow_of_testBit h
  have e2:2 ^ (v+1)=2*2 ^ v:=by rw [Nat.pow_succ,Nat.mul_comm]
  cases u with
  | zero =>
   rw [Nat.testBit_zero,Nat.testBit_zero]
   have:(m - 2 ^ (v+1)) % 2=m % 2:=by omega
   rw [this]; simp
  | succ u =>
   rw [Nat.testBit_succ,Nat.testBit_succ]
   have:(m - 2 ^ (v+1)) / 2=m / 2 - 2 ^ v:=by omega
   rw [this,ih h u]
   simp
structure BagsM (n:Nat) (ms:List Nat) (R:Nat->Nat->Bool):Prop where
 len:ms.length=n
 n10:n<=10
 lt:∀ m∈ms,m < 2 ^ 10
 bit:∀ v < n,∀ u,(ms.getD v 0).testBit u=R v u
 far:∀ v u,R v u=true->v < n/\u < n
theorem BagsM.get {n:Nat} {ms:List Nat} {R:Nat->Nat->Bool} (b:BagsM n ms R) {v:Nat} (h:v < n):ms[v]?=some (ms.getD v 0):=by
 have:v < ms.length:=by rw [b.len]; exact h
 rw [τα,List.getElem?_eq_getElem this]; rfl
theorem BagsM.mlt {n:Nat} {ms:List Nat} {R:Nat->Nat->Bool} (b:BagsM n ms R) {v:Nat} (h:v < n):ms.getD v 0 < 2 ^ 10:=b.lt _ (List.mem_of_getElem? (b.get h))
theorem a7E {m k:Nat} (h:∀ u,m.testBit u=true->u < k):m < 2 ^ k:=Nat.lt_pow_two_of_testBit m λ i hi=>by
 cases e:m.testBit i with
 | false=>rfl
 | true=>have:=h i e; omega
def a6O (v:Nat) (R:Nat->Nat->Bool):Nat->Nat->Bool:=λ x u=>if x=v then false else if R x v=true then (R x u || R v u) && !decide (u=v) else R x u
def a9P (v:Nat) (ms:List Nat):List Nat:=(ms.map λ m=>if m &&& 2 ^ v=0 then m else (m ||| ms.getD v 0) - 2 ^ v).set v 0
theorem b9I {n:Nat} {ms:List Nat} {R:Nat->Nat->Bool} {v:Nat} (b:BagsM n ms R) (hv:v < n):BagsM n (a9P v ms) (a6O v R):=by
 have far:∀ x u,a6O v R x u=true->x < n/\u < n:=λ x u h=>by
  unfold a6O at h
  split at h
  ·cases h
  ·split at h
   ·rename_i c
    rw [Bool.and_eq_true,Bool.or_eq_true] at h
    rcases h.1 with z | z
    ·exact b.far _ _ z
    ·exact ⟨(b.far _ _ c).1,(b.far _ _ z).2⟩
   ·exact b.far _ _ h
 have bit:∀ x < n,∀ u,((a9P v ms).getD x 0).testBit u=a6O v R x u:=λ x hx u=>by
  unfold a9P a6O
  by_cases c:x=v
  ·subst c
   rw [if_pos rfl,τα,List.getElem?_set_self (by rw [List.length_map,b.len]; exact hx)]
   simp
  ·rw [if_neg c,τα,List.getElem?_set_ne (Ne.symm c),List.getElem?_map,b.get hx]
   simp only [Option.map_some,Option.getD_some]
   have ab:=a8A (ms.getD x 0) v
   rw [b.bit x hx] at ab
   by_cases d:R x v=true
   ·rw [if_pos d,if_neg (λ z=>by rw [ab.mp z] at d; cases d)]
    have ht:(ms.getD x 0 ||| ms.getD v 0).testBit v=true:=by rw [Nat.testBit_or,b.bit x hx,d]; rfl
    rw [b9H ht,Nat.testBit_or,b.bit x hx,b.bit v hv]
   ·rw [if_neg d,if_pos (ab.mpr (by simpa using d)),b.bit x hx]
 refine ⟨by unfold a9P; rw [List.length_set,List.length_map]; exact b.len,b.n10,λ m hm=>?_,bit,far⟩
 obtain ⟨j,hj,ej⟩:=List.getElem_of_mem hm
 have jn:j < n:=by
  unfold a9P at hj
  rw [List.length_set,List.length_map,b.len] at hj
  exact hj
 have e:(a9P v ms).getD j 0=m:=by rw [τα,List.getElem?_eq_getElem hj,ej]; rfl
 refine a7E λ u hu=>?_
 rw [<- e,bit j jn] at hu
 have:=far j u hu
 have:=b.n10
 omega
theorem b0W {n:Nat} {ms:List Nat} {R:Nat->Nat->Bool} {v:Nat} (b:BagsM n ms R) (hv:v < n):a3K (ms.getD v 0)=(List.range n).filter (R v ·):=by
 unfold a3K
 have hn:=b.n10
 obtain ⟨d,ed⟩:∃ d,10=n+d:=⟨10 - n,by omega⟩
 rw [ed,List.range_add,List.filter_append]
 have e1:((List.range d).map (λ x=>n+x)).filter ((ms.getD v 0).testBit ·)=[]:=by
  rw [List.filter_eq_nil_iff]
  intro x hx hb
  obtain ⟨y,_,rfl⟩:=List.mem_map.mp hx
  rw [b.bit v hv] at hb
  have:=(b.far _ _ hb).2
  omega
 rw [e1,List.append_nil]
 exact List.filter_congr λ u _=>b.bit v hv u
def a4A (n:Nat) (ts:List ζζ):Nat->Nat->Bool:=λ v u=>decide (v < n/\u < n) && (decide (u=v) || decide (((v:Int),(u:Int))∈ts) || decide (((u:Int),(v:Int))∈ts))
end L2
namespace L2
open PySem PySem.Spec PyProof.Rows
end L2
set_option maxHeartbeats 1000000
namespace Sm
open PySem
theorem paired_take {α β:Type} {R:α->β->Prop}:∀ {xs:List α} {ys:List β} (n:Nat),Paired R xs ys->Paired R (xs.take n) (ys.take n)
 | _,_,0,_=>.nil
 | _,_,_+1,.nil=>.nil
 | _,_,n+1,.cons r t=>.cons r (paired_take n t)
theorem paired_drop {α β:Type} {R:α->β->Prop}:∀ {xs:List α} {ys:List β} (n:Nat),Paired R xs ys->Paired R (xs.drop n) (ys.drop n)
 | _,_,0,r=>r
 | _,_,_+1,.nil=>.nil
 | _,_,n+1,.cons _ t=>paired_drop n t
theorem paired_app {α β:Type} {R:α->β->Prop}:∀ {xs xs':List α} {ys ys':List β},Paired R xs ys->Paired R xs' ys'->Paired R (xs++xs') (ys++ys')
 | _,_,_,_,.nil,s=>s
 | _,_,_,_,.cons r t,s=>.cons r (paired_app t s)
end Sm
set_option maxHeartbeats 1000000
namespace Sm
open PySem
end Sm
set_option maxHeartbeats 1000000
namespace Sm
open PySem
section
variable {prog:Program} {w:World} {A:Around} {E:Value->Shared->Prop} {s:Shared} {B:Bool} {a:Addr} {L:List Nat}
end
end Sm
set_option maxHeartbeats 2000000
namespace Sm
open PySem
section
variable {prog:Program} {w:World} {A:Around} {E:Value->Shared->Prop} {s:Shared} {a:Addr} {L:List Nat}
end
end Sm
set_option maxHeartbeats 2000000
namespace Sm
open PySem
section
variable {prog:Program} {w:World} {A:Around} {E:Value->Shared->Prop} {s:Shared} {sA oA:Addr} {L1 L2:List Nat}
end
end Sm
set_option maxHeartbeats 2000000
namespace Sm
open PySem PySem.Builtin.Frozenset
section
variable {prog:Program} {w:World} {A:Around} {E:Value->Shared->Prop} {s:Shared} {a b:Addr} {L1 L2:List Nat}
end
end Sm
set_option maxHeartbeats 4000000
namespace Sm
open PySem
end Sm
set_option maxHeartbeats 4000000
namespace Sm
open PySem
section
variable {prog:Program} {w:World} {A:Around} {E:Value->Shared->Prop} {s:Shared} {a:Addr} {L:List Nat}
end
end Sm
set_option maxHeartbeats 4000000
namespace Sm
open PySem PyProof.Rows
section
variable {prog:Program} {w:World} {A:Around} {E:Value->Shared->Prop} {s:Shared} {a:Addr} {L:List Nat}
end
end Sm
set_option maxHeartbeats 4000000
namespace Sm
open PySem PyProof.Rows
section
variable {prog:Program} {w:World} {A:Around} {R:Result->Shared->Prop} {I:Addr} {fp wr:List Addr} {G:Array GenState->Array GenState->Prop} {n:Nat} {P:Nat->Value->Prop} {St:Nat->Shared->Prop}
end
section
variable {prog:Program} {w:World} {A:Around} {E:Value->Shared->Prop} {s:Shared}
end
end Sm
set_option maxHeartbeats 4100000
namespace L2
open PySem PySem.Spec PyProof.Rows Sm
theorem c1R:∀ {xs ys:List Int},xs.Pairwise (· < ·)->ys.Pairwise (· < ·)->(∀ v,v∈xs↔v∈ys)->xs=ys
 | [],[],_,_,_=>rfl
 | [],y::ys,_,_,h=>absurd ((h y).mpr List.mem_cons_self) List.not_mem_nil
 | x::xs,[],_,_,h=>absurd ((h x).mp List.mem_cons_self) List.not_mem_nil
 | x::xs,y::ys,hx,hy,h=>by
  obtain ⟨x1,x2⟩:=List.pairwise_cons.mp hx
  obtain ⟨y1,y2⟩:=List.pairwise_cons.mp hy
  have e:x=y:=by
   rcases List.mem_cons.mp ((h x).mp List.mem_cons_self) with e | e
   ·exact e
   ·rcases List.mem_cons.mp ((h y).mpr List.mem_cons_self) with f | f
    ·exact f.symm
    ·have a:=y1 x e
     have b:=x1 y f
     omega
  subst e
  congr 1
  refine c1R x2 y2 λ v=>?_
  constructor
  ·intro q
   rcases List.mem_cons.mp ((h v).mp (List.mem_cons_of_mem _ q)) with e | e
   ·subst e; have:=x1 v q; omega
   ·exact e
  ·intro q
   rcases List.mem_cons.mp ((h v).mpr (List.mem_cons_of_mem _ q)) with e | e
   ·subst e; have:=y1 v q; omega
   ·exact e
def c1S (K:Φρ):List V->Hp->VK->Prop:=λ xs H Q=>∃ l ns,xs=[.ref l]/\SqL K H l (List.map V.int ns)/\ns.length < 64/\∀ p H' zs,New H p (.lst (List.map V.int zs)) H'->zs.Perm ns->zs.Pairwise (· <= ·)->Q (.ref p) H'
theorem a9Q:∀ {vs:List Value} {ns:List Int},IntsAre vs ns->Vals (ns.map V.int) vs
 | _,_,.nil=>.nil
 | _,_,.cons n t r=>.cons ⟨t,rfl⟩ (a9Q r)
section
variable {X:Cx} {K:Φρ} {w:World}
theorem a5G (e:X.K=K):CallR X (.builtin "sorted") (c1S K):=by
 subst e
 intro pins s σ H xs us Q I r h
 obtain ⟨l,ns,rfl,hL,h64,q⟩:=h
 obtain ⟨u,rfl,rx⟩:=a6L r
 cases rx
 obtain ⟨its,r',pl,hz⟩:=I.list hL
 have hlen:=r'.length
 rw [List.length_map] at hlen
 refine sorted_ints (ns:=ns) pl.isList (a5W r') (by omega) λ out zs hi pm le=>?_
 obtain ⟨c,hc⟩:=sortedAll_at s.heap its out
 refine ⟨.ref (s.heap.objs.size+1),_,I.laid (t':=s.toks) (o:=.lst (zs.map V.int)) (λ b o eo=>sortedAll_old eo) (Nat.le_succ _) ⟨?_,out.toList,c,a9Q hi,by simpa using hc⟩,rfl,q _ _ zs (New.mk0 (I.hok.fresh (Nat.le_succ _))) pm le⟩
 rw [List.length_map,pm.length_eq,sizeLine_eq]
 omega
end
end L2
namespace L2
open PySem PySem.Spec PyProof.Rows
section
variable {X:Cx} {K:Φρ}
end
end L2
namespace L2
open PySem PySem.Spec PyProof.Rows
section
variable {X:Cx}
end
end L2
namespace L2
open PySem PySem.Spec PyProof.Rows
theorem us1 {A:Type} {us:List A} {P:List A->Prop} (h:us.length=1) (f:∀ a,P [a]):P us:=by
 match us,h with
 | [a],_=>exact f a
theorem us2 {A:Type} {us:List A} {P:List A->Prop} (h:us.length=2) (f:∀ a b,P [a,b]):P us:=by
 match us,h with
 | [a,b],_=>exact f a b
theorem us3 {A:Type} {us:List A} {P:List A->Prop} (h:us.length=3) (f:∀ a b c,P [a,b,c]):P us:=by
 match us,h with
 | [a,b,c],_=>exact f a b c
theorem us5 {A:Type} {us:List A} {P:List A->Prop} (h:us.length=5) (f:∀ a b c d e,P [a,b,c,d,e]):P us:=by
 match us,h with
 | [a,b,c,d,e],_=>exact f a b c d e
theorem dn_mk1 {K:Φρ} {h:Heap} {mg:Str->Option Value} {x:Str} {st:Stmt} {ps:List Str} {f:Addr} {oc:Value} {od an:Option Addr} {osl:Array (Option Value)} {kV doc pm cdv ct:Value} (X:K.In h) (G:h.Ns mainGlobals mg)
  (a:PySem.W.nsIn K mainGlobals x=some (some (.ref f))) (l:K.lookup f=some ⟨oc,od,.func (PySem.W.fnOf x x (a1P st) (a1I st) (a0F st) .none kV doc pm an cdv ct),osl⟩) (c:PySem.W.codeIn K cdv x=true) (k:PySem.W.keepIn K (.ref f)=true)
  (hp:ps.length=1)
  (hb:∀ (kV doc pm:Value) (an:Option Addr) (cdv ct:Value) (u0:Value),bindArgs (PySem.W.fnOf x x (a1P st) (a1I st) (a0F st) .none kV doc pm an cdv ct) ⟨[u0],[]⟩=pure (ps.zip [u0])) :
  Nonempty (Dn K mg x st ps) :=
 b6K X G a l c k λ kV doc pm an cdv ct us hl=>us1 (P:=λ us=>bindArgs (PySem.W.fnOf x x (a1P st) (a1I st) (a0F st) .none kV doc pm an cdv ct) ⟨us,[]⟩=pure (ps.zip us)) (hl.trans hp) λ u0=>hb kV doc pm an cdv ct u0
theorem dn_mk2 {K:Φρ} {h:Heap} {mg:Str->Option Value} {x:Str} {st:Stmt} {ps:List Str} {f:Addr} {oc:Value} {od an:Option Addr} {osl:Array (Option Value)} {kV doc pm cdv ct:Value} (X:K.In h) (G:h.Ns mainGlobals mg)
  (a:PySem.W.nsIn K mainGlobals x=some (some (.ref f))) (l:K.lookup f=some ⟨oc,od,.func (PySem.W.fnOf x x (a1P st) (a1I st) (a0F st) .none kV doc pm an cdv ct),osl⟩) (c:PySem.W.codeIn K cdv x=true) (k:PySem.W.keepIn K (.ref f)=true)
  (hp:ps.length=2)
  (hb:∀ (kV doc pm:Value) (an:Option Addr) (cdv ct:Value) (u0 u1:Value),bindArgs (PySem.W.fnOf x x (a1P st) (a1I st) (a0F st) .none kV doc pm an cdv ct) ⟨[u0,u1],[]⟩=pure (ps.zip [u0,u1])) :
  Nonempty (Dn K mg x st ps) :=
 b6K X G a l c k λ kV doc pm an cdv ct us hl=>us2 (P:=λ us=>bindArgs (PySem.W.fnOf x x (a1P st) (a1I st) (a0F st) .none kV doc pm an cdv ct) ⟨us,[]⟩=pure (ps.zip us)) (hl.trans hp) λ u0 u1=>hb kV doc pm an cdv ct u0 u1
theorem dn_mk3 {K:Φρ} {h:Heap} {mg:Str->Option Value} {x:Str} {st:Stmt} {ps:List Str} {f:Addr} {oc:Value} {od an:Option Addr} {osl:Array (Option Value)} {kV doc pm cdv ct:Value} (X:K.In h) (G:h.Ns mainGlobals mg)
  (a:PySem.W.nsIn K mainGlobals x=some (some (.ref f))) (l:K.lookup f=some ⟨oc,od,.func (PySem.W.fnOf x x (a1P st) (a1I st) (a0F st) .none kV doc pm an cdv ct),osl⟩) (c:PySem.W.codeIn K cdv x=true) (k:PySem.W.keepIn K (.ref f)=true)
  (hp:ps.length=3)
  (hb:∀ (kV doc pm:Value) (an:Option Addr) (cdv ct:Value) (u0 u1 u2:Value),bindArgs (PySem.W.fnOf x x (a1P st) (a1I st) (a0F st) .none kV doc pm an cdv ct) ⟨[u0,u1,u2],[]⟩=pure (ps.zip [u0,u1,u2])) :
  Nonempty (Dn K mg x st ps) :=
 b6K X G a l c k λ kV doc pm an cdv ct us hl=>us3 (P:=λ us=>bindArgs (PySem.W.fnOf x x (a1P st) (a1I st) (a0F st) .none kV doc pm an cdv ct) ⟨us,[]⟩=pure (ps.zip us)) (hl.trans hp) λ u0 u1 u2=>hb kV doc pm an cdv ct u0 u1 u2
theorem dn_mk5 {K:Φρ} {h:Heap} {mg:Str->Option Value} {x:Str} {st:Stmt} {ps:List Str} {f:Addr} {oc:Value} {od an:Option Addr} {osl:Array (Option Value)} {kV doc pm cdv ct:Value} (X:K.In h) (G:h.Ns mainGlobals mg)
  (a:PySem.W.nsIn K mainGlobals x=some (some (.ref f))) (l:K.lookup f=some ⟨oc,od,.func (PySem.W.fnOf x x (a1P st) (a1I st) (a0F st) .none kV doc pm an cdv ct),osl⟩) (c:PySem.W.codeIn K cdv x=true) (k:PySem.W.keepIn K (.ref f)=true)
  (hp:ps.length=5)
  (hb:∀ (kV doc pm:Value) (an:Option Addr) (cdv ct:Value) (u0 u1 u2 u3 u4:Value),bindArgs (PySem.W.fnOf x x (a1P st) (a1I st) (a0F st) .none kV doc pm an cdv ct) ⟨[u0,u1,u2,u3,u4],[]⟩=pure (ps.zip [u0,u1,u2,u3,u4])) :
  Nonempty (Dn K mg x st ps) :=
 b6K X G a l c k λ kV doc pm an cdv ct us hl=>us5 (P:=λ us=>bindArgs (PySem.W.fnOf x x (a1P st) (a1I st) (a0F st) .none kV doc pm an cdv ct) ⟨us,[]⟩=pure (ps.zip us)) (hl.trans hp) λ u0 u1 u2 u3 u4=>hb kV doc pm an cdv ct u0 u1 u2 u3 u4
end L2
namespace L2
open PySem PySem.Spec PySem.Calls PyProof.Rows PySem.Builtin PySem.Builtin.ObjectAttr
abbrev b9J:List Value:=[.type "ValueError", .type "Exception", .type "BaseException", .type "object"]
structure Xk (K:Φρ) (C:Addr):Prop where
 ga:PySem.W.findIn K (.ref C) "__getattribute__" = some (some (.builtin "BaseException.__getattribute__"))
 gh:PySem.W.findIn K (.ref C) "__getattr__" = some none
 ca:PySem.W.findIn K (.ref C) "__class__" = some (some (.builtin "object.__class__"))
 gt:PySem.W.specialIn K (.builtin "object.__class__") "__get__" = some (some (.builtin "getset_descriptor.__get__"))
 tk:PySem.W.takesIn K (.builtin "object.__class__")=some true
 mo:PySem.W.mroIn K C (.type "object")=some true
 mb:PySem.W.mroIn K C (.type "BaseException")=some true
 ex:PySem.W.excIn K C b9J "ValueError.__new__" = true
def AtC (x C:Addr) (h:Heap):Prop:=∃ o,h.get? x=some o/\o.cls = .ref C
section
variable {prog:Program} {w:World} {A:Around} {E:Value->Shared->Prop} {s:Shared} {K:Φρ} {x C:Addr}
theorem AtC.type {M:Model} {h:Heap} (I:AtC x C h):PySem.W.Looks M h (typeOf (.ref x)) (.ref C):=by
 obtain ⟨o,h1,h2⟩:=I
 exact h2 ▸ (PySem.W.Looks.ld h1).andThen .now
theorem c3L {M:Model} {h:Heap} (X:K.In h) (k:Xk K C):PySem.W.Looks M h (find (.ref x) (.ref C) "__class__") (.bind (.builtin "getset_descriptor.__get__") (.builtin "object.__class__")):=by
 have L3:=PySem.W.looks_takesIn (M:=M) X k.tk
 refine (PySem.W.looks_findIn X k.ca).andThen ((show PySem.W.Looks M h (getOf (some (.builtin "object.__class__"))) _ from PySem.W.looks_specialIn X k.gt).andThen ?_)
 have q:PySem.W.Looks M h (dataDescriptor? (some (.builtin "object.__class__")) (some (.builtin "getset_descriptor.__get__"))) (some (.builtin "getset_descriptor.__get__", .builtin "object.__class__")):=L3.andThen .now
 exact q.andThen (PySem.W.Looks.tag .now)
theorem b2R {R:Result->Shared->Prop} {tp:Value} (X:K.In s.heap) (I:AtC x C s.heap) (k:Xk K C)
  (h:R (.ok (.ret (.ref C))) s):codeAny (model prog w) A (.call (.builtin "getset_descriptor.__get__") ⟨[.builtin "object.__class__", .ref x,tp],[]⟩) R s:=by
 obtain ⟨hp,g,dr,t,os⟩:=s
 have L0:=I.type (M:=model prog w)
 have L1:=PySem.W.looks_mroIn (M:=model prog w) X k.mo
 have gs:=PySem.W.KF.slot_gs
 refine codeAny_call_builtin gs.plain PySem.W.KF.entry_gs (gs.check _ _ _ _ _ _ _ _ PySem.W.KF.type_class (PySem.W.KF.args_gs _ _ _) ?_)
 unfold Builtin.«getset_descriptor.__get__»; unfold Builtin.Getset_descriptor.descrGet
 rw [PySem.W.dga_obj]; refine wpAny_bind (wpAny_pure ?_)
 unfold Builtin.Getset_descriptor.descrGetter Builtin.Getset_descriptor.descrCheckInstance Builtin.Getset_descriptor.descrNameAndClass isInstance
 simp only [PySem.W.KF.owner_class]; repeat lk
 refine ⟨Code.quiet_builtin _ (by decide +kernel),codeAny_builtin PySem.W.KF.entry_class ?_⟩
 unfold Builtin.«object.__class__»; unfold shownTypeOf; repeat lk
 exact h
theorem c1T {Q:Option Value->Shared->Prop} (X:K.In s.heap) (I:AtC x C s.heap) (k:Xk K C) (h:Q (some (.ref C)) { s with toks:=s.toks+1 }) :
  wpAny (model prog w) A (getAttr? (.ref x) "__class__") Q E s:=by
 obtain ⟨hp,g,dr,t,os⟩:=s
 have L0:=I.type (M:=model prog w)
 have L1:=PySem.W.looks_findIn (M:=model prog w) X k.ga
 have L2:=PySem.W.looks_findIn (M:=model prog w) X k.gh
 have L3:=c3L (M:=model prog w) (x:=x) X k
 have L4:=PySem.W.looks_mroIn (M:=model prog w) X k.mb
 have ga:=PySem.F.attr_ValueError.ga
 unfold getAttr? getAttrBy? getAttrBy
 refine wpAny_bind (wpAny_mkText (wpAny_bind (wpAny_attempt (wpAny_holding (wpAny_bind (L0.at (wpAny_bind (L1.at ?_))))))))
 show wpAny _ _ (getAttrByItsOwn _ _ _ _ _ _) _ _ _
 unfold getAttrByItsOwn hookBefore
 refine wpAny_bind ?_
 show wpAny _ _ (typeLookup (.ref C) "__getattr__") _ _ _
 refine L2.at ?_
 refine wpAny_bind (wpAny_attempt (wpAny_holding ?_))
 show wpAny _ _ (boundAndCalled _ _ _) _ _ _
 unfold boundAndCalled
 rw [ga.bind]
 refine wpAny_bind (wpAny_pure ?_)
 refine wpAny_call (codeAny_call_builtin ga.plain PySem.F.entry_bexc_ga ?_)
 have hk:builtinKind "BaseException.__getattribute__" = some .slot:=by decide +kernel
 have hsp:splitId "BaseException.__getattribute__" = some ("BaseException", "__getattribute__"):=by decide +kernel
 have LI:PySem.W.Looks (model prog w) hp (isInstance (.ref x) (.type "BaseException")) true:=L0.andThen L4
 have ha:=PySem.F.args_bexc_ga (.ref x) (.str "__class__" t)
 simp only [checkBuiltinCall,hk,hsp]
 refine wpAny_bind (LI.at ?_)
 repeat lk
 refine wpAny_run (c:=.call _ _) (h:=none) (b2R (s:=⟨hp,g,dr,t+1,os⟩) X I k ?_)
 dsimp only
 refine wpAny_pure (wpAny_pure ?_)
 dsimp only
 exact wpAny_pure (wpAny_pure h)
theorem xkit (k:Xk K C):PySem.W.KitX K (.ref x) (.ref C) (AtC x C) where
 ty:=λ _ _ _ I=>I.type
 it:=λ M h X _=>by
  have q:=k.mo
  unfold PySem.W.mroIn at q
  obtain ⟨cd,hc,_⟩:=Option.bind_eq_some_iff.mp q
  unfold PySem.W.clsIn at hc
  split at hc
  ·rename_i c' d' cd' sl' ho
   intro A' Q' E' s' kk qq
   unfold isType; unfold loadHead
   exact wpAny_bind (wpAny_loadPart (kk _ _ (X _ _ ho)) (wpAny_pure qq))
  ·cases hc
 ne:=λ h tp dd its n sl X htp=>by
  have q:=k.mo
  unfold PySem.W.mroIn at q
  obtain ⟨cd,hc,_⟩:=Option.bind_eq_some_iff.mp q
  refine Bool.eq_false_iff.mpr λ z=>?_
  have e:C=tp:=Value.ref.inj (beq_iff_eq.mp z)
  subst e
  unfold PySem.W.clsIn at hc
  split at hc
  ·rename_i ho
   cases (X _ _ ho).symm.trans htp
  ·cases hc
 ca:=λ X I q=>c1T X I k q
end
def ExcO (p C:Addr):HO:=.ext (AtC p C)
theorem b9K {P:Program} {w:World} {H:Hp} {h:Heap} {p C:Addr} (a:AtC p C h):ObjOk P w H h p (ExcO p C) :=
 ⟨a,let ⟨o,e,_⟩:=a; ⟨o,e⟩,λ h1 h2 ⟨o,e,c⟩ k=>⟨o,k o e,c⟩⟩
section
variable {X:Cx}
def c1U (K:Φρ):List V->Hp->VK->Prop:=λ xs H Q=>∃ p C c cv b,xs=[.ref p,c]/\H p=some (ExcO p C)/\Xk K C/\clsV c=some cv/\PySem.W.kitOne K (.ref C) cv=some b/\Q (.bl b) H
theorem a7F {K:Φρ} (e:X.K=K):CallR X (.builtin "isinstance") (c1U K):=by
 subst e
 intro pins s σ H xs us Q I r h
 obtain ⟨p,C,c,cv,b,rfl,ep,k,hc,hk,q⟩:=h
 obtain ⟨u1,u2,rfl,r1,r2⟩:=b8L r
 obtain rfl:=b1P hc r2
 cases (show u1=Value.ref p from r1)
 obtain ⟨a,_⟩:=(show ObjOk X.prog X.w H s.heap p (ExcO p C) from I.hok p _ ep)
 exact PySem.W.kia_one (xkit k) I.kIn a hk (λ z=>nomatch z) λ tk=>⟨.bl b,H,I.tok tk,rfl,q⟩
end
end L2
namespace L2
open PySem PySem.Spec PySem.Calls PyProof.Rows
structure UnB (fs:List Addr) (H H':Hp) (h B:Heap):Prop where
 keep:∀ b o,h.get? b=some o->H b=none->b ∉ fs->B.get? b=some o
 free:∀ b o,h.get? b=some o->H b=none->H' b=none
 there:∀ b o,h.get? b=some o->b ∉ fs->∃ o',B.get? b=some o'
 tups:∀ b xs,H b=some (.tup xs)->H' b=some (.tup xs)
 frzs:∀ b o u,H b=some (.frz o u)->H' b=some (.frz o u)
 tbls:∀ b ps,H b=some (.tbl ps)->∃ more,H' b=some (.tbl (ps++more))
def CXE (P:Program) (w:World):CXT:=λ outer H s E e s'=>∃ (p C:Addr) (a0:Value) (B:Heap) (H':Hp),
 e = .ref p/\s'.os=s.os/\AllBare s'.gens/\Heap.FlyingW B outer p (.ref C) a0 s'.heap/\HOk P w H' B/\UnB (frs outer) H H' s.heap B /\
 (∀ b∈frs outer,∀ o,s.heap.get? b=some o->∃ sl,s'.heap.get? b=some { o with slots:=sl })/\H' p=none/\E (.ref p) (some C) H'
theorem UnB.un {fs:List Addr} {H H':Hp} {h B h':Heap} (u:UnB fs H H' h B) (st:B.StaysIn h') (fr:∀ b∈fs,∀ o,h.get? b=some o->∃ sl,h'.get? b=some { o with slots:=sl }) :
  Un fs [] H H' h h' where
 keep:=λ b o e n hb _=>st b o (u.keep b o e n hb)
 slot:=λ b o e n hb _=>fr b hb o e
 free:=λ b o e n _=>u.free b o e n
 there:=λ b o e _=>by
  by_cases hb:b∈fs
  ·obtain ⟨sl,q⟩:=fr b hb o e
   exact ⟨_,q⟩
  ·obtain ⟨o',q⟩:=u.there b o e hb
   exact ⟨o',st b o' q⟩
 tups:=u.tups
 frzs:=u.frzs
 tbls:=u.tbls
section
variable {X:Cx} {pins:List (Addr × Obj)} {σ:St} {H H':Hp} {s:Shared}
structure Own (X:Cx):Prop where
 stk:X.stack=X.env::X.outer
 fr:X.env.frame=some X.env.locals
 ex:X.ex=[]
theorem Own.frs (O:Own X):frs X.stack=X.env.locals::X.fs:=by
 rw [O.stk]; unfold L2.frs; rw [List.filterMap_cons,O.fr]; rfl
theorem Inv.unB {B:Heap} (I:Inv X pins σ H s) (O:Own X) (u:UnB (L2.frs X.stack) H H' s.heap B):UnB X.fs X.H₀ H' X.s₀.heap B where
 keep:=λ b o e n hb=>by
  have nx:b ∉ X.ex:=by rw [O.ex]; simp
  refine u.keep b o (I.base.keep b o e n hb nx) (I.base.free b o e n nx) ?_
  rw [O.frs]
  intro z
  rcases List.mem_cons.mp z with z | z
  ·exact absurd (Nat.lt_of_lt_of_le (Heap.lt_size e) I.ok.above) (by rw [z]; exact Nat.lt_irrefl _)
  ·exact hb z
 free:=λ b o e n=>by
  have nx:b ∉ X.ex:=by rw [O.ex]; simp
  obtain ⟨o',e'⟩:=I.base.there b o e nx
  exact u.free b o' e' (I.base.free b o e n nx)
 there:=λ b o e hb=>by
  have nx:b ∉ X.ex:=by rw [O.ex]; simp
  obtain ⟨o',e'⟩:=I.base.there b o e nx
  refine u.there b o' e' ?_
  rw [O.frs]
  intro z
  rcases List.mem_cons.mp z with z | z
  ·exact absurd (Nat.lt_of_lt_of_le (Heap.lt_size e) I.ok.above) (by rw [z]; exact Nat.lt_irrefl _)
  ·exact hb z
 tups:=λ b xs e=>u.tups b xs (I.base.tups b xs e)
 frzs:=λ b o xs e=>u.frzs b o xs (I.base.frzs b o xs e)
 tbls:=λ b ps e=>by
  obtain ⟨m1,e1⟩:=I.base.tbls b ps e
  obtain ⟨m2,e2⟩:=u.tbls b _ e1
  exact ⟨m1++m2,by rw [e2,Array.append_assoc]⟩
theorem Inv.slots {h2 h3:Heap} (I:Inv X pins σ H s) (O:Own X) (fr:∀ b∈L2.frs X.stack,∀ o,s.heap.get? b=some o->∃ sl,h2.get? b=some { o with slots:=sl }) (hs:h2.UpToSlots h3) :
  ∀ b∈X.fs,∀ o,X.s₀.heap.get? b=some o->∃ sl,h3.get? b=some { o with slots:=sl }:=λ b hb o e=>by
 have nx:b ∉ X.ex:=by rw [O.ex]; simp
 obtain ⟨sl,e1⟩:=I.base.slot b o e (I.ok.frf b hb) hb nx
 obtain ⟨sl2,e2⟩:=fr b (by rw [O.frs]; exact List.mem_cons_of_mem _ hb) _ e1
 obtain ⟨_,of,hof,hnf⟩:=I.ok.funs.mem hb
 rw [e] at hof
 cases hof
 obtain ⟨sl3,e3⟩:=hs b _ e2 hnf
 exact ⟨sl3,e3⟩
end
end L2
namespace L2
open PySem PySem.Spec PySem.Calls PyProof.Rows
theorem b6N {P:Program} {w:World} {H:Hp} {h:Heap} {a:Addr} {o:HO} (x:ObjOk P w H h a o):∃ ob,h.get? a=some ob:=by
 cases o with
 | lst xs=>obtain ⟨_,_,_,_,e⟩:=x; exact ⟨_,e⟩
 | tup xs=>obtain ⟨_,_,_,p⟩:=x; obtain ⟨ob,e,_⟩:=p; exact ⟨ob,e⟩
 | dK kvs=>obtain ⟨_,_,_,_,ob,_,_,e,_⟩:=x; exact ⟨ob,e⟩
 | dT kvs=>obtain ⟨_,_,_,_,ob,_,_,e,_⟩:=x; exact ⟨ob,e⟩
 | set S n=>obtain ⟨ob,_,_,_,e,_⟩:=x; exact ⟨ob,e⟩
 | ins C dx fs=>obtain ⟨_,_,_,e,_⟩:=x; exact ⟨_,e⟩
 | own y=>exact x
 | xd fs=>obtain ⟨_,⟨ob,_,_,e,_⟩,_⟩:=x; exact ⟨ob,e⟩
 | rng lo hi=>obtain ⟨_,_,_,e⟩:=x; exact ⟨_,e⟩
 | frz ob u=>obtain ⟨e,_⟩:=x; exact ⟨_,e⟩
 | tbl ps=>exact ⟨_,x⟩
 | met f y=>exact ⟨_,x⟩
 | ext φ=>obtain ⟨_,e,_⟩:=x; exact e
theorem xobj {K:Φρ} {h:Heap} {C:Addr} {bl:List Value} {ni:String} (X:K.In h) (q:PySem.W.excIn K C bl ni=true) :
  ∃ bm N nm qn bs hd sn sub ab col dd k0 k1 k2 k3 k5 mN,h.get? C=some (excClassObj nm qn C N bs bm hd sn sub ab col dd k0 k1 k2 k3 k5 ni)/\h.Ns N mN/\mN "__init__" = none/\OwnTail h bl bm:=by
 unfold PySem.W.excIn at q
 split at q
 ·rename_i du cu su hu
  split at q
  ·rename_i Cu bu l0 l1 l2 l3 nu l5 mu eu
   simp only [Bool.and_eq_true,beq_iff_eq,Bool.not_eq_true'] at q
   obtain ⟨⟨⟨⟨⟨rfl,rfl⟩,nodel⟩,tl⟩,good⟩,noin⟩:=q
   obtain ⟨c1,c2,c3,c4,c5,c6,c7,c8,c9,c10,c11⟩:=cu
   dsimp only at mu nodel good noin
   subst mu nodel
   obtain ⟨ls⟩:=su
   dsimp only at eu
   subst eu
   exact ⟨bu,c4,c1,c5,c2,c6,c7,c8,c9,c10,du,l0,l1,l2,l3,l5,_,X _ _ hu,.of_isNs (PySem.W.isNs_of_in X good),PySem.W.nsMap_none_of_in X good noin,PySem.W.tail_of_in X tl⟩
  ·cases q
 ·cases q
def c1V (E:XK) (C:Addr) (t:TA):TS:=λ _ σ H=>t σ H λ vs H1=>vs.length<=sizeLine/\∀ p,H1 p=none->E (.ref p) (some C) H1
section
variable {P:Program} {w:World} {K:Φρ} {mg:Str->Option Value} {base:Heap} {N:List Str} {qual:Str} {scope:Scope} {f:Addr} {cd:Value} {A:Around} {outer:List Env} {s₀:Shared} {H₀:Hp} {E:XK}
theorem b0X {pins:List (Addr × Obj)} {σ:St} {H:Hp} {s:Shared} {h':Heap} {p C:Addr} {us:List Value}
  (I:Inv (cxOf (CXE P w) P w K mg base N qual scope f cd A outer s₀ H₀ E) pins σ H s) (m:Heap.MadeExcOf s.heap h' p (.ref C) us) (hE:H p=none->E (.ref p) (some C) H) :
  (cxOf (CXE P w) P w K mg base N qual scope f cd A outer s₀ H₀ E).xe (.ref p) { s with heap:=h' }:=by
 have O:Own (cxOf (CXE P w) P w K mg base N qual scope f cd A outer s₀ H₀ E):=⟨rfl,rfl,rfl⟩
 have hin:∀ ev∈(envOfC qual scope s₀.heap.objs.size f cd::outer),∀ b,ev.frame=some b->b∈frs (envOfC qual scope s₀.heap.objs.size f cd::outer):=λ ev he b hb=>List.mem_filterMap.mpr ⟨ev,he,hb⟩
 have hst:s.heap.FunFrames base (envOfC qual scope s₀.heap.objs.size f cd::outer):=I.stack
 have hp:H p=none:=by
  cases q:H p with
  | none=>rfl
  | some u =>
   obtain ⟨ob,eo⟩:=b6N (I.hok p u q)
   have z:=m.new
   rw [z] at eo; cases eo
 refine wpAny_leaves_madeW (base:=PySem.W.hideAll s.heap (frs (envOfC qual scope s₀.heap.objs.size f cd::outer))) (h:=s.heap) (env:=envOfC qual scope s₀.heap.objs.size f cd) (outer:=outer) I.ok.frames rfl
  (λ b o q=>PySem.W.of_hideAll _ q) (PySem.W.funFrames_hide hst hin) m λ h3 t fl tup nt up=>?_
 refine ⟨p,C,_,_,H,rfl,I.os,I.bare,fl,?_,I.unB O ?_,I.slots O (h2:=h') ?_ up,hp,hE hp⟩
 ·intro a u e
  have nf:∀ b v,H b=some v->b ∉ frs (envOfC qual scope s₀.heap.objs.size f cd::outer):=λ b v q z=>by rw [I.stkFree b z] at q; cases q
  refine (I.hok a u e).stay (λ b v hb q=>PySem.W.hideAll_get _ q ?_) (λ _ q=>q) λ _ _ q=>q
  rcases hb with rfl | hb
  ·exact nf _ _ e
  ·exact nf _ _ hb
 ·exact ⟨λ b o e n hb=>PySem.W.hideAll_get _ e hb,λ b o e n=>n,λ b o e hb=>⟨o,PySem.W.hideAll_get _ e hb⟩,λ b xs e=>e,λ b o u e=>e,λ b ps e=>⟨#[],by rw [e]; simp⟩⟩
 ·exact λ b hb o e=>⟨o.slots,m.keeps b o e⟩
theorem b6O {x:Str} {C:Addr} {np cpos pos:Pos} {e:Expr} {es:List Expr} {t:TA} (hd:(A.deeper (envOfC qual scope s₀.heap.objs.size f cd)).handled=none)
  (hg:Gl (cxOf (CXE P w) P w K mg base N qual scope f cd A outer s₀ H₀ E) x) (hm:mg x=some (.ref C)) (k:Xk K C) (ha:PA (cxOf (CXE P w) P w K mg base N qual scope f cd A outer s₀ H₀ E) (e::es) t)
  (hdb:(x == ("__debug__" : Str))=false:=by decide)
  (he:starEach (e::es) (envOfC qual scope s₀.heap.objs.size f cd)=(false,eval e (envOfC qual scope s₀.heap.objs.size f cd))::starEach es (envOfC qual scope s₀.heap.objs.size f cd):=by rfl)
  (hpl:(backTo cpos (starEach es (envOfC qual scope s₀.heap.objs.size f cd))).any (·.1)=false:=by rfl) :
  PS (cxOf (CXE P w) P w K mg base N qual scope f cd A outer s₀ H₀ E) (.Raise (some (.Call (.Name x np) (e::es) [] cpos)) none pos) (c1V E C t):=by
 intro pins s σ H D I h
 obtain ⟨bm,M,nm,qn,bs,hdc,sn,sub,ab,col,dd,k0,k1,k2,k3,k5,mN,hC,hN,hni,T⟩:=xobj I.mod.kin k.ex
 have FB:=PySem.F.excBase_ValueError
 refine wpAny_Raise_call_subT (C:=C) (nm:=nm) (q:=qn) (N:=M) (bs:=bs) (bm:=bm) (hdct:=hdc) (sn:=sn) (sub:=sub) (ab:=ab) (col:=col) (dd:=dd) (k0:=k0) (k1:=k1) (k2:=k2) (k3:=k3) (k5:=k5) FB (mN:=mN)
  (T.hasType FB.hasBase) hd (by show (backTo cpos (starEach (e::es) (envOfC qual scope s₀.heap.objs.size f cd))).any (·.1)=false; rw [he]; show (false || (backTo cpos (starEach es (envOfC qual scope s₀.heap.objs.size f cd))).any (·.1))=false; rw [hpl]; rfl) hni (a5O I hg hm ⟨rfl,?_⟩ hdb)
 have z:=ha cpos pins s σ H _ I h
 have he':starEach (e::es) (cxOf (CXE P w) P w K mg base N qual scope f cd A outer s₀ H₀ E).env=(false,eval e (cxOf (CXE P w) P w K mg base N qual scope f cd A outer s₀ H₀ E).env)::starEach es (cxOf (CXE P w) P w K mg base N qual scope f cd A outer s₀ H₀ E).env:=he
 rw [he'] at z ⊢
 refine Calls.evalArgs_plain (wpAny_mono z (λ us s2 ⟨vs,H2,I2,r,hl,q⟩=>?_) λ _ _ y=>y)
 exact ⟨rfl,(by rw [<- r.length]; exact hl),I2.bk _ _ hC,hN.keeps I2.bk,T.keeps I2.bk,λ h' p m=>b0X I2 m (q p)⟩
end
end L2
namespace L2
open PySem PySem.Spec PySem.Calls PyProof.Rows
abbrev Cx.hand (X:Cx) (p:Addr):Cx:={ X with A:=X.A.mark (some (.ref p)),calm:=false,xe:=λ _ _=>False }
section
variable {X:Cx} {pins:List (Addr × Obj)} {σ:St} {H:Hp} {s:Shared} {p:Addr}
theorem Inv.hand (I:Inv X pins σ H s):Inv (X.hand p) pins σ H s :=
 ⟨⟨I.ok.mod,I.ok.kind,I.ok.glob,I.ok.blt,I.ok.above,I.ok.inj,I.ok.has,I.ok.cab,(λ z=>by cases z),I.ok.frames,I.ok.stk,I.ok.exf,I.ok.bs,I.ok.bsz,I.ok.noex,I.ok.exfs,I.ok.funs,I.ok.frf⟩,I.os,I.bare,I.base,I.loc,I.cell,I.free,I.freeC,I.pin,I.hok,I.len⟩
theorem Inv.unhand (I:Inv (X.hand p) pins σ H s) (ok:X.Ok):Inv X pins σ H s:=⟨ok,I.os,I.bare,I.base,I.loc,I.cell,I.free,I.freeC,I.pin,I.hok,I.len⟩
theorem Inv.gone {i:Nat} {n:Str} {v:Option Value} {m:Str->Option Value} {h':Heap} {t':Nat} (I:Inv X pins σ H s) (hN:X.N.Nodup) (hi:X.N[i]?=some n) (hk:X.env.scope.names.lookup n=some .local) (hm:s.heap.Ns X.env.locals m)
  (hl:∀ (j:Nat) (y:Str) (v:V),X.N[j]?=some y->σ[j]?=some (some v)->Vis X.env.scope y->∃ u,RelV v u/\Look X.env s.heap m y u)
  (hn:h'.Ns X.env.locals (λ y=>if y=n then v else m y)) (hs:Heap.SameBut X.env.locals s.heap h'):Inv X pins (σ.set i none) H { s with heap:=h',toks:=t' }:=by
 have ne0:∀ b o,X.s₀.heap.get? b=some o->b≠X.env.locals:=λ b o e=>Nat.ne_of_lt (Nat.lt_of_lt_of_le (Heap.lt_size e) I.ok.above)
 have ck:∀ y c,X.env.cells.lookup y=some c->∀ w,s.heap.IsCell c w->h'.IsCell c w:=λ y c e w z=>z.sameBut hs (I.cne y c e)
 refine ⟨I.ok,I.os,I.bare,⟨?_,?_,I.base.free,?_,I.base.tups,I.base.frzs,I.base.tbls⟩,⟨_,hn,?_⟩,?_,I.free,I.freeC,?_,?_,by rw [List.length_set]; exact I.len⟩
 ·intro b o e z hb hx
  exact (hs.2 b (ne0 b o e)).trans (I.base.keep b o e z hb hx)
 ·intro b o e z hb hx
  obtain ⟨sl,q⟩:=I.base.slot b o e z hb hx
  exact ⟨sl,(hs.2 b (ne0 b o e)).trans q⟩
 ·intro b o e hx
  obtain ⟨o',q⟩:=I.base.there b o e hx
  exact ⟨o',(hs.2 b (ne0 b o e)).trans q⟩
 ·intro j y v' e1 e2 e3
  have hj:j≠i:=by
   rintro rfl
   rw [List.getElem?_set] at e2
   split at e2
   ·split at e2 <;> cases e2
   ·rename_i z; exact z rfl
  rw [List.getElem?_set_ne (Ne.symm hj)] at e2
  obtain ⟨u,r,q⟩:=hl j y v' e1 e2 e3
  refine ⟨u,r,?_⟩
  rcases q with ⟨k,e⟩ | ⟨k,c,e,z⟩
  ·have hy:y≠n:=λ e'=>hj (a7M hN e1 (e' ▸ hi))
   exact .inl ⟨k,by show (if y=n then v else m y)=some u; rw [if_neg hy]; exact e⟩
  ·exact .inr ⟨k,c,e,ck y c e _ z⟩
 ·intro y c e
  obtain ⟨w,z⟩:=I.cell y c e
  exact ⟨w,ck y c e w z⟩
 ·intro q hq
  obtain ⟨e,n',ne,nf,d⟩:=I.pin q hq
  exact ⟨(hs.2 q.1 ne).trans e,n',ne,nf,d⟩
 ·intro b u e
  have nl:∀ c w,H c=some w->c≠X.env.locals:=λ c w q z=>by rw [z,I.free] at q; cases q
  refine (I.hok b u e).stay (λ c w hc q=>(hs.2 c ?_).trans q) (λ _ q=>q) λ _ _ q=>q
  rcases hc with rfl | hc
  ·exact nl _ _ e
  ·exact nl _ _ hc
def Ld (X:Cx) (pins:List (Addr × Obj)) (σ:St) (H':Hp) (p C:Addr) (s:Shared):Prop:=∃ (H1:Hp) (s1:Shared) (a0:Value) (B:Heap),Inv X pins σ H1 s1/\s.os=s1.os/\AllBare s.gens/\Heap.FlyingW B X.stack p (.ref C) a0 s.heap /\
 HOk X.prog X.w H' B/\UnB (frs X.stack) H1 H' s1.heap B/\(∀ b∈frs X.stack,∀ o,s1.heap.get? b=some o->∃ sl,s.heap.get? b=some { o with slots:=sl })/\H' p=none
variable {C:Addr} {H':Hp}
theorem b1V {l:List Env} {base g h h':Heap} (F:g.FunFrames base l) (a:∀ b∈frs l,∀ o,g.get? b=some o->∃ sl,h.get? b=some { o with slots:=sl }) (u:h.UpToSlots h'):∀ b∈frs l,∀ o,g.get? b=some o->∃ sl,h'.get? b=some { o with slots:=sl }:=λ b hb o e=>by
 obtain ⟨sl,q⟩:=a b hb o e
 obtain ⟨_,of,hof,hnf⟩:=F.mem hb
 rw [e] at hof; cases hof
 obtain ⟨sl2,q2⟩:=u b _ q hnf
 exact ⟨sl2,q2⟩
theorem b6P {E:XK} {H1:Hp} {s1 s2:Shared} {e:Value} {M:Model} {A:Around} {XE:Value->Shared->Prop} {Q:Shared->Prop} (hA:A.frames=some X.stack) (O:Own X) (I:Inv X pins σ H1 s1) (h:CXE X.prog X.w X.stack H1 s1 E e s2)
  (hQ:∀ p C H' s',e = .ref p->Ld X pins σ H' p C s'->E (.ref p) (some C) H'->Q s') :
  wpAny M A (noteFrame e X.env) (λ _ s₂=>wpAny M A (setFlight e none) (λ _ s₃=>Q s₃) XE s₂) XE s2:=by
 obtain ⟨p,C,a0,B,H',rfl,os,bare,fl,hok,u,fr,hp,hE⟩:=h
 rw [O.stk] at fl
 refine wpAny_looks_onW (by rw [hA,O.stk]) O.fr fl λ h3 held up3=>?_
 refine wpAny_landsW held λ h4 fl4 up4=>?_
 refine hQ p C H' _ rfl ⟨H1,s1,a0,B,I,os,bare,?_,hok,u,?_,hp⟩ hE
 ·rw [O.stk]; exact fl4
 ·exact b1V I.stack fr (up3.trans up4)
theorem b4V {M:Model} {A:Around} {XE:Value->Shared->Prop} {Q:Unit->Shared->Prop} (L:Ld X pins σ H' p C s) (hQ:∀ s',Ld X pins σ H' p C s'->Q () s'):wpAny M A (setFlight (.ref p) none) Q XE s:=by
 obtain ⟨H1,s1,a0,B,I,os,bare,fl,hok,u,fr,hp⟩:=L
 exact lands_againW fl λ h4 fl4 up4=>hQ _ ⟨H1,s1,a0,B,I,os,bare,fl4,hok,u,b1V I.stack fr up4,hp⟩
theorem Ld.inv (L:Ld X pins σ H' p C s):Inv X pins σ (upd H' p (ExcO p C)) s:=by
 obtain ⟨H1,s1,a0,B,I,os,bare,fl,hok,u,fr,hp⟩:=L
 obtain ⟨oe,vs,he,hec,hed,_⟩:=fl.first
 have hat:AtC p C s.heap:=⟨oe,he,hec⟩
 have nB:∀ b o,s1.heap.get? b=some o->b≠p:=λ b o e z=>by
  by_cases hb:b∈frs X.stack
  ·obtain ⟨_,of,hof,hnf⟩:=I.stack.mem hb
   rw [e] at hof; cases hof
   obtain ⟨sl,q⟩:=fr b hb o e
   rw [z,he] at q; cases q
   exact hnf vs hed
  ·obtain ⟨o',q⟩:=u.there b o e hb
   rw [z,fl.2.1] at q; cases q
 have UN:=u.un fl.1 fr
 refine I.call' os ⟨UN.keep,UN.slot,λ b o e n hx=>?_,UN.there,λ b xs e=>?_,λ b o xs e=>?_,λ b ps e=>?_⟩ ?_ bare (λ b z=>absurd z (by simp))
 ·rw [a0Y (nB b o e)]; exact UN.free b o e n hx
 ·have q:=UN.tups b xs e
  rw [a0Y (a0S q hp)]; exact q
 ·have q:=UN.frzs b o xs e
  rw [a0Y (a0S q hp)]; exact q
 ·obtain ⟨more,q⟩:=UN.tbls b ps e
  exact ⟨more,by rw [a0Y (a0S q hp)]; exact q⟩
 ·intro b o e
  by_cases hb:b=p
  ·subst hb
   rw [a2T] at e; cases e
   exact b9K hat
  ·rw [a0Y hb] at e
   exact (hok b o e).stay (λ c v _ q=>fl.1 c v q) (λ c q=>by rw [a0Y (a0S q hp)]; exact q) λ c xs q=>by rw [a0Y (a0S q hp)]; exact q
end
end L2
namespace L2
open PySem PySem.Spec PySem.Calls PyProof.Rows
abbrev TXS:=Ends->(St->XK)->St->Hp->Prop
abbrev TXE:=(St->XK)->St->Hp->VK->Prop
def XEnd (X:Cx) (pins:List (Addr × Obj)) (E:St->XK) (ev:Value) (s':Shared):Prop:=∃ σ1 H1 s1,Inv X pins σ1 H1 s1/\CXE X.prog X.w X.stack H1 s1 (E σ1) ev s'
def PXE (X:Cx) (e:Expr) (t:TXE):Prop :=
 ∀ (pins:List (Addr × Obj)) (s:Shared) (σ:St) (H:Hp) (Q:VK) (E:St->XK),Inv X pins σ H s->t E σ H Q->wpAny (model X.prog X.w) X.A (eval e X.env) (EP X pins σ Q) (XEnd X pins E) s
def PXS (X:Cx) (st:Stmt) (t:TXS):Prop :=
 ∀ (pins:List (Addr × Obj)) (s:Shared) (σ:St) (H:Hp) (D:Ends) (E:St->XK),Inv X pins σ H s->t D E σ H->wpAny (model X.prog X.w) X.A (exec st X.env) (SP X pins D) (XEnd X pins E) s
def PXSs (X:Cx) (sts:List Stmt) (t:TXS):Prop :=
 ∀ (pins:List (Addr × Obj)) (s:Shared) (σ:St) (H:Hp) (D:Ends) (E:St->XK),Inv X pins σ H s->t D E σ H->wpAny (model X.prog X.w) X.A (execs sts X.env) (SP X pins D) (XEnd X pins E) s
def NoX (X:Cx):Prop:=∀ e s,X.xe e s->False
section
variable {X:Cx} {st:Stmt} {rest:List Stmt} {e:Expr} {es:List Expr} {pos:Pos} {t u:TXS} {te:TXE}
theorem xthn {α:Type} {m:Sem α} {Q Q':α->Shared->Prop} {M:Model} {A:Around} {E E':Value->Shared->Prop} {s:Shared} (h:wpAny M A m Q E s) (hx:∀ e s,E e s->False) (hQ:∀ a s,Q a s->Q' a s):wpAny M A m Q' E' s:=wpAny_mono h hQ λ e s z=>(hx e s z).elim
theorem b6Q (h1:PXS X st t):PXSs X [st] t:=by
 intro pins s σ H D E I h
 refine wpAny_execs_cons (thn (h1 pins s σ H D E I h) λ f s1 q=>?_)
 cases f with
 | next=>exact wpAny_execs_nil q
 | ret v=>exact q
 | brk=>exact q
 | cont=>exact q
theorem b6R (he:PXE X e te) (hs:swapsWith e none pos.line X.env=pure false:=by rfl):PXS X (.Expr e pos) (λ D E σ H=>te E σ H λ _ H1=>D.nx σ H1):=by
 intro pins s σ H D E I h
 exact wpAny_Expr_any (thn (he pins s σ H _ E I h) λ v s1 ⟨x,H1,I1,r1,q1⟩=>⟨σ,H1,I1,q1⟩) I.quiet hs
theorem b6S {k:Nat} {f:Addr} {fd:FuncData} {ps:List Str} {sp:Sp} {dvs:List V} {ds:List Value} {x:Str} {p:Pos} {t:TA} (hn:NoX X) (F:FnOk X.prog X.w X.K X.mg X.base (CXE X.prog X.w) k f fd ps sp) (hr:Room k X.A) (hg:Gl X x) (hm:X.mg x=some (.ref f))
  (hk:PySem.W.keepIn X.K (.ref f)=true) (hb:Binds X.K fd ps ds) (hd:Vals dvs ds) (ha:PA X (e::es) t) (hdb:(x == ("__debug__" : Str))=false:=by decide)
  (he:starEach (e::es) X.env=(false,eval e X.env)::starEach es X.env:=by rfl) (hpl:(backTo pos (starEach es X.env)).any (·.1)=false:=by rfl) :
  PXE X (.Call (.Name x p) (e::es) [] pos) (λ E σ H Q=>t σ H λ vs H1=>sp (vs++dvs) H1 Q (E σ)):=by
 intro pins s σ H Q E I h
 refine wpAny_Call_Name_kw (a5O I hg hm ?_ hdb)
 refine PySem.W.callWith_K (h₀:=X.base) I.ok.mod.kin hk (xthn (ha pos pins s σ H _ I h) hn λ us s1 ⟨vs,H1,I1,r,q⟩=>⟨I1.kIn,?_⟩) he hpl
 have r2:Vals (vs++dvs) (us++ds):=r.append hd
 have hl:(us++ds).length=ps.length:=by rw [<- r2.length]; exact F.len _ _ _ _ q
 refine wpAny_call (codeAny_mono (F.run X.A X.stack s1 H1 ⟨[]++us,[]⟩ (us++ds) (vs++dvs) Q (E σ) hr I1.env0 (hb s1 us I1.kIn hl) r2 q) λ r s' hq=>?_)
 cases r with
 | error ev=>exact ⟨σ,H1,s1,I1,hq⟩
 | ok fl =>
  cases fl with
  | ret v=>exact I1.after hq
  | next=>exact False.elim hq
  | brk=>exact False.elim hq
  | cont=>exact False.elim hq
end
def PH (X:Cx) (p C:Addr) (hs:List ExceptHandler) (t:TS):Prop :=
 ∀ (pins:List (Addr × Obj)) (s:Shared) (σ:St) (H':Hp) (D:Ends),Ld X pins σ H' p C s->t D σ (upd H' p (ExcO p C))->wpAny (model X.prog X.w) X.A (handleBy (.ref p) X.env hs) (SP X pins D) X.xe s
section
variable {X:Cx} {pos np:Pos} {t:TS} {tx:TXS} {p C:Addr}
def Ends.forget (D:Ends) (i:Nat):Ends:={ nx:=λ σ H=>D.nx (σ.set i none) H,rt:=D.rt,bk:=λ σ H=>D.bk (σ.set i none) H,ct:=λ σ H=>D.ct (σ.set i none) H }
theorem c3M {D:Addr} {x n:Str} {i:Nat} {b₀:Stmt} {suite:List Stmt} {rest:List ExceptHandler} (hg:Gl X x) (hm:X.mg x=some (.ref D)) (hx:PySem.W.exmOne X.K (.ref C) (.ref D)=some true) (hN:X.N.Nodup) (hi:X.N[i]?=some n)
  (hl:X.env.scope.names.lookup n=some .local) (hb:PSs (X.hand p) (b₀::suite) t) (hd:(x == ("__debug__" : Str))=false:=by decide) :
  PH X p C (.ExceptHandler (some (.Name x np)) (some n) (b₀::suite) pos::rest) (λ D' σ H=>t (D'.forget i) (σ.set i (some (.ref p))) H):=by
 intro pins s σ H' D' L h
 have I:=L.inv
 have J:=I.hand (p:=p)
 refine wpAny_handleBy_cons (codeAny_handlers_test (a5O (X:=X.hand p) J hg hm ?_ hd)) (by intro q; cases q)
 have hat:AtC p C s.heap:=(show ObjOk X.prog X.w _ s.heap p (ExcO p C) from I.hok p _ a2T).1
 refine (PySem.W.exm_one (M:=model X.prog X.w) I.kIn hat.type hx).here ?_
 refine codeAny_handlers_suite_as (b4V L λ s2 L2=>?_)
 have I2:=L2.inv
 refine a7N (X:=X.hand p) (I2.hand (p:=p)) hN hi (.inl hl) (v:=.ref p) (u:=.ref p) rfl (λ s3 I3=>?_) (.inr hl)
 refine wpAny_mono (hb pins s3 _ _ (D'.forget i) I3 h) (λ fl s4 q=>?_) λ _ _ z=>False.elim z
 have fin:∀ {σ4:St} {H4:Hp} {fl:Flow},Inv (X.hand p) pins σ4 H4 s4->(∀ s5,Inv X pins (σ4.set i none) H4 s5->SP X pins D' fl s5) ->
   wpAny (model X.prog X.w) X.A (do bindName X.env n .none; unbindBehindTheSuite X.env n pos) (λ _ s5=>SP X pins D' fl s5) X.xe s4:=λ {σ4 H4 fl} J4 k=>by
  have I4:=J4.unhand I.ok
  obtain ⟨m,hn,hl'⟩:=id I4.loc
  exact wpAny_nameGoes_keeps hl hn (by rw [I.ok.kind]; rfl) λ h5 v hn5 hs5=>k _ (I4.gone hN hi hl hn hl' hn5 hs5)
 cases fl with
 | next=>obtain ⟨σ4,H4,J4,q⟩:=q; exact fin J4 λ s5 I5=>⟨_,H4,I5,q⟩
 | brk=>obtain ⟨σ4,H4,J4,q⟩:=q; exact fin J4 λ s5 I5=>⟨_,H4,I5,q⟩
 | cont=>obtain ⟨σ4,H4,J4,q⟩:=q; exact fin J4 λ s5 I5=>⟨_,H4,I5,q⟩
 | ret u=>obtain ⟨v,σ4,H4,J4,r,q⟩:=q; exact fin J4 λ s5 I5=>⟨v,_,H4,I5,r,q⟩
theorem c1W {body:List Stmt} {h₀:ExceptHandler} {hs:List ExceptHandler} {th:Addr->Addr->TS} {ok:Addr->Prop} (O:Own X) (hb:PXSs X body tx) (hp:∀ p C,ok C->PH X p C (h₀::hs) (th p C)) :
  PS X (.Try body (h₀::hs) [] [] pos) (λ D σ H=>tx D (λ σ1 v c H'=>∀ p C,v = .ref p->c=some C->ok C/\th p C D σ1 (upd H' p (ExcO p C))) σ H):=by
 intro pins s σ H D I h
 refine wpAny_Try_except (wpAny_mono (hb pins s σ H D _ I h) (λ fl s1 q=>?_) λ ev s1 q=>?_)
 ·cases fl with
  | next=>exact wpAny_execs_nil q
  | brk=>exact q
  | cont=>exact q
  | ret u=>exact q
 ·obtain ⟨σ1,H1,s0,I1,hc⟩:=q
  refine b6P (XE:=X.xe) I1.ok.frames O I1 hc λ p C H' s' e L hE=>?_
  subst e
  obtain ⟨o,z⟩:=hE p C rfl rfl
  exact hp p C o pins s' σ1 H' D L z
end
end L2
namespace L2
open PySem PySem.Spec PySem.Calls PyProof.Rows
theorem Fun.okE {P:Program} {w:World} {K:Φρ} {mg:Str->Option Value} {base:Heap} {x qual:Str} {st:Stmt} {f:Addr} {fd:FuncData} {N ps:List Str} {k:Nat} {sp:Sp} (F:Fun K x qual st f fd) (S:FnScope N ps (a0F st)) (len:∀ vs H Q E,sp vs H Q E->vs.length=ps.length)
  (hbody:∀ (cdv:Value) (A:Around) (outer:List Env) (s:Shared) (H:Hp) (vs:List V) (Q:VK) (E:XK),Room k (A.deeper (envOfC qual (a0F st) s.heap.objs.size f cdv))->sp vs H Q E ->
   ∃ t,PSs (cxOf (CXE P w) P w K mg base N qual (a0F st) f cdv A outer s H E) (a1I st) t/\t { nx:=λ _ H'=>Q .non H',rt:=Q } (a7O N vs) H):FnOk P w K mg base (CXE P w) (k+1) f fd ps sp:=by
 obtain ⟨oc,od,kV,doc,pm,an,cdv,ct,osl,rfl,lk,hcd⟩:=F.ex
 exact c1E lk hcd S len λ A outer s H vs Q E hr hsp=>hbody cdv A outer s H vs Q E hr hsp
end L2
namespace L2
open PySem PySem.Spec PySem.Calls PyProof.Rows
section
variable {X:Cx} {k:Nat} {f:Addr} {fd:FuncData} {ps:List Str} {sp:Sp} {dvs:List V} {ds:List Value} {x:Str} {p pos:Pos} {e:Expr} {es:List Expr} {t:TA}
def b9L (K:Φρ):List V->Hp->VK->Prop:=λ xs H Q=>∃ (p C q:Addr) (vs:List V) (cs:List Addr) (b:Bool),xs=[.ref p,.ref q]/\H p=some (ExcO p C)/\Xk K C/\H q=some (.tup vs)/\vs=cs.map V.ref/\PySem.W.kitAny K (.ref C) (cs.map Value.ref)=some b/\Q (.bl b) H
theorem a9R:∀ {cs:List Addr} {us:List Value},Vals (cs.map V.ref) us->us=cs.map Value.ref
 | [],_,.nil=>rfl
 | a::r,_,.cons h t=>by
  cases (show _=Value.ref a from h)
  rw [a9R t]; rfl
theorem a5X {K:Φρ} (e:X.K=K):CallR X (.builtin "isinstance") (b9L K):=by
 subst e
 intro pins s σ H xs us Q I r h
 obtain ⟨p,C,q,vs,cs,b,rfl,ep,k,eq,rfl,hk,qq⟩:=h
 obtain ⟨u1,u2,rfl,r1,r2⟩:=b8L r
 cases (show u1=Value.ref p from r1)
 cases (show u2=Value.ref q from r2)
 obtain ⟨a,_⟩:=(show ObjOk X.prog X.w H s.heap p (ExcO p C) from I.hok p _ ep)
 obtain ⟨_,its,rv,it⟩:=(show ObjOk X.prog X.w H s.heap q (.tup (cs.map V.ref)) from I.hok q _ eq)
 obtain ⟨o,e1,e2,n,e3⟩:=it
 obtain ⟨oc,od,da,sl⟩:=o
 dsimp only at e2 e3
 subst e2 e3
 have hi:=a9R rv
 subst hi
 exact PySem.W.kia_tup (xkit k) I.kIn a e1 hk (λ z=>nomatch z) λ tk=>⟨.bl b,H,I.tok tk,rfl,qq⟩
end
end L2
set_option maxHeartbeats 4100000
namespace L2
open PySem PySem.Spec PyProof.Rows
def Itd (lo:Int) (n:Nat):It:=⟨λ i _=>i < n,λ i H x H'=>H'=H/\x = .int (lo - i),λ i _=>n<=i⟩
theorem b4W {P:Program} {w:World} {K:Φρ} {tg:Expr} (it:Addr) (lo:Int) (n:Nat):Turn P w K tg (Itd lo n) [it] it (λ i h=>IsRangeIter h it (lo+(i:Nat)*(-1)) ((n:Int) - (i:Nat)) (-1)) where
 mem:=List.mem_cons_self
 obj:=λ i h st b hb=>by
  obtain rfl:b=it:=by simpa using hb
  exact ⟨_,st,λ v z=>by
   have z2:Data.fields _=Data.cell v:=z
   cases z2⟩
 keep:=λ i h h' st k=>k it List.mem_cons_self _ st
 item:=by
  intro X hP hw hK hc i pins s σ H E I hf st hg
  subst hP hw hK; obtain ⟨f0,f1,f2,f3,f4,f5⟩:=hf it List.mem_cons_self
  have W:=Walks.range (prog:=X.prog) (w:=X.w) (I.ok.hd hc) it lo (-1) n
  refine W.item i s _ _ hg st λ v h' tk hv st' kk=>?_; obtain ⟨t,rfl⟩:=hv
  have I1:Inv X pins σ H { s with heap:=h',toks:=tk }:=I.turned (λ b o hb e=>kk b o (by simpa using hb) e) f0 f1 f3 f4 f5
  refine ⟨_,rfl,b8I (s:={ s with heap:=h',toks:=tk }) (n:="range_iterator") st' rfl rfl (by decide) ⟨.int (lo - i),H,I1,⟨t,?_⟩,⟨rfl,rfl⟩,st',λ b hb=>(hf b hb).1⟩⟩
  rw [show lo+(i:Int)*(-1)=lo - i by omega]
 done:=by
  intro X hP hw hK hc i pins s σ H E I hf st hg
  subst hP hw hK; obtain ⟨f0,f1,f2,f3,f4,f5⟩:=hf it List.mem_cons_self
  exact wpAny_pyNext_range_end (I.ok.hd hc) st (by have hg2:n<=i:=hg; omega) λ h' eb=>⟨rfl,I.turned (t':=s.toks) (λ b o hb e=>eb b o hb e) f0 f1 f3 f4 f5⟩
 self:=λ _ _ _ _ _ st h=>wpAny_pyIter_rangeiter st h
section
variable {X:Cx} {tg:Expr}
theorem b4X {pins:List (Addr × Obj)} {σ:St} {H:Hp} {s:Shared} {R:It->Hp->Prop} {E:Value->Shared->Prop} {lo hi:Int} {t u v:Tok} {tk:Nat} (I:Inv X pins σ H s) (h1 : -(2 ^ 62)<=lo) (h2:lo < 2 ^ 62) (h3 : -(2 ^ 62)<=hi) (h4:hi < 2 ^ 62)
  (q:R (Itd lo (lo - hi).toNat) H):wpAny (model X.prog X.w) X.A (pyIter (.ref s.heap.objs.size)) (PIE X pins σ tg R) E { s with heap:=s.heap.push { cls:=.type "range", data:=.fields #[.int lo t,.int hi u,.int (-1) v] },toks:=tk }:=by
 refine wpAny_pyIter_range (IsRange.new ..) (PySem.W.small_down h1 h2 h3 h4) ?_
 have I1:Inv X pins σ H { s with heap:=s.heap.push { cls:=.type "range", data:=.fields #[.int lo t,.int hi u,.int (-1) v] },toks:=tk }:=I.kept λ b o e=>Heap.get?_push_of_some _ e
 refine ⟨(s.heap.push { cls:=.type "range", data:=.fields #[.int lo t,.int hi u,.int (-1) v] }).objs.size,[(s.heap.push { cls:=.type "range", data:=.fields #[.int lo t,.int hi u,.int (-1) v] }).objs.size],_,_,H,rfl,I1.kept (t':=tk) λ b o e=>Heap.get?_push_of_some _ e,b4W _ lo (lo - hi).toNat,?_,λ b hb=>?_,q⟩
 ·have e1:lo+((0:Nat):Int)*(-1)=lo:=by simp
  have e2:(((lo - hi).toNat:Nat):Int) - ((0:Nat):Int)=Builtin.Range.rangeSize lo hi (-1):=by rw [PySem.W.rangeSize_downNat]; omega
  show IsRangeIter _ _ (lo+((0:Nat):Int)*(-1)) ((((lo - hi).toNat:Nat):Int) - ((0:Nat):Int)) (-1)
  rw [e1,e2]; exact Heap.get?_push_size _ rfl
 ·obtain rfl:b=(s.heap.push { cls:=.type "range", data:=.fields #[.int lo t,.int hi u,.int (-1) v] }).objs.size:=by simpa using hb
  exact I1.fpOk (Nat.le_refl _) (I1.hok.fresh (Nat.le_refl _))
def c3N (ta:TA):TI:=λ σ H R=>ta σ H λ vs H1=>∃ i j:Int,vs=[.int i,.int j,.int (-1)]/\(-(2 ^ 30)<=i/\i < 2 ^ 30 /\ -(2 ^ 30)<=j/\j < 2 ^ 30)/\R (Itd i (i - j).toNat) H1
theorem b4Y {a b c:Expr} {ta:TA} {p pos:Pos} (hg:Gl X "range") (hm:X.mg "range" = none) (ha:PA X [a,b,c] ta) (hs:starEach [a,b,c] X.env=[(false,eval a X.env),(false,eval b X.env),(false,eval c X.env)]:=by rfl) (hs2:starEach [b,c] X.env=[(false,eval b X.env),(false,eval c X.env)]:=by rfl) :
  PI X tg (.Call (.Name "range" p) [a,b,c] [] pos) (c3N ta):=by
 intro pins s σ H R I h
 refine Call_ (a5A I hg hm boot_range (PyProof.Rows.callWith_type1 (thn (ha pos pins s σ H _ I h) λ us s1 ⟨vs,H1,I1,r1,q1⟩=>?_) (by rw [hs,hs2]) (by rw [hs2]; rfl)))
 obtain ⟨i,j,e,⟨q1,q2,q3,q4⟩,q⟩:=q1; subst e
 cases r1 with
 | cons r rr =>
 cases rr with
 | cons r' rr =>
 cases rr with
 | cons r'' rr =>
  cases rr; obtain ⟨t,rfl⟩:=r; obtain ⟨t',rfl⟩:=r'; obtain ⟨t'',rfl⟩:=r''
  refine call_range_3 (by decide) (b4X I1 (by omega) (by omega) (by omega) (by omega) q) (Or.inl (PyProof.noPylong_small ?_))
  omega
end
section
variable {ix:List (Option Nat)} {g:TG} {tt:TT} {te:TE} {σ:St} {H1:Hp} {Q:VK}
end
section
variable {X:Cx}
end
end L2
namespace K
open PySem L2 Lw Bg
def top (i:Nat):Stmt:=PySem.Challenge.pw_bagwood_k25_the_order_of_a_tree.main.body.getD i (.Pass ⟨0,0,0,0⟩)
structure Cl (K:Φρ) (mg:Str->Option Value) where
 BagError:Addr
 m_BagError:mg "BagError" = some (.ref BagError)
 NoGraph:Addr
 m_NoGraph:mg "NoGraph" = some (.ref NoGraph)
 NoPlace:Addr
 m_NoPlace:mg "NoPlace" = some (.ref NoPlace)
 NoTie:Addr
 m_NoTie:mg "NoTie" = some (.ref NoTie)
 NoBag:Addr
 m_NoBag:mg "NoBag" = some (.ref NoBag)
 NoTree:Addr
 m_NoTree:mg "NoTree" = some (.ref NoTree)
 NoOrder:Addr
 m_NoOrder:mg "NoOrder" = some (.ref NoOrder)
 NoPart:Addr
 m_NoPart:mg "NoPart" = some (.ref NoPart)
 NoSteps:Addr
 m_NoSteps:mg "NoSteps" = some (.ref NoSteps)
 TooWide:Addr
 m_TooWide:mg "TooWide" = some (.ref TooWide)
 NoColours:Addr
 m_NoColours:mg "NoColours" = some (.ref NoColours)
 NoWeights:Addr
 m_NoWeights:mg "NoWeights" = some (.ref NoWeights)
 NoNumber:Addr
 m_NoNumber:mg "NoNumber" = some (.ref NoNumber)
 NoName:Addr
 m_NoName:mg "NoName" = some (.ref NoName)
 NoText:Addr
 m_NoText:mg "NoText" = some (.ref NoText)
 NoRow:Addr
 m_NoRow:mg "NoRow" = some (.ref NoRow)
 k_NoTree:Xk K NoTree
 v_NoTree:PySem.W.kitOne K (.ref NoTree) (.type "ValueError")=some true
 q_NoTree_BagError:PySem.W.kitOne K (.ref NoTree) (.ref BagError)=some true
 x_NoTree_BagError:PySem.W.exmOne K (.ref NoTree) (.ref BagError)=some true
 q_NoTree_NoGraph:PySem.W.kitOne K (.ref NoTree) (.ref NoGraph)=some false
 x_NoTree_NoGraph:PySem.W.exmOne K (.ref NoTree) (.ref NoGraph)=some false
 q_NoTree_NoPlace:PySem.W.kitOne K (.ref NoTree) (.ref NoPlace)=some false
 x_NoTree_NoPlace:PySem.W.exmOne K (.ref NoTree) (.ref NoPlace)=some false
 q_NoTree_NoTie:PySem.W.kitOne K (.ref NoTree) (.ref NoTie)=some false
 x_NoTree_NoTie:PySem.W.exmOne K (.ref NoTree) (.ref NoTie)=some false
 q_NoTree_NoBag:PySem.W.kitOne K (.ref NoTree) (.ref NoBag)=some false
 x_NoTree_NoBag:PySem.W.exmOne K (.ref NoTree) (.ref NoBag)=some false
 q_NoTree_NoTree:PySem.W.kitOne K (.ref NoTree) (.ref NoTree)=some true
 x_NoTree_NoTree:PySem.W.exmOne K (.ref NoTree) (.ref NoTree)=some true
 q_NoTree_NoOrder:PySem.W.kitOne K (.ref NoTree) (.ref NoOrder)=some false
 x_NoTree_NoOrder:PySem.W.exmOne K (.ref NoTree) (.ref NoOrder)=some false
 q_NoTree_NoPart:PySem.W.kitOne K (.ref NoTree) (.ref NoPart)=some false
 x_NoTree_NoPart:PySem.W.exmOne K (.ref NoTree) (.ref NoPart)=some false
 q_NoTree_NoSteps:PySem.W.kitOne K (.ref NoTree) (.ref NoSteps)=some false
 x_NoTree_NoSteps:PySem.W.exmOne K (.ref NoTree) (.ref NoSteps)=some false
 q_NoTree_TooWide:PySem.W.kitOne K (.ref NoTree) (.ref TooWide)=some false
 x_NoTree_TooWide:PySem.W.exmOne K (.ref NoTree) (.ref TooWide)=some false
 q_NoTree_NoColours:PySem.W.kitOne K (.ref NoTree) (.ref NoColours)=some false
 x_NoTree_NoColours:PySem.W.exmOne K (.ref NoTree) (.ref NoColours)=some false
 q_NoTree_NoWeights:PySem.W.kitOne K (.ref NoTree) (.ref NoWeights)=some false
 x_NoTree_NoWeights:PySem.W.exmOne K (.ref NoTree) (.ref NoWeights)=some false
 q_NoTree_NoNumber:PySem.W.kitOne K (.ref NoTree) (.ref NoNumber)=some false
 x_NoTree_NoNumber:PySem.W.exmOne K (.ref NoTree) (.ref NoNumber)=some false
 q_NoTree_NoName:PySem.W.kitOne K (.ref NoTree) (.ref NoName)=some false
 x_NoTree_NoName:PySem.W.exmOne K (.ref NoTree) (.ref NoName)=some false
 q_NoTree_NoText:PySem.W.kitOne K (.ref NoTree) (.ref NoText)=some false
 x_NoTree_NoText:PySem.W.exmOne K (.ref NoTree) (.ref NoText)=some false
 q_NoTree_NoRow:PySem.W.kitOne K (.ref NoTree) (.ref NoRow)=some false
 x_NoTree_NoRow:PySem.W.exmOne K (.ref NoTree) (.ref NoRow)=some false
theorem c3S {K:Φρ} {h:Heap} {mg:Str->Option Value} {BagError NoGraph NoPlace NoTie NoBag NoTree NoOrder NoPart NoSteps TooWide NoColours NoWeights NoNumber NoName NoText NoRow:Addr} (X:K.In h) (G:h.Ns mainGlobals mg)
  (a_BagError:PySem.W.nsIn K mainGlobals "BagError" = some (some (.ref BagError)))
  (a_NoGraph:PySem.W.nsIn K mainGlobals "NoGraph" = some (some (.ref NoGraph)))
  (a_NoPlace:PySem.W.nsIn K mainGlobals "NoPlace" = some (some (.ref NoPlace)))
  (a_NoTie:PySem.W.nsIn K mainGlobals "NoTie" = some (some (.ref NoTie)))
  (a_NoBag:PySem.W.nsIn K mainGlobals "NoBag" = some (some (.ref NoBag)))
  (a_NoTree:PySem.W.nsIn K mainGlobals "NoTree" = some (some (.ref NoTree)))
  (a_NoOrder:PySem.W.nsIn K mainGlobals "NoOrder" = some (some (.ref NoOrder)))
  (a_NoPart:PySem.W.nsIn K mainGlobals "NoPart" = some (some (.ref NoPart)))
  (a_NoSteps:PySem.W.nsIn K mainGlobals "NoSteps" = some (some (.ref NoSteps)))
  (a_TooWide:PySem.W.nsIn K mainGlobals "TooWide" = some (some (.ref TooWide)))
  (a_NoColours:PySem.W.nsIn K mainGlobals "NoColours" = some (some (.ref NoColours)))
  (a_NoWeights:PySem.W.nsIn K mainGlobals "NoWeights" = some (some (.ref NoWeights)))
  (a_NoNumber:PySem.W.nsIn K mainGlobals "NoNumber" = some (some (.ref NoNumber)))
  (a_NoName:PySem.W.nsIn K mainGlobals "NoName" = some (some (.ref NoName)))
  (a_NoText:PySem.W.nsIn K mainGlobals "NoText" = some (some (.ref NoText)))
  (a_NoRow:PySem.W.nsIn K mainGlobals "NoRow" = some (some (.ref NoRow)))
  (g_NoTree:Xk K NoTree)
  (t_NoTree:[PySem.W.kitOne K (.ref NoTree) (.type "ValueError"),PySem.W.kitOne K (.ref NoTree) (.ref BagError),PySem.W.exmOne K (.ref NoTree) (.ref BagError),PySem.W.kitOne K (.ref NoTree) (.ref NoGraph),PySem.W.exmOne K (.ref NoTree) (.ref NoGraph),PySem.W.kitOne K (.ref NoTree) (.ref NoPlace),PySem.W.exmOne K (.ref NoTree) (.ref NoPlace),PySem.W.kitOne K (.ref NoTree) (.ref NoTie),PySem.W.exmOne K (.ref NoTree) (.ref NoTie),PySem.W.kitOne K (.ref NoTree) (.ref NoBag),PySem.W.exmOne K (.ref NoTree) (.ref NoBag),PySem.W.kitOne K (.ref NoTree) (.ref NoTree),PySem.W.exmOne K (.ref NoTree) (.ref NoTree),PySem.W.kitOne K (.ref NoTree) (.ref NoOrder),PySem.W.exmOne K (.ref NoTree) (.ref NoOrder),PySem.W.kitOne K (.ref NoTree) (.ref NoPart),PySem.W.exmOne K (.ref NoTree) (.ref NoPart),PySem.W.kitOne K (.ref NoTree) (.ref NoSteps),PySem.W.exmOne K (.ref NoTree) (.ref NoSteps),PySem.W.kitOne K (.ref NoTree) (.ref TooWide),PySem.W.exmOne K (.ref NoTree) (.ref TooWide),PySem.W.kitOne K (.ref NoTree) (.ref NoColours),PySem.W.exmOne K (.ref NoTree) (.ref NoColours),PySem.W.kitOne K (.ref NoTree) (.ref NoWeights),PySem.W.exmOne K (.ref NoTree) (.ref NoWeights),PySem.W.kitOne K (.ref NoTree) (.ref NoNumber),PySem.W.exmOne K (.ref NoTree) (.ref NoNumber),PySem.W.kitOne K (.ref NoTree) (.ref NoName),PySem.W.exmOne K (.ref NoTree) (.ref NoName),PySem.W.kitOne K (.ref NoTree) (.ref NoText),PySem.W.exmOne K (.ref NoTree) (.ref NoText),PySem.W.kitOne K (.ref NoTree) (.ref NoRow),PySem.W.exmOne K (.ref NoTree) (.ref NoRow)]=[some true,some true,some true,some false,some false,some false,some false,some false,some false,some false,some false,some true,some true,some false,some false,some false,some false,some false,some false,some false,some false,some false,some false,some false,some false,some false,some false,some false,some false,some false,some false,some false,some false]):Nonempty (Cl K mg):=by
 simp only [List.cons.injEq] at t_NoTree
 obtain ⟨w_NoTree,b_NoTree_BagError,c_NoTree_BagError,b_NoTree_NoGraph,c_NoTree_NoGraph,b_NoTree_NoPlace,c_NoTree_NoPlace,b_NoTree_NoTie,c_NoTree_NoTie,b_NoTree_NoBag,c_NoTree_NoBag,b_NoTree_NoTree,c_NoTree_NoTree,b_NoTree_NoOrder,c_NoTree_NoOrder,b_NoTree_NoPart,c_NoTree_NoPart,b_NoTree_NoSteps,c_NoTree_NoSteps,b_NoTree_TooWide,c_NoTree_TooWide,b_NoTree_NoColours,c_NoTree_NoColours,b_NoTree_NoWeights,c_NoTree_NoWeights,b_NoTree_NoNumber,c_NoTree_NoNumber,b_NoTree_NoName,c_NoTree_NoName,b_NoTree_NoText,c_NoTree_NoText,b_NoTree_NoRow,c_NoTree_NoRow,_⟩:=t_NoTree
 exact ⟨{ BagError:=BagError,m_BagError:=PySem.W.mg_of X G a_BagError,NoGraph:=NoGraph,m_NoGraph:=PySem.W.mg_of X G a_NoGraph,NoPlace:=NoPlace,m_NoPlace:=PySem.W.mg_of X G a_NoPlace,NoTie:=NoTie,m_NoTie:=PySem.W.mg_of X G a_NoTie,NoBag:=NoBag,m_NoBag:=PySem.W.mg_of X G a_NoBag,NoTree:=NoTree,m_NoTree:=PySem.W.mg_of X G a_NoTree,NoOrder:=NoOrder,m_NoOrder:=PySem.W.mg_of X G a_NoOrder,NoPart:=NoPart,m_NoPart:=PySem.W.mg_of X G a_NoPart,NoSteps:=NoSteps,m_NoSteps:=PySem.W.mg_of X G a_NoSteps,TooWide:=TooWide,m_TooWide:=PySem.W.mg_of X G a_TooWide,NoColours:=NoColours,m_NoColours:=PySem.W.mg_of X G a_NoColours,NoWeights:=NoWeights,m_NoWeights:=PySem.W.mg_of X G a_NoWeights,NoNumber:=NoNumber,m_NoNumber:=PySem.W.mg_of X G a_NoNumber,NoName:=NoName,m_NoName:=PySem.W.mg_of X G a_NoName,NoText:=NoText,m_NoText:=PySem.W.mg_of X G a_NoText,NoRow:=NoRow,m_NoRow:=PySem.W.mg_of X G a_NoRow,k_NoTree:=g_NoTree,v_NoTree:=w_NoTree,q_NoTree_BagError:=b_NoTree_BagError,x_NoTree_BagError:=c_NoTree_BagError,q_NoTree_NoGraph:=b_NoTree_NoGraph,x_NoTree_NoGraph:=c_NoTree_NoGraph,q_NoTree_NoPlace:=b_NoTree_NoPlace,x_NoTree_NoPlace:=c_NoTree_NoPlace,q_NoTree_NoTie:=b_NoTree_NoTie,x_NoTree_NoTie:=c_NoTree_NoTie,q_NoTree_NoBag:=b_NoTree_NoBag,x_NoTree_NoBag:=c_NoTree_NoBag,q_NoTree_NoTree:=b_NoTree_NoTree,x_NoTree_NoTree:=c_NoTree_NoTree,q_NoTree_NoOrder:=b_NoTree_NoOrder,x_NoTree_NoOrder:=c_NoTree_NoOrder,q_NoTree_NoPart:=b_NoTree_NoPart,x_NoTree_NoPart:=c_NoTree_NoPart,q_NoTree_NoSteps:=b_NoTree_NoSteps,x_NoTree_NoSteps:=c_NoTree_NoSteps,q_NoTree_TooWide:=b_NoTree_TooWide,x_NoTree_TooWide:=c_NoTree_TooWide,q_NoTree_NoColours:=b_NoTree_NoColours,x_NoTree_NoColours:=c_NoTree_NoColours,q_NoTree_NoWeights:=b_NoTree_NoWeights,x_NoTree_NoWeights:=c_NoTree_NoWeights,q_NoTree_NoNumber:=b_NoTree_NoNumber,x_NoTree_NoNumber:=c_NoTree_NoNumber,q_NoTree_NoName:=b_NoTree_NoName,x_NoTree_NoName:=c_NoTree_NoName,q_NoTree_NoText:=b_NoTree_NoText,x_NoTree_NoText:=c_NoTree_NoText,q_NoTree_NoRow:=b_NoTree_NoRow,x_NoTree_NoRow:=c_NoTree_NoRow }⟩
abbrev a7G:Stmt:=top 18
theorem b0Y:FnScope ["thing"] ["thing"] (a0F a7G):=⟨rfl,rfl,rfl,by decide +kernel,rfl,by decide +kernel,by decide +kernel⟩
abbrev a7H:Stmt:=top 19
theorem b0Z:FnScope ["n", "thing"] ["n", "thing"] (a0F a7H):=⟨rfl,rfl,rfl,by decide +kernel,rfl,by decide +kernel,by decide +kernel⟩
abbrev b1W:Stmt:=top 20
theorem b4Z:FnScope ["n", "places"] ["n", "places"] (a0F b1W):=⟨rfl,rfl,rfl,by decide +kernel,rfl,by decide +kernel,by decide +kernel⟩
def b9M (K:Φρ):Sp:=λ vs H Q _=>∃ (x:V) (t:Value) (bi bb:Bool),vs=[x]/\TyOf K H x t/\PySem.W.kitOne K t (.type "int")=some bi/\PySem.W.kitOne K t (.type "bool")=some bb/\Q (.bl (bi && !bb)) H
def b9N:Sp:=λ vs H Q _=>∃ (n:Int) (o:Option Int),vs=[.int n,upV o]/\Q (.bl (a5F n o)) H
def c3O (K:Φρ):Sp:=λ vs H Q _=>∃ (n:Int) (a:Addr) (ns:List Int),vs=[.int n,.ref a]/\SqL K H a (ns.map V.int)/\ns.length<=1000/\∀ H',Same H H'->Q (.bl (setF n ns)) H'
section
variable {P:Program} {w:World} {K:Φρ} {mg:Str->Option Value} {base:Heap}
abbrev DZ21 (K:PySem.W.Frag) (mg:Str->Option Value):=Dn K mg "is_whole" a7G ["thing"]
set_option maxHeartbeats 4000000 in
theorem b1A (B:Bl mg) (dZ21:DZ21 K mg):FnOk P w K mg base CX0 1 dZ21.f dZ21.fd ["thing"] (b9M K):=by
 refine dZ21.F.ok b0Y (λ vs H Q E h=>?_) (λ cdv A outer s H vs Q E hr h=>?_)
 ·obtain ⟨x,t,bi,bb,rfl,_⟩:=h
  rfl
 obtain ⟨x,t,bi,bb,rfl,ty,h1,h2,q⟩:=h
 refine ⟨_,(a0E (a0M (a6X (a0I (a2F (K:=K) rfl) rfl B.isinstance (by decide +kernel) (a0A (pv 0) (a0A (a4T (v:=.ty "int") (u:=.type "int") rfl B.int (by decide +kernel) rfl) a0B))) (a5P (b7O (a0I (a2F (K:=K) rfl) rfl B.isinstance (by decide +kernel) (a0A (pv 0) (a0A (a4T (v:=.ty "bool") (u:=.type "bool") rfl B.bool (by decide +kernel) rfl) a0B)))))))),?_⟩
 refine ⟨_,rfl,_,_,_,_,_,rfl,rfl,ty,h1,_,rfl,?_⟩
 cases bi with
 | true =>
  refine iteT ?_
  exact ⟨_,rfl,_,_,_,_,_,rfl,rfl,ty,h2,_,rfl,q⟩
 | false=>exact iteF q
abbrev DZ17 (K:PySem.W.Frag) (mg:Str->Option Value):=Dn K mg "is_below" a7H ["n", "thing"]
set_option maxHeartbeats 4000000 in
theorem a5Y (B:Bl mg) (dZ21:DZ21 K mg) (dZ17:DZ17 K mg):FnOk P w K mg base CX0 2 dZ17.f dZ17.fd ["n", "thing"] b9N:=by
 have gZ21:FnOk P w K mg base CX0 1 _ _ _ _:=b1A B dZ21
 refine dZ17.F.ok b0Z (λ vs H Q E h=>?_) (λ cdv A outer s H vs Q E hr h=>?_)
 ·obtain ⟨n,i,rfl,_⟩:=h
  rfl
 obtain ⟨n,o,rfl,q⟩:=h
 refine ⟨_,(a0E (a0M (a6X (a0J gZ21 hr rfl dZ21.m dZ21.F.kp dZ21.b .nil a1A (a0A (pv 1) a0B)) (a5P (b6C c1A b2J a0D (pv 1) (pv 0)))))),?_⟩
 cases o with
 | none=>exact ⟨_,rfl,_,_,_,_,rfl,TyOf.non,b0Q,a9D,_,rfl,iteF q⟩
 | some i =>
  refine ⟨_,rfl,_,_,_,_,rfl,TyOf.int i,a5S,a5D,_,rfl,?_⟩
  refine iteT ?_
  refine ⟨_,rfl,_,_,rfl,rfl,_,rfl,?_⟩
  refine ite2 (λ c=>?_) (λ c=>?_)
  ·have c':0<=i:=of_decide_eq_true c
   refine ⟨_,rfl,_,_,rfl,rfl,?_⟩
   have e:a5F n (some i)=decide (i < n):=by unfold a5F; simp [c']
   rw [e] at q; exact q
  ·have c':¬ 0<=i:=of_decide_eq_false (Bool.eq_false_iff.mpr c)
   have e:a5F n (some i)=false:=by unfold a5F; simp [c']
   rw [e] at q; exact q
abbrev DZ19 (K:PySem.W.Frag) (mg:Str->Option Value):=Dn K mg "is_set" b1W ["n", "places"]
set_option maxHeartbeats 4000000 in
theorem a9S (B:Bl mg) (dZ21:DZ21 K mg) (dZ17:DZ17 K mg) (dZ19:DZ19 K mg):FnOk P w K mg base CX0 3 dZ19.f dZ19.fd ["n", "places"] (c3O K):=by
 have gZ17:FnOk P w K mg base CX0 2 _ _ _ _:=a5Y B dZ21 dZ17
 refine dZ19.F.ok b4Z (λ vs H Q E h=>?_) (λ cdv A outer s H vs Q E hr h=>?_)
 ·obtain ⟨n,a,ns,rfl,_⟩:=h
  rfl
 obtain ⟨n,a,ns,rfl,hS,hz,q⟩:=h
 refine ⟨_,(a0C (a1E (a3A (a1D (K:=K) rfl (a0I (a5T (K:=K) rfl rfl) rfl B.all (by decide +kernel) (a0A (a6M ["v", "n"] [none,some 0]  (by kernel_rfl) rfl (a0Z (K:=K) rfl (pv 1)) (λ _ _ _ _ _=>(a0L (i:=0) (show (["v", "n"]:List Str).Nodup by decide +kernel) rfl (Or.inl rfl))) (λ _ _ _ _ _=>a2J) (λ _ _ _ _ _=>(a0J gZ17 hr rfl dZ17.m dZ17.F.kp dZ17.b .nil a1A (a0A (pv 1) (a0A (pv 0) a0B))))) a0B)) (λ _=>rfl)))
   (a0E (a0M a8M))
   a0N)
   (a0E (a0M (a0I (a5T (K:=K) rfl rfl) rfl B.all (by decide +kernel) (a0A (a6M ["k", "places"] [none,some 1]  (by kernel_rfl) rfl (a8O rfl B.range (a0A a0D (a0A (a0I (a0R (K:=K) rfl) rfl B.len (by decide +kernel) (a0A (pv 1) a0B)) a0B))) (λ _ _ _ _ _=>(a0L (i:=0) (show (["k", "places"]:List Str).Nodup by decide +kernel) rfl (Or.inl rfl))) (λ _ _ _ _ _=>a2J) (λ _ _ _ _ _=>(a2W b2J (a0U (a0X (K:=K) rfl) (pv 1) (a0K a6Y (pv 0) a0D) (λ _ _=>rfl)) (a0U (a0X (K:=K) rfl) (pv 1) (pv 0) (λ _ _=>rfl)) (a0O _)))) a0B))))),?_⟩
 refine ⟨_,rfl,a,rfl,⟨_,hS⟩,?_⟩
 refine a9F (λ x=>match x with | .int v=>some (.bl (decide (0<=v/\v < n))) | _=>none) hS (by rw [List.length_map]; exact hz) (λ x H1 N hx sm hN=>?_) (λ H1 p H1' sm hp=>?_)
 ·obtain ⟨v,hv,rfl⟩:=List.mem_map.mp hx
  exact ⟨_,rfl,_,rfl,n,some v,rfl,hN H1 sm⟩
 have e1:(ns.map V.int).filterMap (λ x=>match x with | .int v=>some (V.bl (decide (0<=v/\v < n))) | _=>none)=(ns.map λ v=>decide (0<=v/\v < n)).map V.bl:=by
  rw [List.map_map]
  exact b8Z λ v _=>rfl
 rw [e1] at hp
 refine ⟨p,_,_,rfl,SqL.of hp.here,Truths.bls _,_,rfl,?_⟩
 have s1:Same H H1':=sm.trans hp.same
 have e2:((ns.map λ v=>decide (0<=v/\v < n)).all id)=ns.all λ v=>decide (0<=v/\v < n):=by rw [List.all_map]; rfl
 rw [e2]
 cases c:ns.all λ v=>decide (0<=v/\v < n) with
 | false =>
  refine iteT ?_
  have e:setF n ns=false:=by unfold setF; rw [c]; rfl
  rw [e] at q
  exact q _ s1
 | true =>
  refine iteF ?_
  have hl:((ns.map V.int).length:Int)=ns.length:=by rw [List.length_map]
  refine ⟨_,rfl,a,_,rfl,.inl (s1.seq hS),1,_,rfl,⟨by decide,by decide,by omega,by omega⟩,?_⟩
  have en:((((ns.map V.int).length:Nat):Int) - 1).toNat=ns.length - 1:=by rw [List.length_map]; omega
  rw [en]
  refine a7U (λ i=>some (.bl (decide (ns.getD i 0 < ns.getD (i+1) 0)))) (by omega) (λ i H2 N hi sm2 hN=>?_) (λ H2 p2 H2' sm2 hp2=>?_)
  ·refine ⟨_,rfl,_,rfl,_,_,rfl,rfl,a,_,_,_,rfl,rfl,sm2.seq (s1.seq hS),a7V (by omega) (by omega),_,rfl,_,rfl,a,_,_,_,rfl,rfl,sm2.seq (s1.seq hS),a7V (by omega) (by omega),_,_,rfl,rfl,?_⟩
   have z1:(1+(i:Int) - 1).toNat=i:=by omega
   have z2:(1+(i:Int)).toNat=i+1:=by omega
   rw [z1,z2]
   exact hN H2 sm2
  ·have e3:(List.range (ns.length - 1)).filterMap (λ i=>some (V.bl (decide (ns.getD i 0 < ns.getD (i+1) 0))))=((List.range (ns.length - 1)).map λ i=>decide (ns.getD i 0 < ns.getD (i+1) 0)).map V.bl:=by
    rw [List.map_map]
    exact a2X λ _ _=>rfl
   rw [e3] at hp2
   refine ⟨p2,_,_,rfl,SqL.of hp2.here,Truths.bls _,?_⟩
   have e:setF n ns=((List.range (ns.length - 1)).map λ i=>decide (ns.getD i 0 < ns.getD (i+1) 0)).all id:=by
    unfold setF a9G; rw [c,List.all_map]; rfl
   rw [e] at q
   exact q _ (s1.trans (sm2.trans hp2.same))
end
def b5A (xs ys:List Int):List Int:=xs.filter λ v=>!decide (v∈ys)
def c1X (K:Φρ):Sp:=λ vs H Q _=>∃ (a b:Addr) (xs ys:List Int),vs=[.ref a,.ref b]/\SqL K H a (xs.map V.int)/\SqL K H b (ys.map V.int)/\xs.length<=1000 /\
 ∀ H0 p H',Same H H0->New H0 p (.lst ((b5A xs ys).map V.int)) H'->Q (.ref p) H'
theorem b8A (xs:List Int) (c:Int->Bool):(xs.map V.int).filterMap (λ x=>match x with | .int v=>if c v then some (.int v) else none | _=>none)=(xs.filter c).map V.int:=by
 induction xs with
 | nil=>rfl
 | cons x r ih =>
  rw [List.map_cons,List.filter_cons]
  cases e:c x with
  | true=>rw [List.filterMap_cons_some (by simp only [e]; rfl),ih]; simp
  | false=>rw [List.filterMap_cons_none (by simp only [e]; rfl),ih]; simp
abbrev b5B:Stmt:=top 21
theorem b9O:FnScope ["one", "other"] ["one", "other"] (a0F b5B):=⟨rfl,rfl,rfl,by decide +kernel,rfl,by decide +kernel,by decide +kernel⟩
section
variable {P:Program} {w:World} {K:Φρ} {mg:Str->Option Value} {base:Heap}
abbrev DZ24 (K:PySem.W.Frag) (mg:Str->Option Value):=Dn K mg "less" b5B ["one", "other"]
set_option maxHeartbeats 4000000 in
theorem b5C (B:Bl mg) (dZ24:DZ24 K mg):FnOk P w K mg base CX0 1 dZ24.f dZ24.fd ["one", "other"] (c1X K):=by
 refine dZ24.F.ok b9O (λ vs H Q E h=>?_) (λ cdv A outer s H vs Q E hr h=>?_)
 ·obtain ⟨a,b,xs,ys,rfl,_⟩:=h
  rfl
 obtain ⟨a,b,xs,ys,rfl,hA,hB,hz,q⟩:=h
 have hv:(A.deeper (PyProof.Rows.envOfC "less" (a0F b5B) s.heap.objs.size dZ24.f cdv)).units+65 < cLine:=by have:=hr.un; omega
 refine ⟨_,(a0E (a0M (a6M ["v", "other"] [none,some 1]  (by kernel_rfl) rfl (a0Z (K:=K) rfl (pv 0)) (λ _ _ _ _ _=>(a0L (i:=0) (show (["v", "other"]:List Str).Nodup by decide +kernel) rfl (Or.inl rfl))) (λ _ _ _ _ _=>(a4D (a0H (b2M (K:=K) rfl hv) (pv 0) (pv 1) (by with_unfolding_all rfl)))) (λ _ _ _ _ _=>(pv 0))))),?_⟩
 refine ⟨_,rfl,a,rfl,⟨_,hA⟩,?_⟩
 refine a9F (λ x=>match x with | .int v=>if !decide (v∈ys) then some (.int v) else none | _=>none) hA (by rw [List.length_map]; exact hz) (λ x H1 N hx sm hN=>?_) (λ H1 p H1' sm hp=>?_)
 ·obtain ⟨v,hv,rfl⟩:=List.mem_map.mp hx
  have hN':=hN H1 sm
  refine ⟨_,rfl,_,rfl,b4D (sm.seq hB) ⟨_,rfl,?_⟩⟩
  dsimp only at hN'
  cases c:decide (v∈ys) with
  | true=>rw [c] at hN'; exact iteF hN'
  | false=>rw [c] at hN'; exact iteT ⟨_,rfl,hN'⟩
 ·rw [b8A] at hp
  exact q _ _ _ sm hp
end
abbrev natV (l:List Nat):List V:=l.map λ (x:Nat)=>V.int (x:Int)
theorem a3W (l:List Nat):natV l=(l.map λ (x:Nat)=>(x:Int)).map V.int:=by
 unfold natV
 rw [List.map_map]
 rfl
theorem a8B {l:List Nat} {j:Nat} (h:j < l.length):atI (natV l) (j:Int)=some (.int ((l.getD j 0:Nat):Int)):=a1W (by
 unfold natV
 rw [List.getElem?_map,List.getElem?_eq_getElem h,τα,List.getElem?_eq_getElem h]; rfl)
theorem c1Y {K:Φρ} {H:Hp} {b:Addr} {l:List Nat} {x:Nat} {Q:VK} (hS:SqL K H b (natV l)) (q:Q (.bl (decide (x∈l))) H):rInD K false (.int (x:Int)) (.ref b) H Q:=by
 rw [a3W] at hS
 refine a3O hS ?_
 have e:decide ((x:Int)∈l.map λ (x:Nat)=>(x:Int))=decide (x∈l):=by
  rw [Bool.eq_iff_iff,decide_eq_true_iff,decide_eq_true_iff,List.mem_map]
  constructor
  ·rintro ⟨y,hy,e⟩
   have:y=x:=by omega
   rw [<- this]; exact hy
  ·intro h
   exact ⟨x,h,rfl⟩
 rw [e]
 exact q
abbrev a5Z:Stmt:=top 32
theorem a9T:FnScope ["mask"] ["mask"] (a0F a5Z):=⟨rfl,rfl,rfl,by decide +kernel,rfl,by decide +kernel,by decide +kernel⟩
abbrev a5H:Stmt:=top 33
theorem sc_first_bags:FnScope ["graph", "bags", "a", "b"] ["graph"] (a0F a5H):=⟨rfl,rfl,rfl,by decide +kernel,rfl,by decide +kernel,by decide +kernel⟩
abbrev a6A:Stmt:=top 34
theorem sc_taken_out:FnScope ["bags", "v", "bit", "left"] ["bags", "v"] (a0F a6A):=⟨rfl,rfl,rfl,by decide +kernel,rfl,by decide +kernel,by decide +kernel⟩
def b2S:Sp:=λ vs H Q _=>∃ (m:Nat),vs=[.int (m:Int)]/\m < 2 ^ 10/\∀ H0 p H',Same H H0->New H0 p (.lst (natV (a3K m))) H'->Q (.ref p) H'
def b9P (K:Φρ):Sp:=λ vs H Q _=>∃ (g:V) (n:Nat) (ts:List ζζ),vs=[g]/\GraphV K H g n ts/\(∀ t∈ts,0<=t.1/\t.1 < t.2/\t.2 < (n:Int))/\n<=10 /\
 ∀ p ms H',Same H H'->H p=none->H' p=some (.lst (natV ms))->BagsM n ms (a4A n ts)->Q (.ref p) H'
def b6T (K:Φρ):Sp:=λ vs H Q _=>∃ (a:Addr) (n:Nat) (ms:List Nat) (R:Nat->Nat->Bool) (v:Nat),vs=[.ref a,.int (v:Int)]/\SqL K H a (natV ms)/\BagsM n ms R/\v < n /\
 ∀ p H',Same H H'->H p=none->H' p=some (.lst (natV (a9P v ms)))->Q (.ref p) H'
theorem shl1 (v:Nat):((1:Int)*2 ^ ((v:Nat):Int).toNat)=((2 ^ v:Nat):Int):=by
 rw [Int.toNat_natCast,Int.one_mul]
 exact (Int.natCast_pow 2 v).symm
theorem b5D (n:Nat) (hn:n<=10):BagsM n ((List.range n).map λ v=>2 ^ v) (a4A n []):=by
 refine ⟨by simp,hn,λ m hm=>?_,λ v hv u=>?_,λ v u h=>?_⟩
 ·obtain ⟨v,hv,rfl⟩:=List.mem_map.mp hm
  have:=List.mem_range.mp hv
  exact Nat.pow_lt_pow_right (by decide) (by omega)
 ·rw [τα,List.getElem?_map,List.getElem?_range hv]
  simp only [Option.map_some,Option.getD_some]
  rw [Nat.testBit_two_pow]
  unfold a4A
  by_cases c:v=u
  ·subst c; simp [hv]
  ·rw [decide_eq_false c]
   have:¬ u=v:=λ z=>c z.symm
   simp [this]
 ·unfold a4A at h
  rw [Bool.and_eq_true] at h
  exact of_decide_eq_true h.1
theorem b5E {n:Nat} {ms:List Nat} {ts:List ζζ} {a b:Nat} (B:BagsM n ms (a4A n ts)) (ha:a < n) (hb:b < n) (ab:a≠b) :
  BagsM n ((ms.set a (ms.getD a 0 ||| 2 ^ b)).set b ((ms.set a (ms.getD a 0 ||| 2 ^ b)).getD b 0 ||| 2 ^ a)) (a4A n (ts++[((a:Int),(b:Int))])):=by
 have la:a < ms.length:=by rw [B.len]; exact ha
 have lb:b < ms.length:=by rw [B.len]; exact hb
 have gb:(ms.set a (ms.getD a 0 ||| 2 ^ b)).getD b 0=ms.getD b 0:=by
  rw [τα,List.getElem?_set_ne ab,<- τα]
 rw [gb]
 have far:∀ v u,a4A n (ts++[((a:Int),(b:Int))]) v u=true->v < n/\u < n:=λ v u h=>by
  unfold a4A at h
  rw [Bool.and_eq_true] at h
  exact of_decide_eq_true h.1
 have bit:∀ v < n,∀ u,(((ms.set a (ms.getD a 0 ||| 2 ^ b)).set b (ms.getD b 0 ||| 2 ^ a)).getD v 0).testBit u=a4A n (ts++[((a:Int),(b:Int))]) v u:=λ v hv u=>by
  have old:=B.bit v hv u
  unfold a4A at old ⊢
  by_cases cb:v=b
  ·subst cb
   rw [τα,List.getElem?_set_self (by rw [List.length_set]; exact lb)]
   simp only [Option.getD_some]
   rw [Nat.testBit_or,old,Nat.testBit_two_pow]
   by_cases cu:u < n
   ·by_cases c:a=u
    ·subst c; simp [hv,cu]
    ·have c1:¬ u=a:=λ z=>c z.symm
     have c2:¬ ((u:Int)=(a:Int)):=by omega
     have c3:¬ ((v:Int)=(a:Int)/\(u:Int)=(v:Int)):=by omega
     have c4:¬ ((v:Int)=(a:Int)):=by omega
     simp [hv,cu,c,c2,c4]
   ·have:¬ a=u:=by omega
    simp [cu,this]
  ·rw [τα,List.getElem?_set_ne (Ne.symm cb)]
   by_cases ca:v=a
   ·subst ca
    rw [List.getElem?_set_self la]
    simp only [Option.getD_some]
    rw [Nat.testBit_or,old,Nat.testBit_two_pow]
    by_cases cu:u < n
    ·by_cases c:b=u
     ·subst c; simp [hv,cu]
     ·have c2:¬ ((u:Int)=(b:Int)):=by omega
      have c4:¬ ((v:Int)=(b:Int)):=by omega
      simp [hv,cu,c,c2,c4]
    ·have:¬ b=u:=by omega
     simp [cu,this]
   ·rw [List.getElem?_set_ne (Ne.symm ca),<- τα,old]
    have c1:¬ ((v:Int)=(a:Int)):=by omega
    have c2:¬ ((v:Int)=(b:Int)):=by omega
    simp [c1,c2]
 refine ⟨by rw [List.length_set,List.length_set]; exact B.len,B.n10,λ m hm=>?_,bit,far⟩
 obtain ⟨j,hj,ej⟩:=List.getElem_of_mem hm
 have jn:j < n:=by
  rw [List.length_set,List.length_set,B.len] at hj
  exact hj
 have e:((ms.set a (ms.getD a 0 ||| 2 ^ b)).set b (ms.getD b 0 ||| 2 ^ a)).getD j 0=m:=by rw [τα,List.getElem?_eq_getElem hj,ej]; rfl
 refine a7E λ u hu=>?_
 rw [<- e,bit j jn] at hu
 have:=far j u hu
 have:=B.n10
 omega
theorem a8C (l:List Nat) (i x:Nat):(natV l).set i (.int (x:Int))=natV (l.set i x):=by
 unfold natV
 rw [List.map_set]
section
variable {P:Program} {w:World} {K:Φρ} {mg:Str->Option Value} {base:Heap}
abbrev DZ28 (K:PySem.W.Frag) (mg:Str->Option Value):=Dn K mg "places_of" a5Z ["mask"]
set_option maxHeartbeats 4000000 in
theorem a9U (B:Bl mg) (dZ28:DZ28 K mg):FnOk P w K mg base CX0 1 dZ28.f dZ28.fd ["mask"] b2S:=by
 refine dZ28.F.ok a9T (λ vs H Q E h=>?_) (λ cdv A outer s H vs Q E hr h=>?_)
 ·obtain ⟨m,rfl,_⟩:=h
  rfl
 obtain ⟨m,rfl,hm,q⟩:=h
 refine ⟨_,(a0E (a0M (a6M ["v", "mask"] [none,some 0]  (by kernel_rfl) rfl (a1L rfl B.range (a0A (b8X (K:=K) rfl PySem.F.plainAttrs_int PySem.F.slot_int_bit_length PySem.F.type_int_bit_length b9G (pv 0)) a0B)) (λ _ _ _ _ _=>(a0L (i:=0) (show (["v", "mask"]:List Str).Nodup by decide +kernel) rfl (Or.inl rfl))) (λ _ _ _ _ _=>(a4D (a1D (K:=K) rfl (a0K b7Q (pv 1) (a0K a8P a0D (pv 0))) (λ _=>rfl)))) (λ _ _ _ _ _=>(pv 0))))),?_⟩
 have hb:=b4T hm
 refine ⟨_,rfl,rfl,m,rfl,rfl,_,rfl,by omega,by omega,?_⟩
 rw [Int.toNat_natCast]
 refine a7U (lo:=0) (n:=Builtin.Int.intBits (m:Int)) (λ j=>if m.testBit j=true then some (.int ((j:Nat):Int)) else none) (by omega) (λ j H7 N hj s7 hN=>?_) (λ H7 pd H8 s7 n8=>?_)
 ·have hN':=hN H7 s7
  have ej:(0+(j:Int))=((j:Nat):Int):=by omega
  rw [ej]
  refine ⟨_,rfl,_,rfl,_,_,rfl,rfl,⟨by omega,by omega,by decide⟩,_,_,rfl,rfl,_,rfl,?_⟩
  dsimp only
  rw [shl1,b4R]
  cases c:m.testBit j with
  | true =>
   rw [if_pos c] at hN'
   have:m &&& 2 ^ j≠0:=λ z=>by rw [(a8A m j).mp z] at c; cases c
   rw [show (((m &&& 2 ^ j:Nat):Int) != 0)=true by simpa using this]
   exact iteT ⟨_,rfl,hN'⟩
  | false =>
   rw [if_neg (by rw [c]; decide)] at hN'
   rw [(a8A m j).mpr c]
   exact iteF hN'
 ·have e:(List.range (Builtin.Int.intBits (m:Int))).filterMap (λ j=>if m.testBit j=true then some (V.int ((j:Nat):Int)) else none)=natV (a3K m):=by
   rw [<- b0V hm]
   unfold natV
   rw [<- List.filterMap_eq_filter,List.map_filterMap]
   congr 1
   funext j
   by_cases c:m.testBit j=true
   ·rw [if_pos c]; simp [Option.guard,c]
   ·rw [if_neg c]; simp [Option.guard,c]
  rw [e] at n8
  exact q _ _ _ s7 n8
abbrev DZ16 (K:PySem.W.Frag) (mg:Str->Option Value):=Dn K mg "first_bags" a5H ["graph"]
set_option maxHeartbeats 4000000 in
theorem a8D (B:Bl mg) (dZ16:DZ16 K mg):FnOk P w K mg base CX0 1 dZ16.f dZ16.fd ["graph"] (b9P K):=by
 refine dZ16.F.ok sc_first_bags (λ vs H Q E h=>?_) (λ cdv A outer s H vs Q E hr h=>?_)
 ·obtain ⟨g,n,ts,rfl,_⟩:=h
  rfl
 obtain ⟨g,n,ts,rfl,hG,okt,n10,q⟩:=h
 obtain ⟨pg,ta,rfl,hP,hT⟩:=hG
 obtain ⟨ys,hy,hq,hzt⟩:=id hT
 have hlt:ys.length=ts.length:=Paired.length hq
 refine ⟨_,(a0C (a2M (i:=1) ["v"] [none] sc_first_bags.nd rfl rfl (by kernel_rfl) rfl (a1L rfl B.range (a0A (a0U (a0P (K:=K) rfl) (pv 0) a0D (λ _ _=>rfl)) a0B)) (λ _ _ _ _ _=>(a0L (i:=0) (show (["v"]:List Str).Nodup by decide +kernel) rfl (Or.inl rfl))) (λ _ _ _ _ _=>a2J) (λ _ _ _ _ _=>(a0K a8P a0D (pv 0))) (by rfl))
   (a0C (a2A PassesOwn.never rfl (a0Z (K:=K) rfl (a0U (a0P (K:=K) rfl) (pv 0) a0D (λ _ _=>rfl))) (a3S (K:=K) (n:=2) rfl rfl (a1H (a0L (i:=2) sc_first_bags.nd rfl (Or.inl rfl)) (a1H (a0L (i:=3) sc_first_bags.nd rfl (Or.inl rfl)) a3P)))
   (a0C (b1K (a0K b8K (a0U (a0X (K:=K) rfl) (pv 1) (pv 2) (λ _ _=>rfl)) (a0K a8P a0D (pv 3))) (b1J (pv 1) (pv 2) a4I))
   (a0E (b1K (a0K b8K (a0U (a0X (K:=K) rfl) (pv 1) (pv 3) (λ _ _=>rfl)) (a0K a8P a0D (pv 2))) (b1J (pv 1) (pv 3) a4I)))))
   (a0E (a0M (pv 1))))),?_⟩
 refine ⟨_,rfl,pg,_,_,_,rfl,rfl,hP,rfl,_,rfl,by omega,by omega,?_⟩
 rw [Int.toNat_natCast]
 refine a7U (lo:=0) (n:=n) (λ j=>some (.int ((2 ^ j:Nat):Int))) (by omega) (λ j H7 N hj s7 hN=>?_) (λ H7 pb H8 s7 n8=>?_)
 ·have ej:(0+(j:Int))=((j:Nat):Int):=by omega
  rw [ej]
  refine ⟨_,rfl,_,_,rfl,rfl,⟨by omega,by omega,by decide⟩,?_⟩
  dsimp only
  rw [shl1]
  exact hN H7 s7
 have e8:(List.range n).filterMap (λ (j:Nat)=>some (V.int ((2 ^ j:Nat):Int)))=natV ((List.range n).map λ v=>2 ^ v):=by
  unfold natV
  rw [List.map_map]
  exact a2X λ _ _=>rfl
 rw [e8] at n8
 have s8:Same H H8:=s7.trans n8.same
 refine ⟨_,rfl,pg,_,_,_,rfl,rfl,s8.tupq hP,rfl,ta,rfl,⟨_,s8.seq hy⟩,?_⟩
 have fb:H pb=none:=s7.free n8.fresh
 refine a3X (xs:=ys) (λ i σ H'=>∃ (aa bb:Option V) (ms:List Nat),σ=[some (.ref pg),some (.ref pb),aa,bb]/\Same H H'/\H' pb=some (.lst (natV ms))/\BagsM n ms (a4A n (ts.take i))) ⟨none,none,_,rfl,s8,n8.here,by rw [List.take_zero]; exact b5D n n10⟩ (λ i σ H' _ ⟨_,_,_,_,s,_⟩=>s.seq hy) ?_ ?_
 ·rintro i x σ H4 hx ⟨aa,bb,ms,rfl,s4,hb4,BM⟩
  obtain ⟨t,ht,⟨pt,rfl,hTt⟩⟩:=a1C hq hx
  have tok:=okt t (List.mem_of_getElem? ht)
  obtain ⟨a,ea⟩:∃ a:Nat,t.1=(a:Int):=⟨t.1.toNat,by omega⟩
  obtain ⟨b,eb⟩:∃ b:Nat,t.2=(b:Int):=⟨t.2.toNat,by omega⟩
  rw [ea,eb] at hTt
  have an:a < n:=by omega
  have bn:b < n:=by omega
  have la:a < ms.length:=by rw [BM.len]; exact an
  have lb:b < ms.length:=by rw [BM.len]; exact bn
  refine ⟨pt,_,rfl,s4.tupq hTt,rfl,_,_,rfl,_,_,rfl,rfl,?_⟩
  refine ⟨_,rfl,_,rfl,pb,_,_,_,rfl,rfl,SqL.of hb4,a8B la,_,rfl,_,_,rfl,rfl,⟨by omega,by omega,by decide⟩,_,_,rfl,rfl,?_⟩
  dsimp only
  rw [shl1,b4S]
  refine ⟨_,rfl,_,rfl,pb,_,_,a,rfl,rfl,hb4,a7X (by rw [List.length_map]; exact la),λ H5 c5=>?_⟩
  rw [a8C] at c5
  have s5:Same H H5:=s4.chg fb c5
  have lb':b < (ms.set a (ms.getD a 0 ||| 2 ^ b)).length:=by rw [List.length_set]; exact lb
  refine ⟨_,rfl,_,rfl,pb,_,_,_,rfl,rfl,SqL.of c5.here,a8B lb',_,rfl,_,_,rfl,rfl,⟨by omega,by omega,by decide⟩,_,_,rfl,rfl,?_⟩
  dsimp only
  rw [shl1,b4S]
  refine ⟨_,rfl,_,rfl,pb,_,_,b,rfl,rfl,c5.here,a7X (by rw [List.length_map]; exact lb'),λ H6 c6=>?_⟩
  rw [a8C] at c6
  refine ⟨_,_,_,rfl,s5.chg fb c6,c6.here,?_⟩
  have et:ts.take (i+1)=ts.take i++[((a:Int),(b:Int))]:=by
   rw [List.take_succ,ht]
   simp [<- ea,<- eb]
  rw [et]
  exact b5E BM an bn (by omega)
 ·rintro σ H4 ⟨aa,bb,ms,rfl,s4,hb4,BM⟩
  rw [hlt,List.take_length] at BM
  exact ⟨_,rfl,q pb ms H4 s4 fb hb4 BM⟩
abbrev DZ31 (K:PySem.W.Frag) (mg:Str->Option Value):=Dn K mg "taken_out" a6A ["bags", "v"]
set_option maxHeartbeats 4000000 in
theorem a9V (B:Bl mg) (dZ31:DZ31 K mg):FnOk P w K mg base CX0 1 dZ31.f dZ31.fd ["bags", "v"] (b6T K):=by
 refine dZ31.F.ok sc_taken_out (λ vs H Q E h=>?_) (λ cdv A outer s H vs Q E hr h=>?_)
 ·obtain ⟨a,n,ms,R,v,rfl,_⟩:=h
  rfl
 obtain ⟨a,n,ms,R,v,rfl,hA,BM,hv,q⟩:=h
 have lv:v < ms.length:=by rw [BM.len]; exact hv
 have n10:=BM.n10
 refine ⟨_,(a0C (a0Q (i:=2) sc_taken_out.nd rfl (Or.inr rfl) (a0K a8P a0D (pv 1)))
   (a0C (a2M (i:=3) ["bag", "bit", "bags", "v"] [none,some 2,some 0,some 1] sc_taken_out.nd rfl rfl (by kernel_rfl) rfl (a0Z (K:=K) rfl (pv 0)) (λ _ _ _ _ _=>(a0L (i:=0) (show (["bag", "bit", "bags", "v"]:List Str).Nodup by decide +kernel) rfl (Or.inl rfl))) (λ _ _ _ _ _=>a2J) (λ _ _ _ _ _=>(b6B (a1D (K:=K) rfl (a0K b7Q (pv 0) (pv 1)) (λ _=>rfl)) (a0K a6Y (a0K b8K (pv 0) (a0U (a0X (K:=K) rfl) (pv 2) (pv 3) (λ _ _=>rfl))) (pv 1)) (pv 0))) (by rfl))
   (a0C (b1K a0D (b1J (pv 3) (pv 1) a4I))
   (a0E (a0M (pv 3)))))),?_⟩
 refine ⟨_,rfl,_,_,rfl,rfl,⟨by omega,by omega,by decide⟩,?_⟩
 dsimp only
 rw [shl1]
 refine ⟨_,rfl,a,rfl,⟨_,hA⟩,?_⟩
 refine a9F (λ x=>match x with | .int z=>some (.int ((if z.toNat &&& 2 ^ v=0 then z.toNat else (z.toNat ||| ms.getD v 0) - 2 ^ v:Nat):Int)) | _=>none) hA (by rw [List.length_map,BM.len]; omega) (λ x H1 N hx s1 hN=>?_) (λ H1 p H2 s1 n2=>?_)
 ·obtain ⟨m,hm,rfl⟩:=List.mem_map.mp hx
  have hN':=hN H1 s1
  dsimp only at hN'
  rw [Int.toNat_natCast] at hN'
  refine ⟨_,rfl,_,rfl,_,_,rfl,rfl,_,rfl,?_⟩
  rw [b4R]
  by_cases c:m &&& 2 ^ v=0
  ·rw [if_pos c] at hN'
   rw [c]
   exact iteF ⟨_,rfl,hN'⟩
  ·rw [if_neg c] at hN'
   rw [show (((m &&& 2 ^ v:Nat):Int) != 0)=true by simpa using c]
   refine iteT ⟨_,rfl,_,rfl,_,rfl,a,_,_,_,rfl,rfl,s1.seq hA,a8B lv,_,_,rfl,rfl,_,rfl,_,_,rfl,rfl,?_⟩
   rw [b4S]
   have tb:(m ||| ms.getD v 0).testBit v=true:=by
    rw [Nat.testBit_or]
    have:m.testBit v=true:=by
     cases e:m.testBit v with
     | true=>rfl
     | false=>exact absurd ((a8A m v).mpr e) c
    rw [this]; rfl
   have ge:=Nat.ge_two_pow_of_testBit tb
   have e:(((m ||| ms.getD v 0:Nat):Int) - ((2 ^ v:Nat):Int))=(((m ||| ms.getD v 0) - 2 ^ v:Nat):Int):=by omega
   dsimp only
   rw [e]
   exact hN'
 have ez:(natV ms).filterMap (λ x=>match x with | .int z=>some (V.int ((if z.toNat &&& 2 ^ v=0 then z.toNat else (z.toNat ||| ms.getD v 0) - 2 ^ v:Nat):Int)) | _=>none)=natV (ms.map λ m=>if m &&& 2 ^ v=0 then m else (m ||| ms.getD v 0) - 2 ^ v):=by
  unfold natV
  rw [List.filterMap_map,List.map_map]
  refine a2X λ m _=>?_
  simp only [Function.comp_apply,Int.toNat_natCast]
 rw [ez] at n2
 have lz:v < (ms.map λ m=>if m &&& 2 ^ v=0 then m else (m ||| ms.getD v 0) - 2 ^ v).length:=by rw [List.length_map]; exact lv
 refine ⟨_,rfl,_,rfl,p,_,_,v,rfl,rfl,n2.here,a7X (by rw [List.length_map]; exact lz),λ H3 c3=>?_⟩
 have c3':=c3.here
 rw [show (V.int 0)=V.int ((0:Nat):Int) from rfl,a8C] at c3'
 exact ⟨_,rfl,q p H3 ((s1.trans n2.same).chg (s1.free n2.fresh) c3) (s1.free n2.fresh) c3'⟩
end
end K
namespace K
open PySem L2 Lw Bg
structure NearL (H:Hp) (qs:List Addr) (f:Nat->List Nat):Prop where
 nd:qs.Nodup
 at_:∀ (j:Nat) q,qs[j]?=some q->H q=some (.lst (natV (f j)))
abbrev b5F:Stmt:=top 36
theorem sc_later:FnScope ["graph", "order", "bags", "told", "v"] ["graph", "order"] (a0F b5F):=⟨rfl,rfl,rfl,by decide +kernel,rfl,by decide +kernel,by decide +kernel⟩
abbrev a3E:Stmt:=top 37
theorem a4L:FnScope ["n", "order"] ["n", "order"] (a0F a3E):=⟨rfl,rfl,rfl,by decide +kernel,rfl,by decide +kernel,by decide +kernel⟩
def runR (n:Nat) (ts:List ζζ) (os:List Nat):Nat->Nat->Bool:=os.foldl (λ R v=>a6O v R) (a4A n ts)
theorem a4M (n:Nat) (ts:List ζζ) (os:List Nat) (v:Nat):runR n ts (os++[v])=a6O v (runR n ts os):=by
 unfold runR
 rw [List.foldl_append]
 rfl
def b1X (n:Nat) (R:Nat->Nat->Bool) (v:Nat):List Nat:=(List.range n).filter λ u=>R v u && !decide (u=v)
def a3F (n:Nat) (ts:List ζζ) (os:List Nat) (j:Nat):List Nat:=b1X n (runR n ts (os.take j)) (os.getD j 0)
theorem b6U (l:List Nat) (v:Nat):b5A (l.map λ (x:Nat)=>(x:Int)) [(v:Int)]=(l.filter λ u=>!decide (u=v)).map λ (x:Nat)=>(x:Int):=by
 unfold b5A
 induction l with
 | nil=>rfl
 | cons a r ih =>
  rw [List.map_cons,List.filter_cons,List.filter_cons,ih]
  by_cases c:a=v
  ·subst c; simp
  ·have:¬ ((a:Int)=(v:Int)):=by omega
   simp [c,this]
def b9Q (K:Φρ):Sp:=λ vs H Q _=>∃ (n:Nat) (a:Addr) (os:List Nat),vs=[.int (n:Int),.ref a]/\SqL K H a (natV os)/\os.Perm (List.range n)/\n<=10/\∀ H',Same H H'->Q .non H'
def b9R (K:Φρ):Sp:=λ vs H Q _=>∃ (g:V) (n:Nat) (ts:List ζζ) (a:Addr) (os:List Nat),vs=[g,.ref a]/\GraphV K H g n ts/\(∀ t∈ts,0<=t.1/\t.1 < t.2/\t.2 < (n:Int))/\SqL K H a (natV os)/\os.Perm (List.range n)/\n<=10 /\
 ∀ p qs H',Same H H'->H p=none->H' p=some (.lst (qs.map V.ref))->qs.length=n->(∀ q∈qs,H q=none)->p ∉ qs->NearL H' qs (a3F n ts os)->Q (.ref p) H'
section
variable {P:Program} {w:World} {K:Φρ} {mg:Str->Option Value} {base:Heap}
abbrev DZ29 (K:PySem.W.Frag) (mg:Str->Option Value):=Dn K mg "refuse_no_order" a3E ["n", "order"]
set_option maxHeartbeats 4000000 in
theorem a4N (B:Bl mg) (dZ21:DZ21 K mg) (dZ17:DZ17 K mg) (dZ19:DZ19 K mg) (dZ29:DZ29 K mg):FnOk P w K mg base CX0 4 dZ29.f dZ29.fd ["n", "order"] (b9Q K):=by
 have gZ19:FnOk P w K mg base CX0 3 _ _ _ _:=a9S B dZ21 dZ17 dZ19
 refine dZ29.F.ok a4L (λ vs H Q E h=>?_) (λ cdv A outer s H vs Q E hr h=>?_)
 ·obtain ⟨n,a,os,rfl,_⟩:=h
  rfl
 obtain ⟨n,a,os,rfl,hA,hp,n10,q⟩:=h
 have ln:os.length=n:=by have:=hp.length_eq; simpa using this
 refine ⟨_,(a0E (a1E (PW.pt (b2H (a0H c0Z (a0I (a0R (K:=K) rfl) rfl B.len (by decide +kernel) (a0A (pv 1) a0B)) (pv 0) (a0O _)) (a6W (a3A (a1D (K:=K) rfl (a0J gZ19 hr rfl dZ19.m dZ19.F.kp dZ19.b .nil a1A (a0A (pv 0) (a0A (a0I (a5G (K:=K) rfl) rfl B.sorted (by decide +kernel) (a0A (pv 1) a0B)) a0B))) (λ _=>rfl))))))
   (a0E b1I)
   a0N)),?_⟩
 refine ⟨_,rfl,a,_,rfl,.inl hA,_,rfl,rfl,_,rfl,?_⟩
 rw [show (!decide (V.int (((natV os).length:Nat):Int)=V.int (n:Int)))=false by rw [List.length_map,ln]; simp]
 refine iteF ?_
 rw [a3W] at hA
 refine ⟨_,rfl,_,rfl,a,_,rfl,hA,by rw [List.length_map]; omega,λ p H1 zs n1 zp zl=>?_⟩
 refine ⟨(n:Int),p,zs,rfl,SqL.of n1.here,?_,λ H2 s2=>⟨_,rfl,?_⟩⟩
 ·have:=zp.length_eq
  rw [List.length_map] at this
  omega
 have hs:setF (n:Int) zs=true:=by
  refine (a2C _ _).mpr ⟨λ v hv=>?_,?_⟩
  ·obtain ⟨x,hx,rfl⟩:=List.mem_map.mp (zp.mem_iff.mp hv)
   have:=List.mem_range.mp (hp.mem_iff.mp hx)
   omega
  ·have nd:zs.Nodup:=by
    refine zp.nodup_iff.mpr ?_
    have:os.Nodup:=hp.nodup_iff.mpr List.nodup_range
    rw [List.nodup_iff_pairwise_ne] at this ⊢
    rw [List.pairwise_map]
    exact this.imp λ h=>by omega
   exact (zl.and nd).imp λ ⟨h1,h2⟩=>by omega
 rw [hs]
 exact iteF (q H2 (n1.same.trans s2))
abbrev DZ22 (K:PySem.W.Frag) (mg:Str->Option Value):=Dn K mg "later" b5F ["graph", "order"]
set_option maxHeartbeats 8000000 in
theorem b6V (B:Bl mg) (dZ21:DZ21 K mg) (dZ17:DZ17 K mg) (dZ19:DZ19 K mg) (dZ24:DZ24 K mg) (dZ28:DZ28 K mg) (dZ16:DZ16 K mg) (dZ31:DZ31 K mg) (dZ29:DZ29 K mg) (dZ22:DZ22 K mg):FnOk P w K mg base CX0 5 dZ22.f dZ22.fd ["graph", "order"] (b9R K):=by
 have gZ29:FnOk P w K mg base CX0 4 _ _ _ _:=a4N B dZ21 dZ17 dZ19 dZ29
 have gZ16:FnOk P w K mg base CX0 4 _ _ _ _:=(a8D B dZ16).mono (by decide)
 have gZ31:FnOk P w K mg base CX0 4 _ _ _ _:=(a9V B dZ31).mono (by decide)
 have gZ28:FnOk P w K mg base CX0 4 _ _ _ _:=(a9U B dZ28).mono (by decide)
 have gZ24:FnOk P w K mg base CX0 4 _ _ _ _:=(b5C B dZ24).mono (by decide)
 refine dZ22.F.ok sc_later (λ vs H Q E h=>?_) (λ cdv A outer s H vs Q E hr h=>?_)
 ·obtain ⟨g,n,ts,a,os,rfl,_⟩:=h
  rfl
 obtain ⟨g,n,ts,a,os,rfl,hG,okt,hA,hp,n10,q⟩:=h
 have ln:os.length=n:=by have:=hp.length_eq; simpa using this
 obtain ⟨pg,ta,rfl,hP,hT⟩:=id hG
 refine ⟨_,(a0C (a3H (a0J gZ29 hr rfl dZ29.m dZ29.F.kp dZ29.b .nil a1A (a0A (a0U (a0P (K:=K) rfl) (pv 0) a0D (λ _ _=>rfl)) (a0A (pv 1) a0B))))
   (a0C (a0Q (i:=2) sc_later.nd rfl (Or.inl rfl) (a0J gZ16 hr rfl dZ16.m dZ16.F.kp dZ16.b .nil a1A (a0A (pv 0) a0B)))
   (a0C (a0Q (i:=3) sc_later.nd rfl (Or.inl rfl) (a1Q a0B))
   (a0C (a2A PassesOwn.never rfl (a0Z (K:=K) rfl (pv 1)) (a0L (i:=4) sc_later.nd rfl (Or.inl rfl))
   (a0C (a3H (a5E (K:=K) rfl PySem.F.plainAttrs_list PySem.F.slot_list_append PySem.F.type_list_append a2B (pv 3) (a0A (a0J gZ24 hr rfl dZ24.m dZ24.F.kp dZ24.b .nil a1A (a0A (a0J gZ28 hr rfl dZ28.m dZ28.F.kp dZ28.b .nil a1A (a0A (a0U (a0X (K:=K) rfl) (pv 2) (pv 4) (λ _ _=>rfl)) a0B)) (a0A (a1Q (a0A (pv 4) a0B)) a0B))) a0B)))
   (a0E (a0Q (i:=2) sc_later.nd rfl (Or.inl rfl) (a0J gZ31 hr rfl dZ31.m dZ31.F.kp dZ31.b .nil a1A (a0A (pv 2) (a0A (pv 4) a0B)))))))
   (a0E (a0M (pv 3))))))),?_⟩
 refine ⟨_,rfl,pg,_,_,_,rfl,rfl,hP,rfl,_,rfl,n,a,os,rfl,hA,hp,n10,λ H1 s1=>?_⟩
 refine ⟨_,rfl,.ref pg,n,ts,rfl,hG.same s1,okt,n10,λ pb ms H2 s2 f2 hb2 BM=>?_⟩
 refine ⟨(by show 0<=1000; decide),λ pt H3 n3=>?_⟩
 have s3:Same H H3:=s1.trans (s2.trans n3.same)
 have ft:H pt=none:=(s1.trans s2).free n3.fresh
 refine ⟨_,rfl,a,rfl,⟨_,s3.seq hA⟩,?_⟩
 refine a3X (xs:=natV os) (λ i σ H'=>∃ (pb:Addr) (vv:Option V) (ms:List Nat) (qs:List Addr),σ=[some (.ref pg),some (.ref a),some (.ref pb),some (.ref pt),vv]/\Same H H'/\H' pb=some (.lst (natV ms))/\BagsM n ms (runR n ts (os.take i)) /\
   H' pt=some (.lst (qs.map V.ref))/\qs.length=i/\(∀ q∈qs,H q=none)/\pt ∉ qs/\pb≠pt/\NearL H' qs (a3F n ts os)) ⟨pb,none,ms,[],rfl,s3,n3.same _ _ hb2,BM,n3.here,rfl,λ q h=>absurd h List.not_mem_nil,List.not_mem_nil,n3.ne hb2,.nil,λ j q e=>by simp at e⟩ (λ i σ H' _ ⟨_,_,_,_,_,s,_⟩=>s.seq hA) ?_ ?_
 ·rintro i x σ H4 hx ⟨pb,vv,ms,qs,rfl,s4,hb4,BM,ht4,lq,fq,pq,nbt,nl⟩
  rw [List.getElem?_map] at hx
  obtain ⟨v,hv,rfl⟩:=Option.map_eq_some_iff.mp hx
  have il:i < os.length:=(List.getElem?_eq_some_iff.mp hv).1
  have vn:v < n:=List.mem_range.mp (hp.mem_iff.mp (List.mem_of_getElem? hv))
  have lv:v < ms.length:=by rw [BM.len]; exact vn
  have ev:os.getD i 0=v:=by rw [τα,hv]; rfl
  have et:os.take (i+1)=os.take i++[v]:=by rw [List.take_succ,hv]; rfl
  refine ⟨_,rfl,.inl ⟨rfl,_,SqL.of ht4⟩,_,rfl,_,rfl,pb,_,_,_,rfl,rfl,SqL.of hb4,a8B lv,_,rfl,BM.mlt vn,λ H5 pp H6 s5 n6=>?_⟩
  have s46:Same H4 H6:=s5.trans n6.same
  refine ⟨_,rfl,(by show 1<=1000; decide),λ p7 H7 n7=>?_⟩
  have hpp:SqL K H7 pp ((a3K (ms.getD v 0)).map (λ (x:Nat)=>(x:Int)) |>.map V.int):=by rw [<- a3W]; exact SqL.of (n7.same _ _ n6.here)
  have hz:(a3K (ms.getD v 0)).length<=10:=by
   unfold a3K
   refine Nat.le_trans (List.length_filter_le _ _) ?_
   simp
  refine ⟨pp,p7,_,[(v:Int)],rfl,hpp,SqL.of n7.here,by rw [List.length_map]; omega,λ H8 p9 H9 s8 n9=>?_⟩
  rw [b6U,b0W BM vn,List.filter_filter,<- a3W] at n9
  have el:(List.range n).filter (λ u=>!decide (u=v) && runR n ts (os.take i) v u)=a3F n ts os i:=by
   unfold a3F b1X
   rw [ev]
   exact List.filter_congr λ u _=>Bool.and_comm _ _
  rw [el] at n9
  have s49:Same H4 H9:=s46.trans (n7.same.trans (s8.trans n9.same))
  refine ⟨pt,_,_,rfl,rfl,s49 _ _ ht4,by rw [List.length_map]; omega,λ H10 c10=>?_⟩
  have s10:Same H H10:=(s4.trans s49).chg ft c10
  have hb10:H10 pb=some (.lst (natV ms)):=(c10.rest pb nbt).trans (s49 _ _ hb4)
  refine ⟨_,rfl,_,rfl,pb,n,ms,_,v,rfl,SqL.of hb10,BM,vn,λ p11 H11 s11 f11 hb11=>?_⟩
  have f9:H p9=none:=(s4.trans (s46.trans (n7.same.trans s8))).free n9.fresh
  have np9:p9≠pt:=(n9.ne (s8 _ _ (n7.same _ _ (s46 _ _ ht4)))).symm
  refine ⟨p11,_,a9P v ms,qs++[p9],rfl,s10.trans s11,hb11,?_,?_,by rw [List.length_append,lq]; rfl,λ q hq=>?_,λ hq=>?_,?_,?_,λ j q ej=>?_⟩
  ·rw [et,a4M]
   exact b9I BM vn
  ·rw [s11 _ _ c10.here,List.map_append]
   rfl
  ·rcases List.mem_append.mp hq with hq | hq
   ·exact fq q hq
   ·rw [List.mem_singleton.mp hq]; exact f9
  ·rcases List.mem_append.mp hq with hq | hq
   ·exact pq hq
   ·exact np9 (List.mem_singleton.mp hq).symm
  ·intro z
   rw [z] at f11
   rw [c10.here] at f11; cases f11
  ·refine List.nodup_append.mpr ⟨nl.nd,List.nodup_cons.mpr ⟨List.not_mem_nil,.nil⟩,λ x hx y hy z=>?_⟩
   rw [List.mem_singleton.mp hy] at z
   obtain ⟨j,hj,ej⟩:=List.getElem_of_mem hx
   have:=nl.at_ j x (by rw [<- ej]; exact List.getElem?_eq_getElem hj)
   have g:=n9.fresh
   rw [<- z,s8 _ _ (n7.same _ _ (s46 _ _ this))] at g; cases g
  ·have keep:∀ b u,b≠pt->H9 b=some u->H11 b=some u:=λ b u hb e=>s11 _ _ ((c10.rest b hb).trans e)
   by_cases c:j < qs.length
   ·rw [List.getElem?_append_left c] at ej
    exact keep _ _ (λ z=>pq (by rw [<- z]; exact List.mem_of_getElem? ej)) (s49 _ _ (nl.at_ j q ej))
   ·rw [List.getElem?_append_right (by omega)] at ej
    cases z:j - qs.length with
    | zero =>
     rw [z] at ej
     simp at ej
     have:j=i:=by omega
     subst this
     rw [<- ej]
     exact keep _ _ np9 n9.here
    | succ k=>rw [z] at ej; simp at ej
 ·rintro σ H4 ⟨pb,vv,ms,qs,rfl,s4,hb4,BM,ht4,lq,fq,pq,nbt,nl⟩
  rw [List.length_map,ln] at lq
  exact ⟨_,rfl,q pt qs H4 s4 ft ht4 lq fq pq nl⟩
end
def tieT (ts:List ζζ) (x y:Nat):Bool:=decide (((x:Int),(y:Int))∈ts) || decide (((y:Int),(x:Int))∈ts)
inductive PathT (ts:List ζζ) (S:List Nat) (x:Nat):Nat->Prop
 | one {u:Nat} (h:tieT ts x u=true):PathT ts S x u
 | step {a u:Nat} (p:PathT ts S x a) (m:a∈S) (h:tieT ts a u=true):PathT ts S x u
theorem PathT.mono {ts:List ζζ} {S S':List Nat} {x u:Nat} (h:PathT ts S x u) (s:∀ a∈S,a∈S'):PathT ts S' x u:=by
 induction h with
 | one h=>exact .one h
 | step p m h ih=>exact .step ih (s _ m) h
theorem PathT.glue {ts:List ζζ} {S:List Nat} {x w u:Nat} (hw:w∈S) (a:PathT ts S x w) (b:PathT ts S w u):PathT ts S x u:=by
 induction b with
 | one h=>exact .step a hw h
 | step p m h ih=>exact .step ih m h
theorem PathT.split {ts:List ζζ} {S:List Nat} {x w u:Nat} (h:PathT ts (S++[w]) x u):PathT ts S x u\/(PathT ts S x w/\PathT ts S w u):=by
 induction h with
 | one h=>exact .inl (.one h)
 | @step a u p m h ih =>
  rcases List.mem_append.mp m with m | m
  ·rcases ih with ih | ⟨i1,i2⟩
   ·exact .inl (.step ih m h)
   ·exact .inr ⟨i1,.step i2 m h⟩
  ·have e:=List.mem_singleton.mp m
   subst e
   rcases ih with ih | ⟨i1,_⟩
   ·exact .inr ⟨ih,.one h⟩
   ·exact .inr ⟨i1,.one h⟩
structure RunP (n:Nat) (ts:List ζζ) (S:List Nat):Prop where
 path:∀ x u,x < n->u < n->x ∉ S->u ∉ S->(runR n ts S x u=true↔x=u\/PathT ts S x u)
 gone:∀ x u,x < n->x ∉ S->u∈S->runR n ts S x u=false
theorem b1Y {n:Nat} {ts:List ζζ}:∀ (k:Nat) (S:List Nat),S.length=k->S.Nodup->(∀ a∈S,a < n)->RunP n ts S
 | 0,S,hl,_,_=>by
  have e:S=[]:=List.eq_nil_of_length_eq_zero hl
  subst e
  refine ⟨λ x u hx hu _ _=>?_,λ x u _ _ h=>absurd h List.not_mem_nil⟩
  show a4A n ts x u=true↔_
  unfold a4A
  rw [decide_eq_true (show x < n/\u < n from ⟨hx,hu⟩),Bool.true_and,Bool.or_assoc,Bool.or_eq_true,decide_eq_true_iff]
  constructor
  ·rintro (h | h)
   ·exact .inl h.symm
   ·exact .inr (.one h)
  ·rintro (h | h)
   ·exact .inl h.symm
   ·cases h with
    | one h=>exact .inr h
    | step p m h=>exact absurd m List.not_mem_nil
 | k+1,S,hl,nd,hn=>by
  have hne:S≠[]:=λ z=>by rw [z] at hl; cases hl
  obtain ⟨S',w,rfl⟩:∃ S' w,S=S'++[w]:=⟨S.dropLast,S.getLast hne,(List.dropLast_concat_getLast hne).symm⟩
  obtain ⟨nd',_,dis⟩:=List.nodup_append.mp nd
  have wS:w ∉ S':=λ h=>dis w h w (List.mem_singleton.mpr rfl) rfl
  have wn:w < n:=hn w (List.mem_append_right _ (List.mem_singleton.mpr rfl))
  have ih:=b1Y (ts:=ts) k S' (by rw [List.length_append] at hl; exact Nat.succ.inj hl) nd' λ a ha=>hn a (List.mem_append_left _ ha)
  have out:∀ {x},x ∉ S'++[w]->x ∉ S'/\x≠w:=λ {x} h=>⟨λ z=>h (List.mem_append_left _ z),λ z=>h (List.mem_append_right _ (List.mem_singleton.mpr z))⟩
  refine ⟨λ x u hx hu h1 h2=>?_,λ x u hx h1 h2=>?_⟩
  ·obtain ⟨g1,n1⟩:=out h1
   obtain ⟨g2,n2⟩:=out h2
   rw [a4M]
   have q1:=ih.path x u hx hu g1 g2
   have q2:=ih.path x w hx wn g1 wS
   have q3:=ih.path w u wn hu wS g2
   have big:∀ a∈S',a∈S'++[w]:=λ a ha=>List.mem_append_left _ ha
   have wm:w∈S'++[w]:=List.mem_append_right _ (List.mem_singleton.mpr rfl)
   unfold a6O
   rw [if_neg n1]
   constructor
   ·intro h
    split at h
    ·rename_i c
     rw [Bool.and_eq_true,Bool.or_eq_true] at h
     rcases h.1 with z | z
     ·exact (q1.mp z).imp_right λ p=>p.mono big
     ·have p1:=(q2.mp c).resolve_left n1
      have p2:=(q3.mp z).resolve_left λ y=>n2 y.symm
      exact .inr (PathT.glue wm (p1.mono big) (p2.mono big))
    ·exact (q1.mp h).imp_right λ p=>p.mono big
   ·intro h
    have main:runR n ts S' x u=true\/(runR n ts S' x w=true/\runR n ts S' w u=true):=by
     rcases h with h | h
     ·exact .inl (q1.mpr (.inl h))
     ·rcases h.split with p | ⟨p1,p2⟩
      ·exact .inl (q1.mpr (.inr p))
      ·exact .inr ⟨q2.mpr (.inr p1),q3.mpr (.inr p2)⟩
    rcases main with m | ⟨m1,m2⟩
    ·rw [m]
     split
     ·rw [decide_eq_false n2]; rfl
     ·rfl
    ·rw [if_pos m1,m2,decide_eq_false n2]; simp
  ·obtain ⟨g1,n1⟩:=out h1
   rw [a4M]
   unfold a6O
   rw [if_neg n1]
   rcases List.mem_append.mp h2 with h2 | h2
   ·rw [ih.gone x u hx g1 h2,ih.gone w u wn wS h2]
    split <;> rfl
   ·have e:=List.mem_singleton.mp h2
    subst e
    split
    ·simp
    ·rename_i c; simpa using c
theorem c1Z {n:Nat} {ts:List ζζ} {S:List Nat} (nd:S.Nodup) (hn:∀ a∈S,a < n):RunP n ts S:=b1Y S.length S rfl nd hn
theorem b1Z {ts:List ζζ} {x y:Nat} (h:tieT ts x y=true):tieT ts y x=true:=by
 unfold tieT at h ⊢
 rw [Bool.or_comm]; exact h
theorem PathT.sym {ts:List ζζ} {S:List Nat} {x u:Nat} (h:PathT ts S x u):PathT ts S u x:=by
 induction h with
 | one h=>exact .one (b1Z h)
 | step p m h ih=>exact PathT.glue m (.one (b1Z h)) ih
structure Ord (n:Nat) (os:List Nat):Prop where
 pm:os.Perm (List.range n)
theorem Ord.nd {n:Nat} {os:List Nat} (o:Ord n os):os.Nodup:=o.pm.nodup_iff.mpr List.nodup_range
theorem Ord.len {n:Nat} {os:List Nat} (o:Ord n os):os.length=n:=by have:=o.pm.length_eq; simpa using this
theorem Ord.mem {n:Nat} {os:List Nat} (o:Ord n os) {x:Nat} (h:x < n):x∈os:=o.pm.mem_iff.mpr (List.mem_range.mpr h)
theorem Ord.lt {n:Nat} {os:List Nat} (o:Ord n os) {x:Nat} (h:x < n):os.idxOf x < n:=by
 rw [<- o.len]; exact List.idxOf_lt_length_iff.mpr (o.mem h)
theorem Ord.at_ {n:Nat} {os:List Nat} (o:Ord n os) {i x:Nat} (h:os[i]?=some x):os.idxOf x=i:=by
 obtain ⟨hi,e⟩:=List.getElem?_eq_some_iff.mp h
 have hm:x∈os:=List.mem_of_getElem? h
 have hl:os.idxOf x < os.length:=List.idxOf_lt_length_iff.mpr hm
 have e2:os[os.idxOf x]=x:=List.getElem_idxOf hl
 exact (List.getElem_inj o.nd).mp (e2.trans e.symm)
theorem Ord.get {n:Nat} {os:List Nat} (o:Ord n os) {x:Nat} (h:x < n):os[os.idxOf x]?=some x:=by
 have hl:os.idxOf x < os.length:=by rw [o.len]; exact o.lt h
 rw [List.getElem?_eq_getElem hl,List.getElem_idxOf hl]
theorem Ord.take {n:Nat} {os:List Nat} (o:Ord n os) {x k:Nat} (h:x < n):x∈os.take k↔os.idxOf x < k:=by
 constructor
 ·intro hx
  obtain ⟨j,hj,e⟩:=List.getElem_of_mem hx
  rw [List.getElem_take] at e
  rw [List.length_take] at hj
  have hj2:j < os.length:=by omega
  have:=o.at_ (i:=j) (x:=x) (by rw [List.getElem?_eq_getElem hj2,e])
  omega
 ·intro hk
  have hl:os.idxOf x < os.length:=by rw [o.len]; exact o.lt h
  have e:(os.take k)[os.idxOf x]?=some x:=by
   rw [List.getElem?_take,if_pos hk]; exact o.get h
  exact List.mem_of_getElem? e
theorem Ord.inj {n:Nat} {os:List Nat} (o:Ord n os) {x y:Nat} (hx:x < n) (hy:y < n) (h:os.idxOf x=os.idxOf y):x=y:=by
 have h1:=o.get hx
 rw [h,o.get hy] at h1
 injection h1 with h1
 exact h1.symm
theorem Ord.run {n:Nat} {os:List Nat} (o:Ord n os) (ts:List ζζ) (k:Nat):RunP n ts (os.take k) :=
 c1Z (o.nd.sublist (List.take_sublist _ _)) λ a ha=>List.mem_range.mp (o.pm.mem_iff.mp (List.mem_of_mem_take ha))
theorem Ord.runS {n:Nat} {os:List Nat} (o:Ord n os) (ts:List ζζ) {k x y:Nat} (hx:x < n) (hy:y < n) (ix:k<=os.idxOf x) (iy:k<=os.idxOf y):runR n ts (os.take k) x y=runR n ts (os.take k) y x:=by
 have nx:x ∉ os.take k:=λ h=>by have:=(o.take hx).mp h; omega
 have ny:y ∉ os.take k:=λ h=>by have:=(o.take hy).mp h; omega
 have R:=o.run ts k
 rw [Bool.eq_iff_iff,R.path x y hx hy nx ny,R.path y x hy hx ny nx]
 exact ⟨λ h=>h.imp Eq.symm PathT.sym,λ h=>h.imp Eq.symm PathT.sym⟩
def tabF (n:Nat) (ts:List ζζ) (os:List Nat) (k a b:Nat):Bool:=runR n ts (os.take (min k (min (os.idxOf a) (os.idxOf b)))) a b
def b5G (n:Nat) (ts:List ζζ) (os:List Nat) (a b:Nat):Bool:=runR n ts (os.take (min (os.idxOf a) (os.idxOf b))) a b
theorem b9S {n:Nat} {ts:List ζζ} {os:List Nat} (o:Ord n os) {a b:Nat} (ha:a < n):tabF n ts os n a b=b5G n ts os a b:=by
 have:=o.lt ha
 unfold tabF b5G
 rw [show min n (min (os.idxOf a) (os.idxOf b))=min (os.idxOf a) (os.idxOf b) by omega]
theorem b6W {n:Nat} {ts:List ζζ} {os:List Nat} (o:Ord n os) {k v a b:Nat} (hv:os[k]?=some v) (ha:a < n) (hb:b < n) :
  tabF n ts os (k+1) a b=(tabF n ts os k a b || ((decide (k < os.idxOf a) && decide (k < os.idxOf b)) && (tabF n ts os k v a && tabF n ts os k v b))):=by
 have iv:=o.at_ hv
 have vn:v < n:=List.mem_range.mp (o.pm.mem_iff.mp (List.mem_of_getElem? hv))
 by_cases c:k < os.idxOf a/\k < os.idxOf b
 ·obtain ⟨c1,c2⟩:=c
  have e1:min (k+1) (min (os.idxOf a) (os.idxOf b))=k+1:=by omega
  have e0:min k (min (os.idxOf a) (os.idxOf b))=k:=by omega
  have ea:min k (min (os.idxOf v) (os.idxOf a))=k:=by omega
  have eb:min k (min (os.idxOf v) (os.idxOf b))=k:=by omega
  unfold tabF
  rw [e1,e0,ea,eb,decide_eq_true c1,decide_eq_true c2]
  have et:os.take (k+1)=os.take k++[v]:=by rw [List.take_succ,hv]; rfl
  rw [et,a4M]
  unfold a6O
  have na:a≠v:=λ z=>by rw [z] at c1; omega
  have nb:b≠v:=λ z=>by rw [z] at c2; omega
  rw [if_neg na,o.runS ts (k:=k) ha vn (by omega) (by omega),decide_eq_false nb]
  cases runR n ts (os.take k) v a <;> simp
 ·have e:min (k+1) (min (os.idxOf a) (os.idxOf b))=min k (min (os.idxOf a) (os.idxOf b)):=by omega
  have f:(decide (k < os.idxOf a) && decide (k < os.idxOf b))=false:=by
   rw [Bool.and_eq_false_iff]
   by_cases d:k < os.idxOf a
   ·exact .inr (decide_eq_false λ z=>c ⟨d,z⟩)
   ·exact .inl (decide_eq_false d)
  rw [f]
  unfold tabF
  rw [e]; simp
theorem a9W {n:Nat} {ts:List ζζ} {os:List Nat} (o:Ord n os) {i v u:Nat} (hv:os[i]?=some v):u∈a3F n ts os i↔u < n/\i < os.idxOf u/\b5G n ts os v u=true:=by
 have iv:=o.at_ hv
 have vn:v < n:=List.mem_range.mp (o.pm.mem_iff.mp (List.mem_of_getElem? hv))
 have ev:os.getD i 0=v:=by rw [τα,hv]; rfl
 unfold a3F b1X
 rw [ev,List.mem_filter,List.mem_range,Bool.and_eq_true]
 constructor
 ·rintro ⟨un,h1,h2⟩
  have ne:u≠v:=by simpa using h2
  have ge:¬ os.idxOf u < i:=λ z=>by
   have:=(o.run ts i).gone v u vn (λ h=>by have:=(o.take vn).mp h; omega) ((o.take un).mpr z)
   rw [this] at h1; cases h1
  have ne2:os.idxOf u≠i:=λ z=>ne (o.inj un vn (by omega))
  refine ⟨un,by omega,?_⟩
  unfold b5G
  rw [show min (os.idxOf v) (os.idxOf u)=i by omega]
  exact h1
 ·rintro ⟨un,h1,h2⟩
  unfold b5G at h2
  rw [show min (os.idxOf v) (os.idxOf u)=i by omega] at h2
  refine ⟨un,h2,?_⟩
  have:u≠v:=λ z=>by rw [z] at h1; omega
  simpa using this
theorem getD_some {os:List Nat} {i:Nat} (h:i < os.length):os[i]?=some (os.getD i 0):=by
 rw [τα,List.getElem?_eq_getElem h]; rfl
def natI (l:List Nat):List Int:=l.map λ (x:Nat)=>(x:Int)
structure Tree (n:Nat) (rs:List Row):Prop where
 pos:0 < rs.length
 len:rs.length<=20
 ok:∀ k < rs.length,a1N n rs k=true
 cov:∀ v:Int,0<=v->v < (n:Int)->∃ r∈rs,v∈r.2
 tops:∀ v:Int,(a2G rs v).length<=1
theorem b2T {n:Nat} {ts:List ζζ} {rs:List Row} (T:Tree n rs) (ht:∀ t∈ts,∃ r∈rs,t.1∈r.2/\t.2∈r.2):a2H n ts rs = .ok:=by
 have e1:a0V n rs=none:=by
  unfold a0V
  have hne:rs.isEmpty=false:=by
   have:=T.pos
   cases rs with
   | nil=>exact absurd this (Nat.not_lt_zero _)
   | cons _ _=>rfl
  rw [hne]
  exact List.find?_eq_none.mpr λ j hj=>by rw [T.ok j (List.mem_range.mp hj)]; simp
 have e2:a0W n rs=none:=by
  unfold a0W
  refine List.find?_eq_none.mpr λ j hj=>?_
  have hj':=List.mem_range.mp hj
  obtain ⟨r,hr,hv⟩:=T.cov (j:Int) (by omega) (by omega)
  have:(rs.any (has (j:Int)))=true:=List.any_eq_true.mpr ⟨r,hr,decide_eq_true hv⟩
  rw [this]
  simp
 have e3:a1O ts rs=none:=by
  unfold a1O
  refine List.find?_eq_none.mpr λ t hm=>?_
  obtain ⟨r,hr,h1,h2⟩:=ht t hm
  have:(rs.any λ r=>has t.1 r && has t.2 r)=true:=List.any_eq_true.mpr ⟨r,hr,by unfold has; rw [decide_eq_true h1,decide_eq_true h2]; rfl⟩
  rw [this]
  simp
 have e4:a1K n rs=none:=by
  unfold a1K
  refine a3J λ v hv=>?_
  have:=T.tops (v:Int)
  unfold a3T
  match e:a2G rs (v:Int),this with
  | [],_=>rfl
  | [x],_=>rfl
 unfold a2H
 rw [e1,e2,e3,e4]
def a9X (rs:List Row):Prop:=∀ j,j < rs.length->∀ u,(a0G rs j).1=some u->0<=u/\u.toNat < j
theorem b8B {n:Int} {rs:List Row} (ok:∀ k < rs.length,a1N n rs k=true):a9X rs:=λ j hj u e=>by
 have o:=ok j hj
 unfold a1N upOk at o
 rw [Bool.and_eq_true] at o
 by_cases z:j=0
 ·rw [if_pos z,e] at o; cases o.1
 ·rw [if_neg z,e] at o
  have b:=of_decide_eq_true o.1
  omega
theorem b9T {n:Int} {rs:List Row} (ok:∀ k < rs.length,a1N n rs k=true) {j:Nat} (hj:j < rs.length) (h0:0 < j):∃ u:Nat,(a0G rs j).1=some (u:Int)/\u < j:=by
 have o:=ok j hj
 unfold a1N upOk at o
 rw [Bool.and_eq_true,if_neg (by omega)] at o
 cases e:(a0G rs j).1 with
 | none=>rw [e] at o; cases o.1
 | some u =>
  rw [e] at o
  have b:=of_decide_eq_true o.1
  exact ⟨u.toNat,by congr 1; omega,by omega⟩
theorem isTop_iff {rs:List Row} {v:Int} {j:Nat}:a2N rs v j=true↔v∈(a0G rs j).2/\a4V rs (a0G rs j).1 v=false:=by
 unfold a2N has
 rw [Bool.and_eq_true,decide_eq_true_iff]
 constructor
 ·rintro ⟨a,b⟩; exact ⟨a,by simpa using b⟩
 ·rintro ⟨a,b⟩; exact ⟨a,by rw [b]; rfl⟩
theorem b5H {rs:List Row} {v:Int} (h:(a2G rs v).length<=1) {s t:Nat} (hs:s < rs.length) (ts:a2N rs v s=true) (ht:t < rs.length) (tt:a2N rs v t=true):s=t:=by
 have m1:s∈a2G rs v:=List.mem_filter.mpr ⟨List.mem_range.mpr hs,ts⟩
 have m2:t∈a2G rs v:=List.mem_filter.mpr ⟨List.mem_range.mpr ht,tt⟩
 match e:a2G rs v,h with
 | [],_=>rw [e] at m1; cases m1
 | [x],_ =>
  rw [e] at m1 m2
  rw [List.mem_singleton.mp m1,List.mem_singleton.mp m2]
theorem c2A {rs:List Row} {v:Int} (U:a9X rs):∀ j,j < rs.length->v∈(a0G rs j).2->∃ t,t<=j/\a2N rs v t=true:=by
 intro j
 induction j using Nat.strongRecOn with
 | ind j ih =>
  intro hj hv
  cases h:a4V rs (a0G rs j).1 v with
  | false=>exact ⟨j,Nat.le_refl _,isTop_iff.mpr ⟨hv,h⟩⟩
  | true =>
   cases e:(a0G rs j).1 with
   | none=>rw [e] at h; cases h
   | some w =>
    have b:=U j hj w e
    have hw:v∈(a0G rs w.toNat).2:=by
     rw [e] at h
     exact of_decide_eq_true h
    obtain ⟨t,ht,top⟩:=ih w.toNat b.2 (by omega) hw
    exact ⟨t,by omega,top⟩
theorem b8C {rs:List Row} {v:Int} (U:a9X rs) (h1:(a2G rs v).length<=1) {j k u:Nat} (hj:j < rs.length) (hk:k < j) (vj:v∈(a0G rs j).2) (vk:v∈(a0G rs k).2) (eu:(a0G rs j).1=some (u:Int)):v∈(a0G rs u).2:=by
 apply Classical.byContradiction
 intro c
 have hf:a4V rs (a0G rs j).1 v=false:=by
  rw [eu]
  unfold a4V
  dsimp only
  rw [Int.toNat_natCast]
  exact decide_eq_false c
 obtain ⟨t,ht,top⟩:=c2A U k (by omega) vk
 have:=b5H h1 hj (isTop_iff.mpr ⟨vj,hf⟩) (by omega) top
 omega
def ordI (rs:List Row):List Int:=rs.foldl (λ o r=>r.2.filter (λ v=>!decide (v∈o))++o) []
def a1G (rs:List Row) (v:Int):Nat:=rs.findIdx (has v)
theorem a2S {rs:List Row} {v:Int} {k:Nat} (hk:k < rs.length) (h:v∈(a0G rs k).2):a1G rs v<=k:=by
 apply Classical.byContradiction
 intro c
 have:k < a1G rs v:=by omega
 have hn:=List.not_of_lt_findIdx this
 have e:rs[k]=a0G rs k:=by unfold a0G; rw [τα,List.getElem?_eq_getElem hk]; rfl
 rw [e] at hn
 unfold has at hn
 rw [decide_eq_true h] at hn
 cases hn
theorem a2I {rs:List Row} {v:Int} {k:Nat} (hk:k < rs.length) (h:v∈(a0G rs k).2):a1G rs v < rs.length/\v∈(a0G rs (a1G rs v)).2:=by
 have l:=a2S hk h
 have hl:a1G rs v < rs.length:=by omega
 refine ⟨hl,?_⟩
 have g:=List.findIdx_getElem (xs:=rs) (p:=has v) (w:=hl)
 have e:rs[a1G rs v]=a0G rs (a1G rs v):=by unfold a0G; rw [τα,List.getElem?_eq_getElem hl]; rfl
 have g':has v (rs[a1G rs v])=true:=g
 rw [e] at g'
 exact of_decide_eq_true g'
theorem a6B (rs:List Row) (r:Row):ordI (rs++[r])=r.2.filter (λ v=>!decide (v∈ordI rs))++ordI rs:=by
 unfold ordI; rw [List.foldl_append]; rfl
theorem a8E {rs:List Row} {i:Nat} (hi:i < rs.length):rs.take (i+1)=rs.take i++[a0G rs i]:=by
 rw [List.take_succ,List.getElem?_eq_getElem hi]
 unfold a0G; rw [τα,List.getElem?_eq_getElem hi]; rfl
theorem a5M {n:Nat} {rs:List Row} (ok:∀ k < rs.length,a1N n rs k=true):∀ i,i<=rs.length ->
  (ordI (rs.take i)).Nodup/\(∀ v,v∈ordI (rs.take i)↔∃ k,k < i/\v∈(a0G rs k).2)/\(ordI (rs.take i)).Pairwise (λ v w=>a1G rs w<=a1G rs v)
 | 0,_=>⟨by rw [List.take_zero]; exact .nil,λ v=>by rw [List.take_zero]; exact ⟨λ h=>absurd h List.not_mem_nil,λ ⟨k,h,_⟩=>absurd h (Nat.not_lt_zero _)⟩,by rw [List.take_zero]; exact .nil⟩
 | i+1,hi=>by
  obtain ⟨nd,mem,pw⟩:=a5M ok i (by omega)
  rw [a8E (by omega),a6B]
  have o:=ok i (by omega)
  unfold a1N at o
  rw [Bool.and_eq_true] at o
  have up:=((a2C _ _).mp o.2).2
  have ndr:(a0G rs i).2.Nodup:=up.imp λ h=>by omega
  have new:∀ v∈(a0G rs i).2.filter (λ v=>!decide (v∈ordI (rs.take i))),v∈(a0G rs i).2/\v ∉ ordI (rs.take i):=λ v hv=>by
   rw [List.mem_filter] at hv
   exact ⟨hv.1,by simpa using hv.2⟩
  have fnew:∀ v∈(a0G rs i).2.filter (λ v=>!decide (v∈ordI (rs.take i))),a1G rs v=i:=λ v hv=>by
   obtain ⟨h1,h2⟩:=new v hv
   have l:=a2S (by omega) h1
   have a:=(a2I (by omega) h1).2
   apply Classical.byContradiction
   intro c
   exact h2 ((mem v).mpr ⟨_,by omega,a⟩)
  refine ⟨?_,λ v=>?_,?_⟩
  ·refine List.nodup_append.mpr ⟨ndr.sublist List.filter_sublist,nd,λ x hx y hy e=>?_⟩
   subst e
   exact (new x hx).2 hy
  ·rw [List.mem_append]
   constructor
   ·rintro (h | h)
    ·exact ⟨i,by omega,(new v h).1⟩
    ·obtain ⟨k,hk,hv⟩:=(mem v).mp h
     exact ⟨k,by omega,hv⟩
   ·rintro ⟨k,hk,hv⟩
    by_cases c:v∈ordI (rs.take i)
    ·exact .inr c
    ·left
     have:k=i:=by
      apply Classical.byContradiction
      intro z
      exact c ((mem v).mpr ⟨k,by omega,hv⟩)
     subst this
     rw [List.mem_filter]
     exact ⟨hv,by simpa using c⟩
  ·refine List.pairwise_append.mpr ⟨?_,pw,λ v hv w hw=>?_⟩
   ·refine List.pairwise_iff_forall_sublist.mpr λ {a b} hs=>?_
    rw [fnew a (hs.subset (by simp)),fnew b (hs.subset (by simp))]
    exact Nat.le_refl _
   ·rw [fnew v hv]
    obtain ⟨k,hk,hkw⟩:=(mem w).mp hw
    have:=a2S (by omega) hkw
    omega
def ordN (rs:List Row):List Nat:=(ordI rs).map Int.toNat
structure OrdT (n:Nat) (rs:List Row) (os:List Nat):Prop where
 eq:ordI rs=natI os
 o:Ord n os
 pre:∀ v w:Nat,v < n->w < n->os.idxOf v < os.idxOf w->a1G rs (w:Int)<=a1G rs (v:Int)
theorem b2A {α:Type} [DecidableEq α] {R:α->α->Prop}:∀ {l:List α},l.Pairwise R->∀ {v w:α},v∈l->w∈l->l.idxOf v < l.idxOf w->R v w
 | [],_,_,_,h,_,_=>absurd h List.not_mem_nil
 | a::l,pw,v,w,hv,hw,lt=>by
  obtain ⟨p1,p2⟩:=List.pairwise_cons.mp pw
  rw [List.idxOf_cons,List.idxOf_cons] at lt
  by_cases c:a=v
  ·subst c
   by_cases d:a=w
   ·subst d; omega
   ·rcases List.mem_cons.mp hw with h | h
    ·exact absurd h.symm d
    ·exact p1 w h
  ·have cv:(a == v)=false:=by simpa using c
   rw [cv] at lt
   by_cases d:a=w
   ·subst d
    simp at lt
   ·have cw:(a == w)=false:=by simpa using d
    rw [cw] at lt
    simp at lt
    have hv':v∈l:=(List.mem_cons.mp hv).resolve_left λ h=>c h.symm
    have hw':w∈l:=(List.mem_cons.mp hw).resolve_left λ h=>d h.symm
    exact b2A p2 hv' hw' lt
theorem b2B {n:Nat} {rs:List Row} (T:Tree n rs):OrdT n rs (ordN rs):=by
 obtain ⟨nd,mem,pw⟩:=a5M T.ok rs.length (Nat.le_refl _)
 rw [List.take_length] at nd mem pw
 have inn:∀ v∈ordI rs,0<=v/\v < (n:Int):=λ v hv=>by
  obtain ⟨k,hk,h⟩:=(mem v).mp hv
  have o:=T.ok k hk
  unfold a1N at o
  rw [Bool.and_eq_true] at o
  exact ((a2C _ _).mp o.2).1 v h
 have eq:ordI rs=natI (ordN rs):=by
  unfold natI ordN
  rw [List.map_map]
  refine (List.map_id _).symm.trans (List.map_congr_left λ v hv=>?_)
  have:=inn v hv
  show v=((v.toNat:Nat):Int)
  omega
 have memN:∀ u:Nat,u∈ordN rs↔u < n:=λ u=>by
  unfold ordN
  rw [List.mem_map]
  constructor
  ·rintro ⟨v,hv,rfl⟩
   have:=inn v hv
   omega
  ·intro hu
   obtain ⟨r,hr,h⟩:=T.cov (u:Int) (by omega) (by omega)
   obtain ⟨k,hk,e⟩:=List.mem_iff_getElem.mp hr
   refine ⟨(u:Int),(mem _).mpr ⟨k,hk,?_⟩,rfl⟩
   unfold a0G
   rw [τα,List.getElem?_eq_getElem hk,e]
   exact h
 have ndN:(ordN rs).Nodup:=by
  rw [eq] at nd
  unfold natI at nd
  rw [List.nodup_iff_pairwise_ne,List.pairwise_map] at nd
  rw [List.nodup_iff_pairwise_ne]
  exact nd.imp λ h e=>h (by rw [e])
 have pwN:(ordN rs).Pairwise (λ (v w:Nat)=>a1G rs (w:Int)<=a1G rs (v:Int)):=by
  rw [eq] at pw
  unfold natI at pw
  rw [List.pairwise_map] at pw
  exact pw
 refine ⟨eq,⟨(List.perm_ext_iff_of_nodup ndN List.nodup_range).mpr λ u=>by rw [memN,List.mem_range]⟩,λ v w hv hw lt=>b2A pwN ((memN v).mpr hv) ((memN w).mpr hw) lt⟩
theorem a8F {n:Nat} {rs:List Row} (T:Tree n rs) {v a:Int}:∀ j,j < rs.length->v∈(a0G rs j).2->a∈(a0G rs j).2->a1G rs a<=a1G rs v->a∈(a0G rs (a1G rs v)).2:=by
 intro j
 induction j using Nat.strongRecOn with
 | ind j ih =>
  intro hj hv ha le
  have U:=b8B T.ok
  have l:=a2S hj hv
  have fv:=a2I hj hv
  have fa:=a2I hj ha
  by_cases c:j=a1G rs v
  ·rw [<- c]; exact ha
  ·obtain ⟨u,eu,ul⟩:=b9T T.ok hj (by omega)
   exact ih u ul (by omega) (b8C U (T.tops v) hj (by omega) hv fv.2 eu) (b8C U (T.tops a) hj (by omega) ha fa.2 eu) le
theorem a8G {n:Nat} {ts:List ζζ} {rs:List Row} {os:List Nat} (T:Tree n rs) (O:OrdT n rs os) (ht:∀ t∈ts,∃ r∈rs,t.1∈r.2/\t.2∈r.2):∀ k,k<=n->∀ a b:Nat,a < n->b < n->tabF n ts os k a b=true->∃ j,j < rs.length/\(a:Int)∈(a0G rs j).2/\(b:Int)∈(a0G rs j).2
 | 0,_,a,b,ha,hb,h=>by
  have e:tabF n ts os 0 a b=a4A n ts a b:=by
   unfold tabF
   rw [show min 0 (min (os.idxOf a) (os.idxOf b))=0 by omega,List.take_zero]; rfl
  rw [e] at h
  have key:∀ r∈rs,∃ j,j < rs.length/\a0G rs j=r:=λ r hr=>by
   obtain ⟨k,hk,e⟩:=List.mem_iff_getElem.mp hr
   refine ⟨k,hk,?_⟩
   unfold a0G
   rw [τα,List.getElem?_eq_getElem hk,e]; rfl
  unfold a4A at h
  simp only [Bool.and_eq_true,Bool.or_eq_true,decide_eq_true_iff] at h
  obtain ⟨_,(h | h) | h⟩:=h
  ·subst h
   obtain ⟨r,hr,h⟩:=T.cov (b:Int) (by omega) (by omega)
   obtain ⟨j,hj,rfl⟩:=key r hr
   exact ⟨j,hj,h,h⟩
  ·obtain ⟨r,hr,h1,h2⟩:=ht _ h
   obtain ⟨j,hj,rfl⟩:=key r hr
   exact ⟨j,hj,h1,h2⟩
  ·obtain ⟨r,hr,h1,h2⟩:=ht _ h
   obtain ⟨j,hj,rfl⟩:=key r hr
   exact ⟨j,hj,h2,h1⟩
 | k+1,hk,a,b,ha,hb,h=>by
  have l:=O.o.len
  have hv:=getD_some (os:=os) (i:=k) (by omega)
  have vn:os.getD k 0 < n:=List.mem_range.mp (O.o.pm.mem_iff.mp (List.mem_of_getElem? hv))
  have iv:=O.o.at_ hv
  generalize os.getD k 0=v at hv vn iv
  rw [b6W O.o hv ha hb] at h
  simp only [Bool.and_eq_true,Bool.or_eq_true,decide_eq_true_iff] at h
  rcases h with h | ⟨⟨ia,ib⟩,h1,h2⟩
  ·exact a8G T O ht k (by omega) a b ha hb h
  ·obtain ⟨j1,hj1,v1,a1⟩:=a8G T O ht k (by omega) v a vn ha h1
   obtain ⟨j2,hj2,v2,b2⟩:=a8G T O ht k (by omega) v b vn hb h2
   have f1:=O.pre v a vn ha (by omega)
   have f2:=O.pre v b vn hb (by omega)
   exact ⟨_,(a2I hj1 v1).1,a8F T j1 hj1 v1 a1 f1,a8F T j2 hj2 v2 b2 f2⟩
theorem b9U {n:Nat} {ts:List ζζ} {rs:List Row} {os:List Nat} (T:Tree n rs) (O:OrdT n rs os) (ht:∀ t∈ts,∃ r∈rs,t.1∈r.2/\t.2∈r.2) {i:Nat} (hi:i < n):∃ j,j < rs.length/\((os.getD i 0:Nat):Int)∈(a0G rs j).2/\∀ u∈a3F n ts os i,(u:Int)∈(a0G rs j).2:=by
 have l:=O.o.len
 have hv:=getD_some (os:=os) (i:=i) (by omega)
 have vn:os.getD i 0 < n:=List.mem_range.mp (O.o.pm.mem_iff.mp (List.mem_of_getElem? hv))
 have iv:=O.o.at_ hv
 generalize os.getD i 0=v at hv vn iv
 obtain ⟨r,hr,h⟩:=T.cov (v:Int) (by omega) (by omega)
 obtain ⟨k,hk,e⟩:=List.mem_iff_getElem.mp hr
 have hv':(v:Int)∈(a0G rs k).2:=by
  unfold a0G
  rw [τα,List.getElem?_eq_getElem hk,e]
  exact h
 have fv:=a2I hk hv'
 refine ⟨_,fv.1,fv.2,λ u hu=>?_⟩
 obtain ⟨un,iu,hf⟩:=(a9W O.o hv).mp hu
 rw [<- b9S O.o vn] at hf
 obtain ⟨j,hj,v1,u1⟩:=a8G T O ht n (Nat.le_refl _) v u vn un hf
 exact a8F T j hj v1 u1 (O.pre v u vn un (by omega))
end K
namespace K
open PySem L2 Lw Bg
abbrev b5I:Stmt:=top 23
theorem sc_fault:FnScope ["graph", "rows", "told"] ["graph", "rows"] (a0F b5I):=⟨rfl,rfl,rfl,by decide +kernel,rfl,by decide +kernel,by decide +kernel⟩
abbrev a6C:Stmt:=top 24
theorem sc_row_fault:FnScope ["n", "rows", "k", "row"] ["n", "rows"] (a0F a6C):=⟨rfl,rfl,rfl,by decide +kernel,rfl,by decide +kernel,by decide +kernel⟩
abbrev b5J:Stmt:=top 25
theorem b6X:FnScope ["k", "up"] ["k", "up"] (a0F b5J):=⟨rfl,rfl,rfl,by decide +kernel,rfl,by decide +kernel,by decide +kernel⟩
abbrev a3L:Stmt:=top 26
theorem sc_place_fault:FnScope ["n", "rows", "v"] ["n", "rows"] (a0F a3L):=⟨rfl,rfl,rfl,by decide +kernel,rfl,by decide +kernel,by decide +kernel⟩
abbrev a4F:Stmt:=top 27
theorem sc_tie_fault:FnScope ["ties", "rows", "a", "b"] ["ties", "rows"] (a0F a4F):=⟨rfl,rfl,rfl,by decide +kernel,rfl,by decide +kernel,by decide +kernel⟩
abbrev a3M:Stmt:=top 28
theorem sc_apart_fault:FnScope ["n", "rows", "v", "tops"] ["n", "rows"] (a0F a3M):=⟨rfl,rfl,rfl,by decide +kernel,rfl,by decide +kernel,by decide +kernel⟩
abbrev a6D:Stmt:=top 29
theorem b2U:FnScope ["rows", "up", "v"] ["rows", "up", "v"] (a0F a6D):=⟨rfl,rfl,rfl,by decide +kernel,rfl,by decide +kernel,by decide +kernel⟩
def spUp:Sp:=λ vs H Q _=>∃ (k:Nat) (o:Option Int),vs=[.int k,upV o]/\Q (.bl (upOk k o)) H
def b2V (K:Φρ):Sp:=λ vs H Q _=>∃ (n:Nat) (a:Addr) (rs:List Row),vs=[.int n,.ref a]/\RowsAt K H a rs /\
 ∀ v H',Same H H'->FltV H' v (match a0V n rs with | some k=>.row k | none=>.ok)->Q v H'
def a9Y (K:Φρ):Sp:=λ vs H Q _=>∃ (n:Nat) (a:Addr) (rs:List Row),vs=[.int n,.ref a]/\n<=1000/\RowsAt K H a rs /\
 ∀ v H',Same H H'->FltV H' v (match a0W n rs with | some k=>.place k | none=>.ok)->Q v H'
def b2W (K:Φρ):Sp:=λ vs H Q _=>∃ (t a:Addr) (ts:List ζζ) (rs:List Row),vs=[.ref t,.ref a]/\TiesAt K H t ts/\RowsAt K H a rs /\
 ∀ v H',Same H H'->FltV H' v (match a1O ts rs with | some k=>.tie k.1 k.2 | none=>.ok)->Q v H'
def c2B (rs:List Row):Prop:=∀ k i,(a0G rs k).1=some i->k < rs.length->0<=i/\i < (rs.length:Int)
def c2C (K:Φρ):Sp:=λ vs H Q _=>∃ (a:Addr) (rs:List Row) (u:Option Int) (v:Int),vs=[.ref a,upV u,.int v]/\RowsAt K H a rs/\(∀ i,u=some i->0<=i/\i < (rs.length:Int))/\Q (.bl (a4V rs u v)) H
def b9V (K:Φρ):Sp:=λ vs H Q _=>∃ (n:Nat) (a:Addr) (rs:List Row),vs=[.int n,.ref a]/\n<=1000/\RowsAt K H a rs/\c2B rs /\
 ∀ v H',Same H H'->FltV H' v (match a1K n rs with | some k=>.apart k.1 k.2.1 k.2.2 | none=>.ok)->Q v H'
def b9W (K:Φρ):Sp:=λ vs H Q _=>∃ (g:V) (n:Nat) (ts:List ζζ) (a:Addr) (rs:List Row),vs=[g,.ref a]/\n<=1000/\GraphV K H g n ts/\RowsAt K H a rs /\
 ∀ v H',Same H H'->FltV H' v (a2H n ts rs)->Q v H'
theorem c2D {n:Int} {rs:List Row} (h:a0V n rs=none):c2B rs:=by
 unfold a0V at h
 split at h
 ·cases h
 ·intro k i e hk
  have q:=List.find?_eq_none.mp h k (List.mem_range.mpr hk)
  have q':a1N n rs k=true:=by simpa using q
  unfold a1N at q'
  rw [Bool.and_eq_true] at q'
  have u:=q'.1
  unfold upOk at u
  rw [e] at u
  split at u
  ·cases u
  ·have u':0<=i/\i < (k:Int):=of_decide_eq_true u
   omega
theorem b9X (rs:List Row) (v:Int):(List.range rs.length).filterMap (λ i=>if a2N rs v i then some (V.int i) else none)=(a2G rs v).map λ k=>V.int (k:Nat):=by
 unfold a2G
 induction (List.range rs.length) with
 | nil=>rfl
 | cons a r ih =>
  rw [List.filter_cons]
  cases c:a2N rs v a with
  | true=>rw [List.filterMap_cons_some (by rw [if_pos c]),ih]; simp
  | false=>rw [List.filterMap_cons_none (by rw [c]; rfl),ih]; simp
section
variable {P:Program} {w:World} {K:Φρ} {mg:Str->Option Value} {base:Heap}
abbrev DZ20 (K:PySem.W.Frag) (mg:Str->Option Value):=Dn K mg "is_up" b5J ["k", "up"]
set_option maxHeartbeats 4000000 in
theorem b6Y (B:Bl mg) (dZ21:DZ21 K mg) (dZ17:DZ17 K mg) (dZ20:DZ20 K mg):FnOk P w K mg base CX0 3 dZ20.f dZ20.fd ["k", "up"] spUp:=by
 have gZ17:FnOk P w K mg base CX0 2 _ _ _ _:=a5Y B dZ21 dZ17
 refine dZ20.F.ok b6X (λ vs H Q E h=>?_) (λ cdv A outer s H vs Q E hr h=>?_)
 ·obtain ⟨k,o,rfl,_⟩:=h
  rfl
 obtain ⟨k,o,rfl,q⟩:=h
 refine ⟨_,(a0C (a1E (a0H a2V (pv 0) a0D (a0O _))
   (a0E (a0M (a2W b1N (pv 1) a1Y (a0O _))))
   a0N)
   (a0E (a0M (a0J gZ17 hr rfl dZ17.m dZ17.F.kp dZ17.b .nil a1A (a0A (pv 0) (a0A (pv 1) a0B)))))),?_⟩
 refine ⟨_,rfl,rfl,_,rfl,?_⟩
 refine ite2 (λ c=>?_) (λ c=>?_)
 ·have c':V.int (k:Int)=V.int 0:=of_decide_eq_true c
  have k0:k=0:=by
   have z:(k:Int)=0:=by injection c'
   omega
  refine ⟨_,rfl,rfl,?_⟩
  have e:upOk k o=decide (upV o=V.non):=by unfold upOk; rw [if_pos k0]; cases o <;> simp [upV]
  rw [e] at q
  exact q
 ·have c':¬ V.int (k:Int)=V.int 0:=of_decide_eq_false (Bool.eq_false_iff.mpr c)
  have k0:¬ k=0:=λ z=>c' (by rw [z]; rfl)
  refine ⟨_,rfl,_,rfl,k,o,rfl,?_⟩
  have e:upOk k o=a5F k o:=by unfold upOk; rw [if_neg k0]
  rw [e] at q
  exact q
abbrev DZ30 (K:PySem.W.Frag) (mg:Str->Option Value):=Dn K mg "row_fault" a6C ["n", "rows"]
set_option maxHeartbeats 4000000 in
theorem a9Z (B:Bl mg) (dZ21:DZ21 K mg) (dZ17:DZ17 K mg) (dZ19:DZ19 K mg) (dZ20:DZ20 K mg) (dZ30:DZ30 K mg):FnOk P w K mg base CX0 4 dZ30.f dZ30.fd ["n", "rows"] (b2V K):=by
 have gZ20:FnOk P w K mg base CX0 3 _ _ _ _:=b6Y B dZ21 dZ17 dZ20
 have gZ19:FnOk P w K mg base CX0 3 _ _ _ _:=a9S B dZ21 dZ17 dZ19
 refine dZ30.F.ok sc_row_fault (λ vs H Q E h=>?_) (λ cdv A outer s H vs Q E hr h=>?_)
 ·obtain ⟨n,a,rs,rfl,_⟩:=h
  rfl
 obtain ⟨n,a,rs,rfl,hR,q⟩:=h
 refine ⟨_,(a0C (a1E (a3A (a1D (K:=K) rfl (pv 1) (λ _=>rfl)))
   (a0E (a0M (a0T (a0A a6V (a0A a0D a0B)))))
   a0N)
   (a0C (a2A PassesOwn.never rfl (b4A (K:=K) rfl rfl B.enumerate (a0A (pv 1) a0B)) (a3S (K:=K) (n:=2) rfl rfl (a1H (a0L (i:=2) sc_row_fault.nd rfl (Or.inl rfl)) (a1H (a0L (i:=3) sc_row_fault.nd rfl (Or.inl rfl)) a3P)))
   (a0E (a1E (PW.pt (b2H (a3A (a1D (K:=K) rfl (a0J gZ20 hr rfl dZ20.m dZ20.F.kp dZ20.b .nil a1A (a0A (pv 2) (a0A (a0U (a0P (K:=K) rfl) (pv 3) a0D (λ _ _=>rfl)) a0B))) (λ _=>rfl))) (a6W (a3A (a1D (K:=K) rfl (a0J gZ19 hr rfl dZ19.m dZ19.F.kp dZ19.b .nil a1A (a0A (pv 0) (a0A (a0U (a0P (K:=K) rfl) (pv 3) a0D (λ _ _=>rfl)) a0B))) (λ _=>rfl))))))
   (a0E (a0M (a0T (a0A a6V (a0A (pv 2) a0B)))))
   a0N)))
   (a0E (a0M a1Y)))),?_⟩
 obtain ⟨xs,hx,hp,hz⟩:=id hR
 have hl:xs.length=rs.length:=Paired.length hp
 refine ⟨_,rfl,_,.inl ⟨xs,hx,rfl⟩,?_⟩
 cases xs with
 | nil =>
  cases hp
  refine iteT ?_
  refine ⟨(by show 2<=1000; decide),λ p H1 nw=>?_⟩
  exact q _ H1 nw.same ⟨p,rfl,nw.here⟩
 | cons x0 xr =>
  refine iteF ?_
  have hne:rs.isEmpty=false:=by cases hp; rfl
  have ef:a0V n rs=(List.range rs.length).find? λ k=>!a1N n rs k:=by unfold a0V; rw [hne]; rfl
  refine ⟨_,rfl,a,rfl,⟨_,hx⟩,?_⟩
  refine b6L (xs:=x0::xr) (λ i σ H2=>∃ (kk rr:Option V),σ=[some (.int n),some (.ref a),kk,rr]/\Same H H2/\(∀ j < i,a1N n rs j=true)) ⟨none,none,rfl,Same.refl _,λ j hj=>absurd hj (Nat.not_lt_zero _)⟩ (λ i σ H2 _ ⟨_,_,_,sm,_⟩=>sm.seq hx) ?_ ?_
  ·rintro i x σ H2 p H3 hi ⟨kk,rr,rfl,sm,ok⟩ nw
   obtain ⟨r,hr1,⟨pr,b,rfl,hT,hb,hbl⟩⟩:=a1C hp hi
   have s3:Same H H3:=sm.trans nw.same
   have er:a0G rs i=r:=a3U hr1
   refine ⟨p,_,rfl,SqT.of nw.here,rfl,_,_,rfl,_,_,rfl,rfl,?_⟩
   have il:i < rs.length:=(List.getElem?_eq_some_iff.mp hr1).1
   have bad:a1N n rs i=false->a0V n rs=some i:=λ c=>by
    rw [ef]
    refine List.find?_range_eq_some.mpr ⟨by rw [c]; rfl,List.mem_range.mpr il,λ j hj=>?_⟩
    rw [ok j hj]; rfl
   have ret:∀ H4:Hp,Same H H4->a1N n rs i=false->∀ p5 H5,New H4 p5 (.tup [.str "row", .int (i:Nat)]) H5->Q (.ref p5) H5:=λ H4 s4 c p5 H5 n5=>by
    refine q _ H5 (s4.trans n5.same) ?_
    rw [bad c]
    exact ⟨p5,rfl,n5.here⟩
   refine ⟨_,rfl,_,rfl,pr,_,_,_,rfl,rfl,s3.tupq hT,rfl,i,r.1,rfl,_,rfl,?_⟩
   cases c1:upOk i r.1 with
   | false =>
    refine iteT ?_
    have cb:a1N n rs i=false:=by unfold a1N; rw [er,c1]; rfl
    exact ⟨_,rfl,(by show 2<=1000; decide),ret H3 s3 cb⟩
   | true =>
    refine iteF ?_
    refine ⟨_,rfl,_,rfl,pr,_,_,_,rfl,rfl,s3.tupq hT,rfl,n,b,r.2,rfl,s3.seq hb,hbl,λ H4 s4=>?_⟩
    refine ⟨_,rfl,?_⟩
    cases c2:setF n r.2 with
    | false =>
     refine iteT ?_
     have cb:a1N n rs i=false:=by unfold a1N; rw [er,c1,c2]; rfl
     exact ⟨_,rfl,(by show 2<=1000; decide),ret H4 (s3.trans s4) cb⟩
    | true =>
     refine iteF ?_
     refine ⟨_,_,rfl,s3.trans s4,λ j hj=>?_⟩
     by_cases hji:j=i
     ·subst hji; unfold a1N; rw [er,c1,c2]; rfl
     ·exact ok j (by omega)
  ·rintro σ H2 ⟨kk,rr,rfl,sm,ok⟩
   have en:a0V n rs=none:=by
    rw [ef]
    refine List.find?_eq_none.mpr λ j hj=>?_
    rw [ok j (by rw [hl]; exact List.mem_range.mp hj)]; simp
   exact q _ H2 sm (by rw [en]; rfl)
abbrev DZ27 (K:PySem.W.Frag) (mg:Str->Option Value):=Dn K mg "place_fault" a3L ["n", "rows"]
set_option maxHeartbeats 4000000 in
theorem a6P (B:Bl mg) (dZ27:DZ27 K mg):FnOk P w K mg base CX0 2 dZ27.f dZ27.fd ["n", "rows"] (a9Y K):=by
 refine dZ27.F.ok sc_place_fault (λ vs H Q E h=>?_) (λ cdv A outer s H vs Q E hr h=>?_)
 ·obtain ⟨n,a,rs,rfl,_⟩:=h
  rfl
 obtain ⟨n,a,rs,rfl,hn,hR,q⟩:=h
 have hv:(A.deeper (PyProof.Rows.envOfC "place_fault" (a0F a3L) s.heap.objs.size dZ27.f cdv)).units+65 < cLine:=by have:=hr.un; omega
 refine ⟨_,(a0C (a2A PassesOwn.never rfl (a1L rfl B.range (a0A (pv 0) a0B)) (a0L (i:=2) sc_place_fault.nd rfl (Or.inr rfl))
   (a0E (a1E (a3A (a1D (K:=K) rfl (a0I (a9E (K:=K) rfl rfl) rfl B.any (by decide +kernel) (a0A (a6M ["up", "places", "v"] [none,none,some 2]  (by kernel_rfl) rfl (a0Z (K:=K) rfl (pv 1)) (λ _ _ _ _ _=>(a3S (K:=K) (n:=2) rfl rfl (a1H (a0L (i:=0) (show (["up", "places", "v"]:List Str).Nodup by decide +kernel) rfl (Or.inl rfl)) (a1H (a0L (i:=1) (show (["up", "places", "v"]:List Str).Nodup by decide +kernel) rfl (Or.inl rfl)) a3P)))) (λ _ _ _ _ _=>a2J) (λ _ _ _ _ _=>(a2W (a2K (K:=K) rfl hv) (pv 2) (pv 1) (by with_unfolding_all rfl)))) a0B)) (λ _=>rfl)))
   (a0E (a0M (a0T (a0A a6V (a0A (pv 2) a0B)))))
   a0N)))
   (a0E (a0M a1Y))),?_⟩
 obtain ⟨xs,hx,hp,hz⟩:=id hR
 have hl:xs.length=rs.length:=Paired.length hp
 refine ⟨_,rfl,_,rfl,by omega,by omega,?_⟩
 have en:((n:Nat):Int).toNat=n:=by omega
 rw [en]
 refine a1T (n:=n) (λ i σ H2=>∃ vv:Option V,σ=[some (.int n),some (.ref a),vv]/\Same H H2/\∀ j < i,rs.any (has (j:Nat))=true) ⟨none,rfl,Same.refl _,λ j hj=>absurd hj (Nat.not_lt_zero _)⟩ ?_ ?_
 ·rintro i σ H2 hi ⟨vv,rfl,sm,ok⟩
  refine ⟨_,rfl,a,rfl,⟨_,sm.seq hx⟩,?_⟩
  refine a7B (λ j=>some (.bl (has (0+(i:Int)) (a0G rs j)))) (sm.seq hx) (by omega) (λ j x H3 N hj s3 hN=>?_) (λ H3 p H4 s3 nw=>?_)
  ·obtain ⟨r,hr1,⟨pr,b,rfl,hT,hb,hbl⟩⟩:=a1C hp hj
   have s4:=sm.trans s3
   rw [a3U hr1] at hN
   exact ⟨pr,_,rfl,s4.tupq hT,rfl,_,_,rfl,_,_,rfl,rfl,_,rfl,_,rfl,a3O (s4.seq hb) (hN H3 s3)⟩
  ·have e1:(List.range xs.length).filterMap (λ j=>some (V.bl (has (0+(i:Int)) (a0G rs j))))=((List.range rs.length).map λ j=>has (0+(i:Int)) (a0G rs j)).map V.bl:=by
    rw [hl,List.map_map]
    exact a2X λ _ _=>rfl
   rw [e1] at nw
   have e2:=a9H rs (has (0+(i:Int)))
   refine ⟨p,_,_,rfl,SqL.of nw.here,Truths.bls _,_,rfl,?_⟩
   rw [e2]
   have s4:=sm.trans (s3.trans nw.same)
   have ei:(0+(i:Int))=((i:Nat):Int):=by omega
   rw [ei]
   cases c:rs.any (has ((i:Nat):Int)) with
   | false =>
    refine iteT ?_
    refine ⟨_,rfl,(by show 2<=1000; decide),λ p5 H5 n5=>?_⟩
    refine q _ H5 (s4.trans n5.same) ?_
    have ef:a0W n rs=some i:=List.find?_range_eq_some.mpr ⟨by rw [c]; rfl,List.mem_range.mpr hi,λ j hj=>by rw [ok j hj]; rfl⟩
    rw [ef]
    exact ⟨p5,rfl,n5.here⟩
   | true =>
    refine iteF ?_
    refine ⟨_,rfl,s4,λ j hj=>?_⟩
    by_cases hji:j=i
    ·subst hji; exact c
    ·exact ok j (by omega)
 ·rintro σ H2 ⟨vv,rfl,sm,ok⟩
  have ef:a0W n rs=none:=List.find?_eq_none.mpr λ j hj=>by rw [ok j (List.mem_range.mp hj)]; simp
  exact q _ H2 sm (by rw [ef]; rfl)
abbrev DZ32 (K:PySem.W.Frag) (mg:Str->Option Value):=Dn K mg "tie_fault" a4F ["ties", "rows"]
set_option maxHeartbeats 4000000 in
theorem b0A (B:Bl mg) (dZ32:DZ32 K mg):FnOk P w K mg base CX0 2 dZ32.f dZ32.fd ["ties", "rows"] (b2W K):=by
 refine dZ32.F.ok sc_tie_fault (λ vs H Q E h=>?_) (λ cdv A outer s H vs Q E hr h=>?_)
 ·obtain ⟨t,a,ts,rs,rfl,_⟩:=h
  rfl
 obtain ⟨t,a,ts,rs,rfl,hT,hR,q⟩:=h
 have hv:(A.deeper (PyProof.Rows.envOfC "tie_fault" (a0F a4F) s.heap.objs.size dZ32.f cdv)).units+65 < cLine:=by have:=hr.un; omega
 refine ⟨_,(a0C (a2A PassesOwn.never rfl (a0Z (K:=K) rfl (pv 0)) (a3S (K:=K) (n:=2) rfl rfl (a1H (a0L (i:=2) sc_tie_fault.nd rfl (Or.inr rfl)) (a1H (a0L (i:=3) sc_tie_fault.nd rfl (Or.inr rfl)) a3P)))
   (a0E (a1E (a3A (a1D (K:=K) rfl (a0I (a9E (K:=K) rfl rfl) rfl B.any (by decide +kernel) (a0A (a6M ["up", "places", "a", "b"] [none,none,some 2,some 3]  (by kernel_rfl) rfl (a0Z (K:=K) rfl (pv 1)) (λ _ _ _ _ _=>(a3S (K:=K) (n:=2) rfl rfl (a1H (a0L (i:=0) (show (["up", "places", "a", "b"]:List Str).Nodup by decide +kernel) rfl (Or.inl rfl)) (a1H (a0L (i:=1) (show (["up", "places", "a", "b"]:List Str).Nodup by decide +kernel) rfl (Or.inl rfl)) a3P)))) (λ _ _ _ _ _=>a2J) (λ _ _ _ _ _=>(a6X (a2W (a2K (K:=K) rfl hv) (pv 2) (pv 1) (by with_unfolding_all rfl)) (a5P (a2W (a2K (K:=K) rfl hv) (pv 3) (pv 1) (by with_unfolding_all rfl)))))) a0B)) (λ _=>rfl)))
   (a0E (a0M (a0T (a0A a6V (a0A (pv 2) (a0A (pv 3) a0B))))))
   a0N)))
   (a0E (a0M a1Y))),?_⟩
 obtain ⟨xs,hx,hp,hz⟩:=id hR
 obtain ⟨ys,hy,hq,hzt⟩:=id hT
 have hl:xs.length=rs.length:=Paired.length hp
 have hlt:ys.length=ts.length:=Paired.length hq
 let pt:Int × Int->Bool:=λ t=>rs.any λ r=>has t.1 r && has t.2 r
 have ef:a1O ts rs=ts.find? λ t=>!pt t:=rfl
 refine ⟨_,rfl,t,rfl,⟨_,hy⟩,?_⟩
 refine a3X (xs:=ys) (λ i σ H2=>∃ aa bb:Option V,σ=[some (.ref t),some (.ref a),aa,bb]/\Same H H2/\∀ j z,j < i->ts[j]?=some z->pt z=true) ⟨none,none,rfl,Same.refl _,λ j z hj=>absurd hj (Nat.not_lt_zero _)⟩ (λ i σ H2 _ ⟨_,_,_,sm,_⟩=>sm.seq hy) ?_ ?_
 ·rintro i x σ H2 hi ⟨aa,bb,rfl,sm,ok⟩
  obtain ⟨tt,ht1,⟨p0,rfl,hT0⟩⟩:=a1C hq hi
  refine ⟨p0,_,rfl,sm.tupq hT0,rfl,_,_,rfl,_,_,rfl,rfl,?_⟩
  refine ⟨_,rfl,a,rfl,⟨_,sm.seq hx⟩,?_⟩
  refine a7B (λ j=>some (.bl (has tt.1 (a0G rs j) && has tt.2 (a0G rs j)))) (sm.seq hx) (by omega) (λ j x H3 N hj s3 hN=>?_) (λ H3 p H4 s3 nw=>?_)
  ·obtain ⟨r,hr1,⟨pr,b,rfl,hTr,hb,hbl⟩⟩:=a1C hp hj
   have s4:=sm.trans s3
   rw [a3U hr1] at hN
   refine ⟨pr,_,rfl,s4.tupq hTr,rfl,_,_,rfl,_,_,rfl,rfl,_,rfl,_,rfl,a3O (s4.seq hb) ⟨_,rfl,?_⟩⟩
   cases c:decide (tt.1∈r.2) with
   | false =>
    refine iteF ?_
    have z:=hN H3 s3
    have ez:(has tt.1 r && has tt.2 r)=false:=by unfold has; rw [c]; rfl
    rw [ez] at z; exact z
   | true =>
    refine iteT ?_
    have z:=hN H3 s3
    have ez:(has tt.1 r && has tt.2 r)=decide (tt.2∈r.2):=by unfold has; rw [c]; rfl
    rw [ez] at z
    exact ⟨_,rfl,_,rfl,a3O (s4.seq hb) z⟩
  ·have e1:(List.range xs.length).filterMap (λ j=>some (V.bl (has tt.1 (a0G rs j) && has tt.2 (a0G rs j))))=((List.range rs.length).map λ j=>(λ r=>has tt.1 r && has tt.2 r) (a0G rs j)).map V.bl:=by
    rw [hl,List.map_map]
    exact a2X λ _ _=>rfl
   rw [e1] at nw
   have e2:=a9H rs (λ r=>has tt.1 r && has tt.2 r)
   refine ⟨p,_,_,rfl,SqL.of nw.here,Truths.bls _,_,rfl,?_⟩
   rw [e2]
   have s4:=sm.trans (s3.trans nw.same)
   cases c:rs.any λ r=>has tt.1 r && has tt.2 r with
   | false =>
    refine iteT ?_
    refine ⟨_,rfl,_,rfl,(by show 3<=1000; decide),λ p5 H5 n5=>?_⟩
    refine q _ H5 (s4.trans n5.same) ?_
    have ef2:a1O ts rs=some tt:=b4B ht1 (by show (!pt tt)=true; show (!(rs.any λ r=>has tt.1 r && has tt.2 r))=true; rw [c]; rfl) λ j z hj hz=>by show (!pt z)=false; rw [ok j z hj hz]; rfl
    rw [ef2]
    exact ⟨p5,rfl,n5.here⟩
   | true =>
    refine iteF ?_
    refine ⟨_,_,rfl,s4,λ j z hj hz=>?_⟩
    by_cases hji:j=i
    ·subst hji
     rw [ht1] at hz; cases hz
     exact c
    ·exact ok j z (by omega) hz
 ·rintro σ H2 ⟨aa,bb,rfl,sm,ok⟩
  have ef2:a1O ts rs=none:=List.find?_eq_none.mpr λ z hz=>by
   obtain ⟨j,hj,rfl⟩:=List.getElem_of_mem hz
   have:=ok j ts[j] (by rw [hlt]; exact hj) (List.getElem?_eq_getElem hj)
   show ¬ (!pt ts[j])=true
   rw [this]; simp
  exact q _ H2 sm (by rw [ef2]; rfl)
abbrev DZ18 (K:PySem.W.Frag) (mg:Str->Option Value):=Dn K mg "is_held" a6D ["rows", "up", "v"]
set_option maxHeartbeats 4000000 in
theorem b2X (B:Bl mg) (dZ18:DZ18 K mg):FnOk P w K mg base CX0 1 dZ18.f dZ18.fd ["rows", "up", "v"] (c2C K):=by
 refine dZ18.F.ok b2U (λ vs H Q E h=>?_) (λ cdv A outer s H vs Q E hr h=>?_)
 ·obtain ⟨a,rs,u,v,rfl,_⟩:=h
  rfl
 obtain ⟨a,rs,u,v,rfl,hR,hu,q⟩:=h
 have hv:(A.deeper (PyProof.Rows.envOfC "is_held" (a0F a6D) s.heap.objs.size dZ18.f cdv)).units+65 < cLine:=by have:=hr.un; omega
 refine ⟨_,(a0E (a0M (a6X (a2W a4U (pv 1) a1Y (a0O _)) (a5P (a2W (a2K (K:=K) rfl hv) (pv 2) (a0U (a0P (K:=K) rfl) (a0U (a0X (K:=K) rfl) (pv 0) (pv 1) (λ _ _=>rfl)) a0D (λ _ _=>rfl)) (by with_unfolding_all rfl)))))),?_⟩
 obtain ⟨xs,hx,hp,hz⟩:=id hR
 have hl:xs.length=rs.length:=Paired.length hp
 refine ⟨_,rfl,rfl,_,rfl,?_⟩
 cases u with
 | none=>exact iteF q
 | some i =>
  obtain ⟨i0,i1⟩:=hu i rfl
  refine iteT ?_
  have il:i.toNat < rs.length:=by omega
  obtain ⟨x,hx1,⟨pr,b,rfl,hT,hb,hbl⟩⟩:=a1F hp (a1Z il)
  have ei:i=((i.toNat:Nat):Int):=by omega
  have hat:atI xs i=some (.ref pr):=by rw [ei]; exact a1W hx1
  exact ⟨_,rfl,_,rfl,_,rfl,a,_,_,_,rfl,rfl,hx,hat,pr,_,_,_,rfl,rfl,hT,rfl,a3O hb q⟩
abbrev DZ14 (K:PySem.W.Frag) (mg:Str->Option Value):=Dn K mg "apart_fault" a3M ["n", "rows"]
set_option maxHeartbeats 4000000 in
theorem a6Q (B:Bl mg) (dZ18:DZ18 K mg) (dZ14:DZ14 K mg):FnOk P w K mg base CX0 2 dZ14.f dZ14.fd ["n", "rows"] (b9V K):=by
 have gZ18:FnOk P w K mg base CX0 1 _ _ _ _:=b2X B dZ18
 refine dZ14.F.ok sc_apart_fault (λ vs H Q E h=>?_) (λ cdv A outer s H vs Q E hr h=>?_)
 ·obtain ⟨n,a,rs,rfl,_⟩:=h
  rfl
 obtain ⟨n,a,rs,rfl,hn,hR,hU,q⟩:=h
 have hv:(A.deeper (PyProof.Rows.envOfC "apart_fault" (a0F a3M) s.heap.objs.size dZ14.f cdv)).units+65 < cLine:=by have:=hr.un; omega
 refine ⟨_,(a0C (a2A PassesOwn.never rfl (a1L rfl B.range (a0A (pv 0) a0B)) (a0L (i:=2) sc_apart_fault.nd rfl (Or.inr rfl))
   (a0C (a2M (i:=3) ["k", "row", "v", "rows"] [none,none,some 2,some 1] sc_apart_fault.nd rfl rfl (by kernel_rfl) rfl (b4A (K:=K) rfl rfl B.enumerate (a0A (pv 1) a0B)) (λ _ _ _ _ _=>(a3S (K:=K) (n:=2) rfl rfl (a1H (a0L (i:=0) (show (["k", "row", "v", "rows"]:List Str).Nodup by decide +kernel) rfl (Or.inl rfl)) (a1H (a0L (i:=1) (show (["k", "row", "v", "rows"]:List Str).Nodup by decide +kernel) rfl (Or.inl rfl)) a3P)))) (λ _ _ _ _ _=>(a4D (PW.pt (a2L (a0H (a2K (K:=K) rfl hv) (pv 2) (a0U (a0P (K:=K) rfl) (pv 1) a0D (λ _ _=>rfl)) (by with_unfolding_all rfl)) (a1S (a3A (a1D (K:=K) rfl (a0J gZ18 hr rfl dZ18.m dZ18.F.kp dZ18.b .nil a1A (a0A (pv 3) (a0A (a0U (a0P (K:=K) rfl) (pv 1) a0D (λ _ _=>rfl)) (a0A (pv 2) a0B)))) (λ _=>rfl)))))))) (λ _ _ _ _ _=>(pv 0)) (by rfl))
   (a0E (a1E (a0H a5Q (a0I (a0R (K:=K) rfl) rfl B.len (by decide +kernel) (a0A (pv 3) a0B)) a0D (a0O _))
   (a0E (a0M (a0T (a0A a6V (a0A (pv 2) (a0A (a0U (a0X (K:=K) rfl) (pv 3) a0D (λ _ _=>rfl)) (a0A (a0U (a0X (K:=K) rfl) (pv 3) a0D (λ _ _=>rfl)) a0B)))))))
   a0N))))
   (a0E (a0M a1Y))),?_⟩
 obtain ⟨xs,hx,hp,hz⟩:=id hR
 have hl:xs.length=rs.length:=Paired.length hp
 refine ⟨_,rfl,_,rfl,by omega,by omega,?_⟩
 have en:((n:Nat):Int).toNat=n:=by omega
 rw [en]
 refine a1T (n:=n) (λ i σ H2=>∃ vv tt:Option V,σ=[some (.int n),some (.ref a),vv,tt]/\Same H H2/\∀ j < i,a3T rs ((j:Nat):Int)=none) ⟨none,none,rfl,Same.refl _,λ j hj=>absurd hj (Nat.not_lt_zero _)⟩ ?_ ?_
 ·rintro i σ H2 hi ⟨vv,tt,rfl,sm,ok⟩
  have ei:(0+(i:Int))=((i:Nat):Int):=by omega
  refine ⟨_,rfl,a,rfl,⟨_,sm.seq hx⟩,?_⟩
  refine b9A (λ j _=>if a2N rs ((i:Nat):Int) j then some (.int j) else none) (sm.seq hx) (by omega) (λ j x H3 p H0 N hj s3 nw hN=>?_) (λ H3 p H4 s3 nw=>?_)
  ·obtain ⟨r,hr1,⟨pr,b,rfl,hT,hb,hbl⟩⟩:=a1C hp hj
   have s4:Same H H0:=sm.trans (s3.trans nw.same)
   have jl:j < rs.length:=(List.getElem?_eq_some_iff.mp hr1).1
   have er:=a3U hr1
   have hN':=hN H0 (s3.trans nw.same)
   refine ⟨p,_,rfl,SqT.of nw.here,rfl,_,_,rfl,_,_,rfl,rfl,_,rfl,_,rfl,pr,_,_,_,rfl,rfl,s4.tupq hT,rfl,a3O (s4.seq hb) ⟨_,rfl,?_⟩⟩
   rw [ei]
   cases c:decide (((i:Nat):Int)∈r.2) with
   | false =>
    refine iteF (iteF ?_)
    have ez:a2N rs ((i:Nat):Int) j=false:=by unfold a2N has; rw [er,c]; rfl
    rw [ez] at hN'; exact hN'
   | true =>
    refine iteT ?_
    refine ⟨_,rfl,_,rfl,pr,_,_,_,rfl,rfl,s4.tupq hT,rfl,_,rfl,a,rs,r.1,_,rfl,hR.same s4,(λ u hu=>hU j u (by rw [er]; exact hu) jl),_,rfl,?_⟩
    have ez:a2N rs ((i:Nat):Int) j = !a4V rs r.1 ((i:Nat):Int):=by unfold a2N has; rw [er,c]; rfl
    rw [ez] at hN'
    cases c2:a4V rs r.1 ((i:Nat):Int) with
    | true=>rw [c2] at hN'; exact iteF hN'
    | false=>rw [c2] at hN'; exact iteT ⟨_,rfl,hN'⟩
  ·have e1:(List.range xs.length).filterMap (λ j=>(xs[j]?).bind λ _=>if a2N rs ((i:Nat):Int) j then some (V.int j) else none)=(a2G rs ((i:Nat):Int)).map λ k=>V.int (k:Nat):=by
    rw [<- b9X,hl]
    refine a7W λ j hj=>?_
    have jl:j < xs.length:=by rw [hl]; exact List.mem_range.mp hj
    rw [List.getElem?_eq_getElem jl]; rfl
   rw [e1] at nw
   have s4:=sm.trans (s3.trans nw.same)
   refine ⟨_,rfl,p,_,rfl,.inl (SqL.of nw.here),_,_,rfl,rfl,_,rfl,?_⟩
   refine ite2 (λ c=>?_) (λ c=>?_)
   ·have c':(1:Int) < (((a2G rs ((i:Nat):Int)).map λ k=>V.int (k:Nat)).length:Nat):=of_decide_eq_true c
    rw [List.length_map] at c'
    obtain ⟨j,k,rest,et⟩:∃ j k rest,a2G rs ((i:Nat):Int)=j::k::rest:=by
     match a2G rs ((i:Nat):Int),c' with
     | [],c'=>exact absurd c' (by simp)
     | [_],c'=>exact absurd c' (by simp)
     | j::k::rest,_=>exact ⟨j,k,rest,rfl⟩
    rw [et] at nw
    refine ⟨_,rfl,_,rfl,p,_,_,_,rfl,rfl,SqL.of nw.here,(show atI _ (0:Int)=_ from a1W (j:=0) rfl),_,rfl,p,_,_,_,rfl,rfl,SqL.of nw.here,(show atI _ (1:Int)=_ from a1W (j:=1) rfl),(by show 4<=1000; decide),λ p5 H5 n5=>?_⟩
    refine q _ H5 (s4.trans n5.same) ?_
    have ea:a3T rs ((i:Nat):Int)=some (j,k):=by unfold a3T; rw [et]
    have ef:a1K n rs=some (i,j,k):=a6N hi (by rw [ea]; rfl) λ m hm=>by rw [ok m hm]; rfl
    rw [ef]
    refine ⟨p5,rfl,?_⟩
    rw [n5.here,ei]
   ·have c':¬ (1:Int) < (((a2G rs ((i:Nat):Int)).map λ k=>V.int (k:Nat)).length:Nat):=of_decide_eq_false (Bool.eq_false_iff.mpr c)
    rw [List.length_map] at c'
    refine ⟨_,_,rfl,s4,λ m hm=>?_⟩
    by_cases hmi:m=i
    ·subst hmi
     unfold a3T
     match a2G rs ((m:Nat):Int),c' with
     | [],_=>rfl
     | [_],_=>rfl
     | _::_::_,c'=>exact absurd (show (1:Int) < _ by simp only [List.length_cons]; omega) c'
    ·exact ok m (by omega)
 ·rintro σ H2 ⟨vv,tt,rfl,sm,ok⟩
  have ef:a1K n rs=none:=a4E λ m hm=>by rw [ok m hm]; rfl
  exact q _ H2 sm (by rw [ef]; rfl)
abbrev DZ15 (K:PySem.W.Frag) (mg:Str->Option Value):=Dn K mg "fault" b5I ["graph", "rows"]
set_option maxHeartbeats 4000000 in
theorem b2C (B:Bl mg) (dZ21:DZ21 K mg) (dZ17:DZ17 K mg) (dZ19:DZ19 K mg) (dZ20:DZ20 K mg) (dZ30:DZ30 K mg) (dZ27:DZ27 K mg) (dZ32:DZ32 K mg) (dZ18:DZ18 K mg) (dZ14:DZ14 K mg) (dZ15:DZ15 K mg):FnOk P w K mg base CX0 5 dZ15.f dZ15.fd ["graph", "rows"] (b9W K):=by
 have gZ30:FnOk P w K mg base CX0 4 _ _ _ _:=a9Z B dZ21 dZ17 dZ19 dZ20 dZ30
 have gZ27:FnOk P w K mg base CX0 4 _ _ _ _:=(a6P B dZ27).mono (by decide)
 have gZ32:FnOk P w K mg base CX0 4 _ _ _ _:=(b0A B dZ32).mono (by decide)
 have gZ14:FnOk P w K mg base CX0 4 _ _ _ _:=(a6Q B dZ18 dZ14).mono (by decide)
 refine dZ15.F.ok sc_fault (λ vs H Q E h=>?_) (λ cdv A outer s H vs Q E hr h=>?_)
 ·obtain ⟨g,n,ts,a,rs,rfl,_⟩:=h
  rfl
 obtain ⟨g,n,ts,a,rs,rfl,hn,hG,hR,q⟩:=h
 refine ⟨_,(a0C (a0Q (i:=2) sc_fault.nd rfl (Or.inl rfl) (a0J gZ30 hr rfl dZ30.m dZ30.F.kp dZ30.b .nil a1A (a0A (a0U (a0P (K:=K) rfl) (pv 0) a0D (λ _ _=>rfl)) (a0A (pv 1) a0B))))
   (a3I (a1E (a0H b1N (pv 2) a1Y (a0O _))
   (a0E (a0Q (i:=2) sc_fault.nd rfl (Or.inl rfl) (a0J gZ27 hr rfl dZ27.m dZ27.F.kp dZ27.b .nil a1A (a0A (a0U (a0P (K:=K) rfl) (pv 0) a0D (λ _ _=>rfl)) (a0A (pv 1) a0B)))))
   a0N)
   (a3I (a1E (a0H b1N (pv 2) a1Y (a0O _))
   (a0E (a0Q (i:=2) sc_fault.nd rfl (Or.inl rfl) (a0J gZ32 hr rfl dZ32.m dZ32.F.kp dZ32.b .nil a1A (a0A (a0U (a0P (K:=K) rfl) (pv 0) a0D (λ _ _=>rfl)) (a0A (pv 1) a0B)))))
   a0N)
   (a3I (a1E (a0H b1N (pv 2) a1Y (a0O _))
   (a0E (a0Q (i:=2) sc_fault.nd rfl (Or.inl rfl) (a0J gZ14 hr rfl dZ14.m dZ14.F.kp dZ14.b .nil a1A (a0A (a0U (a0P (K:=K) rfl) (pv 0) a0D (λ _ _=>rfl)) (a0A (pv 1) a0B)))))
   a0N)
   (a0E (a0M (pv 2))))))),?_⟩
 obtain ⟨pg,tl,rfl,hT,hTs⟩:=id hG
 refine ⟨_,rfl,pg,_,_,_,rfl,rfl,hT,rfl,_,rfl,n,a,rs,rfl,hR,λ v1 H1 s1 f1=>?_⟩
 refine ⟨λ σ' H'=>∃ v,σ'=[some (.ref pg),some (.ref a),some v]/\Same H H'/\FltV H' v (match a0V n rs with | some k=>.row k | none=>(match a0W n rs with | some v=>.place v | none=>.ok)),?_,?_⟩
 ·refine ⟨_,rfl,rfl,_,rfl,?_⟩
  cases c:a0V n rs with
  | some k =>
   rw [c] at f1
   obtain ⟨p,rfl,e⟩:=id f1
   exact iteF ⟨_,rfl,s1,f1⟩
  | none =>
   rw [c] at f1
   cases (show v1=V.non from f1)
   refine iteT ?_
   refine ⟨_,rfl,pg,_,_,_,rfl,rfl,s1.tupq hT,rfl,_,rfl,n,a,rs,rfl,hn,hR.same s1,λ v2 H2 s2 f2=>?_⟩
   exact ⟨v2,rfl,s1.trans s2,f2⟩
 rintro σ2 H2 ⟨v2,rfl,s2,f2⟩
 refine ⟨λ σ' H'=>∃ v,σ'=[some (.ref pg),some (.ref a),some v]/\Same H H'/\FltV H' v (match a0V n rs with | some k=>.row k | none=>(match a0W n rs with | some v=>.place v | none=>(match a1O ts rs with | some t=>.tie t.1 t.2 | none=>.ok))),?_,?_⟩
 ·refine ⟨_,rfl,rfl,_,rfl,?_⟩
  cases c:a0V n rs with
  | some k =>
   rw [c] at f2
   obtain ⟨p,rfl,e⟩:=id f2
   exact iteF ⟨_,rfl,s2,f2⟩
  | none =>
   rw [c] at f2
   cases c2:a0W n rs with
   | some k =>
    rw [c2] at f2
    obtain ⟨p,rfl,e⟩:=id f2
    exact iteF ⟨_,rfl,s2,f2⟩
   | none =>
    rw [c2] at f2
    cases (show v2=V.non from f2)
    refine iteT ?_
    refine ⟨_,rfl,pg,_,_,_,rfl,rfl,s2.tupq hT,rfl,_,rfl,tl,a,ts,rs,rfl,hTs.same s2,hR.same s2,λ v3 H3 s3 f3=>?_⟩
    exact ⟨v3,rfl,s2.trans s3,f3⟩
 rintro σ3 H3 ⟨v3,rfl,s3,f3⟩
 refine ⟨λ σ' H'=>∃ v,σ'=[some (.ref pg),some (.ref a),some v]/\Same H H'/\FltV H' v (a2H n ts rs),?_,?_⟩
 ·refine ⟨_,rfl,rfl,_,rfl,?_⟩
  unfold a2H
  cases c:a0V n rs with
  | some k =>
   rw [c] at f3
   obtain ⟨p,rfl,e⟩:=id f3
   exact iteF ⟨_,rfl,s3,f3⟩
  | none =>
   rw [c] at f3
   cases c2:a0W n rs with
   | some k =>
    rw [c2] at f3
    obtain ⟨p,rfl,e⟩:=id f3
    exact iteF ⟨_,rfl,s3,f3⟩
   | none =>
    rw [c2] at f3
    cases c3:a1O ts rs with
    | some k =>
     rw [c3] at f3
     obtain ⟨p,rfl,e⟩:=id f3
     exact iteF ⟨_,rfl,s3,f3⟩
    | none =>
     rw [c3] at f3
     cases (show v3=V.non from f3)
     refine iteT ?_
     refine ⟨_,rfl,pg,_,_,_,rfl,rfl,s3.tupq hT,rfl,_,rfl,n,a,rs,rfl,hn,hR.same s3,c2D c,λ v4 H4 s4 f4=>?_⟩
     exact ⟨v4,rfl,s3.trans s4,f4⟩
 rintro σ4 H4 ⟨v4,rfl,s4,f4⟩
 exact ⟨_,rfl,q v4 H4 s4 f4⟩
end
abbrev b5K:Stmt:=top 30
theorem b6Z:FnScope ["tree"] ["tree"] (a0F b5K):=⟨rfl,rfl,rfl,by decide +kernel,rfl,by decide +kernel,by decide +kernel⟩
def lens (rs:List Row):List Int:=rs.map λ r=>((r.2.length:Nat):Int)
def b9Y (K:Φρ):Sp:=λ vs H Q _=>∃ (a:Addr) (rs:List Row),vs=[.ref a]/\RowsAt K H a rs/\0 < rs.length/\∀ M H',Same H H'->M∈lens rs->(∀ x∈lens rs,x<=M)->Q (.int (M - 1)) H'
theorem b8D {α β:Type} (f:α->Option β):∀ ts:List α,(List.range ts.length).filterMap (λ j=>(ts[j]?).bind f)=ts.filterMap f
 | []=>rfl
 | t::r=>by
  rw [List.length_cons,List.range_succ_eq_map]
  have ih:=b8D f r
  have e2:(List.map Nat.succ (List.range r.length)).filterMap (λ j=>((t::r)[j]?).bind f)=r.filterMap f:=by
   rw [List.filterMap_map,<- ih]
   rfl
  cases e:f t with
  | none=>rw [List.filterMap_cons_none (by simpa using e),List.filterMap_cons_none e,e2]
  | some b=>rw [List.filterMap_cons_some (b:=b) (by simpa using e),List.filterMap_cons_some e,e2]
section
variable {P:Program} {w:World} {K:Φρ} {mg:Str->Option Value} {base:Heap}
abbrev DZ33 (K:PySem.W.Frag) (mg:Str->Option Value):=Dn K mg "width" b5K ["tree"]
set_option maxHeartbeats 4000000 in
theorem b7A (B:Bl mg) (dZ33:DZ33 K mg):FnOk P w K mg base CX0 1 dZ33.f dZ33.fd ["tree"] (b9Y K):=by
 refine dZ33.F.ok b6Z (λ vs H Q E h=>?_) (λ cdv A outer s H vs Q E hr h=>?_)
 ·obtain ⟨a,rs,rfl,_⟩:=h
  rfl
 obtain ⟨a,rs,rfl,hR,h0,q⟩:=h
 obtain ⟨xs,hx,hp,hz⟩:=id hR
 have lx:xs.length=rs.length:=Paired.length hp
 refine ⟨_,(a0E (a0M (a0K a6Y (a0I (b4L (K:=K) rfl rfl) rfl B.max (by decide +kernel) (a0A (a6M ["up", "places"] [none,none]  (by kernel_rfl) rfl (a0Z (K:=K) rfl (pv 0)) (λ _ _ _ _ _=>(a3S (K:=K) (n:=2) rfl rfl (a1H (a0L (i:=0) (show (["up", "places"]:List Str).Nodup by decide +kernel) rfl (Or.inl rfl)) (a1H (a0L (i:=1) (show (["up", "places"]:List Str).Nodup by decide +kernel) rfl (Or.inl rfl)) a3P)))) (λ _ _ _ _ _=>a2J) (λ _ _ _ _ _=>(a0I (a0R (K:=K) rfl) rfl B.len (by decide +kernel) (a0A (pv 1) a0B)))) a0B)) a0D))),?_⟩
 refine ⟨_,rfl,a,rfl,⟨_,hx⟩,?_⟩
 refine a7B (λ j=>(rs[j]?).map λ r=>V.int ((r.2.length:Nat):Int)) hx (by omega) (λ j x H3 N hj s3 hN=>?_) (λ H3 p3 H4 s3 n3=>?_)
 ·obtain ⟨r,hr,⟨p,b,rfl,hT,hb,_⟩⟩:=a1C hp hj
  have hN':=hN H3 s3
  rw [hr] at hN'
  refine ⟨p,_,rfl,s3.tupq hT,rfl,_,_,rfl,_,_,rfl,rfl,?_⟩
  refine ⟨_,rfl,b,_,rfl,.inl (s3.seq hb),?_⟩
  rw [List.length_map]
  exact hN'
 ·have e:(List.range xs.length).filterMap (λ j=>(rs[j]?).map λ r=>V.int ((r.2.length:Nat):Int))=(lens rs).map V.int:=by
   rw [lx]
   have:=b8D (λ r:Row=>some (V.int ((r.2.length:Nat):Int))) rs
   unfold lens
   rw [List.map_map]
   refine Eq.trans (a7W λ j _=>?_) (this.trans (a2X λ r _=>rfl))
   cases rs[j]? <;> rfl
  rw [e] at n3
  refine ⟨p3,lens rs,rfl,SqL.of n3.here,by unfold lens; rw [List.length_map]; exact h0,λ M hM hle=>?_⟩
  exact ⟨_,_,rfl,rfl,q M H4 (s3.trans n3.same) hM hle⟩
end
abbrev a7I:Stmt:=top 39
theorem sc_order_of:FnScope ["graph", "tree", "order", "up", "places"] ["graph", "tree"] (a0F a7I):=⟨rfl,rfl,rfl,by decide +kernel,rfl,by decide +kernel,by decide +kernel⟩
theorem b8E:∀ {xs:List Int} {lo hi:Int},xs.Pairwise (· < ·)->(∀ x∈xs,lo<=x/\x < hi)->xs.length<=(hi - lo).toNat
 | [],_,_,_,_=>Nat.zero_le _
 | a::r,lo,hi,pw,h=>by
  obtain ⟨p1,p2⟩:=List.pairwise_cons.mp pw
  have:=b8E (lo:=a+1) (hi:=hi) p2 λ x hx=>⟨by have:=p1 x hx; omega,(h x (List.mem_cons_of_mem _ hx)).2⟩
  have ha:=h a List.mem_cons_self
  rw [List.length_cons]
  omega
theorem b5L {n:Nat} {rs:List Row} (ok:∀ k < rs.length,a1N n rs k=true) (hn:n<=10) {k:Nat} (hk:k < rs.length):(a0G rs k).2.length<=10:=by
 have o:=ok k hk
 unfold a1N at o
 rw [Bool.and_eq_true] at o
 obtain ⟨h1,h2⟩:=(a2C _ _).mp o.2
 have:=b8E h2 h1
 omega
def b5M (K:Φρ):Sp:=λ vs H Q _=>∃ (g:V) (n:Nat) (ts:List ζζ) (a:Addr) (rs:List Row),vs=[g,.ref a]/\GraphV K H g n ts/\RowsAt K H a rs/\Tree n rs/\(∀ t∈ts,∃ r∈rs,t.1∈r.2/\t.2∈r.2)/\n<=10 /\
 ∀ p H',Same H H'->H p=none->H' p=some (.lst (natV (ordN rs)))->Q (.ref p) H'
section
variable {P:Program} {w:World} {K:Φρ} {mg:Str->Option Value} {base:Heap}
abbrev DZ25 (K:PySem.W.Frag) (mg:Str->Option Value):=Dn K mg "order_of" a7I ["graph", "tree"]
set_option maxHeartbeats 4000000 in
theorem b1B (B:Bl mg) (dZ21:DZ21 K mg) (dZ17:DZ17 K mg) (dZ19:DZ19 K mg) (dZ24:DZ24 K mg) (dZ20:DZ20 K mg) (dZ30:DZ30 K mg) (dZ27:DZ27 K mg) (dZ32:DZ32 K mg) (dZ18:DZ18 K mg) (dZ14:DZ14 K mg) (dZ15:DZ15 K mg) (dZ25:DZ25 K mg):FnOk P w K mg base CX0 6 dZ25.f dZ25.fd ["graph", "tree"] (b5M K):=by
 have gZ15:FnOk P w K mg base CX0 5 _ _ _ _:=b2C B dZ21 dZ17 dZ19 dZ20 dZ30 dZ27 dZ32 dZ18 dZ14 dZ15
 have gZ24:FnOk P w K mg base CX0 5 _ _ _ _:=(b5C B dZ24).mono (by decide)
 refine dZ25.F.ok sc_order_of (λ vs H Q E h=>?_) (λ cdv A outer s H vs Q E hr h=>?_)
 ·obtain ⟨g,n,ts,a,rs,rfl,_⟩:=h
  rfl
 obtain ⟨g,n,ts,a,rs,rfl,hG,hR,T,ht,n10,q⟩:=h
 refine ⟨_,(a0C (a1E (a0H a4U (a0J gZ15 hr rfl dZ15.m dZ15.F.kp dZ15.b .nil a1A (a0A (pv 0) (a0A (pv 1) a0B))) a1Y (a0O _))
   (a0E b1I)
   a0N)
   (a0C (a0Q (i:=2) sc_order_of.nd rfl (Or.inl rfl) (a1Q a0B))
   (a0C (a2A PassesOwn.never rfl (a0Z (K:=K) rfl (pv 1)) (a3S (K:=K) (n:=2) rfl rfl (a1H (a0L (i:=3) sc_order_of.nd rfl (Or.inl rfl)) (a1H (a0L (i:=4) sc_order_of.nd rfl (Or.inl rfl)) a3P)))
   (a0E (a0Q (i:=2) sc_order_of.nd rfl (Or.inl rfl) (a0K a2Q (a0J gZ24 hr rfl dZ24.m dZ24.F.kp dZ24.b .nil a1A (a0A (pv 4) (a0A (pv 2) a0B))) (pv 2)))))
   (a0E (a0M (pv 2)))))),?_⟩
 refine ⟨_,rfl,_,rfl,g,n,ts,a,rs,rfl,by omega,hG,hR,λ v H1 s1 fv=>?_⟩
 rw [b2T T ht] at fv
 have fv':v = .non:=fv
 subst fv'
 refine ⟨rfl,_,rfl,iteF ?_⟩
 refine ⟨(by show 0<=1000; decide),λ r0 H2 n2=>?_⟩
 obtain ⟨ys,hy,hpr,hz⟩:=(hR.same s1).same n2.same
 have ly:ys.length=rs.length:=Paired.length hpr
 refine ⟨_,rfl,a,rfl,⟨_,hy⟩,?_⟩
 refine a3X (xs:=ys) (λ i σ H'=>∃ (po:Addr) (uu pp:Option V),σ=[some g,some (.ref a),some (.ref po),uu,pp]/\Same H2 H'/\H po=none/\H' po=some (.lst ((ordI (rs.take i)).map V.int))/\(ordI (rs.take i)).length<=10*i) ⟨r0,none,none,rfl,Same.refl _,s1.free n2.fresh,by rw [List.take_zero]; exact n2.here,by rw [List.take_zero]; exact Nat.le_refl _⟩ (λ i σ H' _ ⟨_,_,_,_,s,_⟩=>s.seq hy) ?_ ?_
 ·rintro i x σ H3 hx ⟨po,uu,pp,rfl,s3,fpo,hpo,lpo⟩
  obtain ⟨row,hrow,⟨pt,b,rfl,hT,hb,_⟩⟩:=a1C hpr hx
  obtain ⟨hil,hix⟩:=List.getElem?_eq_some_iff.mp hrow
  have er:a0G rs i=row:=by unfold a0G; rw [τα,hrow]; rfl
  have l10:=b5L T.ok n10 hil
  have l20:=T.len
  refine ⟨pt,_,rfl,s3.tupq hT,rfl,_,_,rfl,_,_,rfl,rfl,?_⟩
  refine ⟨_,rfl,_,rfl,b,po,row.2,_,rfl,s3.seq hb,SqL.of hpo,by rw [<- er]; omega,λ H4 p5 H5 s4 n5=>?_⟩
  have s35:=s4.trans n5.same
  have hf:(b5A row.2 (ordI (rs.take i))).length<=10:=by rw [<- er]; exact Nat.le_trans (List.length_filter_le _ _) l10
  refine ⟨_,rfl,p5,po,_,_,rfl,rfl,n5.here,s35 _ _ hpo,(by rw [List.length_map,List.length_map]; omega),λ p6 H6 n6=>?_⟩
  rw [<- List.map_append] at n6
  have e:ordI (rs.take (i+1))=b5A row.2 (ordI (rs.take i))++ordI (rs.take i):=by
   rw [a8E hil,a6B,er]; rfl
  rw [e]
  refine ⟨p6,_,_,rfl,s3.trans (s35.trans n6.same),s1.free (n2.same.free (s3.free (s35.free n6.fresh))),n6.here,?_⟩
  rw [List.length_append]; omega
 ·rintro σ H3 ⟨po,uu,pp,rfl,s3,fpo,hpo,lpo⟩
  rw [ly,List.take_length] at hpo
  refine ⟨_,rfl,q po H3 (s1.trans (n2.same.trans s3)) fpo ?_⟩
  rw [hpo,(b2B T).eq]
  unfold natI natV
  rw [List.map_map]; rfl
end
theorem b2D:∀ (l:List Int) (m:Int),m<=l.foldl max m/\(∀ a∈l,a<=l.foldl max m)/\(l.foldl max m=m\/l.foldl max m∈l)
 | [],m=>⟨Int.le_refl _,λ a h=>absurd h List.not_mem_nil,.inl rfl⟩
 | x::r,m=>by
  obtain ⟨h1,h2,h3⟩:=b2D r (max m x)
  rw [List.foldl_cons]
  refine ⟨by omega,λ a ha=>?_,?_⟩
  ·rcases List.mem_cons.mp ha with rfl | ha
   ·omega
   ·exact h2 a ha
  ·rcases h3 with h3 | h3
   ·by_cases c:m<=x
    ·right
     rw [h3,show max m x=x by omega]
     exact List.mem_cons_self
    ·left
     rw [h3]; omega
   ·exact .inr (List.mem_cons_of_mem _ h3)
theorem c2E {l:List Int} {m M:Int} (hM:M∈l) (h:∀ a∈l,a<=M) (h0:∀ a∈l,m<=a):M=l.foldl max m:=by
 obtain ⟨h1,h2,h3⟩:=b2D l m
 have a1:=h2 M hM
 rcases h3 with h3 | h3
 ·have:=h0 M hM
  omega
 ·have:=h _ h3
  omega
abbrev a4O:Stmt:=top 38
theorem a6R:FnScope ["graph", "order"] ["graph", "order"] (a0F a4O):=⟨rfl,rfl,rfl,by decide +kernel,rfl,by decide +kernel,by decide +kernel⟩
def a7J (n:Nat) (ts:List ζζ) (os:List Nat):Int:=((List.range n).map λ j=>(((a3F n ts os j).length:Nat):Int)).foldl max (-1)
def b7B (K:Φρ):Sp:=λ vs H Q _=>∃ (g:V) (n:Nat) (ts:List ζζ) (a:Addr) (os:List Nat),vs=[g,.ref a]/\GraphV K H g n ts/\(∀ t∈ts,0<=t.1/\t.1 < t.2/\t.2 < (n:Int))/\SqL K H a (natV os)/\os.Perm (List.range n)/\n<=10 /\
 ∀ H',Same H H'->Q (.int (a7J n ts os)) H'
section
variable {P:Program} {w:World} {K:Φρ} {mg:Str->Option Value} {base:Heap}
abbrev DZ26 (K:PySem.W.Frag) (mg:Str->Option Value):=Dn K mg "order_width" a4O ["graph", "order"]
set_option maxHeartbeats 4000000 in
theorem a6S (B:Bl mg) (dZ21:DZ21 K mg) (dZ17:DZ17 K mg) (dZ19:DZ19 K mg) (dZ24:DZ24 K mg) (dZ28:DZ28 K mg) (dZ16:DZ16 K mg) (dZ31:DZ31 K mg) (dZ29:DZ29 K mg) (dZ22:DZ22 K mg) (dZ26:DZ26 K mg):FnOk P w K mg base CX0 6 dZ26.f dZ26.fd ["graph", "order"] (b7B K):=by
 have gZ22:FnOk P w K mg base CX0 5 _ _ _ _:=b6V B dZ21 dZ17 dZ19 dZ24 dZ28 dZ16 dZ31 dZ29 dZ22
 refine dZ26.F.ok a6R (λ vs H Q E h=>?_) (λ cdv A outer s H vs Q E hr h=>?_)
 ·obtain ⟨g,n,ts,a,os,rfl,_⟩:=h
  rfl
 obtain ⟨g,n,ts,a,os,rfl,hG,okt,hA,hp,n10,q⟩:=h
 refine ⟨_,(a0E (a0M (b9F (K:=K) rfl rfl B.max (a0A (a6M ["places"] [none]  (by kernel_rfl) rfl (a0Z (K:=K) rfl (a0J gZ22 hr rfl dZ22.m dZ22.F.kp dZ22.b .nil a1A (a0A (pv 0) (a0A (pv 1) a0B)))) (λ _ _ _ _ _=>(a0L (i:=0) (show (["places"]:List Str).Nodup by decide +kernel) rfl (Or.inl rfl))) (λ _ _ _ _ _=>a2J) (λ _ _ _ _ _=>(a0I (a0R (K:=K) rfl) rfl B.len (by decide +kernel) (a0A (pv 0) a0B)))) a0B) (b8N (b3G a8Q a0D) c1D)))),?_⟩
 refine ⟨_,rfl,_,rfl,g,n,ts,a,os,rfl,hG,okt,hA,hp,n10,λ p qs H1 s1 f1 h1 lq fq pq nl=>⟨p,rfl,⟨_,SqL.of h1⟩,?_⟩⟩
 refine a7B (λ j=>some (.int (((a3F n ts os j).length:Nat):Int))) (SqL.of h1) (by rw [List.length_map]; omega) (λ j x H2 N hj s2 hN=>?_) (λ H2 p2 H3 s2 n3=>?_)
 ·rw [List.getElem?_map] at hj
  obtain ⟨qj,hq,rfl⟩:=Option.map_eq_some_iff.mp hj
  have g:=s2 _ _ (nl.at_ j qj hq)
  refine ⟨_,rfl,qj,_,rfl,.inl (SqL.of g),?_⟩
  dsimp only
  rw [List.length_map]
  exact hN H2 s2
 ·have e:(List.range (qs.map V.ref).length).filterMap (λ j=>some (V.int (((a3F n ts os j).length:Nat):Int)))=((List.range n).map λ j=>(((a3F n ts os j).length:Nat):Int)).map V.int:=by
   rw [List.length_map,lq,List.map_map]
   exact a2X λ _ _=>rfl
  rw [e] at n3
  have s3:Same H H3:=s1.trans (s2.trans n3.same)
  refine ⟨_,rfl,p2,_,_,rfl,rfl,SqL.of n3.here,λ z=>?_,λ M hM hall=>?_⟩
  ·have:=q H3 s3
   unfold a7J at this
   rw [z] at this
   exact this
  ·have:=q H3 s3
   unfold a7J at this
   rw [<- c2E hM hall (λ a ha=>by
    obtain ⟨j,_,rfl⟩:=List.mem_map.mp ha
    omega)] at this
   exact this
end
end K
namespace K
open PySem L2 Lw Bg
abbrev a6E:Stmt:=top 41
theorem b0B:FnScope ["_law_script", "_law_k"] ["_law_script", "_law_k"] (a0F a6E):=⟨rfl,rfl,rfl,by decide +kernel,rfl,by decide +kernel,by decide +kernel⟩
def b9Z (K:Φρ):Sp:=λ vs H Q _=>∃ (a:Addr) (ns:List Int) (k:Int),vs=[.ref a,.int k]/\Scr K H a ns/\ns.length<=63/\0<=k/\k<=1000/\∀ z,Q (.int z) H
theorem a2O {rs:List Row} {r:Row} {k:Nat} (h:k < rs.length):a0G (rs++[r]) k=a0G rs k:=by
 unfold a0G
 rw [τα,τα,List.getElem?_append_left h]
theorem a4P {rs:List Row} {r:Row}:a0G (rs++[r]) rs.length=r:=by
 unfold a0G
 rw [τα,List.getElem?_append_right (Nat.le_refl _)]
 simp
section
variable {P:Program} {w:World} {K:Φρ} {mg:Str->Option Value} {base:Heap}
abbrev DZ2 (K:PySem.W.Frag) (mg:Str->Option Value):=Dn K mg "_law_cell" a6E ["_law_script", "_law_k"]
set_option maxHeartbeats 4000000 in
theorem a2U (B:Bl mg) (dZ2:DZ2 K mg):FnOk P w K mg base CX0 1 dZ2.f dZ2.fd ["_law_script", "_law_k"] (b9Z K):=by
 refine dZ2.F.ok b0B (λ vs H Q E h=>?_) (λ cdv A outer s H vs Q E hr h=>?_)
 ·obtain ⟨a,ns,k,rfl,_⟩:=h
  rfl
 obtain ⟨a,ns,k,rfl,hS,h63,h0,h1,q⟩:=h
 refine ⟨_,(a0C (a1E (a0H b2J (pv 1) (a0I (a0R (K:=K) rfl) rfl B.len (by decide +kernel) (a0A (pv 0) a0B)) (a0O _))
   (a0E (a0M (a0U (a0X (K:=K) rfl) (pv 0) (pv 1) (λ _ _=>rfl))))
   a0N)
   (a0C (a1E (a0H a2V (a0I (a0R (K:=K) rfl) rfl B.len (by decide +kernel) (a0A (pv 0) a0B)) a0D (a0O _))
   (a0E (a0M (a0K a1R (a0K a3C (a0K a3C (pv 1) (pv 1)) a0D) a0D)))
   a0N)
   (a0E (a0M (a0K a1R (a0K a3C (a0K a1M (a0U (a0X (K:=K) rfl) (pv 0) (a0K a1M (a0K a3C (pv 1) a0D) (a0I (a0R (K:=K) rfl) rfl B.len (by decide +kernel) (a0A (pv 0) a0B))) (λ _ _=>rfl)) a0D) a0D) (a0K a3C (a0K a3C (pv 1) (pv 1)) a0D)))))),?_⟩
 have hl:(ns.map V.int).length=ns.length:=List.length_map _
 refine ⟨_,rfl,_,rfl,a,_,rfl,.inl hS.seq,_,_,rfl,rfl,_,rfl,?_⟩
 refine ite2 (λ c=>?_) (λ c=>?_)
 ·have c':k < (((ns.map V.int).length:Nat):Int):=of_decide_eq_true c
  rw [hl] at c'
  exact ⟨_,rfl,_,rfl,a,_,_,_,rfl,rfl,hS.seq,a7V h0 c',q _⟩
 refine ⟨_,rfl,a,_,rfl,.inl hS.seq,rfl,_,rfl,?_⟩
 refine ite2 (λ c2=>?_) (λ c2=>?_)
 ·exact ⟨_,rfl,_,rfl,_,_,rfl,rfl,.inl ⟨by omega,by omega⟩,_,_,rfl,rfl,.inr ⟨by decide,by decide⟩,_,_,rfl,rfl,q _⟩
 ·have c2':¬ V.int (((ns.map V.int).length:Nat):Int)=V.int 0:=of_decide_eq_false (Bool.eq_false_iff.mpr c2)
  rw [hl] at c2'
  have z':(0:Int) < (ns.length:Int):=by
   rcases Nat.eq_zero_or_pos ns.length with e | e
   ·exact absurd (by rw [e]; rfl) c2'
   ·omega
  have m0:=Int.emod_nonneg (k*3) (show (ns.length:Int)≠0 by omega)
  have m1:=Int.emod_lt_of_pos (k*3) z'
  exact ⟨_,rfl,_,rfl,_,_,rfl,rfl,.inr ⟨by decide,by decide⟩,_,rfl,a,_,rfl,.inl hS.seq,_,_,rfl,rfl,(by rw [hl]; exact z'),a,_,_,_,rfl,rfl,hS.seq,(by rw [hl]; exact a7V m0 m1),_,_,rfl,rfl,(show (0:Int) < _ by decide),_,_,rfl,rfl,.inr ⟨by decide,by decide⟩,_,rfl,_,rfl,_,_,rfl,rfl,.inl ⟨by omega,by omega⟩,_,_,rfl,rfl,.inr ⟨by decide,by decide⟩,_,_,rfl,rfl,q _⟩
end
abbrev a4Q:Stmt:=top 42
theorem sc__law_turned:FnScope ["_law_script", "_law_n", "_law_turned_here", "_law_v"] ["_law_script", "_law_n"] (a0F a4Q):=⟨rfl,rfl,rfl,by decide +kernel,rfl,by decide +kernel,by decide +kernel⟩
abbrev rng (n:Nat):List Int:=(List.range n).map λ i=>((i:Nat):Int)
theorem mem_rng {n:Nat} {v:Int}:v∈rng n↔0<=v/\v < (n:Int):=by
 rw [List.mem_map]
 constructor
 ·rintro ⟨i,hi,rfl⟩
  have:=List.mem_range.mp hi
  omega
 ·rintro ⟨h0,h1⟩
  exact ⟨v.toNat,List.mem_range.mpr (by omega),by omega⟩
theorem b0C (n:Nat):(rng n).Nodup:=by
 unfold List.Nodup
 rw [List.pairwise_map]
 exact List.pairwise_lt_range.imp λ h=>by omega
def b7C (K:Φρ):Sp:=λ vs H Q _=>∃ (a:Addr) (ns:List Int) (n:Nat),vs=[.ref a,.int n]/\Scr K H a ns/\ns.length<=63/\n<=10/\∀ r us H',New H r (.lst (List.map V.int us)) H'->us.Perm (rng n)->Q (.ref r) H'
section
variable {P:Program} {w:World} {K:Φρ} {mg:Str->Option Value} {base:Heap}
abbrev DZ13 (K:PySem.W.Frag) (mg:Str->Option Value):=Dn K mg "_law_turned" a4Q ["_law_script", "_law_n"]
set_option maxHeartbeats 4000000 in
theorem a6T (B:Bl mg) (dZ2:DZ2 K mg) (dZ13:DZ13 K mg):FnOk P w K mg base CX0 2 dZ13.f dZ13.fd ["_law_script", "_law_n"] (b7C K):=by
 have gZ2:FnOk P w K mg base CX0 1 _ _ _ _:=a2U B dZ2
 refine dZ13.F.ok sc__law_turned (λ vs H Q E h=>?_) (λ cdv A outer s H vs Q E hr h=>?_)
 ·obtain ⟨a,ns,n,rfl,_⟩:=h
  rfl
 obtain ⟨a,ns,n,rfl,hS,h63,hn,q⟩:=h
 refine ⟨_,(a0C (a0Q (i:=2) sc__law_turned.nd rfl (Or.inl rfl) (a1Q a0B))
   (a0C (a2A PassesOwn.never rfl (a1L rfl B.range (a0A (pv 1) a0B)) (a0L (i:=3) sc__law_turned.nd rfl (Or.inl rfl))
   (a0E (a3H (a5E (K:=K) rfl PySem.F.plainAttrs_list PySem.F.slot_list_insert PySem.F.type_list_insert b2O (pv 2) (a0A (a0K a1M (a0J gZ2 hr rfl dZ2.m dZ2.F.kp dZ2.b .nil a1A (a0A (pv 0) (a0A (a0K a1R a0D (pv 3)) a0B))) (a0K a1R (pv 3) a0D)) (a0A (pv 3) a0B))))))
   (a0E (a0M (pv 2))))),?_⟩
 refine ⟨(by show 0<=1000; decide),λ r H0 nw=>?_⟩
 refine ⟨_,rfl,_,rfl,by omega,by omega,?_⟩
 rw [Int.toNat_natCast]
 refine a1T (n:=n) (λ i σ H'=>∃ (us:List Int) (v:Option V),σ=[some (.ref a),some (.int n),some (.ref r),v]/\New H r (.lst (us.map V.int)) H'/\us.Perm (rng i)) ⟨[],none,rfl,nw,.nil⟩ ?_ ?_
 ·rintro i σ H1 hi ⟨us,v,rfl,n1,pm⟩
  have ei:(0+(i:Int))=((i:Nat):Int):=by omega
  rw [ei]
  have lu:us.length=i:=by rw [pm.length_eq]; simp
  refine ⟨_,rfl,.inl ⟨rfl,_,SqL.of n1.here⟩,_,rfl,_,rfl,_,_,rfl,rfl,a,ns,_,rfl,hS.same n1.same,h63,(by omega),(by omega),λ z=>?_⟩
  have m0:=Int.emod_nonneg z (show (i:Int)+1≠0 by omega)
  have m1:=Int.emod_lt_of_pos z (show (0:Int) < (i:Int)+1 by omega)
  refine ⟨_,rfl,_,_,rfl,rfl,_,_,rfl,rfl,(show (0:Int) < _ by omega),_,rfl,r,_,_,_,rfl,rfl,n1.here,(by rw [List.length_map]; omega),m0,(by rw [List.length_map]; omega),λ H2 ch=>?_⟩
  refine ⟨us.take (z % ((i:Int)+1)).toNat++(i:Int)::us.drop (z % ((i:Int)+1)).toNat,_,rfl,⟨n1.fresh,?_,λ b hb=>(ch.rest b hb).trans (n1.rest b hb)⟩,?_⟩
  ·rw [ch.here,<- List.map_take,<- List.map_drop,List.map_append,List.map_cons]
  ·refine List.perm_middle.trans ?_
   rw [List.take_append_drop]
   have e:rng (i+1)=rng i++[(i:Int)]:=by unfold rng; rw [List.range_succ,List.map_append]; rfl
   rw [e]
   exact (pm.cons _).trans (List.perm_append_singleton _ _).symm
 ·rintro σ H1 ⟨us,v,rfl,n1,pm⟩
  exact ⟨_,rfl,q r us H1 n1 pm⟩
end
theorem a8H {K:Φρ}:PySem.W.kitOne K (.type "list") (.type "list")=some true:=by rfl
def dueF (p:Int->Bool) (i:Nat):List Int:=((List.range i).map λ j=>((j:Nat):Int)).filter p
theorem b7D (p:Int->Bool) (i:Nat):dueF p (i+1)=dueF p i++(if p i=true then [(i:Int)] else []):=by
 unfold dueF
 rw [List.range_succ,List.map_append,List.filter_append]
 congr 1
 show List.filter p [(i:Int)]=_
 rw [List.filter_cons]
 split <;> simp
theorem b5N (p:Int->Bool) (i:Nat):(dueF p i).length<=i:=by
 unfold dueF
 refine Nat.le_trans (List.length_filter_le _ _) ?_
 simp
theorem b8F (p:Int->Bool) (i:Nat):(dueF p i).Pairwise (· < ·):=by
 unfold dueF
 refine List.Pairwise.filter _ ?_
 rw [List.pairwise_map]
 exact List.pairwise_lt_range.imp λ h=>by omega
theorem b5O {p:Int->Bool} {i:Nat} {v:Int}:v∈dueF p i↔0<=v/\v < i/\p v=true:=by
 unfold dueF
 rw [List.mem_filter,List.mem_map]
 constructor
 ·rintro ⟨⟨j,hj,rfl⟩,h⟩
  have:=List.mem_range.mp hj
  exact ⟨by omega,by omega,h⟩
 ·rintro ⟨h0,h1,h⟩
  exact ⟨⟨v.toNat,List.mem_range.mpr (by omega),by omega⟩,h⟩
abbrev a6F:Stmt:=top 43
theorem sc__law_kept:FnScope ["_law_old", "_law_cell_here", "_law_kept_here", "_law_bits", "_law_v"] ["_law_old", "_law_cell_here"] (a0F a6F):=⟨rfl,rfl,rfl,by decide +kernel,rfl,by decide +kernel,by decide +kernel⟩
abbrev a6G:Stmt:=top 44
theorem sc__law_tree:FnScope ["_law_script", "_law_turned_here", "_law_many", "_law_rows", "_law_used", "_law_k", "_law_size", "_law_up", "_law_bag"] ["_law_script", "_law_turned_here", "_law_many"] (a0F a6G):=⟨rfl,rfl,rfl,by decide +kernel,rfl,by decide +kernel,by decide +kernel⟩
def c2F (K:Φρ):Sp:=λ vs H Q _=>∃ (b:Addr) (c:Int) (os:List Int),vs=[.ref b,.int c]/\SqL K H b (os.map V.int)/\os.length<=900/\∀ r ks H',New H r (.lst (List.map V.int ks)) H'->List.Sublist ks os->Q (.ref r) H'
def c2G (K:Φρ):Sp:=λ vs H Q _=>∃ (a p:Addr) (ns us:List Int) (n many:Nat),vs=[.ref a,.ref p,.int many]/\Scr K H a ns/\ns.length<=63/\H p=some (.lst (us.map V.int))/\us.Perm (rng n)/\n<=10/\0 < many/\many<=7 /\
 ∀ l xs rs H',Same H H'->H l=none->H' l=some (.lst xs)->Paired (RowL l H') xs rs->Tree n rs->many<=rs.length->Q (.ref l) H'
theorem b2Y {n:Int} {rs:List Row} {r:Row} {v:Int} {k:Nat} (hk:k < rs.length) (ok:∀ k < rs.length,a1N n rs k=true):a2N (rs++[r]) v k=a2N rs v k:=by
 unfold a2N
 rw [a2O hk]
 congr 2
 unfold a4V
 have o:=ok k hk
 unfold a1N upOk at o
 cases e:(a0G rs k).1 with
 | none=>rfl
 | some i =>
  rw [e] at o
  dsimp only
  by_cases z:k=0
  ·rw [if_pos z] at o; cases o
  ·rw [if_neg z] at o
   rw [Bool.and_eq_true] at o
   have b:=of_decide_eq_true o.1
   rw [a2O (by omega)]
theorem b5P {n:Int} {rs:List Row} {r:Row} {v:Int} (ok:∀ k < rs.length,a1N n rs k=true):a2G (rs++[r]) v=a2G rs v++(if a2N (rs++[r]) v rs.length=true then [rs.length] else []):=by
 unfold a2G
 rw [List.length_append,List.length_singleton,List.range_succ,List.filter_append]
 congr 1
 ·exact List.filter_congr λ k hk=>b2Y (List.mem_range.mp hk) ok
 ·rw [List.filter_cons]
  split <;> simp
theorem b7E {rs:List Row} {v:Int} (h:∀ r∈rs,v ∉ r.2):a2G rs v=[]:=by
 unfold a2G
 refine List.filter_eq_nil_iff.mpr λ k hk=>?_
 have hk':=List.mem_range.mp hk
 have:=h _ (List.mem_of_getElem? (a1Z hk'))
 unfold a2N has
 rw [decide_eq_false this]
 simp
theorem b1C {xs:List Int} (h:xs.Pairwise (· < ·)):xs.Nodup:=h.imp λ h=>by omega
theorem b7F {xs:List Int} (le:xs.Pairwise (· <= ·)) (nd:xs.Nodup):xs.Pairwise (· < ·):=by
 unfold List.Nodup at nd
 exact (le.and nd).imp λ h=>by omega
section
variable {P:Program} {w:World} {K:Φρ} {mg:Str->Option Value} {base:Heap}
abbrev DZ6 (K:PySem.W.Frag) (mg:Str->Option Value):=Dn K mg "_law_kept" a6F ["_law_old", "_law_cell_here"]
set_option maxHeartbeats 4000000 in
theorem b0D (B:Bl mg) (dZ6:DZ6 K mg):FnOk P w K mg base CX0 1 dZ6.f dZ6.fd ["_law_old", "_law_cell_here"] (c2F K):=by
 refine dZ6.F.ok sc__law_kept (λ vs H Q E h=>?_) (λ cdv A outer s H vs Q E hr h=>?_)
 ·obtain ⟨b,c,os,rfl,_⟩:=h
  rfl
 obtain ⟨b,c,os,rfl,hB,hz,q⟩:=h
 refine ⟨_,(a0C (a0Q (i:=2) sc__law_kept.nd rfl (Or.inl rfl) (a1Q a0B))
   (a0C (a0Q (i:=3) sc__law_kept.nd rfl (Or.inl rfl) (a0K a1M (a0K a3C (a0K a1M (pv 1) a0D) a0D) a0D))
   (a0C (a2A PassesOwn.never rfl (a0Z (K:=K) rfl (pv 0)) (a0L (i:=4) sc__law_kept.nd rfl (Or.inl rfl))
   (a3I (a1E (a0H a5Q (a0K a1M (pv 3) a0D) a0D (a0O _))
   (a0E (a3H (a5E (K:=K) rfl PySem.F.plainAttrs_list PySem.F.slot_list_append PySem.F.type_list_append a2B (pv 2) (a0A (pv 4) a0B))))
   a0N)
   (a0E (a0Q (i:=3) sc__law_kept.nd rfl (Or.inl rfl) (a0K a4C (pv 3) a0D)))))
   (a0E (a0M (pv 2)))))),?_⟩
 refine ⟨(by show 0<=1000; decide),λ r H0 nw=>?_⟩
 refine ⟨_,rfl,_,_,rfl,rfl,(show (0:Int) < _ by decide),_,_,rfl,rfl,.inr ⟨by decide,by decide⟩,_,_,rfl,rfl,(show (0:Int) < _ by decide),?_⟩
 refine ⟨_,rfl,b,rfl,⟨_,nw.same.seq hB⟩,?_⟩
 refine a3X (xs:=os.map V.int) (λ i σ H'=>∃ (ks:List Int) (bt:Int) (v:Option V),σ=[some (.ref b),some (.int c),some (.ref r),some (.int bt),v]/\New H r (.lst (ks.map V.int)) H'/\List.Sublist ks (os.take i)) ⟨[],_,none,rfl,nw,List.nil_sublist _⟩ (λ i σ H' _ ⟨ks,bt,v,_,n1,_⟩=>n1.same.seq hB) ?_ ?_
 ·rintro i x σ H1 hx ⟨ks,bt,v,rfl,n1,sb⟩
  rw [List.getElem?_map] at hx
  obtain ⟨u,hu,rfl⟩:=Option.map_eq_some_iff.mp hx
  have et:os.take (i+1)=os.take i++[u]:=by rw [List.take_succ,hu]; rfl
  have lk:=sb.length_le
  rw [List.length_take] at lk
  refine ⟨λ σ' H'=>∃ ks':List Int,σ'=[some (.ref b),some (.int c),some (.ref r),some (.int bt),some (.int u)]/\New H r (.lst (ks'.map V.int)) H'/\List.Sublist ks' (os.take (i+1)),?_,?_⟩
  ·refine ⟨_,rfl,_,_,rfl,rfl,(show (0:Int) < _ by decide),_,_,rfl,rfl,_,rfl,?_⟩
   refine ite2 (λ d=>?_) (λ d=>?_)
   ·refine ⟨_,rfl,.inl ⟨rfl,_,SqL.of n1.here⟩,_,rfl,r,_,_,rfl,rfl,n1.here,(by rw [List.length_map]; omega),λ H2 ch=>?_⟩
    refine ⟨ks++[u],rfl,⟨n1.fresh,by rw [ch.here,List.map_append]; rfl,λ b hb=>(ch.rest b hb).trans (n1.rest b hb)⟩,?_⟩
    rw [et]
    exact sb.append (List.Sublist.refl _)
   ·refine ⟨ks,rfl,n1,?_⟩
    rw [et]
    exact sb.trans (List.sublist_append_left _ _)
  ·rintro σ' H2 ⟨ks',rfl,n2,sb2⟩
   exact ⟨_,rfl,_,_,rfl,rfl,⟨by decide,by decide⟩,ks',_,_,rfl,n2,sb2⟩
 ·rintro σ H1 ⟨ks,bt,v,rfl,n1,sb⟩
  rw [List.length_map,List.take_length] at sb
  exact ⟨_,rfl,q r ks H1 n1 sb⟩
end
def c2H (K:Φρ) (a p l:Addr) (ns us:List Int) (n many:Nat) (H:Hp) (m:Nat) (σ:St) (H':Hp):Prop :=
 ∃ (xs:List V) (rs:List Row) (used:Nat) (vk vs vu vb:Option V),σ=[some (.ref a),some (.ref p),some (.int many),some (.ref l),some (.int used),vk,vs,vu,vb]/\Same H H'/\H' l=some (.lst xs)/\Paired (RowL l H') xs rs /\
  m=(many - rs.length)+(n - used)/\rs.length<=many+used/\rs.length<=17/\(∀ k < rs.length,a1N n rs k=true)/\(∀ v:Int,(∃ r∈rs,v∈r.2)↔v∈us.take used)/\∀ v:Int,(a2G rs v).length<=1
theorem c2I {n:Nat} {xs:List Int} (hn:n<=10) (h:setF n xs=true):xs.length<=10:=by
 obtain ⟨h1,h2⟩:=(a2C _ _).mp h
 have e:xs=dueF (λ v=>decide (v∈xs)) n:=c1R h2 (b8F _ _) λ v=>by
  rw [b5O]
  constructor
  ·intro hv
   have:=h1 v hv
   exact ⟨this.1,this.2,decide_eq_true hv⟩
  ·rintro ⟨_,_,hv⟩; exact of_decide_eq_true hv
 rw [e]
 exact Nat.le_trans (b5N _ _) hn
theorem c0A {n:Nat} {us:List Int} {rs:List Row} {used sz:Nat} {u:Option Int} {ks zs:List Int} (pm:us.Perm (rng n)) (ok:∀ k < rs.length,a1N n rs k=true) (mem:∀ v:Int,(∃ r∈rs,v∈r.2)↔v∈us.take used) (tp:∀ v:Int,(a2G rs v).length<=1)
  (hu:upOk rs.length u=true) (hk:∀ v∈ks,∃ i,u=some i/\v∈(a0G rs i.toNat).2) (ndk:ks.Nodup) (hz:zs.Perm ((us.drop used).take sz++ks)) (le:zs.Pairwise (· <= ·)) :
  (∀ k < (rs++[(u,zs)]).length,a1N n (rs++[(u,zs)]) k=true)/\(∀ v:Int,(∃ r∈rs++[(u,zs)],v∈r.2)↔v∈us.take (used+sz))/\∀ v:Int,(a2G (rs++[(u,zs)]) v).length<=1:=by
 have ndu:us.Nodup:=pm.nodup_iff.mpr (b0C n)
 have et:us.take (used+sz)=us.take used++(us.drop used).take sz:=List.take_add
 have nd2:(us.take used++(us.drop used).take sz).Nodup:=by rw [<- et]; exact ndu.sublist (List.take_sublist _ _)
 obtain ⟨_,ndt,dis⟩:=List.nodup_append.mp nd2
 have upi:∀ i,u=some i->0<=i/\i.toNat < rs.length:=λ i e=>by
  subst e
  unfold upOk at hu
  by_cases z:rs.length=0
  ·rw [if_pos z] at hu; cases hu
  ·rw [if_neg z] at hu
   have b:=of_decide_eq_true hu
   omega
 have ksold:∀ v∈ks,v∈us.take used:=λ v hv=>by
  obtain ⟨i,e,hm⟩:=hk v hv
  exact (mem v).mp ⟨_,List.mem_of_getElem? (a1Z (upi i e).2),hm⟩
 have ndz:zs.Nodup:=hz.nodup_iff.mpr (List.nodup_append.mpr ⟨ndt,ndk,λ x hx y hy e=>dis y (ksold y hy) x hx e.symm⟩)
 have memz:∀ v,v∈zs↔v∈(us.drop used).take sz\/v∈ks:=λ v=>by rw [hz.mem_iff,List.mem_append]
 have inn:∀ v∈us,0<=v/\v < (n:Int):=λ v hv=>mem_rng.mp (pm.mem_iff.mp hv)
 have setz:setF n zs=true:=(a2C _ _).mpr ⟨λ v hv=>by
  rcases (memz v).mp hv with h | h
  ·exact inn v (List.mem_of_mem_drop (List.mem_of_mem_take h))
  ·exact inn v (List.mem_of_mem_take (ksold v h)),b7F le ndz⟩
 refine ⟨λ k hk'=>?_,λ v=>?_,λ v=>?_⟩
 ·rw [List.length_append] at hk'
  have hk'':k < rs.length+1:=hk'
  by_cases e:k=rs.length
  ·subst e
   unfold a1N
   rw [a4P,hu,setz]
   rfl
  ·have kl:k < rs.length:=by omega
   have:=ok k kl
   unfold a1N at this ⊢
   rw [a2O kl]; exact this
 ·rw [et,List.mem_append,<- mem v]
  constructor
  ·rintro ⟨r,hr,hv⟩
   rcases List.mem_append.mp hr with hr | hr
   ·exact .inl ⟨r,hr,hv⟩
   ·rw [List.mem_singleton.mp hr] at hv
    rcases (memz v).mp hv with h | h
    ·exact .inr h
    ·exact .inl ((mem v).mpr (ksold v h))
  ·rintro (⟨r,hr,hv⟩ | h)
   ·exact ⟨r,List.mem_append_left _ hr,hv⟩
   ·exact ⟨_,List.mem_append_right _ (List.mem_singleton.mpr rfl),(memz v).mpr (.inl h)⟩
 ·rw [b5P ok]
  split
  ·rename_i c
   have hv:v∈(us.drop used).take sz:=by
    unfold a2N at c
    rw [a4P,Bool.and_eq_true] at c
    rcases (memz v).mp (of_decide_eq_true c.1) with h | h
    ·exact h
    ·exfalso
     obtain ⟨i,e,hm⟩:=hk v h
     have b:=upi i e
     have c2:=c.2
     unfold a4V at c2
     rw [e] at c2
     dsimp only at c2
     rw [a2O b.2] at c2
     unfold has at c2
     rw [decide_eq_true hm] at c2
     cases c2
   rw [b7E (λ r hr hm=>dis v ((mem v).mp ⟨r,hr,hm⟩) v hv rfl)]
   simp
  ·simpa using tp v
theorem c3P {hc A G:Prop} (b:hc->A) (f:(hc->A)->G):G:=f b
theorem c0B {xs:List V} {rs:List Row} {many:Nat} (lx:xs.length=rs.length) (c:decide (((xs.length:Nat):Int) < (many:Int))=true):rs.length < many:=by
 have:=of_decide_eq_true c
 omega
theorem c0C {xs:List V} {rs:List Row} {us:List Int} {many used n:Nat} (lx:xs.length=rs.length) (lu:us.length=n) (c:¬ decide (((xs.length:Nat):Int) < (many:Int))=true) (d:decide ((used:Int) < (((us.map V.int).length:Nat):Int))=true):many<=rs.length/\used < n:=by
 have c':¬ ((xs.length:Nat):Int) < (many:Int):=of_decide_eq_false (Bool.eq_false_iff.mpr c)
 have d':(used:Int) < (((us.map V.int).length:Nat):Int):=of_decide_eq_true d
 rw [List.length_map] at d'
 omega
section
variable {P:Program} {w:World} {K:Φρ} {mg:Str->Option Value} {base:Heap}
abbrev DZ12 (K:PySem.W.Frag) (mg:Str->Option Value):=Dn K mg "_law_tree" a6G ["_law_script", "_law_turned_here", "_law_many"]
set_option maxHeartbeats 8000000 in
theorem b0E (B:Bl mg) (dZ2:DZ2 K mg) (dZ6:DZ6 K mg) (dZ12:DZ12 K mg):FnOk P w K mg base CX0 2 dZ12.f dZ12.fd ["_law_script", "_law_turned_here", "_law_many"] (c2G K):=by
 have gZ2:FnOk P w K mg base CX0 1 _ _ _ _:=a2U B dZ2
 have gZ6:FnOk P w K mg base CX0 1 _ _ _ _:=b0D B dZ6
 refine dZ12.F.ok sc__law_tree (λ vs H Q E h=>?_) (λ cdv A outer s H vs Q E hr h=>?_)
 ·obtain ⟨a,p,ns,us,n,many,rfl,_⟩:=h
  rfl
 obtain ⟨a,p,ns,us,n,many,rfl,hS,h63,hp,pm,hn,m0,m7,q⟩:=h
 have lu:us.length=n:=by rw [pm.length_eq]; simp
 have ndu:us.Nodup:=pm.nodup_iff.mpr (b0C n)
 refine ⟨_,(a0C (a0Q (i:=3) sc__law_tree.nd rfl (Or.inl rfl) (a1Q a0B))
   (a0C (a0Q (i:=4) sc__law_tree.nd rfl (Or.inl rfl) a0D)
   (a0C (b1L PassesOwn.never (PW.pt (b2H (a0H b2J (a0I (a0R (K:=K) rfl) rfl B.len (by decide +kernel) (a0A (pv 3) a0B)) (pv 2) (a0O _)) (a6W (a0H b2J (pv 4) (a0I (a0R (K:=K) rfl) rfl B.len (by decide +kernel) (a0A (pv 1) a0B)) (a0O _)))))
   (a0C (a0Q (i:=5) sc__law_tree.nd rfl (Or.inl rfl) (a0I (a0R (K:=K) rfl) rfl B.len (by decide +kernel) (a0A (pv 3) a0B)))
   (a0C (a0Q (i:=6) sc__law_tree.nd rfl (Or.inl rfl) (a0K a1M (a0J gZ2 hr rfl dZ2.m dZ2.F.kp dZ2.b .nil a1A (a0A (pv 0) (a0A (a0K a1R a0D (a0K a3C a0D (pv 5))) a0B))) a0D))
   (a3I (a1E (PW.pt (a2L (a0H a2V (pv 5) a0D (a0O _)) (a1S (a0H a2V (a0K a1M (a0K a4C (a0J gZ2 hr rfl dZ2.m dZ2.F.kp dZ2.b .nil a1A (a0A (pv 0) (a0A a0D a0B))) a0D) a0D) a0D (a0O _)))))
   (a0E (a0Q (i:=6) sc__law_tree.nd rfl (Or.inl rfl) (a0K a1M (a0K a4C (a0J gZ2 hr rfl dZ2.m dZ2.F.kp dZ2.b .nil a1A (a0A (pv 0) (a0A a0D a0B))) a0D) a0D)))
   a0N)
   (a3I (a1E (a0H c2T (pv 5) (pv 2) (a0O _))
   (a0E (a0Q (i:=6) sc__law_tree.nd rfl (Or.inl rfl) (a0K a1R a0D (a0K a1M (pv 6) a0D))))
   a0N)
   (a0C (a0Q (i:=7) sc__law_tree.nd rfl (Or.inl rfl) a1Y)
   (a0C (a0Q (i:=8) sc__law_tree.nd rfl (Or.inl rfl) (a3Y (a3Z (K:=K) rfl) (pv 1) (a3Q (pv 4)) (a3Q (a0K a1R (pv 4) (pv 6)))))
   (a3I (a1E (a0H a5Q (pv 5) a0D (a0O _))
   (a0C (a0Q (i:=7) sc__law_tree.nd rfl (Or.inl rfl) (a0K a1M (a0J gZ2 hr rfl dZ2.m dZ2.F.kp dZ2.b .nil a1A (a0A (pv 0) (a0A (a0K a1R a0D (a0K a3C a0D (pv 5))) a0B))) (pv 5)))
   (a0E (a0Q (i:=8) sc__law_tree.nd rfl (Or.inl rfl) (a0K a2Q (pv 8) (a0J gZ6 hr rfl dZ6.m dZ6.F.kp dZ6.b .nil a1A (a0A (a0U (a0P (K:=K) rfl) (a0U (a0X (K:=K) rfl) (pv 3) (pv 7) (λ _ _=>rfl)) a0D (λ _ _=>rfl)) (a0A (a0J gZ2 hr rfl dZ2.m dZ2.F.kp dZ2.b .nil a1A (a0A (pv 0) (a0A (a0K a1R a0D (a0K a3C a0D (pv 5))) a0B))) a0B)))))))
   a0N)
   (a0C (a0Q (i:=4) sc__law_tree.nd rfl (Or.inl rfl) (a0K a1R (pv 4) (pv 6)))
   (a0E (a3H (a5E (K:=K) rfl PySem.F.plainAttrs_list PySem.F.slot_list_append PySem.F.type_list_append a2B (pv 3) (a0A (a0T (a0A (pv 7) (a0A (a0I (a5G (K:=K) rfl) rfl B.sorted (by decide +kernel) (a0A (pv 8) a0B)) a0B))) a0B)))))))))))))
   (a0E (a0M (pv 3)))))),?_⟩
 refine ⟨(by show 0<=1000; decide),λ l H0 nw=>?_⟩
 refine ⟨c2H K a p l ns us n many H,⟨_,[],[],0,none,none,none,none,rfl,nw.same,nw.here,.nil,rfl,Nat.zero_le _,Nat.zero_le _,λ k hk=>absurd hk (Nat.not_lt_zero _),λ v=>by simp,λ v=>by simp [a2G]⟩,?_⟩
 rintro m σ H1 ⟨xs,rs,used,vk,vs,vu,vb,rfl,s1,hl,hpr,em,b1,b2,ok,mem,tp⟩
 have lx:xs.length=rs.length:=Paired.length hpr
 have hp1:H1 p=some (.lst (us.map V.int)):=s1 _ _ hp
 have hS1:=hS.same s1
 have f0:H l=none:=nw.fresh
 refine ⟨_,rfl,l,_,rfl,.inl (SqL.of hl),_,rfl,_,_,rfl,rfl,_,rfl,?_⟩
 refine c3P (hc:=rs.length < many\/(many<=rs.length/\used < n)) ?body λ body=>ite2 (λ c=>iteT (body (.inl (c0B lx c)))) (λ c=>⟨_,rfl,_,rfl,p,_,rfl,.inl (SqL.of hp1),_,_,rfl,rfl,_,rfl,ite2 (λ d=>body (.inr (c0C lx lu c d))) (λ d=>?fin)⟩)
 case fin =>
  have c':¬ ((xs.length:Nat):Int) < (many:Int):=of_decide_eq_false (Bool.eq_false_iff.mpr c)
  have d':¬ (used:Int) < (((us.map V.int).length:Nat):Int):=of_decide_eq_false (Bool.eq_false_iff.mpr d)
  rw [List.length_map] at d'
  refine ⟨_,rfl,q l xs rs H1 s1 f0 hl hpr ⟨by omega,by omega,ok,λ v v0 v1=>?_,tp⟩ (by omega)⟩
  refine (mem v).mpr ?_
  rw [List.take_of_length_le (by omega)]
  exact pm.mem_iff.mpr (mem_rng.mpr ⟨v0,v1⟩)
 case body =>
  intro hc
  refine ⟨λ σ' H'=>∃ m',m' < m/\c2H K a p l ns us n many H m' σ' H',λ _ _ h=>h,?_⟩
  refine ⟨_,rfl,l,_,rfl,.inl (SqL.of hl),?_⟩
  rw [lx]
  refine ⟨_,rfl,_,rfl,_,_,rfl,rfl,.inl ⟨by decide,by decide⟩,_,_,rfl,rfl,a,ns,_,rfl,hS1,h63,(by omega),(by omega),λ z=>?_⟩
  refine ⟨_,_,rfl,rfl,(show (0:Int) < _ by decide),?_⟩
  have z0:=Int.emod_nonneg z (show (4:Int)≠0 by decide)
  have z1:=Int.emod_lt_of_pos z (show (0:Int) < 4 by decide)
  refine ⟨λ σ' H'=>∃ sz:Nat,σ'=[some (.ref a),some (.ref p),some (.int many),some (.ref l),some (.int used),some (.int (rs.length:Nat)),some (.int sz),vu,vb]/\H'=H1/\sz<=10,?_,?_⟩
  ·have keep:∃ sz:Nat,[some (V.ref a),some (.ref p),some (.int many),some (.ref l),some (.int used),some (.int (rs.length:Nat)),some (.int (z % 4)),vu,vb]=[some (V.ref a),some (.ref p),some (.int many),some (.ref l),some (.int used),some (.int (rs.length:Nat)),some (.int sz),vu,vb]/\H1=H1/\sz<=10:=by
    refine ⟨(z % 4).toNat,?_,rfl,by omega⟩
    have:(((z % 4).toNat:Nat):Int)=z % 4:=by omega
    rw [this]
   refine ⟨_,rfl,rfl,_,rfl,?_⟩
   refine ite2 (λ e=>?_) (λ e=>iteF keep)
   refine ⟨_,rfl,a,ns,_,rfl,hS1,h63,by decide,by decide,λ z7=>?_⟩
   refine ⟨_,_,rfl,rfl,⟨by decide,by decide⟩,_,_,rfl,rfl,(show (0:Int) < _ by decide),rfl,_,rfl,?_⟩
   refine ite2 (λ e2=>?_) (λ e2=>keep)
   refine ⟨_,rfl,a,ns,_,rfl,hS1,h63,by decide,by decide,λ z8=>?_⟩
   have w0:=Int.emod_nonneg (z8 / 24) (show (11:Int)≠0 by decide)
   have w1:=Int.emod_lt_of_pos (z8 / 24) (show (0:Int) < 11 by decide)
   refine ⟨_,_,rfl,rfl,⟨by decide,by decide⟩,_,_,rfl,rfl,(show (0:Int) < _ by decide),(z8 / 24 % 11).toNat,?_,rfl,by omega⟩
   have:(((z8 / 24 % 11).toNat:Nat):Int)=z8 / 24 % 11:=by omega
   rw [this]
   rfl
  rintro σ' H' ⟨sy,rfl,rfl,sy10⟩
  refine ⟨λ σ' H''=>∃ sz:Nat,σ'=[some (.ref a),some (.ref p),some (.int many),some (.ref l),some (.int used),some (.int (rs.length:Nat)),some (.int sz),vu,vb]/\H''=H'/\sz<=10/\(many<=rs.length->1<=sz),?_,?_⟩
  ·refine ⟨_,rfl,_,rfl,_,_,rfl,rfl,_,rfl,?_⟩
   refine ite2 (λ e=>?_) (λ e=>?_)
   ·have w0:=Int.emod_nonneg (sy:Int) (show (2:Int)≠0 by decide)
    have w1:=Int.emod_lt_of_pos (sy:Int) (show (0:Int) < 2 by decide)
    refine ⟨_,rfl,_,_,rfl,rfl,(show (0:Int) < _ by decide),_,_,rfl,rfl,(1+(sy:Int) % 2).toNat,?_,rfl,by omega,λ _=>by omega⟩
    have:(((1+(sy:Int) % 2).toNat:Nat):Int)=1+(sy:Int) % 2:=by omega
    rw [this]
    rfl
   ·have e':¬ (many:Int)<=((rs.length:Nat):Int):=of_decide_eq_false (Bool.eq_false_iff.mpr e)
    exact ⟨sy,rfl,rfl,by omega,λ h=>by omega⟩
  rintro σ' H'' ⟨sz,rfl,rfl,sz3,szm⟩
  refine ⟨_,rfl,_,rfl,_,rfl,_,rfl,_,rfl,_,_,rfl,rfl,_,rfl,p,_,rfl,SqL.of hp1,λ p2 H2 n2=>?_⟩
  have ec:((used:Int)+(sz:Int))=((used+sz:Nat):Int):=by omega
  rw [ec,b4M] at n2
  have s2:=s1.trans n2.same
  have hl2:H2 l=some (.lst xs):=n2.same _ _ hl
  have lsl:((us.drop used).take sz).length<=10:=Nat.le_trans (List.length_take_le _ _) sz3
  refine ⟨λ σ' H3=>∃ (u:Option Int) (pb:Addr) (ks:List Int),σ'=[some (.ref a),some (.ref p),some (.int many),some (.ref l),some (.int used),some (.int (rs.length:Nat)),some (.int sz),some (upV u),some (.ref pb)]/\Same H2 H3/\H3 pb=some (.lst (((us.drop used).take sz++ks).map V.int)) /\
   upOk rs.length u=true/\(∀ v∈ks,∃ i,u=some i/\v∈(a0G rs i.toNat).2)/\ks.Nodup/\ks.length<=10,?_,?_⟩
  ·refine ⟨_,rfl,_,_,rfl,rfl,_,rfl,?_⟩
   refine ite2 (λ e=>?_) (λ e=>?_)
   ·have e':(0:Int) < ((rs.length:Nat):Int):=of_decide_eq_true e
    refine ⟨_,rfl,_,rfl,_,_,rfl,rfl,.inl ⟨by decide,by decide⟩,_,_,rfl,rfl,a,ns,_,rfl,hS.same s2,h63,(by omega),(by omega),λ z5=>?_⟩
    have u0:=Int.emod_nonneg z5 (show ((rs.length:Nat):Int)≠0 by omega)
    have u1:=Int.emod_lt_of_pos z5 e'
    refine ⟨_,rfl,_,_,rfl,rfl,e',?_⟩
    obtain ⟨f,ef⟩:∃ f:Nat,z5 % ((rs.length:Nat):Int)=(f:Int):=⟨(z5 % ((rs.length:Nat):Int)).toNat,by omega⟩
    dsimp only
    rw [ef]
    have fl:f < rs.length:=by omega
    obtain ⟨v,hx,⟨pt,bb,rfl,hT,hbb,hbl,_⟩⟩:=a1F hpr (a1Z fl)
    have okf:=ok f fl
    unfold a1N at okf
    rw [Bool.and_eq_true] at okf
    have lf:=c2I hn okf.2
    refine ⟨_,rfl,_,rfl,_,rfl,l,_,_,_,rfl,rfl,SqL.of hl2,a1W hx,pt,_,_,_,rfl,rfl,SqT.of (n2.same _ _ hT),rfl,?_⟩
    refine ⟨_,rfl,_,rfl,_,_,rfl,rfl,.inl ⟨by decide,by decide⟩,_,_,rfl,rfl,a,ns,_,rfl,hS.same s2,h63,(by omega),(by omega),λ z6=>?_⟩
    refine ⟨bb,z6,_,rfl,SqL.of (n2.same _ _ hbb),by omega,λ pk ks H4 n4 sb=>?_⟩
    have lk:=sb.length_le
    refine ⟨p2,pk,_,_,rfl,rfl,n4.same _ _ n2.here,n4.here,(by rw [List.length_map,List.length_map]; omega),λ p5 H5 n5=>?_⟩
    rw [<- List.map_append] at n5
    refine ⟨some (f:Int),p5,ks,rfl,n4.same.trans n5.same,n5.here,?_,λ v hv=>⟨f,rfl,sb.subset hv⟩,(b1C ((a2C _ _).mp okf.2).2).sublist sb,by omega⟩
    unfold upOk
    rw [if_neg (by omega)]
    exact decide_eq_true ⟨by omega,by omega⟩
   ·have e':¬ (0:Int) < ((rs.length:Nat):Int):=of_decide_eq_false (Bool.eq_false_iff.mpr e)
    refine ⟨none,p2,[],rfl,Same.refl _,?_,?_,λ v hv=>absurd hv List.not_mem_nil,.nil,Nat.zero_le _⟩
    ·rw [List.append_nil]; exact n2.here
    ·unfold upOk
     rw [if_pos (by omega)]; rfl
  rintro σ' H3 ⟨u,pb,ks,rfl,s3,hpb,hu,hk,ndk,lk⟩
  have s03:=s2.trans s3
  have hl3:H3 l=some (.lst xs):=s3 _ _ hl2
  refine ⟨_,rfl,_,rfl,_,_,rfl,rfl,?_⟩
  dsimp only
  rw [ec]
  refine ⟨_,rfl,.inl ⟨rfl,_,SqL.of hl3⟩,_,rfl,_,rfl,pb,_,rfl,SqL.of hpb,(by rw [List.length_append]; omega),λ pz H4 zs n4 hz le=>?_⟩
  refine ⟨(by show 2<=1000; decide),λ pr H5 n5=>?_⟩
  have s45:=n4.same.trans n5.same
  have hl5:H5 l=some (.lst xs):=s45 _ _ hl3
  refine ⟨l,_,_,rfl,rfl,hl5,(by omega),λ H6 c6=>?_⟩
  obtain ⟨g1,g2,g3⟩:=c0A pm ok mem tp hu hk ndk hz le
  have lz:=hz.length_eq
  rw [List.length_append] at lz
  have s16:=n2.same.trans s3
  refine ⟨_,?_,xs++[.ref pr],rs++[(u,zs)],used+sz,_,_,_,_,rfl,(s03.trans s45).chg f0 c6,c6.here,?_,rfl,?_,?_,g1,g2,g3⟩
  ·rw [em,List.length_append,List.length_singleton]
   omega
  ·refine a1X (Paired.mapP hpr λ v t q=>(q.same (s16.trans s45)).chg hl5 c6) (RowL.chg hl5 c6 ⟨pr,pz,rfl,n5.here,n5.same _ _ n4.here,?_,by dsimp only; omega⟩)
   exact (n4.ne hl3).symm
  ·rw [List.length_append,List.length_singleton]
   omega
  ·rw [List.length_append,List.length_singleton]
   omega
end
abbrev a4G:Stmt:=top 45
theorem sc__law_ties:FnScope ["_law_script", "_law_rows", "_law_n", "_law_ties_here", "_law_a", "_law_b", "_law_both"] ["_law_script", "_law_rows", "_law_n"] (a0F a4G):=⟨rfl,rfl,rfl,by decide +kernel,rfl,by decide +kernel,by decide +kernel⟩
def c0D (K:Φρ):Sp:=λ vs H Q _=>∃ (a l:Addr) (ns:List Int) (rs:List Row) (n:Nat),vs=[.ref a,.ref l,.int n]/\Scr K H a ns/\ns.length<=63/\RowsAt K H l rs/\n<=10 /\
 ∀ r xs ts H',Same H H'->H r=none->H' r=some (.lst xs)->Paired (TieL H') xs ts->(∀ t∈ts,(0<=t.1/\t.1 < t.2/\t.2 < (n:Int))/\∃ r∈rs,t.1∈r.2/\t.2∈r.2)->ts.length<=45->Q (.ref r) H'
theorem c2J {n:Nat} (f:Nat->Option V):(0:Int) < ((((List.range n).filterMap f).length:Nat):Int)->∃ j,j < n/\(f j).isSome=true:=by
 intro h
 have:0 < ((List.range n).filterMap f).length:=by omega
 obtain ⟨x,hx⟩:=List.exists_mem_of_length_pos this
 obtain ⟨j,hj,e⟩:=List.mem_filterMap.mp hx
 exact ⟨j,List.mem_range.mp hj,by rw [e]; rfl⟩
theorem sq10 (n:Nat) (h:n < 11):20*n<=90+n*(n+1):=by
 have a:∀ m:Fin 11,20*m.val<=90+m.val*(m.val+1):=by decide
 exact a ⟨n,h⟩
section
variable {P:Program} {w:World} {K:Φρ} {mg:Str->Option Value} {base:Heap}
abbrev DZ10 (K:PySem.W.Frag) (mg:Str->Option Value):=Dn K mg "_law_ties" a4G ["_law_script", "_law_rows", "_law_n"]
set_option maxHeartbeats 8000000 in
theorem b0F (B:Bl mg) (dZ2:DZ2 K mg) (dZ10:DZ10 K mg):FnOk P w K mg base CX0 2 dZ10.f dZ10.fd ["_law_script", "_law_rows", "_law_n"] (c0D K):=by
 have gZ2:FnOk P w K mg base CX0 1 _ _ _ _:=a2U B dZ2
 refine dZ10.F.ok sc__law_ties (λ vs H Q E h=>?_) (λ cdv A outer s H vs Q E hr h=>?_)
 ·obtain ⟨a,l,ns,rs,n,rfl,_⟩:=h
  rfl
 obtain ⟨a,l,ns,rs,n,rfl,hS,h63,hR,hn,q⟩:=h
 have hv:(A.deeper (PyProof.Rows.envOfC "_law_ties" (a0F a4G) s.heap.objs.size dZ10.f cdv)).units+65 < cLine:=by have:=hr.un; omega
 obtain ⟨ys,hy,hpr,hz⟩:=id hR
 have ly:ys.length=rs.length:=Paired.length hpr
 refine ⟨_,(a0C (a0Q (i:=3) sc__law_ties.nd rfl (Or.inl rfl) (a1Q a0B))
   (a0C (a2A PassesOwn.never rfl (a1L rfl B.range (a0A (pv 2) a0B)) (a0L (i:=4) sc__law_ties.nd rfl (Or.inr rfl))
   (a0E (a2A PassesOwn.never rfl (a8O rfl B.range (a0A (a0K a1R (pv 4) a0D) (a0A (pv 2) a0B))) (a0L (i:=5) sc__law_ties.nd rfl (Or.inr rfl))
   (a0C (a2M (i:=6) ["_law_row", "_law_a", "_law_b"] [none,some 4,some 5] sc__law_ties.nd rfl rfl (by kernel_rfl) rfl (a0Z (K:=K) rfl (pv 1)) (λ _ _ _ _ _=>(a0L (i:=0) (show (["_law_row", "_law_a", "_law_b"]:List Str).Nodup by decide +kernel) rfl (Or.inl rfl))) (λ _ _ _ _ _=>(a4D (PW.pt (a2L (a0H (a2K (K:=K) rfl hv) (pv 1) (a0U (a0P (K:=K) rfl) (pv 0) a0D (λ _ _=>rfl)) (by with_unfolding_all rfl)) (a1S (a0H (a2K (K:=K) rfl hv) (pv 2) (a0U (a0P (K:=K) rfl) (pv 0) a0D (λ _ _=>rfl)) (by with_unfolding_all rfl))))))) (λ _ _ _ _ _=>(pv 0)) (by rfl))
   (a0E (a1E (PW.pt (a2L (a0H a5Q (a0I (a0R (K:=K) rfl) rfl B.len (by decide +kernel) (a0A (pv 6) a0B)) a0D (a0O _)) (a1S (a0H a5Q (a0K a1M (a0K a4C (a0J gZ2 hr rfl dZ2.m dZ2.F.kp dZ2.b .nil a1A (a0A (pv 0) (a0A (a0K a1R a0D (a0K a1M (a0K a1R (a0K a3C a0D (pv 4)) (pv 5)) a0D)) a0B))) (a0K a1R (pv 4) (pv 5))) a0D) a0D (a0O _)))))
   (a0E (a3H (a5E (K:=K) rfl PySem.F.plainAttrs_list PySem.F.slot_list_append PySem.F.type_list_append a2B (pv 3) (a0A (a0T (a0A (pv 4) (a0A (pv 5) a0B))) a0B))))
   a0N))))))
   (a0E (a0M (pv 3))))),?_⟩
 refine ⟨(by show 0<=1000; decide),λ r H0 nw=>?_⟩
 refine ⟨_,rfl,_,rfl,by omega,by omega,?_⟩
 rw [Int.toNat_natCast]
 refine a1T (n:=n) (λ i σ H2=>∃ (aa bb bo:Option V) (xs:List V) (ts:List ζζ),σ=[some (.ref a),some (.ref l),some (.int n),some (.ref r),aa,bb,bo]/\Same H H2/\H2 r=some (.lst xs)/\Paired (TieL H2) xs ts/\2*ts.length+i*(i+1)<=20*i/\∀ t∈ts,(0<=t.1/\t.1 < t.2/\t.2 < (n:Int))/\∃ r∈rs,t.1∈r.2/\t.2∈r.2) ⟨none,none,none,[],[],rfl,nw.same,nw.here,.nil,Nat.zero_le _,λ t ht=>absurd ht List.not_mem_nil⟩ ?_ ?_
 ·rintro i σ H2 hi ⟨aa,bb,bo,xs,ts,rfl,sm,hr2,hp,hzt,ok⟩
  refine ⟨_,rfl,_,_,rfl,rfl,_,rfl,_,_,rfl,⟨by omega,by omega,by omega,by omega⟩,?_⟩
  refine a1T (n:=_) (λ j σ H3=>∃ (bb bo:Option V) (xs:List V) (ts:List ζζ),σ=[some (.ref a),some (.ref l),some (.int n),some (.ref r),some (.int (0+(i:Int))),bb,bo]/\Same H H3/\H3 r=some (.lst xs)/\Paired (TieL H3) xs ts/\2*ts.length+i*(i+1)<=20*i+2*j/\∀ t∈ts,(0<=t.1/\t.1 < t.2/\t.2 < (n:Int))/\∃ r∈rs,t.1∈r.2/\t.2∈r.2) ⟨bb,bo,xs,ts,rfl,sm,hr2,hp,hzt,ok⟩ ?_ ?_
  ·rintro j σ H3 hj ⟨bb,bo,xs,ts,rfl,sm,hr3,hp,hzt,ok⟩
   have jn:(j:Int)+(0+(i:Int)+1) < n:=by omega
   refine ⟨_,rfl,l,rfl,⟨_,sm.seq hy⟩,?_⟩
   generalize eav:(0+(i:Int))=av
   generalize ebv:(av+1+(j:Int))=bv
   refine a7B (λ j=>if (rs[j]?).any (λ r=>has av r && has bv r)=true then ys[j]? else none) (sm.seq hy) (by omega) (λ j' x H4 N hj' s4 hN=>?_) (λ H4 p4 H5 s4 n4=>?_)
   ·obtain ⟨rr,hrr,⟨pp,b,rfl,hT,hb,_⟩⟩:=a1C hpr hj'
    have s04:=sm.trans s4
    have hN':=hN H4 s4
    rw [hrr,hj'] at hN'
    refine ⟨_,rfl,_,rfl,pp,_,_,_,rfl,rfl,s04.tupq hT,rfl,a3O (s04.seq hb) ⟨_,rfl,?_⟩⟩
    refine ite2 (λ c=>?_) (λ c=>?_)
    ·refine ⟨_,rfl,_,rfl,pp,_,_,_,rfl,rfl,s04.tupq hT,rfl,a3O (s04.seq hb) ⟨_,rfl,?_⟩⟩
     refine ite2 (λ d=>?_) (λ d=>?_)
     ·rw [if_pos (by show (has av rr && has bv rr)=true; unfold has; rw [c,d]; rfl)] at hN'
      exact ⟨_,rfl,hN'⟩
     ·rw [if_neg (by show ¬ (has av rr && has bv rr)=true; unfold has; rw [Bool.eq_false_iff.mpr d]; simp)] at hN'
      exact hN'
    ·refine iteF ?_
     rw [if_neg (by show ¬ (has av rr && has bv rr)=true; unfold has; rw [Bool.eq_false_iff.mpr c]; simp)] at hN'
     exact hN'
   ·have s05:=sm.trans (s4.trans n4.same)
    have hr5:H5 r=some (.lst xs):=(s4.trans n4.same) _ _ hr3
    have hp5:=Paired.mapP hp λ v t q=>TieL.same (s4.trans n4.same) q
    have k0:=Int.emod_nonneg (3*av+bv) (show (40:Int)≠0 by decide)
    have k1:=Int.emod_lt_of_pos (3*av+bv) (show (0:Int) < 40 by decide)
    have no:∃ (bb bo:Option V) (xs:List V) (ts:List ζζ),[some (V.ref a),some (.ref l),some (.int n),some (.ref r),some (.int av),some (.int bv),some (.ref p4)]=[some (V.ref a),some (.ref l),some (.int n),some (.ref r),some (.int av),bb,bo]/\Same H H5/\H5 r=some (.lst xs)/\Paired (TieL H5) xs ts/\2*ts.length+i*(i+1)<=20*i+2*(j+1)/\∀ t∈ts,(0<=t.1/\t.1 < t.2/\t.2 < (n:Int))/\∃ r∈rs,t.1∈r.2/\t.2∈r.2 :=
     ⟨_,_,xs,ts,rfl,s05,hr5,hp5,by omega,ok⟩
    have yes:(∃ row∈rs,av∈row.2/\bv∈row.2)->∀ p6 H6,New H5 p6 (.tup [.int av,.int bv]) H6->∀ H7,Chg H6 r (.lst (xs++[.ref p6])) H7->∃ (bb bo:Option V) (xs:List V) (ts:List ζζ),[some (V.ref a),some (.ref l),some (.int n),some (.ref r),some (.int av),some (.int bv),some (.ref p4)]=[some (V.ref a),some (.ref l),some (.int n),some (.ref r),some (.int av),bb,bo]/\Same H H7/\H7 r=some (.lst xs)/\Paired (TieL H7) xs ts/\2*ts.length+i*(i+1)<=20*i+2*(j+1)/\∀ t∈ts,(0<=t.1/\t.1 < t.2/\t.2 < (n:Int))/\∃ r∈rs,t.1∈r.2/\t.2∈r.2:=λ hrow p6 H6 n6 H7 c7=>by
     have h6:=n6.same _ _ hr5
     refine ⟨_,_,xs++[.ref p6],ts++[(av,bv)],rfl,(s05.trans n6.same).chg nw.fresh c7,c7.here,?_,?_,λ t ht=>?_⟩
     ·exact a1X (Paired.mapP hp5 λ v t q=>(TieL.same n6.same q).chg h6 c7) (TieL.chg h6 c7 ⟨p6,rfl,n6.here⟩)
     ·rw [List.length_append]; show 2*(ts.length+1)+_<=_; omega
     ·rcases List.mem_append.mp ht with h | h
      ·exact ok t h
      ·rw [List.mem_singleton.mp h]; exact ⟨⟨by show 0<=av; omega,by show av < bv; omega,by show bv < n; omega⟩,hrow⟩
    have lxs:xs.length=ts.length:=Paired.length hp
    refine ⟨_,rfl,p4,_,rfl,.inl (SqL.of n4.here),_,_,rfl,rfl,_,rfl,?_⟩
    refine ite2 (λ c=>?_) (λ c=>?_)
    ·obtain ⟨j',hj',e'⟩:=c2J _ (of_decide_eq_true c)
     have hrow:∃ row∈rs,av∈row.2/\bv∈row.2:=by
      split at e'
      ·rename_i d
       have lj:j' < rs.length:=by omega
       rw [List.getElem?_eq_getElem lj] at d
       have d':(has av rs[j'] && has bv rs[j'])=true:=d
       rw [Bool.and_eq_true] at d'
       exact ⟨_,List.getElem_mem lj,of_decide_eq_true d'.1,of_decide_eq_true d'.2⟩
      ·cases e'
     refine ⟨_,rfl,_,rfl,_,_,rfl,rfl,.inl ⟨by decide,by decide⟩,_,rfl,_,_,rfl,rfl,_,_,rfl,rfl,(show (0:Int) < _ by decide),_,_,rfl,rfl,a,ns,_,rfl,hS.same s05,h63,(by omega),(by omega),λ z=>?_⟩
     refine ⟨_,rfl,_,rfl,_,_,rfl,rfl,_,_,rfl,rfl,⟨by omega,by omega⟩,_,_,rfl,rfl,(show (0:Int) < _ by decide),_,_,rfl,rfl,_,rfl,?_⟩
     refine ite2 (λ e=>?_) (λ e=>no)
     refine ⟨_,rfl,.inl ⟨rfl,_,SqL.of hr5⟩,_,rfl,_,rfl,(by show 2<=1000; decide),λ p6 H6 n6=>?_⟩
     exact ⟨r,_,_,rfl,rfl,n6.same _ _ hr5,(by have:i*(i+1) ≥ 0:=Nat.zero_le _; omega),λ H7 c7=>yes hrow p6 H6 n6 H7 c7⟩
    ·exact iteF no
  ·rintro σ H3 ⟨bb,bo,xs,ts,rfl,sm,hr3,hp,hzt,ok⟩
   have e:(i+1)*(i+1+1)=i*(i+1)+2*(i+1):=by rw [show i+1+1=i+2 from rfl,Nat.mul_add,Nat.mul_comm (i+1) i,Nat.mul_comm (i+1) 2]
   exact ⟨_,bb,bo,xs,ts,rfl,sm,hr3,hp,by omega,ok⟩
 ·rintro σ H2 ⟨aa,bb,bo,xs,ts,rfl,sm,hr2,hp,hzt,ok⟩
  exact ⟨_,rfl,q r xs ts H2 sm nw.fresh hr2 hp ok (by have e:=sq10 n (by omega); omega)⟩
end
theorem c0E (n:Nat) (ts:List ζζ) (os:List Nat) (i:Nat):(a3F n ts os i).Nodup:=by
 unfold a3F b1X
 exact List.nodup_range.sublist List.filter_sublist
theorem pigN {α:Type} [DecidableEq α]:∀ {l U:List α},l.Nodup->(∀ x∈l,x∈U)->l.length<=U.length
 | [],_,_,_=>Nat.zero_le _
 | x::r,U,h,s=>by
  have h':=List.nodup_cons.mp h
  have hx:=s x List.mem_cons_self
  have:=List.length_erase_of_mem hx
  have p:=List.length_pos_of_mem hx
  have ih:=pigN (l:=r) (U:=U.erase x) h'.2 λ y hy=>(List.mem_erase_of_ne (λ (e:y=x)=>h'.1 (e ▸ hy))).mpr (s y (List.mem_cons_of_mem _ hy))
  rw [List.length_cons]; omega
def b2Z (rs:List Row):Int:=(lens rs).foldl max 0
theorem b0G:∀ (l:List Int) (m:Int),m<=l.foldl max m/\(∀ x∈l,x<=l.foldl max m)/\(l.foldl max m=m\/l.foldl max m∈l)
 | [],m=>⟨Int.le_refl _,λ a h=>absurd h List.not_mem_nil,.inl rfl⟩
 | x::r,m=>by
  obtain ⟨h1,h2,h3⟩:=b0G r (max m x)
  rw [List.foldl_cons]
  refine ⟨by omega,λ a ha=>?_,?_⟩
  ·rcases List.mem_cons.mp ha with rfl | ha
   ·omega
   ·exact h2 a ha
  ·rcases h3 with h3 | h3
   ·by_cases c:x<=m
    ·left
     rw [h3]; omega
    ·right
     rw [h3,show max m x=x by omega]
     exact List.mem_cons_self
   ·exact .inr (List.mem_cons_of_mem _ h3)
theorem c0F {rs:List Row} {j:Nat} (hj:j < rs.length):a0G rs j∈rs:=by
 unfold a0G
 rw [τα,List.getElem?_eq_getElem hj]
 exact List.getElem_mem _
theorem b7G {rs:List Row} {r:Row} (h:r∈rs):((r.2.length:Nat):Int)<=b2Z rs:=(b0G (lens rs) 0).2.1 _ (List.mem_map.mpr ⟨r,h,rfl⟩)
theorem b5Q {n:Nat} {ts:List ζζ} {rs:List Row} {os:List Nat} (T:Tree n rs) (O:OrdT n rs os) (ht:∀ t∈ts,∃ r∈rs,t.1∈r.2/\t.2∈r.2) {i:Nat} (hi:i < n):(((a3F n ts os i).length:Nat):Int)+1<=b2Z rs:=by
 obtain ⟨j,hj,h1,h2⟩:=b9U T O ht hi
 have l:=O.o.len
 have hv:=getD_some (os:=os) (i:=i) (by omega)
 have nv:os.getD i 0 ∉ a3F n ts os i:=λ z=>by
  have:=((a9W O.o hv).mp z).2.1
  rw [O.o.at_ hv] at this
  omega
 have nd:(os.getD i 0::a3F n ts os i).Nodup:=List.nodup_cons.mpr ⟨nv,c0E n ts os i⟩
 have ndI:((os.getD i 0::a3F n ts os i).map λ (x:Nat)=>(x:Int)).Nodup:=by
  rw [List.nodup_iff_pairwise_ne] at nd ⊢
  rw [List.pairwise_map]
  exact nd.imp λ h=>by omega
 have:=pigN ndI (U:=(a0G rs j).2) λ x hx=>by
  obtain ⟨u,hu,rfl⟩:=List.mem_map.mp hx
  rcases List.mem_cons.mp hu with e | hu
  ·rw [e]; exact h1
  ·exact h2 u hu
 rw [List.length_map,List.length_cons] at this
 have:=b7G (c0F hj)
 omega
theorem b1D (rs:List Row):0<=b2Z rs:=(b0G (lens rs) 0).1
theorem b3A {n:Nat} {ts:List ζζ} {rs:List Row} {os:List Nat} (T:Tree n rs) (O:OrdT n rs os) (ht:∀ t∈ts,∃ r∈rs,t.1∈r.2/\t.2∈r.2):a7J n ts os<=b2Z rs - 1:=by
 unfold a7J
 rcases (b0G ((List.range n).map λ j=>(((a3F n ts os j).length:Nat):Int)) (-1)).2.2 with h | h
 ·rw [h]; have:=b1D rs; omega
 ·obtain ⟨j,hj,e⟩:=List.mem_map.mp h
  have:=b5Q T O ht (List.mem_range.mp hj)
  have e':(((a3F n ts os j).length:Nat):Int)=((List.range n).map λ j=>(((a3F n ts os j).length:Nat):Int)).foldl max (-1):=e
  omega
end K
namespace K
open PySem L2 Lw Bg
theorem a4R {n:Nat} {ts:List ζζ} {rs:List Row} (h:a2H n ts rs = .ok):a0V n rs=none/\a0W n rs=none/\a1O ts rs=none/\a1K n rs=none:=by
 unfold a2H at h
 cases e1:a0V n rs with
 | some k=>rw [e1] at h; cases h
 | none =>
  rw [e1] at h
  cases e2:a0W n rs with
  | some k=>rw [e2] at h; cases h
  | none =>
   rw [e2] at h
   cases e3:a1O ts rs with
   | some k=>rw [e3] at h; cases h
   | none =>
    rw [e3] at h
    cases e4:a1K n rs with
    | some k=>rw [e4] at h; cases h
    | none=>exact ⟨rfl,rfl,rfl,rfl⟩
theorem b5R {n:Nat} {ts:List ζζ} {rs:List Row} {k:Nat} (hk:k < rs.length) (h:a1N n rs k=false):a2H n ts rs ≠ .ok:=λ e=>by
 have e1:=(a4R e).1
 unfold a0V at e1
 split at e1
 ·cases e1
 ·have:=List.find?_eq_none.mp e1 k (List.mem_range.mpr hk)
  rw [h] at this
  simp at this
theorem b7H {n:Nat} {ts:List ζζ}:a2H n ts [] ≠ .ok:=λ e=>by
 have e1:=(a4R e).1
 unfold a0V at e1
 cases e1
theorem b5S {n:Nat} {ts:List ζζ} {rs:List Row} {v:Nat} (vn:v < n) (h:∀ r∈rs,(v:Int) ∉ r.2):a2H n ts rs ≠ .ok:=λ e=>by
 have e2:=(a4R e).2.1
 unfold a0W at e2
 have:=List.find?_eq_none.mp e2 v (List.mem_range.mpr vn)
 have no:rs.any (has (v:Int))=false:=by
  rw [List.any_eq_false]
  intro r hr z
  exact h r hr (of_decide_eq_true z)
 rw [no] at this
 simp at this
theorem c0G {n:Nat} {ts:List ζζ} {rs:List Row} {t:Int × Int} (ht:t∈ts) (h:∀ r∈rs,¬ (t.1∈r.2/\t.2∈r.2)):a2H n ts rs ≠ .ok:=λ e=>by
 have e3:=(a4R e).2.2.1
 unfold a1O at e3
 have:=List.find?_eq_none.mp e3 t ht
 have no:(rs.any λ r=>has t.1 r && has t.2 r)=false:=by
  rw [List.any_eq_false]
  intro r hr z
  rw [Bool.and_eq_true] at z
  exact h r hr ⟨of_decide_eq_true z.1,of_decide_eq_true z.2⟩
 rw [no] at this
 simp at this
theorem b5T {n:Nat} {ts:List ζζ} {rs:List Row} {v s t:Nat} (vn:v < n) (hs:s < rs.length) (ss:a2N rs (v:Int) s=true) (ht:t < rs.length) (tt:a2N rs (v:Int) t=true) (ne:s≠t):a2H n ts rs ≠ .ok:=λ e=>by
 have e4:=(a4R e).2.2.2
 refine ne (b5H (v:=(v:Int)) ?_ hs ss ht tt)
 unfold a1K at e4
 have:=List.findSome?_eq_none_iff.mp e4 v (List.mem_range.mpr vn)
 have z:a3T rs (v:Int)=none:=Option.map_eq_none_iff.mp this
 unfold a3T at z
 cases e5:a2G rs (v:Int) with
 | nil=>exact Nat.zero_le _
 | cons x r =>
  cases r with
  | nil=>exact Nat.le_refl _
  | cons y r =>
   rw [e5] at z
   cases z
inductive Cm (rs:List Row) (a:Nat):Nat->Prop
 | refl:Cm rs a a
 | step {j u:Nat}:a < j->(a0G rs j).1=some (u:Int)->Cm rs a u->Cm rs a j
theorem Cm.le {rs:List Row} {a j:Nat} (h:Cm rs a j):a<=j:=by
 induction h with
 | refl=>exact Nat.le_refl _
 | step h _ _ _=>omega
theorem c0H {rs:List Row} {a j:Nat} (h:a < j) (e:(a0G rs j).1=none):¬ Cm rs a j:=λ c=>by
 cases c with
 | refl=>omega
 | step _ e2 _=>rw [e] at e2; cases e2
theorem c3Q {rs:List Row} {a j u:Nat} (h:a < j) (e:(a0G rs j).1=some (u:Int)):Cm rs a j↔Cm rs a u:=by
 constructor
 ·intro c
  cases c with
  | refl=>omega
  | step _ e2 c2 =>
   rw [e] at e2
   have:=Option.some.inj e2
   have e3:u=_:=Int.ofNat.inj this
   rw [e3]
   exact c2
 ·exact λ c=>.step h e c
theorem c2K {rs rs':List Row} {v:Int} (U:a9X rs') (eq:∀ j,(a0G rs' j).1=(a0G rs j).1):∀ j,j < rs'.length->v∈(a0G rs' j).2->∃ t,t<=j/\a2N rs' v t=true/\Cm rs t j:=by
 intro j
 induction j using Nat.strongRecOn with
 | ind j ih =>
  intro hj hv
  cases h:a4V rs' (a0G rs' j).1 v with
  | false=>exact ⟨j,Nat.le_refl _,isTop_iff.mpr ⟨hv,h⟩,.refl⟩
  | true =>
   cases e:(a0G rs' j).1 with
   | none=>rw [e] at h; cases h
   | some u =>
    have hu:=U j hj u e
    obtain ⟨w,rfl⟩:∃ w:Nat,u=(w:Int):=⟨u.toNat,by omega⟩
    rw [e] at h
    have hw:v∈(a0G rs' w).2:=by
     unfold a4V at h
     simpa [has] using h
    have wj:w < j:=by have:=hu.2; rwa [Int.toNat_natCast] at this
    obtain ⟨t,tl,tt,c⟩:=ih w wj (by omega) hw
    exact ⟨t,by omega,tt,.step (by omega) (by rw [<- eq j]; exact e) c⟩
def a6H (rs:List Row) (a:Nat) (v:Int):List Row:=rs.set a ((a0G rs a).1,(a0G rs a).2.filter λ u=>decide (u≠v))
theorem a3G (rs:List Row) (a:Nat) (v:Int):(a6H rs a v).length=rs.length:=List.length_set
theorem a8I {rs:List Row} {a:Nat} {v:Int} (ha:a < rs.length):a0G (a6H rs a v) a=((a0G rs a).1,(a0G rs a).2.filter λ u=>decide (u≠v)):=by
 unfold a6H
 show (rs.set a _).getD a (none,[])=_
 rw [τα,List.getElem?_set_self ha]
 rfl
theorem a5N {rs:List Row} {a j:Nat} {v:Int} (h:j≠a):a0G (a6H rs a v) j=a0G rs j:=by
 unfold a6H
 show (rs.set a _).getD j (none,[])=rs.getD j (none,[])
 rw [τα,List.getElem?_set_ne (Ne.symm h),<- τα]
theorem a8J {rs:List Row} {a:Nat} {v:Int} (ha:a < rs.length) (j:Nat):(a0G (a6H rs a v) j).1=(a0G rs j).1:=by
 by_cases c:j=a
 ·rw [c,a8I ha]
 ·rw [a5N c]
theorem c0I {n:Nat} {ts:List ζζ} {rs:List Row} {a u j v:Nat} (vn:v < n) (U:a9X rs) (ha:a < rs.length) (eu:(a0G rs a).1=some (u:Int)) (va:(v:Int)∈(a0G rs a).2) (hj:j < rs.length) (ju:j≠u) (vj:(v:Int)∈(a0G rs j).2) (nc:¬ Cm rs a j):a2H n ts (a6H rs u (v:Int)) ≠ .ok:=by
 have hu:=U a ha _ eu
 rw [Int.toNat_natCast] at hu
 have ul:u < rs.length:=by omega
 have U':a9X (a6H rs u (v:Int)):=λ k hk w e=>U k (by rw [a3G] at hk; exact hk) w (by rw [<- a8J ul]; exact e)
 have vu:(v:Int) ∉ (a0G (a6H rs u (v:Int)) u).2:=by
  rw [a8I ul]
  intro z
  have:=(List.mem_filter.mp z).2
  simp at this
 have ta:a2N (a6H rs u (v:Int)) (v:Int) a=true:=by
  refine isTop_iff.mpr ⟨by rw [a5N (by omega)]; exact va,?_⟩
  rw [a8J ul,eu]
  unfold a4V
  simp [has]
  exact vu
 obtain ⟨t,tl,tt,c⟩:=c2K (rs:=rs) (v:=(v:Int)) U' (a8J ul) j (by rw [a3G]; exact hj) (by rw [a5N ju]; exact vj)
 refine b5T vn (by rw [a3G]; exact ha) ta (by rw [a3G]; omega) tt λ e=>nc (by rw [e]; exact c)
end K
namespace K
open PySem L2 Lw Bg
theorem b5U:∀ {xs ys:List Int},xs.Pairwise (· < ·)->ys.Pairwise (· < ·)->(∀ v,v∈xs↔v∈ys)->xs=ys
 | [],[],_,_,_=>rfl
 | [],y::ys,_,_,h=>absurd ((h y).mpr List.mem_cons_self) List.not_mem_nil
 | x::xs,[],_,_,h=>absurd ((h x).mp List.mem_cons_self) List.not_mem_nil
 | x::xs,y::ys,hx,hy,h=>by
  rw [List.pairwise_cons] at hx hy
  have e:x=y:=by
   rcases List.mem_cons.mp ((h x).mp List.mem_cons_self) with h1 | h1
   ·exact h1
   ·rcases List.mem_cons.mp ((h y).mpr List.mem_cons_self) with h2 | h2
    ·exact h2.symm
    ·have a:=hy.1 x h1
     have b:=hx.1 y h2
     omega
  subst e
  rw [b5U hx.2 hy.2 λ v=>⟨λ hv=>?_,λ hv=>?_⟩]
  ·rcases List.mem_cons.mp ((h v).mp (List.mem_cons_of_mem _ hv)) with h1 | h1
   ·exact absurd (hx.1 v hv) (by omega)
   ·exact h1
  ·rcases List.mem_cons.mp ((h v).mpr (List.mem_cons_of_mem _ hv)) with h1 | h1
   ·exact absurd (hy.1 v hv) (by omega)
   ·exact h1
theorem b2E (p:Nat->Bool):∀ l:List Nat,l.filterMap (λ u=>if p u=true then some (V.int ((u:Nat):Int)) else none)=natV (l.filter p)
 | []=>rfl
 | a::r=>by
  have ih:=b2E p r
  rw [List.filter_cons]
  by_cases c:p a=true
  ·rw [if_pos c,List.filterMap_cons_some (by rw [if_pos c]),ih]; rfl
  ·rw [if_neg c,List.filterMap_cons_none (by rw [if_neg c]),ih]
theorem a4X {rs:List Row} {r:Row} (h:r∈rs):∃ k,k < rs.length/\a0G rs k=r:=by
 obtain ⟨k,hk,e⟩:=List.getElem_of_mem h
 refine ⟨k,hk,?_⟩
 unfold a0G
 rw [τα,List.getElem?_eq_getElem hk,<- e]
 rfl
abbrev a4Y:Stmt:=top 46
theorem sc__law_due:FnScope ["_law_rows", "_law_n", "_law_due_here", "_law_k", "_law_v", "_law_firsts"] ["_law_rows", "_law_n"] (a0F a4Y):=⟨rfl,rfl,rfl,by decide +kernel,rfl,by decide +kernel,by decide +kernel⟩
theorem b7I {lo:Int} {n:Nat} {g:TG} {tb:TS} {D:Ends} {σ:St} {H:Hp} (Pv:Nat->St->Hp->Prop) (h0:Pv 0 σ H)
  (hs:∀ i σ H,i < n->Pv i σ H->g (.int (lo - i)) σ H λ σ2 H2=>tb { D with nx:=Pv (i+1),ct:=Pv (i+1),bk:=D.nx } σ2 H2) (hd:∀ σ H,Pv n σ H->D.nx σ H) :
  ∃ W:Nat->Nat->St->Hp->Prop,(∃ m,W 0 m σ H)/\∀ i m σ H,W i m σ H ->
   ((Itd lo n).stop i H/\D.nx σ H)\/((Itd lo n).go i H/\∃ N:St->Hp->Prop,(∀ σ' H',N σ' H'->∃ m',m' < m/\W (i+1) m' σ' H')/\∀ x H',(Itd lo n).yld i H x H'->g x σ H' λ σ2 H2=>tb { D with nx:=N,ct:=N,bk:=D.nx } σ2 H2):=by
 refine ⟨λ i m σ H=>m=n - i/\i<=n/\Pv i σ H,⟨n,by simp,Nat.zero_le _,h0⟩,?_⟩
 rintro i m σ H ⟨rfl,hi,p⟩
 by_cases hlt:i < n
 ·refine .inr ⟨hlt,Pv (i+1),λ σ' H' p'=>⟨n - (i+1),by omega,rfl,hlt,p'⟩,λ x H' y=>?_⟩
  obtain ⟨e,y⟩:=y
  subst e y
  exact hs i σ _ hlt p
 ·have e:i=n:=by omega
  subst e
  exact .inl ⟨Nat.le_refl _,hd σ H p⟩
theorem b0H {p:Nat->Bool} {m f:Nat} (fm:f < m) (pf:p f=true) (no:∀ j,j < f->p j=false):∃ r,(List.range m).filter p=f::r:=by
 obtain ⟨k,rfl⟩:∃ k,m=f+(1+k):=⟨m - f - 1,by omega⟩
 rw [List.range_add,List.filter_append]
 have e1:(List.range f).filter p=[]:=List.filter_eq_nil_iff.mpr λ j hj=>by rw [no j (List.mem_range.mp hj)]; simp
 rw [e1,List.nil_append,Nat.add_comm 1 k,List.range_succ_eq_map,List.map_cons,List.filter_cons]
 rw [if_pos (by rw [Nat.add_zero]; exact pf)]
 exact ⟨_,by rw [Nat.add_zero]⟩
theorem b7J {rs:List Row} {v:Int} {j:Nat} (hj:j < a1G rs v) (jl:j < rs.length):has v (a0G rs j)=false:=by
 cases c:has v (a0G rs j) with
 | false=>rfl
 | true =>
  have:=a2S jl (of_decide_eq_true c)
  omega
theorem c0J {n:Nat} {rs:List Row} (T:Tree n rs) {k:Nat} (hk:k < rs.length):(a0G rs k).2.filter (λ v=>!decide (v∈ordI (rs.take k)))=dueF (λ v=>decide (a1G rs v=k)) n:=by
 have o:=T.ok k hk
 unfold a1N at o
 rw [Bool.and_eq_true] at o
 obtain ⟨s1,s2⟩:=(a2C _ _).mp o.2
 obtain ⟨_,mem,_⟩:=a5M T.ok k (by omega)
 refine b5U (s2.sublist List.filter_sublist) (b8F _ _) λ v=>?_
 rw [List.mem_filter,b5O,decide_eq_true_iff]
 constructor
 ·rintro ⟨h1,h2⟩
  have b:=s1 v h1
  refine ⟨b.1,b.2,?_⟩
  have le:=a2S hk h1
  rcases Nat.lt_or_ge (a1G rs v) k with c | c
  ·have h3:v∈ordI (rs.take k):=(mem v).mpr ⟨_,c,(a2I hk h1).2⟩
   rw [decide_eq_true h3] at h2
   cases h2
  ·omega
 ·rintro ⟨v0,v1,e⟩
  obtain ⟨r,hr,hv⟩:=T.cov v v0 v1
  obtain ⟨j,jl,rfl⟩:=a4X hr
  have:=(a2I jl hv).2
  rw [e] at this
  refine ⟨this,?_⟩
  have:v ∉ ordI (rs.take k):=λ z=>by
   obtain ⟨i,hi,h⟩:=(mem v).mp z
   have:=a2S (rs:=rs) (k:=i) (by omega) h
   omega
  rw [decide_eq_false this]
  rfl
def c0K (K:Φρ):Sp:=λ vs H Q _=>∃ (l:Addr) (n:Nat) (rs:List Row),vs=[.ref l,.int n]/\RowsAt K H l rs/\Tree n rs/\n<=10/\∀ p H',Same H H'->H' p=some (.lst ((ordI rs).map V.int))->Q (.ref p) H'
section
variable {P:Program} {w:World} {K:Φρ} {mg:Str->Option Value} {base:Heap}
abbrev DZ5 (K:PySem.W.Frag) (mg:Str->Option Value):=Dn K mg "_law_due" a4Y ["_law_rows", "_law_n"]
set_option maxHeartbeats 8000000 in
theorem b1E (B:Bl mg) (dZ5:DZ5 K mg):FnOk P w K mg base CX0 1 dZ5.f dZ5.fd ["_law_rows", "_law_n"] (c0K K):=by
 refine dZ5.F.ok sc__law_due (λ vs H Q E h=>?_) (λ cdv A outer s H vs Q E hr h=>?_)
 ·obtain ⟨l,n,rs,rfl,_⟩:=h
  rfl
 obtain ⟨l,n,rs,rfl,hR,T,n10,q⟩:=h
 have hv:(A.deeper (PyProof.Rows.envOfC "_law_due" (a0F a4Y) s.heap.objs.size dZ5.f cdv)).units+65 < cLine:=by have:=hr.un; omega
 obtain ⟨ys,hy,hpr,hz⟩:=id hR
 have ly:ys.length=rs.length:=Paired.length hpr
 have l20:=T.len
 have pos:=T.pos
 refine ⟨_,(a0C (a0Q (i:=2) sc__law_due.nd rfl (Or.inl rfl) (a1Q a0B))
   (a0C (a2A PassesOwn.never rfl (b4Y rfl B.range (a0A (a0K a6Y (a0I (a0R (K:=K) rfl) rfl B.len (by decide +kernel) (a0A (pv 0) a0B)) a0D) (a0A (b3G a8Q a0D) (a0A (b3G a8Q a0D) a0B)))) (a0L (i:=3) sc__law_due.nd rfl (Or.inl rfl))
   (a0E (a2A PassesOwn.never rfl (a1L rfl B.range (a0A (pv 1) a0B)) (a0L (i:=4) sc__law_due.nd rfl (Or.inr rfl))
   (a0C (a2M (i:=5) ["_law_j", "_law_v", "_law_rows"] [none,some 4,some 0] sc__law_due.nd rfl rfl (by kernel_rfl) rfl (a1L rfl B.range (a0A (a0I (a0R (K:=K) rfl) rfl B.len (by decide +kernel) (a0A (pv 0) a0B)) a0B)) (λ _ _ _ _ _=>(a0L (i:=0) (show (["_law_j", "_law_v", "_law_rows"]:List Str).Nodup by decide +kernel) rfl (Or.inl rfl))) (λ _ _ _ _ _=>(a4D (a0H (a2K (K:=K) rfl hv) (pv 1) (a0U (a0P (K:=K) rfl) (a0U (a0X (K:=K) rfl) (pv 2) (pv 0) (λ _ _=>rfl)) a0D (λ _ _=>rfl)) (by with_unfolding_all rfl)))) (λ _ _ _ _ _=>(pv 0)) (by rfl))
   (a0E (a1E (a0H a2V (a0U (a0X (K:=K) rfl) (pv 5) a0D (λ _ _=>rfl)) (pv 3) (a0O _))
   (a0E (a3H (a5E (K:=K) rfl PySem.F.plainAttrs_list PySem.F.slot_list_append PySem.F.type_list_append a2B (pv 2) (a0A (pv 4) a0B))))
   a0N))))))
   (a0E (a0M (pv 2))))),?_⟩
 refine ⟨(by show 0<=1000; decide),λ r H0 nw=>?_⟩
 refine ⟨_,rfl,l,_,rfl,.inl (nw.same.seq hy),_,_,rfl,rfl,_,rfl,_,rfl,_,_,rfl,⟨by omega,by omega,by decide,by decide⟩,?_⟩
 rw [show ((((ys.length:Nat):Int) - 1 - (-1)).toNat)=rs.length by omega]
 have ordlen:∀ i,i<=rs.length->(ordI (rs.take i)).length<=10:=λ i hi=>by
  obtain ⟨nd,mem,_⟩:=a5M T.ok i hi
  have:=pigN (U:=rng n) nd λ v hv'=>by
   obtain ⟨k,hk,h⟩:=(mem v).mp hv'
   have o:=T.ok k (by omega)
   unfold a1N at o
   rw [Bool.and_eq_true] at o
   have b:=((a2C _ _).mp o.2).1 v h
   exact mem_rng.mpr b
  rw [List.length_map,List.length_range] at this
  omega
 refine b7I (lo:=((ys.length:Nat):Int) - 1) (n:=rs.length) (λ i σ H'=>∃ (kk vv ff:Option V) (D:List Int),σ=[some (.ref l),some (.int n),some (.ref r),kk,vv,ff]/\Same H H'/\H' r=some (.lst (D.map V.int))/\D++ordI (rs.take (rs.length - i))=ordI rs) ⟨none,none,none,[],rfl,nw.same,nw.here,by rw [Nat.sub_zero,List.take_length]; rfl⟩ ?_ ?_
 ·rintro i σ H1 hi ⟨kk,vv,ff,D,rfl,s1,hr1,eD⟩
  obtain ⟨k,ek⟩:∃ k:Nat,((ys.length:Nat):Int) - 1 - (i:Int)=(k:Int):=⟨rs.length - 1 - i,by omega⟩
  rw [ek]
  have kl:k < rs.length:=by omega
  have e1:rs.length - i=k+1:=by omega
  have e2:rs.length - (i+1)=k:=by omega
  rw [e1,a8E kl,a6B] at eD
  have due:=c0J T kl
  rw [due,<- List.append_assoc] at eD
  have lD:D.length<=10:=by
   have:=congrArg List.length eD
   rw [List.length_append,List.length_append] at this
   have o:=ordlen rs.length (Nat.le_refl _)
   rw [List.take_length] at o
   omega
  refine ⟨_,rfl,_,rfl,by omega,by omega,?_⟩
  rw [Int.toNat_natCast]
  refine a1T (n:=n) (λ j σ H'=>∃ (vv ff:Option V),σ=[some (.ref l),some (.int n),some (.ref r),some (.int (k:Int)),vv,ff]/\Same H H'/\H' r=some (.lst ((D++dueF (λ v=>decide (a1G rs v=k)) j).map V.int))) ⟨_,_,rfl,s1,by
   show H1 r=some (.lst ((D++[]).map V.int))
   rw [List.append_nil]; exact hr1⟩ ?_ ?_
  ·rintro j σ H2 hj ⟨vv,ff,rfl,s2,hr2⟩
   have ej:(0+(j:Int))=((j:Nat):Int):=by omega
   rw [ej]
   refine ⟨_,rfl,l,_,rfl,.inl (s2.seq hy),_,rfl,by omega,by omega,?_⟩
   rw [Int.toNat_natCast,ly]
   refine a7U (lo:=0) (n:=rs.length) (λ i=>if has (j:Int) (a0G rs i)=true then some (.int ((i:Nat):Int)) else none) (by omega) (λ i' H3 N hi' s3 hN=>?_) (λ H3 p4 H4 s3 n4=>?_)
   ·have ei:(0+(i':Int))=((i':Nat):Int):=by omega
    rw [ei]
    have hN':=hN H3 s3
    obtain ⟨x,hx,pp,b,rfl,hT,hb,_⟩:=a1F hpr (a1Z hi')
    have s03:=s2.trans s3
    refine ⟨_,rfl,_,rfl,_,rfl,l,_,_,_,rfl,rfl,s03.seq hy,a1W hx,pp,_,_,_,rfl,rfl,s03.tupq hT,rfl,a3O (s03.seq hb) ⟨_,rfl,?_⟩⟩
    cases d:decide ((j:Int)∈(a0G rs i').2) with
    | true =>
     rw [show has (j:Int) (a0G rs i')=true from d,if_pos rfl] at hN'
     exact iteT ⟨_,rfl,hN'⟩
    | false =>
     rw [show has (j:Int) (a0G rs i')=false from d,if_neg Bool.false_ne_true] at hN'
     exact iteF hN'
   ·have e4:(List.range rs.length).filterMap (λ i=>if has (j:Int) (a0G rs i)=true then some (V.int ((i:Nat):Int)) else none)=natV ((List.range rs.length).filter λ i=>has (j:Int) (a0G rs i)):=b2E (λ i=>has (j:Int) (a0G rs i)) _
    rw [e4] at n4
    obtain ⟨rw_,hrw,hvj⟩:=T.cov (j:Int) (by omega) (by omega)
    obtain ⟨j',jl',rfl⟩:=a4X hrw
    obtain ⟨fl,fm⟩:=a2I jl' hvj
    obtain ⟨rest,er⟩:=b0H (p:=λ i=>has (j:Int) (a0G rs i)) fl (decide_eq_true fm) λ i hi=>b7J hi (by omega)
    rw [er] at n4
    have s4:=s2.trans (s3.trans n4.same)
    have hr4:=n4.same _ _ (s3 _ _ hr2)
    refine ⟨_,rfl,p4,_,_,_,rfl,rfl,SqL.of n4.here,a1W (j:=0) rfl,_,rfl,rfl,_,rfl,?_⟩
    have ds:=b7D (λ v=>decide (a1G rs v=k)) j
    by_cases c:a1G rs (j:Int)=k
    ·rw [show decide (V.int ((a1G rs (j:Int):Nat):Int)=V.int (k:Int))=true from decide_eq_true (by rw [c])]
     refine iteT ?_
     rw [if_pos (decide_eq_true c)] at ds
     refine ⟨_,rfl,.inl ⟨rfl,_,SqL.of hr4⟩,_,rfl,r,_,_,rfl,rfl,hr4,?_,λ H5 c5=>?_⟩
     ·rw [List.length_map,List.length_append]
      have:=b5N (λ v=>decide (a1G rs v=k)) j
      omega
     ·refine ⟨_,_,rfl,s4.chg nw.fresh c5,?_⟩
      rw [c5.here,ds,<- List.append_assoc,List.map_append (l₁:=D++_)]
      rfl
    ·rw [show decide (V.int ((a1G rs (j:Int):Nat):Int)=V.int (k:Int))=false from decide_eq_false λ z=>c (by have:=V.int.inj z; omega)]
     rw [if_neg (by simp [c]),List.append_nil] at ds
     refine iteF ⟨_,_,rfl,s4,?_⟩
     rw [ds]
     exact hr4
  ·rintro σ H2 ⟨vv,ff,rfl,s2,hr2⟩
   refine ⟨_,_,_,_,rfl,s2,hr2,?_⟩
   rw [e2]
   exact eD
 ·rintro σ H1 ⟨kk,vv,ff,D,rfl,s1,hr1,eD⟩
  rw [Nat.sub_self,List.take_zero] at eD
  have e0:ordI ([]:List Row)=[]:=rfl
  rw [e0,List.append_nil] at eD
  rw [eD] at hr1
  exact ⟨_,rfl,q r H1 s1 hr1⟩
end
end K
namespace K
open PySem L2 Lw Bg
theorem a7K {α β:Type} {F G:α->β->Prop}:∀ {xs:List α} {ys:List β},Paired F xs ys->(∀ x y,x∈xs->F x y->G x y)->Paired G xs ys
 | _,_,.nil,_=>.nil
 | _,_,.cons h t,f=>.cons (f _ _ List.mem_cons_self h) (a7K t λ x y hx=>f x y (List.mem_cons_of_mem _ hx))
abbrev a6I:Stmt:=top 47
theorem sc__law_less:FnScope ["_law_rows", "_law_at", "_law_v", "_law_fresh"] ["_law_rows", "_law_at", "_law_v"] (a0F a6I):=⟨rfl,rfl,rfl,by decide +kernel,rfl,by decide +kernel,by decide +kernel⟩
abbrev a5I:Stmt:=top 48
theorem sc__law_comes:FnScope ["_law_rows", "_law_j", "_law_at"] ["_law_rows", "_law_j", "_law_at"] (a0F a5I):=⟨rfl,rfl,rfl,by decide +kernel,rfl,by decide +kernel,by decide +kernel⟩
abbrev a2E:Stmt:=top 49
theorem sc__law_apart_from:FnScope ["_law_rows", "_law_v", "_law_at", "_law_found", "_law_j"] ["_law_rows", "_law_v", "_law_at"] (a0F a2E):=⟨rfl,rfl,rfl,by decide +kernel,rfl,by decide +kernel,by decide +kernel⟩
abbrev a4Z:Stmt:=top 50
theorem sc__law_cut:FnScope ["_law_rows", "_law_cell_here", "_law_k", "_law_at", "_law_up", "_law_v", "_law_others"] ["_law_rows", "_law_cell_here"] (a0F a4Z):=⟨rfl,rfl,rfl,by decide +kernel,rfl,by decide +kernel,by decide +kernel⟩
def RowE (H:Hp) (v:V) (r:Row):Prop:=∃ p b,v = .ref p/\H p=some (.tup [upV r.1,.ref b])/\H b=some (.lst (r.2.map V.int))/\r.2.length<=1000
theorem RowE.same {H H':Hp} {v:V} {r:Row} (s:Same H H') (h:RowE H v r):RowE H' v r:=by
 obtain ⟨p,b,e,h1,h2,z⟩:=h
 exact ⟨p,b,e,s _ _ h1,s _ _ h2,z⟩
theorem RowE.v {K:Φρ} {H:Hp} {v:V} {r:Row} (h:RowE H v r):RowV K H v r:=by
 obtain ⟨p,b,e,h1,h2,z⟩:=h
 exact ⟨p,b,e,SqT.of h1,SqL.of h2,z⟩
def RowsE (H:Hp) (a:Addr) (rs:List Row):Prop:=∃ xs,H a=some (.lst xs)/\Paired (RowE H) xs rs
theorem RowsE.same {H H':Hp} {a:Addr} {rs:List Row} (s:Same H H') (h:RowsE H a rs):RowsE H' a rs:=by
 obtain ⟨xs,h1,p⟩:=h
 exact ⟨xs,s _ _ h1,Paired.mapP p λ _ _ h=>h.same s⟩
theorem RowsE.at {K:Φρ} {H:Hp} {a:Addr} {rs:List Row} (h:RowsE H a rs) (l:rs.length<=1000):RowsAt K H a rs:=by
 obtain ⟨xs,h1,p⟩:=h
 exact ⟨xs,SqL.of h1,Paired.mapP p λ _ _ h=>h.v,l⟩
theorem b1F {K:Φρ} {H:Hp} {Q:VK} {σ:St} {a:Addr} {xs:List V} {rs:List Row} (hA:SqL K H a xs) (pr:Paired (RowV K H) xs rs) (l:rs.length<=100)
  (h:∀ pm H',Same H H'->H pm=none->RowsE H' pm rs->Q (.ref pm) H') :
  a4B [none] (b3D 0) c1J (c1O (b3N (tOp (rIxT K) (tVar 0) (tC (V.int 0))) (b3N (tCB (b7X K) (b3N (tOp (rIxT K) (tVar 0) (tC (V.int 1))) tNil)) tNil))) σ H Q (Itl K a):=by
 have lx:=Paired.length pr
 refine b0O (K:=K) (a:=a) (xs:=xs) (λ i ys G=>Same H G/\Paired (RowE G) ys (rs.take i)) ⟨Same.refl _,.nil⟩ (λ i ys G hi ⟨s,p⟩=>⟨s.seq hA,?_⟩) (λ i x ys G hx ⟨s,p⟩=>?_) ?_
 ·have:=Paired.length p
  rw [this,List.length_take]
  exact Nat.le_of_lt (a1U (by omega))
 ·obtain ⟨r,hr,pp,b,rfl,hT,hb,hz⟩:=a1C pr hx
  refine ⟨_,rfl,pp,_,_,_,rfl,rfl,s.tupq hT,rfl,_,rfl,pp,_,_,_,rfl,rfl,s.tupq hT,rfl,b,_,rfl,.inl (s.seq hb),λ p6 H6 n6=>?_⟩
  refine ⟨(by show 2<=1000; decide),λ p7 H7 n7=>?_⟩
  have s7:=n6.same.trans n7.same
  refine ⟨s.trans s7,?_⟩
  obtain ⟨hil,hix⟩:=List.getElem?_eq_some_iff.mp hr
  rw [List.take_succ_eq_append_getElem hil,hix]
  exact a1X (Paired.mapP p λ _ _ q=>q.same s7) ⟨p7,p6,rfl,n7.here,n7.same _ _ n6.here,hz⟩
 intro ys G ⟨s,p⟩ pm hpm
 rw [lx,List.take_length] at p
 have n:=New.mk0 (o:=.lst ys) hpm
 exact h pm _ (s.trans n.same) (s.free hpm) ⟨ys,n.here,Paired.mapP p λ _ _ q=>q.same n.same⟩
def b7K (K:Φρ):Sp:=λ vs H Q _=>∃ (l:Addr) (a:Nat) (v:Int) (rs:List Row),vs=[.ref l,.int a,.int v]/\RowsAt K H l rs/\a < rs.length/\rs.length<=100/\∀ p H',Same H H'->RowsE H' p (a6H rs a v)->Q (.ref p) H'
def b5V (K:Φρ):Sp:=λ vs H Q _=>∃ (l:Addr) (j a:Nat) (rs:List Row),vs=[.ref l,.int j,.int a]/\RowsAt K H l rs/\a9X rs/\j < rs.length/\rs.length<=100/\∀ b:Bool,(b=true↔Cm rs a j)->Q (.bl b) H
def b5W (K:Φρ):Sp:=λ vs H Q _=>∃ (l:Addr) (v:Int) (a:Nat) (rs:List Row),vs=[.ref l,.int v,.int a]/\RowsAt K H l rs/\a9X rs/\a < rs.length/\rs.length<=100/\∀ p js H',Same H H'->H' p=some (.lst (natV js))->js.Nodup->(∀ j,j∈js↔j < rs.length/\v∈(a0G rs j).2/\¬ Cm rs a j)->Q (.ref p) H'
def c0L (K:Φρ):Sp:=λ vs H Q _=>∃ (l:Addr) (c:Int) (rs:List Row) (n:Nat),vs=[.ref l,.int c]/\RowsAt K H l rs/\Tree n rs/\n<=10/\(∀ H',Same H H'->Q .non H')/\∀ p rs' H',Same H H'->RowsE H' p rs'->rs'.length<=100->(∀ ts,a2H n ts rs' ≠ .ok)->Q (.ref p) H'
section
variable {P:Program} {w:World} {K:Φρ} {mg:Str->Option Value} {base:Heap}
abbrev DZ7 (K:PySem.W.Frag) (mg:Str->Option Value):=Dn K mg "_law_less" a6I ["_law_rows", "_law_at", "_law_v"]
set_option maxHeartbeats 8000000 in
theorem a5J (B:Bl mg) (dZ7:DZ7 K mg):FnOk P w K mg base CX0 1 dZ7.f dZ7.fd ["_law_rows", "_law_at", "_law_v"] (b7K K):=by
 refine dZ7.F.ok sc__law_less (λ vs H Q E h=>?_) (λ cdv A outer s H vs Q E hr h=>?_)
 ·obtain ⟨l,a,v,rs,rfl,_⟩:=h
  rfl
 obtain ⟨l,a,v,rs,rfl,hR,al,l100,q⟩:=h
 obtain ⟨ys,hy,hpr,hz⟩:=id hR
 have ly:ys.length=rs.length:=Paired.length hpr
 refine ⟨_,(a0C (a2M (i:=3) ["_law_row"] [none] sc__law_less.nd rfl rfl (by kernel_rfl) rfl (a0Z (K:=K) rfl (pv 0)) (λ _ _ _ _ _=>(a0L (i:=0) (show (["_law_row"]:List Str).Nodup by decide +kernel) rfl (Or.inl rfl))) (λ _ _ _ _ _=>a2J) (λ _ _ _ _ _=>(a0T (a0A (a0U (a0P (K:=K) rfl) (pv 0) a0D (λ _ _=>rfl)) (a0A (a3D (a2P (K:=K) rfl) rfl B.list (by decide +kernel) (a0A (a0U (a0P (K:=K) rfl) (pv 0) a0D (λ _ _=>rfl)) a0B)) a0B)))) (by rfl))
   (a0C (b1K (a0T (a0A (a0U (a0P (K:=K) rfl) (a0U (a0X (K:=K) rfl) (pv 0) (pv 1) (λ _ _=>rfl)) a0D (λ _ _=>rfl)) (a0A (a6M ["_law_u", "_law_v"] [none,some 2]  (by kernel_rfl) rfl (a0Z (K:=K) rfl (a0U (a0P (K:=K) rfl) (a0U (a0X (K:=K) rfl) (pv 0) (pv 1) (λ _ _=>rfl)) a0D (λ _ _=>rfl))) (λ _ _ _ _ _=>(a0L (i:=0) (show (["_law_u", "_law_v"]:List Str).Nodup by decide +kernel) rfl (Or.inl rfl))) (λ _ _ _ _ _=>(a4D (a0H c0Z (pv 0) (pv 1) (a0O _)))) (λ _ _ _ _ _=>(pv 0))) a0B))) (b1J (pv 3) (pv 1) a4I))
   (a0E (a0M (pv 3))))),?_⟩
 refine ⟨_,rfl,l,rfl,⟨_,hy⟩,b1F hy hpr l100 λ pm H1 s1 f1 RE=>?_⟩
 obtain ⟨x,hx,pp,b,rfl,hT,hb,bz⟩:=a1F hpr (a1Z al)
 refine ⟨_,rfl,_,rfl,l,_,_,_,rfl,rfl,s1.seq hy,a1W hx,pp,_,_,_,rfl,rfl,s1.tupq hT,rfl,?_⟩
 refine ⟨_,rfl,_,rfl,l,_,_,_,rfl,rfl,s1.seq hy,a1W hx,pp,_,_,_,rfl,rfl,s1.tupq hT,rfl,b,rfl,⟨_,s1.seq hb⟩,?_⟩
 refine a9F (λ x=>match x with | .int u=>if decide (u≠v)=true then some (.int u) else none | _=>none) (s1.seq hb) (by rw [List.length_map]; exact bz) (λ x H2 N hx s2 hN=>?_) (λ H2 p3 H3 s2 n3=>?_)
 ·obtain ⟨y,hy,rfl⟩:=List.mem_map.mp hx
  have hN':=hN H2 s2
  refine ⟨_,rfl,_,rfl,rfl,_,rfl,?_⟩
  rw [show (!decide (V.int y=V.int v))=decide (y≠v) by
   by_cases c:y=v
   ·rw [c]; simp
   ·rw [decide_eq_false (λ z=>c (V.int.inj z)),decide_eq_true c]; rfl]
  dsimp only at hN'
  cases d:decide (y≠v) with
  | true=>rw [d] at hN'; exact iteT ⟨_,rfl,hN'⟩
  | false=>rw [d] at hN'; exact iteF hN'
 have e3:((a0G rs a).2.map V.int).filterMap (λ x=>match x with | .int u=>if decide (u≠v)=true then some (V.int u) else none | _=>none)=((a0G rs a).2.filter λ u=>decide (u≠v)).map V.int:=b8A (a0G rs a).2 λ u=>decide (u≠v)
 rw [e3] at n3
 refine ⟨(by show 2<=1000; decide),λ p4 H4 n4=>?_⟩
 obtain ⟨zs,hz1,pz⟩:=RE
 have lz:=Paired.length pz
 have s14:=s2.trans (n3.same.trans n4.same)
 have hz4:=s14 _ _ hz1
 refine ⟨_,rfl,_,rfl,pm,_,_,a,rfl,rfl,hz4,a7X (by omega),λ H5 c5=>?_⟩
 have p3m:p3≠pm:=λ z=>by
  have:=n3.fresh
  rw [z,s2 _ _ hz1] at this; cases this
 have p4m:p4≠pm:=λ z=>by
  have:=n4.fresh
  rw [z,n3.same _ _ (s2 _ _ hz1)] at this; cases this
 refine ⟨_,rfl,q pm H5 ((s1.trans s14).chg f1 c5) ⟨_,c5.here,?_⟩⟩
 have keep:∀ {x r},x∈zs->RowE H1 x r->RowE H5 x r:=λ {x r} _ ⟨p,b,e,h1,h2,z⟩=>by
  have np:p≠pm:=b8G h1 hz1 (by intro z; cases z)
  have nb:b≠pm\/b=pm:=(Classical.em (b=pm)).symm
  rcases nb with nb | nb
  ·exact ⟨p,b,e,(c5.rest p np).trans (s14 _ _ h1),(c5.rest b nb).trans (s14 _ _ h2),z⟩
  ·exfalso
   rw [nb,hz1] at h2
   injection h2 with h2
   injection h2 with h2
   have i0:0 < zs.length:=by omega
   obtain ⟨r0,hr0,p0,b0,e0,_⟩:=a1C pz (List.getElem?_eq_getElem i0)
   have:zs[0]?=some (V.ref p0):=by rw [List.getElem?_eq_getElem i0,e0]
   rw [h2,List.getElem?_map] at this
   cases e:r.2[0]? with
   | none=>rw [e] at this; cases this
   | some w=>rw [e] at this; cases this
 have setP:∀ {xs:List V} {rs:List Row} (i:Nat) {x:V} {r:Row},Paired (RowE H5) xs rs->RowE H5 x r->Paired (RowE H5) (xs.set i x) (rs.set i r):=λ {xs rs} i {x r} p h=>by
  induction p generalizing i with
  | nil=>exact .nil
  | cons h1 t ih =>
   cases i with
   | zero=>exact .cons h t
   | succ i=>exact .cons h1 (ih i)
 refine setP a (a7K pz λ _ _ hm h=>keep hm h) ⟨p4,p3,rfl,(c5.rest p4 p4m).trans n4.here,(c5.rest p3 p3m).trans (n4.same _ _ n3.here),Nat.le_trans (List.length_filter_le _ _) bz⟩
abbrev DZ3 (K:PySem.W.Frag) (mg:Str->Option Value):=Dn K mg "_law_comes" a5I ["_law_rows", "_law_j", "_law_at"]
set_option maxHeartbeats 8000000 in
theorem a8K (B:Bl mg) (dZ3:DZ3 K mg):FnOk P w K mg base CX0 1 dZ3.f dZ3.fd ["_law_rows", "_law_j", "_law_at"] (b5V K):=by
 refine dZ3.F.ok sc__law_comes (λ vs H Q E h=>?_) (λ cdv A outer s H vs Q E hr h=>?_)
 ·obtain ⟨l,j,a,rs,rfl,_⟩:=h
  rfl
 obtain ⟨l,j,a,rs,rfl,hR,U,jl,l100,q⟩:=h
 obtain ⟨ys,hy,hpr,hz⟩:=id hR
 refine ⟨_,(a0C (b1L PassesOwn.never (PW.pt (a2L (a0H a4U (pv 1) a1Y (a0O _)) (a1S (a0H a5Q (pv 1) (pv 2) (a0O _)))))
   (a0E (a0Q (i:=1) sc__law_comes.nd rfl (Or.inl rfl) (a0U (a0P (K:=K) rfl) (a0U (a0X (K:=K) rfl) (pv 0) (pv 1) (λ _ _=>rfl)) a0D (λ _ _=>rfl)))))
   (a0E (a0M (a2W a2V (pv 1) (pv 2) (a0O _))))),?_⟩
 refine ⟨λ m σ H'=>H'=H/\((σ=[some (.ref l),some .non,some (.int (a:Int))]/\¬ Cm rs a j)\/∃ x:Nat,σ=[some (.ref l),some (.int (x:Int)),some (.int (a:Int))]/\x < rs.length/\(Cm rs a j↔Cm rs a x)/\m=x),⟨j,rfl,.inr ⟨j,rfl,jl,Iff.rfl,rfl⟩⟩,?_⟩
 rintro m σ H' ⟨rfl,⟨rfl,nc⟩ | ⟨x,rfl,xl,iff,rfl⟩⟩
 ·refine ⟨_,rfl,rfl,_,rfl,iteF (iteF ?_)⟩
  refine ⟨_,rfl,_,rfl,rfl,?_⟩
  exact q _ ⟨λ z=>absurd (of_decide_eq_true z) (by intro w; cases w),λ z=>absurd z nc⟩
 ·refine ⟨_,rfl,rfl,_,rfl,iteT ?_⟩
  refine ⟨_,rfl,_,rfl,_,_,rfl,rfl,_,rfl,ite2 (λ c=>?_) (λ c=>?_)⟩
  ·have c':(a:Int) < (m:Int):=of_decide_eq_true c
   obtain ⟨v,hv,pp,b,rfl,hT,hb,_⟩:=a1F hpr (a1Z xl)
   refine ⟨λ σ' H'=>∃ m',m' < m/\H'=_/\_,λ _ _ h=>h,?_⟩
   refine ⟨_,rfl,_,rfl,l,_,_,_,rfl,rfl,hy,a1W hv,pp,_,_,_,rfl,rfl,hT,rfl,?_⟩
   cases e:(a0G rs m).1 with
   | none=>exact ⟨0,by omega,rfl,.inl ⟨rfl,λ z=>c0H (by omega) e (iff.mp z)⟩⟩
   | some u =>
    have hu:=U m xl u e
    obtain ⟨y,rfl⟩:∃ y:Nat,u=(y:Int):=⟨u.toNat,by omega⟩
    rw [Int.toNat_natCast] at hu
    exact ⟨y,hu.2,rfl,.inr ⟨y,rfl,by omega,iff.trans (c3Q (by omega) e),rfl⟩⟩
  ·have c':¬ (a:Int) < (m:Int):=of_decide_eq_false (Bool.eq_false_iff.mpr c)
   refine ⟨_,rfl,_,rfl,rfl,?_⟩
   refine q _ ⟨λ z=>iff.mpr ?_,λ z=>?_⟩
   ·have:=V.int.inj (of_decide_eq_true z)
    rw [show m=a by omega]
    exact .refl
   ·have:=(iff.mp z).le
    exact decide_eq_true (congrArg V.int (by omega))
abbrev DZ0 (K:PySem.W.Frag) (mg:Str->Option Value):=Dn K mg "_law_apart_from" a2E ["_law_rows", "_law_v", "_law_at"]
set_option maxHeartbeats 8000000 in
theorem a4S (B:Bl mg) (dZ3:DZ3 K mg) (dZ0:DZ0 K mg):FnOk P w K mg base CX0 2 dZ0.f dZ0.fd ["_law_rows", "_law_v", "_law_at"] (b5W K):=by
 have gZ3:FnOk P w K mg base CX0 1 _ _ _ _:=a8K B dZ3
 refine dZ0.F.ok sc__law_apart_from (λ vs H Q E h=>?_) (λ cdv A outer s H vs Q E hr h=>?_)
 ·obtain ⟨l,v,a,rs,rfl,_⟩:=h
  rfl
 obtain ⟨l,v,a,rs,rfl,hR,U,al,l100,q⟩:=h
 have hv:(A.deeper (PyProof.Rows.envOfC "_law_apart_from" (a0F a2E) s.heap.objs.size dZ0.f cdv)).units+65 < cLine:=by have:=hr.un; omega
 obtain ⟨ys,hy,hpr,hz⟩:=id hR
 have ly:ys.length=rs.length:=Paired.length hpr
 refine ⟨_,(a0C (a0Q (i:=3) sc__law_apart_from.nd rfl (Or.inl rfl) (a1Q a0B))
   (a0C (a2A PassesOwn.never rfl (a1L rfl B.range (a0A (a0I (a0R (K:=K) rfl) rfl B.len (by decide +kernel) (a0A (pv 0) a0B)) a0B)) (a0L (i:=4) sc__law_apart_from.nd rfl (Or.inl rfl))
   (a0E (a1E (PW.pt (a2L (a0H (a2K (K:=K) rfl hv) (pv 1) (a0U (a0P (K:=K) rfl) (a0U (a0X (K:=K) rfl) (pv 0) (pv 4) (λ _ _=>rfl)) a0D (λ _ _=>rfl)) (by with_unfolding_all rfl)) (a1S (a3A (a1D (K:=K) rfl (a0J gZ3 hr rfl dZ3.m dZ3.F.kp dZ3.b .nil a1A (a0A (pv 0) (a0A (pv 4) (a0A (pv 2) a0B)))) (λ _=>rfl))))))
   (a0E (a3H (a5E (K:=K) rfl PySem.F.plainAttrs_list PySem.F.slot_list_append PySem.F.type_list_append a2B (pv 3) (a0A (pv 4) a0B))))
   a0N)))
   (a0E (a0M (pv 3))))),?_⟩
 refine ⟨(by show 0<=1000; decide),λ r H0 nw=>?_⟩
 refine ⟨_,rfl,l,_,rfl,.inl (nw.same.seq hy),_,rfl,by omega,by omega,?_⟩
 rw [Int.toNat_natCast,ly]
 refine a1T (n:=rs.length) (λ i σ H'=>∃ (jj:Option V) (js:List Nat),σ=[some (.ref l),some (.int v),some (.int (a:Int)),some (.ref r),jj]/\Same H H'/\H' r=some (.lst (natV js))/\js.Nodup/\js.length<=i/\∀ j,j∈js↔j < i/\v∈(a0G rs j).2/\¬ Cm rs a j) ⟨none,[],rfl,nw.same,nw.here,.nil,Nat.le_refl _,λ j=>⟨λ h=>absurd h List.not_mem_nil,λ h=>absurd h.1 (Nat.not_lt_zero _)⟩⟩ ?_ ?_
 ·rintro i σ H1 hi ⟨jj,js,rfl,s1,hr1,nd,lj,mem⟩
  have ei:(0+(i:Int))=((i:Nat):Int):=by omega
  rw [ei]
  obtain ⟨x,hx,pp,b,rfl,hT,hb,_⟩:=a1F hpr (a1Z hi)
  have no:¬ (v∈(a0G rs i).2/\¬ Cm rs a i)->∃ (jj:Option V) (js:List Nat),[some (V.ref l),some (.int v),some (.int (a:Int)),some (.ref r),some (.int (i:Int))]=[some (.ref l),some (.int v),some (.int (a:Int)),some (.ref r),jj]/\Same H H1/\H1 r=some (.lst (natV js))/\js.Nodup/\js.length<=i+1/\∀ j,j∈js↔j < i+1/\v∈(a0G rs j).2/\¬ Cm rs a j:=λ nn=>⟨_,js,rfl,s1,hr1,nd,by omega,λ j=>by
   rw [mem]
   refine ⟨λ h=>⟨by omega,h.2⟩,λ h=>⟨?_,h.2⟩⟩
   rcases Nat.lt_or_ge j i with c | c
   ·exact c
   ·obtain rfl:j=i:=by omega
    exact absurd h.2 nn⟩
  refine ⟨_,rfl,_,rfl,_,rfl,l,_,_,_,rfl,rfl,s1.seq hy,a1W hx,pp,_,_,_,rfl,rfl,s1.tupq hT,rfl,a3O (s1.seq hb) ⟨_,rfl,?_⟩⟩
  refine ite2 (λ c=>?_) (λ c=>?_)
  ·have c':v∈(a0G rs i).2:=of_decide_eq_true c
   refine ⟨_,rfl,_,rfl,_,rfl,l,i,a,rs,rfl,hR.same s1,U,hi,l100,λ bb hbb=>⟨_,rfl,?_⟩⟩
   cases bb with
   | true=>exact iteF (no λ z=>z.2 (hbb.mp rfl))
   | false =>
    have nc:¬ Cm rs a i:=λ z=>absurd (hbb.mpr z) (by decide)
    refine iteT ?_
    refine ⟨_,rfl,.inl ⟨rfl,_,SqL.of hr1⟩,_,rfl,r,_,_,rfl,rfl,hr1,by rw [List.length_map]; omega,λ H2 c2=>?_⟩
    refine ⟨_,js++[i],rfl,s1.chg nw.fresh c2,by rw [c2.here]; unfold natV; rw [List.map_append]; rfl,?_,by rw [List.length_append]; show _+1<=_; omega,λ j=>?_⟩
    ·refine List.nodup_append.mpr ⟨nd,by simp,λ x hx y hy z=>?_⟩
     rw [List.mem_singleton.mp hy] at z
     have:=((mem x).mp hx).1
     omega
    ·rw [List.mem_append,mem,List.mem_singleton]
     constructor
     ·rintro (h | rfl)
      ·exact ⟨by omega,h.2⟩
      ·exact ⟨by omega,c',nc⟩
     ·intro h
      rcases Nat.lt_or_ge j i with d | d
      ·exact .inl ⟨d,h.2⟩
      ·exact .inr (by omega)
  ·exact iteF (no λ z=>c (decide_eq_true z.1))
 ·rintro σ H1 ⟨jj,js,rfl,s1,hr1,nd,lj,mem⟩
  exact ⟨_,rfl,q r js H1 s1 hr1 nd mem⟩
abbrev DZ4 (K:PySem.W.Frag) (mg:Str->Option Value):=Dn K mg "_law_cut" a4Z ["_law_rows", "_law_cell_here"]
set_option maxHeartbeats 8000000 in
theorem b1G (B:Bl mg) (dZ7:DZ7 K mg) (dZ3:DZ3 K mg) (dZ0:DZ0 K mg) (dZ4:DZ4 K mg):FnOk P w K mg base CX0 3 dZ4.f dZ4.fd ["_law_rows", "_law_cell_here"] (c0L K):=by
 have gZ0:FnOk P w K mg base CX0 2 _ _ _ _:=a4S B dZ3 dZ0
 have gZ7:FnOk P w K mg base CX0 2 _ _ _ _:=(a5J B dZ7).mono (by decide)
 refine dZ4.F.ok sc__law_cut (λ vs H Q E h=>?_) (λ cdv A outer s H vs Q E hr h=>?_)
 ·obtain ⟨l,c,rs,n,rfl,_⟩:=h
  rfl
 obtain ⟨l,c,rs,n,rfl,hR,T,n10,q0,q⟩:=h
 have hv:(A.deeper (PyProof.Rows.envOfC "_law_cut" (a0F a4Z) s.heap.objs.size dZ4.f cdv)).units+65 < cLine:=by have:=hr.un; omega
 obtain ⟨ys,hy,hpr,hz⟩:=id hR
 have ly:ys.length=rs.length:=Paired.length hpr
 have l20:=T.len
 have pos:=T.pos
 have U:=b8B T.ok
 refine ⟨_,(a0C (a2A PassesOwn.never rfl (a1L rfl B.range (a0A (a0I (a0R (K:=K) rfl) rfl B.len (by decide +kernel) (a0A (pv 0) a0B)) a0B)) (a0L (i:=2) sc__law_cut.nd rfl (Or.inl rfl))
   (a0C (a0Q (i:=3) sc__law_cut.nd rfl (Or.inl rfl) (a0K a1M (a0K a1R (pv 2) (pv 1)) (a0I (a0R (K:=K) rfl) rfl B.len (by decide +kernel) (a0A (pv 0) a0B))))
   (a0C (a0Q (i:=4) sc__law_cut.nd rfl (Or.inl rfl) (a0U (a0P (K:=K) rfl) (a0U (a0X (K:=K) rfl) (pv 0) (pv 3) (λ _ _=>rfl)) a0D (λ _ _=>rfl)))
   (a0E (a1E (a0H a4U (pv 4) a1Y (a0O _))
   (a0E (a2A PassesOwn.never rfl (a0Z (K:=K) rfl (a0U (a0P (K:=K) rfl) (a0U (a0X (K:=K) rfl) (pv 0) (pv 3) (λ _ _=>rfl)) a0D (λ _ _=>rfl))) (a0L (i:=5) sc__law_cut.nd rfl (Or.inl rfl))
   (a0C (a0Q (i:=6) sc__law_cut.nd rfl (Or.inl rfl) (a0J gZ0 hr rfl dZ0.m dZ0.F.kp dZ0.b .nil a1A (a0A (pv 0) (a0A (pv 5) (a0A (pv 3) a0B)))))
   (a0E (a1E (PW.pt (a2L (a0H (a2K (K:=K) rfl hv) (pv 4) (pv 6) (by with_unfolding_all rfl)) (a1S (a0H a5Q (a0I (a0R (K:=K) rfl) rfl B.len (by decide +kernel) (a0A (pv 6) a0B)) a0D (a0O _)))))
   (a0E (a0M (a0J gZ7 hr rfl dZ7.m dZ7.F.kp dZ7.b .nil a1A (a0A (pv 0) (a0A (pv 4) (a0A (pv 5) a0B))))))
   a0N)))))
   a0N)))))
   (a0E (a0M a1Y))),?_⟩
 refine ⟨_,rfl,l,_,rfl,.inl hy,_,rfl,by omega,by omega,?_⟩
 rw [Int.toNat_natCast,ly]
 refine a1T (n:=rs.length) (λ i σ H'=>(∃ kk at_ up vv oo:Option V,σ=[some (.ref l),some (.int c),kk,at_,up,vv,oo])/\Same H H') ⟨⟨_,_,_,_,_,rfl⟩,Same.refl _⟩ ?_ ?_
 ·rintro i σ H1 hi ⟨⟨kk,at_,up,vv,oo,rfl⟩,s1⟩
  have ei:(0+(i:Int))=((i:Nat):Int):=by omega
  rw [ei]
  have m0:=Int.emod_nonneg ((i:Int)+c) (show ((rs.length:Nat):Int)≠0 by omega)
  have m1:=Int.emod_lt_of_pos ((i:Int)+c) (show (0:Int) < ((rs.length:Nat):Int) by omega)
  obtain ⟨a,ea⟩:∃ a:Nat,((i:Int)+c) % ((rs.length:Nat):Int)=(a:Int):=⟨(((i:Int)+c) % ((rs.length:Nat):Int)).toNat,by omega⟩
  have al:a < rs.length:=by omega
  refine ⟨_,rfl,_,rfl,_,_,rfl,rfl,_,rfl,l,_,rfl,.inl (s1.seq hy),_,_,rfl,rfl,(show (0:Int) < ((ys.length:Nat):Int) by omega),?_⟩
  dsimp only
  rw [ly,ea]
  obtain ⟨x,hx,pp,b,rfl,hT,hb,bz⟩:=a1F hpr (a1Z al)
  refine ⟨_,rfl,_,rfl,l,_,_,_,rfl,rfl,s1.seq hy,a1W hx,pp,_,_,_,rfl,rfl,s1.tupq hT,rfl,?_⟩
  refine ⟨_,rfl,rfl,_,rfl,?_⟩
  cases eu:(a0G rs a).1 with
  | none=>exact iteF ⟨⟨_,_,_,_,_,rfl⟩,s1⟩
  | some w =>
   have hw:=U a al w eu
   obtain ⟨u,rfl⟩:∃ u:Nat,w=(u:Int):=⟨w.toNat,by omega⟩
   rw [Int.toNat_natCast] at hw
   refine iteT ?_
   refine ⟨_,rfl,_,rfl,l,_,_,_,rfl,rfl,s1.seq hy,a1W hx,pp,_,_,_,rfl,rfl,s1.tupq hT,rfl,b,rfl,⟨_,s1.seq hb⟩,?_⟩
   refine a3X (xs:=(a0G rs a).2.map V.int) (λ j σ H'=>(∃ vv oo:Option V,σ=[some (.ref l),some (.int c),some (.int (i:Int)),some (.int (a:Int)),some (.int (u:Int)),vv,oo])/\Same H H') ⟨⟨_,_,rfl⟩,s1⟩ (λ j σ H' _ ⟨_,s⟩=>s.seq hb) ?_ ?_
   ·rintro j x σ H2 hx2 ⟨⟨vv,oo,rfl⟩,s2⟩
    rw [List.getElem?_map] at hx2
    obtain ⟨v,hv',rfl⟩:=Option.map_eq_some_iff.mp hx2
    have vm:=List.mem_of_getElem? hv'
    have o:=T.ok a al
    unfold a1N at o
    rw [Bool.and_eq_true] at o
    have vb:=((a2C _ _).mp o.2).1 v vm
    obtain ⟨z,rfl⟩:∃ z:Nat,v=(z:Int):=⟨v.toNat,by omega⟩
    refine ⟨_,rfl,_,rfl,_,rfl,l,(z:Int),a,rs,rfl,hR.same s2,U,al,by omega,λ p js H3 s3 h3 nd mem=>?_⟩
    have s03:=s2.trans s3
    refine ⟨_,rfl,_,rfl,c1Y (SqL.of h3) ⟨_,rfl,?_⟩⟩
    refine ite2 (λ d=>?_) (λ d=>?_)
    ·have d':u∈js:=of_decide_eq_true d
     refine ⟨_,rfl,p,_,rfl,.inl (SqL.of h3),_,_,rfl,rfl,_,rfl,ite2 (λ e=>?_) (λ e=>?_)⟩
     ·have e':(1:Int) < (((natV js).length:Nat):Int):=of_decide_eq_true e
      rw [List.length_map] at e'
      obtain ⟨j',hj',ne⟩:∃ j'∈js,j'≠u:=Classical.byContradiction λ no=>by
       have:=pigN (U:=[u]) nd λ x hx=>List.mem_singleton.mpr (Classical.byContradiction λ w=>no ⟨x,hx,w⟩)
       rw [List.length_singleton] at this
       omega
      obtain ⟨jl',vj',nc⟩:=(mem j').mp hj'
      refine ⟨_,rfl,_,rfl,_,rfl,l,u,(z:Int),rs,rfl,hR.same s03,by omega,by omega,λ p4 H4 s4 R4=>?_⟩
      exact q p4 _ H4 (s03.trans s4) R4 (by rw [a3G]; omega) λ ts=>c0I (by omega) U al eu vm jl' ne vj' nc
     ·exact ⟨⟨_,_,rfl⟩,s03⟩
    ·exact iteF ⟨⟨_,_,rfl⟩,s03⟩
   ·rintro σ H2 ⟨⟨vv,oo,rfl⟩,s2⟩
    exact ⟨⟨_,_,_,_,_,rfl⟩,s2⟩
 ·rintro σ H1 ⟨⟨kk,at_,up,vv,oo,rfl⟩,s1⟩
  exact q0 H1 s1
end
end K
namespace K
open PySem L2 Lw Bg
theorem b5X (xs:List V) (k:Nat):cutV xs none (some (k:Int))=xs.take k:=by
 unfold cutV
 rw [HT.sIx_nat,show HT.sIx xs.length 0 none=0 from rfl,List.drop_zero,Nat.sub_zero]
 rcases Nat.le_total k xs.length with c | c
 ·rw [Nat.min_eq_left c]
 ·rw [Nat.min_eq_right c,List.take_of_length_le (Nat.le_refl _),List.take_of_length_le c]
theorem b5Y (xs:List V) (k:Nat):cutV xs (some (k:Int)) none=xs.drop k:=by
 unfold cutV
 rw [HT.sIx_nat,show HT.sIx xs.length xs.length none=xs.length from rfl]
 rcases Nat.le_total k xs.length with c | c
 ·rw [Nat.min_eq_left c,List.take_of_length_le (by rw [List.length_drop]; exact Nat.le_refl _)]
 ·rw [Nat.min_eq_right c,List.drop_of_length_le (Nat.le_refl _),List.drop_of_length_le c,List.take_nil]
abbrev a7L:Stmt:=top 51
theorem sc__law_bad:FnScope ["_law_row", "_law_at", "_law_n", "_law_kind", "_law_far", "_law_bag"] ["_law_row", "_law_at", "_law_n", "_law_kind", "_law_far"] (a0F a7L):=⟨rfl,rfl,rfl,by decide +kernel,rfl,by decide +kernel,by decide +kernel⟩
abbrev a2Y:Stmt:=top 52
theorem sc__law_spoiled:FnScope ["_law_n", "_law_ties_here", "_law_rows", "_law_kind", "_law_cell_here", "_law_bare", "_law_at", "_law_k", "_law_a", "_law_b", "_law_both"] ["_law_n", "_law_ties_here", "_law_rows", "_law_kind", "_law_cell_here"] (a0F a2Y):=⟨rfl,rfl,rfl,by decide +kernel,rfl,by decide +kernel,by decide +kernel⟩
theorem andQ {a b:TT} {σ:St} {H:Hp} {Q:Bool->Hp->Prop} {c1 c2:Bool} (h1:∀ Q:Bool->Hp->Prop,Q c1 H->a σ H Q) (h2:∀ Q:Bool->Hp->Prop,Q c2 H->b σ H Q) (h:Q (c1 && c2) H):tAnd a b σ H Q:=by
 refine h1 _ ?_
 cases c1 with
 | false=>exact iteF h
 | true=>exact iteT (h2 _ h)
theorem b2F {n:Int} {ls:List Int} (h:(∀ v∈ls,0<=v/\v < n)->ls.Pairwise (· < ·)->False):setF n ls=false:=Bool.eq_false_iff.mpr λ e=>h ((a2C _ _).mp e).1 ((a2C _ _).mp e).2
theorem c0M {a:Nat} {u:Int} (h:u < 0\/(a:Int)<=u):upOk a (some u)=false:=by
 unfold upOk
 by_cases c:a=0
 ·rw [if_pos c]; rfl
 ·rw [if_neg c]
  unfold a5F
  simp
  omega
def c0N (K:Φρ):Sp:=λ vs H Q _=>∃ (v:V) (a n:Nat) (kd far:Int) (r:Row),vs=[v,.int a,.int n,.int kd,.int far]/\RowE H v r/\setF (n:Int) r.2=true/\r.2.length<=10/\0<=far/\∀ p r' H',Same H H'->RowE H' (.ref p) r'->(upOk a r'.1 && setF (n:Int) r'.2)=false->Q (.ref p) H'
section
variable {P:Program} {w:World} {K:Φρ} {mg:Str->Option Value} {base:Heap}
abbrev DZ1 (K:PySem.W.Frag) (mg:Str->Option Value):=Dn K mg "_law_bad" a7L ["_law_row", "_law_at", "_law_n", "_law_kind", "_law_far"]
set_option maxHeartbeats 8000000 in
theorem b1H (B:Bl mg) (dZ1:DZ1 K mg):FnOk P w K mg base CX0 1 dZ1.f dZ1.fd ["_law_row", "_law_at", "_law_n", "_law_kind", "_law_far"] (c0N K):=by
 refine dZ1.F.ok sc__law_bad (λ vs H Q E h=>?_) (λ cdv A outer s H vs Q E hr h=>?_)
 ·obtain ⟨v,a,n,kd,far,r,rfl,_⟩:=h
  rfl
 obtain ⟨v,a,n,kd,far,r,rfl,⟨pp,b,rfl,hT,hb,bz⟩,hset,l10,f0,q⟩:=h
 obtain ⟨s1,s2⟩:=(a2C _ _).mp hset
 have hbL:SqL K H b (r.2.map V.int):=SqL.of hb
 refine ⟨_,(a0C (a0Q (i:=5) sc__law_bad.nd rfl (Or.inl rfl) (a0U (a0P (K:=K) rfl) (pv 0) a0D (λ _ _=>rfl)))
   (a0C (a1E (PW.pt (a2L (a0H a2V (pv 3) a0D (a0O _)) (a1S (a0H a5Q (a0I (a0R (K:=K) rfl) rfl B.len (by decide +kernel) (a0A (pv 5) a0B)) a0D (a0O _)))))
   (a0E (a0M (a0T (a0A (a0U (a0P (K:=K) rfl) (pv 0) a0D (λ _ _=>rfl)) (a0A (a0K a2Q (a0K a2Q (a3Y (a3Z (K:=K) rfl) (pv 5) (a3Q a0D) (a3Q a0D)) (a3Y (a3Z (K:=K) rfl) (pv 5) a7P (a3Q a0D))) (a3Y (a3Z (K:=K) rfl) (pv 5) (a3Q a0D) a7P)) a0B)))))
   a0N)
   (a0C (a1E (PW.pt (a2L (a0H a2V (pv 3) a0D (a0O _)) (a1S (a0H a2V (a0I (a0R (K:=K) rfl) rfl B.len (by decide +kernel) (a0A (pv 5) a0B)) a0D (a0O _)))))
   (a0E (a0M (a0T (a0A (a0U (a0P (K:=K) rfl) (pv 0) a0D (λ _ _=>rfl)) (a0A (a0K a2Q (pv 5) (pv 5)) a0B)))))
   a0N)
   (a0C (a1E (a0H a2V (pv 3) a0D (a0O _))
   (a0E (a0M (a0T (a0A (a0K a6Y (b3G a8Q a0D) (pv 4)) (a0A (pv 5) a0B)))))
   a0N)
   (a0C (a1E (a0H a2V (pv 3) a0D (a0O _))
   (a0E (a0M (a0T (a0A (a0U (a0P (K:=K) rfl) (pv 0) a0D (λ _ _=>rfl)) (a0A (a0K a2Q (a1Q (a0A (a0K a6Y (b3G a8Q a0D) (pv 4)) a0B)) (pv 5)) a0B)))))
   a0N)
   (a0C (a1E (PW.pt (a2L (a0H a2V (pv 3) a0D (a0O _)) (a1S (a0H a5Q (pv 1) a0D (a0O _)))))
   (a0E (a0M (a0T (a0A a1Y (a0A (pv 5) a0B)))))
   a0N)
   (a0C (a1E (a0H a2V (pv 3) a0D (a0O _))
   (a0E (a0M (a0T (a0A (a0K a1R (a0K a1R (pv 1) a0D) (pv 4)) (a0A (pv 5) a0B)))))
   a0N)
   (a0C (a1E (a0H (b8V (K:=K) rfl) (pv 3) (a0T (a0A a0D (a0A a0D a0B))) (by with_unfolding_all rfl))
   (a0E (a0M (a0T (a0A (a0U (a0P (K:=K) rfl) (pv 0) a0D (λ _ _=>rfl)) (a0A (a0K a2Q (pv 5) (a1Q (a0A (a0K a1R (pv 2) (pv 4)) a0B))) a0B)))))
   a0N)
   (a0E (a0M (a0T (a0A (pv 1) (a0A (pv 5) a0B))))))))))))),?_⟩
 refine ⟨_,rfl,pp,_,_,_,rfl,rfl,SqT.of hT,rfl,?_⟩
 have mkB:∀ (ls:List Int) H1 pb,Same H H1->H1 pb=some (.lst (ls.map V.int))->ls.length<=1000->setF (n:Int) ls=false->∀ p H2,New H1 p (.tup [upV r.1,.ref pb]) H2->Q (.ref p) H2:=λ ls H1 pb s h l f p H2 n2=>q p (r.1,ls) H2 (s.trans n2.same) ⟨p,pb,rfl,n2.here,n2.same _ _ h,l⟩ (by rw [f,Bool.and_false])
 have mkU:∀ (u:Option Int),upOk a u=false->∀ p H2,New H p (.tup [upV u,.ref b]) H2->Q (.ref p) H2:=λ u f p H2 n2=>q p (u,r.2) H2 n2.same ⟨p,b,rfl,n2.here,n2.same _ _ hb,bz⟩ (by rw [f,Bool.false_and])
 try dsimp only [a8N,tSeq,tIfS]
 refine andQ (c1:=decide (V.int kd=V.int 4)) (c2:=decide ((1:Int) < (((r.2.map V.int).length:Nat):Int))) ?_ ?_ ?_
 ·exact λ Q h=>⟨_,rfl,rfl,_,rfl,h⟩
 ·exact λ Q h=>⟨_,rfl,b,_,rfl,.inl hbL,_,_,rfl,rfl,_,rfl,h⟩
 refine ite2 (λ c=>?_) (λ _=>?_)
 ·have c':(1:Int) < (((r.2.map V.int).length:Nat):Int):=of_decide_eq_true (Bool.and_eq_true _ _ ▸ c).2
  rw [List.length_map] at c'
  obtain ⟨x,y,t,er⟩:∃ x y t,r.2=x::y::t:=by
   match e:r.2 with
   | []=>rw [e] at c'; exact absurd c' (by decide)
   | [x]=>rw [e] at c'; simp at c'
   | x::y::t=>exact ⟨x,y,t,rfl⟩
  refine ⟨_,rfl,pp,_,_,_,rfl,rfl,SqT.of hT,rfl,?_⟩
  refine ⟨_,rfl,_,rfl,_,rfl,b,_,rfl,hbL,λ p1 H1 n1=>?_⟩
  have e1:cutV (r.2.map V.int) (some 1) (some 2)=[V.int y]:=by
   have:=b4M r.2 1 1
   rw [er] at this ⊢
   exact this
  rw [e1] at n1
  refine ⟨_,rfl,_,rfl,b,_,rfl,n1.same.seq hbL,λ p2 H2 n2=>?_⟩
  have e2:cutV (r.2.map V.int) none (some 1)=[V.int x]:=by
   have:=b5X (r.2.map V.int) 1
   rw [er] at this ⊢
   exact this
  rw [e2] at n2
  refine ⟨p1,p2,_,_,rfl,rfl,n2.same _ _ n1.here,n2.here,by show 1+1<=1000; decide,λ p3 H3 n3=>?_⟩
  have s3:=n1.same.trans (n2.same.trans n3.same)
  refine ⟨_,rfl,_,rfl,b,_,rfl,s3.seq hbL,λ p4 H4 n4=>?_⟩
  have e4:cutV (r.2.map V.int) (some 2) none=t.map V.int:=by
   have:=b5Y (r.2.map V.int) 2
   rw [er] at this ⊢
   exact this
  rw [e4] at n4
  have lt:t.length<=10:=by rw [er] at l10; simp at l10; omega
  refine ⟨p3,p4,_,_,rfl,rfl,n4.same _ _ n3.here,n4.here,by rw [List.length_map]; show 2+_<=_; omega,λ p5 H5 n5=>?_⟩
  have e5:[V.int y]++[V.int x]++t.map V.int=(y::x::t).map V.int:=rfl
  rw [e5] at n5
  refine ⟨(by show 2<=1000; decide),λ p6 H6 n6=>mkB (y::x::t) H5 p5 (s3.trans (n4.same.trans n5.same)) n5.here (by simp; omega) ?_ p6 H6 n6⟩
  refine b2F λ _ pw=>?_
  have a1:=(List.pairwise_cons.mp pw).1 x List.mem_cons_self
  rw [er] at s2
  have a2:=(List.pairwise_cons.mp s2).1 y List.mem_cons_self
  omega
 try dsimp only [a8N,tSeq,tIfS]
 refine andQ (c1:=decide (V.int kd=V.int 4)) (c2:=decide (V.int (((r.2.map V.int).length:Nat):Int)=V.int 1)) ?_ ?_ ?_
 ·exact λ Q h=>⟨_,rfl,rfl,_,rfl,h⟩
 ·exact λ Q h=>⟨_,rfl,b,_,rfl,.inl hbL,rfl,_,rfl,h⟩
 refine ite2 (λ c=>?_) (λ _=>?_)
 ·have c':=V.int.inj (of_decide_eq_true (Bool.and_eq_true _ _ ▸ c).2)
  rw [List.length_map] at c'
  obtain ⟨x,er⟩:∃ x,r.2=[x]:=by
   match e:r.2 with
   | []=>rw [e] at c'; exact absurd c' (by decide)
   | [x]=>exact ⟨x,rfl⟩
   | x::y::t=>rw [e] at c'; simp at c'; omega
  refine ⟨_,rfl,pp,_,_,_,rfl,rfl,SqT.of hT,rfl,?_⟩
  refine ⟨_,rfl,_,rfl,b,b,_,_,rfl,rfl,hb,hb,by rw [List.length_map]; omega,λ p1 H1 n1=>?_⟩
  rw [<- List.map_append] at n1
  refine ⟨(by show 2<=1000; decide),λ p6 H6 n6=>mkB (r.2++r.2) H1 p1 n1.same n1.here (by rw [List.length_append]; omega) ?_ p6 H6 n6⟩
  refine b2F λ _ pw=>?_
  rw [er] at pw
  have a1:=(List.pairwise_cons.mp pw).1 x List.mem_cons_self
  omega
 refine ⟨_,rfl,rfl,_,rfl,ite2 (λ _=>?_) (λ _=>?_)⟩
 ·refine ⟨_,rfl,_,rfl,_,_,rfl,rfl,_,rfl,(by show 2<=1000; decide),λ p6 H6 n6=>mkU (some (-1 - far)) (c0M (.inl (by omega))) p6 H6 n6⟩
 refine ⟨_,rfl,rfl,_,rfl,ite2 (λ _=>?_) (λ _=>?_)⟩
 ·refine ⟨_,rfl,pp,_,_,_,rfl,rfl,SqT.of hT,rfl,?_⟩
  refine ⟨_,rfl,_,rfl,_,_,rfl,rfl,(by show 1<=1000; decide),λ p1 H1 n1=>?_⟩
  refine ⟨_,rfl,p1,b,_,_,rfl,rfl,n1.here,n1.same _ _ hb,by rw [List.length_map]; show 1+_<=_; omega,λ p2 H2 n2=>?_⟩
  have e5:[V.int (-1 - far)]++r.2.map V.int=((-1 - far)::r.2).map V.int:=rfl
  rw [e5] at n2
  refine ⟨(by show 2<=1000; decide),λ p6 H6 n6=>mkB ((-1 - far)::r.2) H2 p2 (n1.same.trans n2.same) n2.here (by simp; omega) ?_ p6 H6 n6⟩
  refine b2F λ bd _=>?_
  have:=bd _ List.mem_cons_self
  omega
 try dsimp only [a8N,tSeq,tIfS]
 refine andQ (c1:=decide (V.int kd=V.int 8)) (c2:=decide ((0:Int) < (a:Int))) ?_ ?_ ?_
 ·exact λ Q h=>⟨_,rfl,rfl,_,rfl,h⟩
 ·exact λ Q h=>⟨_,rfl,_,_,rfl,rfl,_,rfl,h⟩
 refine ite2 (λ c=>?_) (λ _=>?_)
 ·have c':(0:Int) < (a:Int):=of_decide_eq_true (Bool.and_eq_true _ _ ▸ c).2
  refine ⟨_,rfl,(by show 2<=1000; decide),λ p6 H6 n6=>mkU none ?_ p6 H6 n6⟩
  unfold upOk
  rw [if_neg (by omega)]
  rfl
 refine ⟨_,rfl,rfl,_,rfl,ite2 (λ _=>?_) (λ _=>?_)⟩
 ·refine ⟨_,rfl,_,_,rfl,rfl,_,rfl,_,_,rfl,rfl,_,rfl,(by show 2<=1000; decide),λ p6 H6 n6=>mkU (some ((a:Int)+1+far)) (c0M (.inr (by omega))) p6 H6 n6⟩
 refine ⟨_,rfl,(by show 2<=1000; decide),λ p1 H1 n1=>?_⟩
 refine ⟨p1,_,rfl,.inr (SqT.of n1.here),rfl,rfl,_,rfl,ite2 (λ _=>?_) (λ _=>?_)⟩
 ·refine ⟨_,rfl,pp,_,_,_,rfl,rfl,n1.same.tupq (SqT.of hT),rfl,?_⟩
  refine ⟨_,rfl,_,rfl,_,rfl,_,_,rfl,rfl,(by show 1<=1000; decide),λ p2 H2 n2=>?_⟩
  refine ⟨b,p2,_,_,rfl,rfl,n2.same _ _ (n1.same _ _ hb),n2.here,by rw [List.length_map]; show _+1<=_; omega,λ p3 H3 n3=>?_⟩
  have e5:r.2.map V.int++[V.int ((n:Int)+far)]=(r.2++[(n:Int)+far]).map V.int:=by rw [List.map_append]; rfl
  rw [e5] at n3
  refine ⟨(by show 2<=1000; decide),λ p6 H6 n6=>mkB (r.2++[(n:Int)+far]) H3 p3 (n1.same.trans (n2.same.trans n3.same)) n3.here (by rw [List.length_append]; show _+1<=_; omega) ?_ p6 H6 n6⟩
  refine b2F λ bd _=>?_
  have:=bd _ (List.mem_append_right _ (List.mem_singleton.mpr rfl))
  omega
 ·refine ⟨_,rfl,_,rfl,(by show 2<=1000; decide),λ p6 H6 n6=>?_⟩
  exact q p6 (some (a:Int),r.2) H6 (n1.same.trans n6.same) ⟨p6,b,rfl,n6.here,n6.same _ _ (n1.same _ _ hb),bz⟩ (by rw [c0M (.inr (Int.le_refl _)),Bool.false_and])
end
end K
namespace K
open PySem L2 Lw Bg
theorem b2G {H:Hp} {vs:List V} {ts:List ζζ} (h:Paired (TieL H) vs ts):∀ l:List Nat,(∀ i∈l,i < ts.length)->Paired (TieL H) (l.map λ i=>vs.getD i .non) (l.map λ i=>ts.getD i (0,0))
 | [],_=>.nil
 | i::l,hl=>by
  obtain ⟨x,hx,q⟩:=a1F h (List.getElem?_eq_getElem (hl i List.mem_cons_self))
  refine .cons ?_ (b2G h l λ j hj=>hl j (List.mem_cons_of_mem _ hj))
  dsimp only
  rw [τα,hx,τα,List.getElem?_eq_getElem (hl i List.mem_cons_self)]
  exact q
def b5Z (K:Φρ):Sp:=λ vs H Q _=>∃ (n:Nat) (t l:Addr) (xs:List V) (ts:List ζζ) (rs:List Row) (kd c:Int),vs=[.int n,.ref t,.ref l,.int kd,.int c]/\H t=some (.lst xs)/\Paired (TieL H) xs ts/\ts.length<=45/\RowsE H l rs/\Tree n rs/\n<=10/\0<=c/\c < 1000003 /\
 ∀ p t' w ts' H',Same H H'->H' p=some (.tup [.int n,.ref t',w])->TiesAt K H' t' ts'->ts'.length<=60->(w = .non\/∃ q rs',w = .ref q/\RowsAt K H' q rs'/\rs'.length<=100/\a2H n ts' rs' ≠ .ok)->Q (.ref p) H'
theorem a6U (n:Nat) (h:n<=10):(n:Int)*(n:Int)<=100/\0<=(n:Int)*(n:Int)/\(0 < n->0 < (n:Int)*(n:Int)):=by
 have:n*n<=100:=Nat.mul_le_mul h h
 have e:(n:Int)*(n:Int)=((n*n:Nat):Int):=by rw [Int.natCast_mul]
 refine ⟨by omega,by omega,λ p=>?_⟩
 have:0 < n*n:=Nat.mul_pos p p
 omega
theorem c2L {K:Φρ} {H:Hp} {yt:List V} {ts:List ζζ} (pT:Paired (TieL H) yt ts) (l:ts.length<=60) :
  ∃ ls:List (List Int),Paired (TupV K H) yt ls/\(∀ ns∈ls,ns≠[])/\yt.length < 64/\∀ (q:List Nat) r H',q.Perm (List.range yt.length)->(q.map λ i=>ls.getD i []).Pairwise (λ a b=>¬ b < a)->New H r (.lst (q.map λ i=>yt.getD i .non)) H' ->
   ∃ ts' xs,New H r (.lst xs) H'/\Paired (TieL H') xs ts'/\(∀ t,t∈ts'↔t∈ts)/\xs.length<=60:=by
 have ly:=Paired.length pT
 have toV:∀ {vs:List V} {us:List ζζ},Paired (TieL H) vs us->Paired (TupV K H) vs (us.map λ t=>[t.1,t.2]):=λ {vs us} h=>by
  induction h with
  | nil=>exact .nil
  | cons a _ ih =>
   obtain ⟨p,e,hp⟩:=a
   exact .cons ⟨p,e,SqT.of hp⟩ ih
 refine ⟨_,toV pT,(λ ns h=>by obtain ⟨t,_,rfl⟩:=List.mem_map.mp h; exact λ z=>by cases z),by omega,λ qq p8 H8 pq srt n8=>?_⟩
 have P8:=b2G (Paired.mapP pT λ _ _ h=>TieL.same n8.same h) qq (λ i hi=>by rw [<- ly]; exact List.mem_range.mp (pq.mem_iff.mp hi))
 refine ⟨_,_,n8,P8,λ t=>⟨λ ht=>?_,λ ht=>?_⟩,?_⟩
 ·obtain ⟨i,hi,rfl⟩:=List.mem_map.mp ht
  have:=List.mem_range.mp (pq.mem_iff.mp hi)
  rw [τα,List.getElem?_eq_getElem (by omega)]
  exact List.getElem_mem _
 ·obtain ⟨i,hi,rfl⟩:=List.getElem_of_mem ht
  exact List.mem_map.mpr ⟨i,pq.mem_iff.mpr (List.mem_range.mpr (by omega)),by rw [τα,List.getElem?_eq_getElem hi]; rfl⟩
 rw [List.length_map,pq.length_eq,List.length_range]
 omega
section
variable {P:Program} {w:World} {K:Φρ} {mg:Str->Option Value} {base:Heap}
abbrev DZ9 (K:PySem.W.Frag) (mg:Str->Option Value):=Dn K mg "_law_spoiled" a2Y ["_law_n", "_law_ties_here", "_law_rows", "_law_kind", "_law_cell_here"]
set_option maxHeartbeats 8000000 in
theorem a6J (B:Bl mg) (dZ7:DZ7 K mg) (dZ3:DZ3 K mg) (dZ0:DZ0 K mg) (dZ4:DZ4 K mg) (dZ1:DZ1 K mg) (dZ9:DZ9 K mg):FnOk P w K mg base CX0 4 dZ9.f dZ9.fd ["_law_n", "_law_ties_here", "_law_rows", "_law_kind", "_law_cell_here"] (b5Z K):=by
 have gZ7:FnOk P w K mg base CX0 3 _ _ _ _:=(a5J B dZ7).mono (by decide)
 have gZ4:FnOk P w K mg base CX0 3 _ _ _ _:=b1G B dZ7 dZ3 dZ0 dZ4
 have gZ1:FnOk P w K mg base CX0 3 _ _ _ _:=(b1H B dZ1).mono (by decide)
 refine dZ9.F.ok sc__law_spoiled (λ vs H Q E h=>?_) (λ cdv A outer s H vs Q E hr h=>?_)
 ·obtain ⟨n,t,l,xs,ts,rs,kd,c,rfl,_⟩:=h
  rfl
 obtain ⟨n,t,l,xs,ts,rs,kd,c,rfl,ht,hp,l45,hR,T,n10,c0,c1,q⟩:=h
 have hv:(A.deeper (PyProof.Rows.envOfC "_law_spoiled" (a0F a2Y) s.heap.objs.size dZ9.f cdv)).units+65 < cLine:=by have:=hr.un; omega
 obtain ⟨ys,hy,hpr⟩:=id hR
 have ly:ys.length=rs.length:=Paired.length hpr
 have l20:=T.len
 refine ⟨_,(a0C (a1E (PW.pt (a2L (a0H a2V (pv 3) a0D (a0O _)) (a1S (a0H a5Q (pv 0) a0D (a0O _)))))
   (a0C (a0Q (i:=5) sc__law_spoiled.nd rfl (Or.inl rfl) (a3D (a2P (K:=K) rfl) rfl B.list (by decide +kernel) (a0A (pv 2) a0B)))
   (a0C (a2A PassesOwn.never rfl (a1L rfl B.range (a0A (a0I (a0R (K:=K) rfl) rfl B.len (by decide +kernel) (a0A (pv 2) a0B)) a0B)) (a0L (i:=6) sc__law_spoiled.nd rfl (Or.inl rfl))
   (a0E (a0Q (i:=5) sc__law_spoiled.nd rfl (Or.inl rfl) (a0J gZ7 hr rfl dZ7.m dZ7.F.kp dZ7.b .nil a1A (a0A (pv 5) (a0A (pv 6) (a0A (a0K a1M (pv 4) (pv 0)) a0B)))))))
   (a0E (a0M (a0T (a0A (pv 0) (a0A (pv 1) (a0A (pv 5) a0B))))))))
   a0N)
   (a3I (a1E (a0H a2V (pv 3) a0D (a0O _))
   (a0E (a2A PassesOwn.never rfl (a1L rfl B.range (a0A (a0K a3C (pv 0) (pv 0)) a0B)) (a0L (i:=7) sc__law_spoiled.nd rfl (Or.inl rfl))
   (a0C (a0Q (i:=8) sc__law_spoiled.nd rfl (Or.inr rfl) (a0K a4C (a0K a1M (a0K a1R (pv 7) (pv 4)) (a0K a3C (pv 0) (pv 0))) (pv 0)))
   (a0C (a0Q (i:=9) sc__law_spoiled.nd rfl (Or.inr rfl) (a0K a1M (a0K a1R (pv 7) (pv 4)) (pv 0)))
   (a0C (a2M (i:=10) ["_law_row", "_law_a", "_law_b"] [none,some 8,some 9] sc__law_spoiled.nd rfl rfl (by kernel_rfl) rfl (a0Z (K:=K) rfl (pv 2)) (λ _ _ _ _ _=>(a0L (i:=0) (show (["_law_row", "_law_a", "_law_b"]:List Str).Nodup by decide +kernel) rfl (Or.inl rfl))) (λ _ _ _ _ _=>(a4D (PW.pt (a2L (a0H (a2K (K:=K) rfl hv) (pv 1) (a0U (a0P (K:=K) rfl) (pv 0) a0D (λ _ _=>rfl)) (by with_unfolding_all rfl)) (a1S (a0H (a2K (K:=K) rfl hv) (pv 2) (a0U (a0P (K:=K) rfl) (pv 0) a0D (λ _ _=>rfl)) (by with_unfolding_all rfl))))))) (λ _ _ _ _ _=>(pv 0)) (by rfl))
   (a0E (a1E (PW.pt (a2L (a0H b2J (pv 8) (pv 9) (a0O _)) (a1S (a0H a2V (a0I (a0R (K:=K) rfl) rfl B.len (by decide +kernel) (a0A (pv 10) a0B)) a0D (a0O _)))))
   (a0E (a0M (a0T (a0A (pv 0) (a0A (a0I (a9O (K:=K) rfl) rfl B.sorted (by decide +kernel) (a0A (a0K a2Q (pv 1) (a1Q (a0A (a0T (a0A (pv 8) (a0A (pv 9) a0B))) a0B))) a0B)) (a0A (pv 2) a0B))))))
   a0N)))))))
   a0N)
   (a0C (a1E (a0H a2V (pv 3) a0D (a0O _))
   (a0E (a0M (a0T (a0A (pv 0) (a0A (pv 1) (a0A (a0J gZ4 hr rfl dZ4.m dZ4.F.kp dZ4.b .nil a1A (a0A (pv 2) (a0A (pv 4) a0B))) a0B))))))
   a0N)
   (a0C (a1E (PW.pt (a2L (a0H a2V (pv 3) a0D (a0O _)) (a1S (a0H a2V (pv 0) a0D (a0O _)))))
   (a0E (a0M (a0T (a0A (pv 0) (a0A (pv 1) (a0A (a1Q a0B) a0B))))))
   a0N)
   (a0C (a1E (PW.pt (a2L (a0H a2V (pv 3) a0D (a0O _)) (a1S (a0H a2V (a0K a1M (a0K a4C (pv 4) a0D) a0D) a0D (a0O _)))))
   (a0E (a0M (a0T (a0A (pv 0) (a0A (pv 1) (a0A (a0K a2Q (pv 2) (a1Q (a0A (a0T (a0A a1Y (a0A (a1Q a0B) a0B))) a0B))) a0B))))))
   a0N)
   (a0C (a0Q (i:=6) sc__law_spoiled.nd rfl (Or.inl rfl) (a0K a1M (pv 4) (a0I (a0R (K:=K) rfl) rfl B.len (by decide +kernel) (a0A (pv 2) a0B))))
   (a0E (a0M (a0T (a0A (pv 0) (a0A (pv 1) (a0A (a0K a2Q (a0K a2Q (a3Y (a3Z (K:=K) rfl) (pv 2) a7P (a3Q (pv 6))) (a1Q (a0A (a0J gZ1 hr rfl dZ1.m dZ1.F.kp dZ1.b .nil a1A (a0A (a0U (a0X (K:=K) rfl) (pv 2) (pv 6) (λ _ _=>rfl)) (a0A (pv 6) (a0A (pv 0) (a0A (pv 3) (a0A (a0K a1M (a0K a4C (pv 4) a0D) a0D) a0B)))))) a0B))) (a3Y (a3Z (K:=K) rfl) (pv 2) (a3Q (a0K a1R (pv 6) a0D)) a7P)) a0B)))))))))))),?_⟩
 have tA:∀ {H1:Hp},Same H H1->TiesAt K H1 t ts:=λ s=>⟨xs,SqL.of (s _ _ ht),Paired.mapP hp λ _ _ h=>(TieL.same s h).v,by have:=Paired.length hp; omega⟩
 try dsimp only [a8N,tSeq,tIfS]
 refine andQ (c1:=decide (V.int kd=V.int 0)) (c2:=decide ((0:Int) < (n:Int))) ?_ ?_ ?_
 ·exact λ Q h=>⟨_,rfl,rfl,_,rfl,h⟩
 ·exact λ Q h=>⟨_,rfl,_,_,rfl,rfl,_,rfl,h⟩
 refine ite2 (λ cc=>?_) (λ _=>?_)
 ·have n0:(0:Int) < (n:Int):=of_decide_eq_true (Bool.and_eq_true _ _ ▸ cc).2
  have v0:=Int.emod_nonneg c (show (n:Int)≠0 by omega)
  have v1:=Int.emod_lt_of_pos c n0
  refine ⟨_,rfl,l,_,rfl,.inl (SqL.of hy),λ pb H1 n1=>?_⟩
  refine ⟨_,rfl,l,ys,rfl,.inl (SqL.of (n1.same _ _ hy)),_,rfl,by omega,by omega,?_⟩
  rw [Int.toNat_natCast]
  refine a1T (n:=ys.length) (λ i σ H2=>∃ (aa:Option V) (b:Addr) (bs:List Row),σ=[some (.int n),some (.ref t),some (.ref l),some (.int kd),some (.int c),some (.ref b),aa,none,none,none,none]/\Same H H2/\RowsE H2 b bs/\bs.length=rs.length/\∀ j < i,c % (n:Int) ∉ (a0G bs j).2) ⟨none,pb,rs,rfl,n1.same,⟨ys,n1.here,Paired.mapP hpr λ _ _ h=>h.same n1.same⟩,rfl,λ j hj=>absurd hj (Nat.not_lt_zero _)⟩ ?_ ?_
  ·rintro i σ H2 hi ⟨aa,b,bs,rfl,s2,hB,lb,no⟩
   refine ⟨_,rfl,_,rfl,_,rfl,_,rfl,_,_,rfl,rfl,n0,b,i,c % (n:Int),bs,?_,hB.at (by omega),by omega,by omega,λ p3 H3 s3 hB3=>?_⟩
   ·show [_,V.int (0+(i:Int)),_]=_
    rw [Int.zero_add]
   refine ⟨_,p3,_,rfl,s2.trans s3,hB3,by rw [a3G,lb],λ j hj=>?_⟩
   by_cases e:j=i
   ·subst e
    rw [a8I (by omega)]
    intro z
    exact absurd rfl (of_decide_eq_true (List.mem_filter.mp z).2)
   ·rw [a5N e]
    exact no j (by omega)
  ·rintro σ H2 ⟨aa,b,bs,rfl,s2,hB,lb,no⟩
   refine ⟨_,rfl,_,rfl,_,rfl,(by show 3<=1000; decide),λ p3 H3 n3=>q p3 t (.ref b) ts H3 (s2.trans n3.same) n3.here (tA (s2.trans n3.same)) (by omega) (.inr ⟨b,bs,rfl,(hB.same n3.same).at (by omega),by omega,?_⟩)⟩
   refine b5S (v:=(c % (n:Int)).toNat) (by omega) λ r hr=>?_
   obtain ⟨j,hj,rfl⟩:=a4X hr
   rw [show (((c % (n:Int)).toNat:Nat):Int)=c % (n:Int) by omega]
   exact no j (by omega)
 refine ⟨λ σ' H'=>Same H H'/\∃ o7 o8 o9 o10:Option V,σ'=[some (.int n),some (.ref t),some (.ref l),some (.int kd),some (.int c),none,none,o7,o8,o9,o10],?_,?_⟩
 ·refine ⟨_,rfl,rfl,_,rfl,ite2 (λ _=>?_) (λ _=>⟨Same.refl _,_,_,_,_,rfl⟩)⟩
  have ms:=a6U n n10
  have nn:(n:Int)*(n:Int)=((n*n:Nat):Int):=by rw [Int.natCast_mul]
  refine ⟨_,rfl,_,rfl,_,_,rfl,rfl,.inl ⟨by omega,by omega⟩,_,rfl,by omega,by omega,?_⟩
  rw [nn,Int.toNat_natCast]
  refine a1T (n:=n*n) (λ i σ' H'=>Same H H'/\∃ o7 o8 o9 o10:Option V,σ'=[some (.int n),some (.ref t),some (.ref l),some (.int kd),some (.int c),none,none,o7,o8,o9,o10]) ⟨Same.refl _,_,_,_,_,rfl⟩ ?_ (λ σ H h=>h)
  rintro i σ H1 hi ⟨s1,o7,o8,o9,o10,rfl⟩
  have n0:0 < n:=by
   rcases Nat.eq_zero_or_pos n with e | e
   ·rw [e] at hi; exact absurd hi (Nat.not_lt_zero _)
   ·exact e
  have nn0:(0:Int) < (n:Int)*(n:Int):=by omega
  refine ⟨_,rfl,_,rfl,_,_,rfl,rfl,_,rfl,_,rfl,_,_,rfl,rfl,.inl ⟨by omega,by omega⟩,_,_,rfl,rfl,nn0,_,rfl,_,_,rfl,rfl,⟨by omega,by omega⟩,?_⟩
  refine ⟨_,rfl,_,rfl,_,_,rfl,rfl,_,rfl,_,_,rfl,rfl,(by omega),?_⟩
  refine ⟨_,rfl,l,rfl,⟨_,s1.seq (SqL.of hy)⟩,?_⟩
  dsimp only
  generalize (0+(i:Int)+c) % ((n:Int)*(n:Int)) / (n:Int)=av
  generalize (0+(i:Int)+c) % (n:Int)=bv
  refine a7B (λ j=>if (rs[j]?).any (λ r=>has av r && has bv r)=true then ys[j]? else none) (s1.seq (SqL.of hy)) (by omega) (λ j' x H4 N hj' s4 hN=>?_) (λ H4 p4 H5 s4 n4=>?_)
  ·obtain ⟨rr,hrr,⟨pp,b,rfl,hT,hb,_⟩⟩:=a1C hpr hj'
   have s04:=s1.trans s4
   have hN':=hN H4 s4
   rw [hrr,hj'] at hN'
   refine ⟨_,rfl,_,rfl,pp,_,_,_,rfl,rfl,SqT.of (s04 _ _ hT),rfl,a3O (SqL.of (s04 _ _ hb)) ⟨_,rfl,?_⟩⟩
   refine ite2 (λ c=>?_) (λ c=>?_)
   ·refine ⟨_,rfl,_,rfl,pp,_,_,_,rfl,rfl,SqT.of (s04 _ _ hT),rfl,a3O (SqL.of (s04 _ _ hb)) ⟨_,rfl,?_⟩⟩
    refine ite2 (λ d=>?_) (λ d=>?_)
    ·rw [if_pos (by show (has av rr && has bv rr)=true; unfold has; rw [c,d]; rfl)] at hN'
     exact ⟨_,rfl,hN'⟩
    ·rw [if_neg (by show ¬ (has av rr && has bv rr)=true; unfold has; rw [Bool.eq_false_iff.mpr d]; simp)] at hN'
     exact hN'
   ·refine iteF ?_
    rw [if_neg (by show ¬ (has av rr && has bv rr)=true; unfold has; rw [Bool.eq_false_iff.mpr c]; simp)] at hN'
    exact hN'
  have s05:=s1.trans (s4.trans n4.same)
  try dsimp only [a8N,tSeq,tIfS]
  refine andQ (c1:=decide (av < bv)) (c2:=decide (V.int (((((List.range ys.length).filterMap λ j=>if (rs[j]?).any (λ r=>has av r && has bv r)=true then ys[j]? else none).length:Nat)):Int)=V.int 0)) ?_ ?_ ?_
  ·exact λ Q h=>⟨_,rfl,_,rfl,_,_,rfl,rfl,_,rfl,h⟩
  ·exact λ Q h=>⟨_,rfl,p4,_,rfl,.inl (SqL.of n4.here),rfl,_,rfl,h⟩
  refine ite2 (λ cc=>?_) (λ _=>⟨s05,_,_,_,_,rfl⟩)
  have cc':=V.int.inj (of_decide_eq_true (Bool.and_eq_true _ _ ▸ cc).2)
  have none_:∀ r∈rs,¬ (av∈r.2/\bv∈r.2):=by
   intro r hr ⟨h1,h2⟩
   obtain ⟨j,hj,e⟩:=List.getElem_of_mem hr
   have e0:=List.eq_nil_of_length_eq_zero (by omega:((List.range ys.length).filterMap λ j=>if (rs[j]?).any (λ r=>has av r && has bv r)=true then ys[j]? else none).length=0)
   have:=List.filterMap_eq_nil_iff.mp e0 j (List.mem_range.mpr (by omega))
   rw [List.getElem?_eq_getElem hj,e] at this
   rw [if_pos (by show (has av r && has bv r)=true; unfold has; rw [decide_eq_true h1,decide_eq_true h2]; rfl),List.getElem?_eq_getElem (by omega)] at this
   cases this
  refine ⟨_,rfl,_,rfl,_,rfl,_,rfl,(by show 2<=1000; decide),λ p6 H6 n6=>⟨(by show 1<=1000; decide),λ p7 H7 n7=>?_⟩⟩
  have lx:=Paired.length hp
  have s57:=s05.trans (n6.same.trans n7.same)
  refine ⟨t,p7,_,_,rfl,rfl,s57 _ _ ht,n7.here,by show _+1<=_; omega,λ p8 H8 n8=>?_⟩
  have s58:=s57.trans n8.same
  have hp8:Paired (TieL H8) (xs++[.ref p6]) (ts++[(av,bv)]):=a1X (Paired.mapP hp λ _ _ h=>TieL.same s58 h) ⟨p6,rfl,n8.same _ _ (n7.same _ _ n6.here)⟩
  obtain ⟨ls,a1,a2,a3,a4⟩:=c2L (K:=K) hp8 (by rw [List.length_append]; show _+1<=60; omega)
  refine ⟨p8,_,ls,rfl,SqL.of n8.here,a1,a2,a3,λ qq rt H9 b1 b2 b3=>?_⟩
  obtain ⟨ts',xs',n9,pts,mem,lxs⟩:=a4 qq rt H9 b1 b2 b3
  clear a1 a2 a3 a4 b1 b2 b3
  refine ⟨_,rfl,(by show 3<=1000; decide),λ p10 H10 n10'=>?_⟩
  have l':=Paired.length pts
  refine q p10 rt (.ref l) ts' H10 (s58.trans (n9.same.trans n10'.same)) n10'.here ⟨xs',SqL.of (n10'.same _ _ n9.here),Paired.mapP pts λ _ _ h=>(TieL.same n10'.same h).v,by omega⟩ (by omega) (.inr ⟨l,rs,rfl,(hR.same (s58.trans (n9.same.trans n10'.same))).at (by omega),by omega,?_⟩)
  exact c0G (t:=(av,bv)) ((mem _).mpr (List.mem_append_right _ (List.mem_singleton.mpr rfl))) none_
 ·rintro σ H1 ⟨s1,o7,o8,o9,o10,rfl⟩
  have hy1:=s1 _ _ hy
  refine ⟨_,rfl,rfl,_,rfl,ite2 (λ _=>?_) (λ _=>?_)⟩
  ·refine ⟨_,rfl,_,rfl,_,rfl,_,rfl,l,c,rs,n,rfl,(hR.same s1).at (by omega),T,n10,λ H2 s2=>?_,λ p2 rs' H2 s2 hR2 l2 bad=>?_⟩
   ·refine ⟨(by show 3<=1000; decide),λ p3 H3 n3=>q p3 t .non ts H3 (s1.trans (s2.trans n3.same)) n3.here (tA (s1.trans (s2.trans n3.same))) (by omega) (.inl rfl)⟩
   ·refine ⟨(by show 3<=1000; decide),λ p3 H3 n3=>q p3 t (.ref p2) ts H3 (s1.trans (s2.trans n3.same)) n3.here (tA (s1.trans (s2.trans n3.same))) (by omega) (.inr ⟨p2,rs',rfl,(hR2.same n3.same).at (by omega),l2,bad ts⟩)⟩
  try dsimp only [a8N,tSeq,tIfS]
  refine andQ (c1:=decide (V.int kd=V.int 7)) (c2:=decide (V.int (n:Int)=V.int 0)) ?_ ?_ ?_
  ·exact λ Q h=>⟨_,rfl,rfl,_,rfl,h⟩
  ·exact λ Q h=>⟨_,rfl,rfl,_,rfl,h⟩
  refine ite2 (λ cc=>?_) (λ _=>?_)
  ·refine ⟨_,rfl,_,rfl,(by show 0<=1000; decide),λ p2 H2 n2=>⟨(by show 3<=1000; decide),λ p3 H3 n3=>?_⟩⟩
   have s3:=s1.trans (n2.same.trans n3.same)
   exact q p3 t (.ref p2) ts H3 s3 n3.here (tA s3) (by omega) (.inr ⟨p2,[],rfl,⟨[],SqL.of (n3.same _ _ n2.here),.nil,by decide⟩,by decide,b7H⟩)
  try dsimp only [a8N,tSeq,tIfS]
  refine andQ (c1:=decide (V.int kd=V.int 8)) (c2:=decide (V.int (c / 7 % 2)=V.int 1)) ?_ ?_ ?_
  ·exact λ Q h=>⟨_,rfl,rfl,_,rfl,h⟩
  ·exact λ Q h=>⟨_,rfl,_,_,rfl,rfl,⟨by omega,by omega⟩,_,_,rfl,rfl,(show (0:Int) < 2 by decide),rfl,_,rfl,h⟩
  refine ite2 (λ cc=>?_) (λ _=>?_)
  ·refine ⟨_,rfl,_,rfl,_,rfl,(by show 0<=1000; decide),λ p2 H2 n2=>⟨(by show 2<=1000; decide),λ p3 H3 n3=>⟨(by show 1<=1000; decide),λ p4 H4 n4=>?_⟩⟩⟩
   have s4:=n2.same.trans (n3.same.trans n4.same)
   refine ⟨l,p4,_,_,rfl,rfl,s4 _ _ hy1,n4.here,by show _+1<=_; omega,λ p5 H5 n5=>⟨(by show 3<=1000; decide),λ p6 H6 n6=>?_⟩⟩
   have s6:=s1.trans (s4.trans (n5.same.trans n6.same))
   have h36:=n4.same.trans (n5.same.trans n6.same)
   refine q p6 t (.ref p5) ts H6 s6 n6.here (tA s6) (by omega) (.inr ⟨p5,rs++[(none,[])],rfl,RowsE.at ⟨_,n6.same _ _ n5.here,a1X (Paired.mapP hpr λ _ _ h=>h.same s6) ⟨p3,p2,rfl,h36 _ _ n3.here,h36 _ _ (n3.same _ _ n2.here),Nat.zero_le _⟩⟩ (by rw [List.length_append]; show _+1<=_; omega),by rw [List.length_append]; show _+1<=_; omega,?_⟩)
   refine b5R (k:=rs.length) (by rw [List.length_append]; show _ < _+1; omega) ?_
   have e:a0G (rs++[(none,[])]) rs.length=(none,[]):=by unfold a0G; rw [τα,List.getElem?_append_right (Nat.le_refl _),Nat.sub_self]; rfl
   unfold a1N
   rw [e]
   unfold upOk
   rw [if_neg (by have:=T.pos; omega)]
   rfl
  have lp:=T.pos
  have ep:(0:Int) < ((ys.length:Nat):Int):=by omega
  have a0:=Int.emod_nonneg c (show ((ys.length:Nat):Int)≠0 by omega)
  have a1:=Int.emod_lt_of_pos c ep
  refine ⟨_,rfl,_,rfl,l,_,rfl,.inl (SqL.of hy1),_,_,rfl,rfl,ep,?_⟩
  obtain ⟨a,ea⟩:∃ a:Nat,c % ((ys.length:Nat):Int)=(a:Int):=⟨(c % ((ys.length:Nat):Int)).toNat,by omega⟩
  dsimp only
  rw [ea] at a0 a1 ⊢
  have al:a < rs.length:=by omega
  obtain ⟨x,hx,hrx⟩:=a1F hpr (a1Z al)
  have okr:=T.ok a al
  have l10:=b5L T.ok n10 al
  unfold a1N at okr
  rw [Bool.and_eq_true] at okr
  refine ⟨_,rfl,_,rfl,_,rfl,_,rfl,_,rfl,l,_,rfl,SqL.of hy1,λ p2 H2 n2=>?_⟩
  rw [b5X] at n2
  have d0:=Int.emod_nonneg (c / 7) (show (5:Int)≠0 by decide)
  refine ⟨_,rfl,_,rfl,l,_,_,_,rfl,rfl,SqL.of (n2.same _ _ hy1),a1W hx,_,rfl,_,rfl,_,rfl,_,rfl,_,_,rfl,rfl,⟨by omega,by omega⟩,_,_,rfl,rfl,(show (0:Int) < 5 by decide),?_⟩
  refine ⟨x,a,n,kd,c / 7 % 5,a0G rs a,rfl,hrx.same (s1.trans n2.same),okr.2,l10,d0,λ p3 r3 H3 s3 hr3 bad=>⟨(by show 1<=1000; decide),λ p4 H4 n4=>?_⟩⟩
  have s24:=s3.trans n4.same
  refine ⟨p2,p4,_,_,rfl,rfl,s24 _ _ n2.here,n4.here,by rw [List.length_take]; show _+1<=_; omega,λ p5 H5 n5=>?_⟩
  have s15:=n2.same.trans (s24.trans n5.same)
  refine ⟨_,rfl,_,rfl,_,_,rfl,rfl,_,rfl,l,_,rfl,SqL.of (s15 _ _ hy1),λ p6 H6 n6=>?_⟩
  rw [show (a:Int)+1=((a+1:Nat):Int) by omega,b5Y] at n6
  refine ⟨p5,p6,_,_,rfl,rfl,n6.same _ _ n5.here,n6.here,by rw [List.length_append,List.length_take,List.length_drop]; show _+1+_<=_; omega,λ p7 H7 n7=>⟨(by show 3<=1000; decide),λ p8 H8 n8=>?_⟩⟩
  have s38:=n4.same.trans (n5.same.trans (n6.same.trans (n7.same.trans n8.same)))
  have s8:=s1.trans (n2.same.trans (s3.trans s38))
  have hpr8:=Paired.mapP hpr λ _ _ h=>RowE.same s8 h
  have pp:Paired (RowE H8) (ys.take a++[.ref p3]++ys.drop (a+1)) (rs.take a++[r3]++rs.drop (a+1)):=Sm.paired_app (a1X (Sm.paired_take a hpr8) (hr3.same s38)) (Sm.paired_drop (a+1) hpr8)
  have l8:(rs.take a++[r3]++rs.drop (a+1)).length=rs.length:=by
   rw [List.length_append,List.length_append,List.length_take,List.length_drop]
   show min _ _+1+_=_
   omega
  refine q p8 t (.ref p7) ts H8 s8 n8.here (tA s8) (by omega) (.inr ⟨p7,_,rfl,RowsE.at ⟨_,n8.same _ _ n7.here,pp⟩ (by omega),by omega,?_⟩)
  refine b5R (k:=a) (by omega) ?_
  have e:a0G (rs.take a++[r3]++rs.drop (a+1)) a=r3:=by
   unfold a0G
   rw [τα,List.getElem?_append_left (by rw [List.length_append,List.length_take]; show _ < min _ _+1; omega),List.getElem?_append_right (by rw [List.length_take]; omega),List.length_take,show a - min a rs.length=0 by omega]
   rfl
  unfold a1N
  rw [e]
  exact bad
end
end K
namespace K
open PySem L2 Lw Bg
abbrev a2Z:Stmt:=top 53
theorem sc__law_refused:FnScope ["_law_web", "_law_rows", "_law_told_here", "error", "_law_own", "_law_others"] ["_law_web", "_law_rows"] (a0F a2Z):=⟨rfl,rfl,rfl,by decide +kernel,rfl,by decide +kernel,by decide +kernel⟩
def b7L (K:Φρ) (nb:Addr):Sp:=λ vs H Q E=>∃ (g:V) (n:Nat) (ts:List ζζ) (a:Addr) (rs:List Row),vs=[g,.ref a]/\n<=1000/\GraphV K H g n ts/\RowsAt K H a rs/\a2H n ts rs ≠ .ok/\∀ p H',Same H H'->H' p=none->E (.ref p) (some nb) H'
def c0O (K:Φρ):Sp:=λ vs H Q _=>∃ (g:V) (n:Nat) (ts:List ζζ) (a:Addr) (rs:List Row),vs=[g,.ref a]/\n<=1000/\GraphV K H g n ts/\RowsAt K H a rs/\a2H n ts rs ≠ .ok/\∀ H',Same H H'->Q (.bl true) H'
theorem b7M {H:Hp} {v:V} {f:Flt} (h:f ≠ .ok) (hv:FltV H v f):v ≠ .non:=λ z=>by
 subst z
 cases f with
 | ok=>exact h rfl
 | _ =>
  obtain ⟨p,e,_⟩:=hv
  cases e
section
variable {P:Program} {w:World} {K:Φρ} {mg:Str->Option Value} {base:Heap}
set_option maxHeartbeats 4000000 in
theorem b0I (B:Bl mg) (C:Cl K mg) (dZ21:DZ21 K mg) (dZ17:DZ17 K mg) (dZ19:DZ19 K mg) (dZ20:DZ20 K mg) (dZ30:DZ30 K mg) (dZ27:DZ27 K mg) (dZ32:DZ32 K mg) (dZ18:DZ18 K mg) (dZ14:DZ14 K mg) (dZ15:DZ15 K mg) (dZ25:DZ25 K mg):FnOk P w K mg base (CXE P w) 6 dZ25.f dZ25.fd ["graph", "tree"] (b7L K C.NoTree):=by
 have gZ15:FnOk P w K mg base CX0 5 _ _ _ _:=b2C B dZ21 dZ17 dZ19 dZ20 dZ30 dZ27 dZ32 dZ18 dZ14 dZ15
 refine dZ25.F.okE sc_order_of (λ vs H Q E h=>?_) (λ cdv A outer s H vs Q E hr h=>?_)
 ·obtain ⟨g,n,ts,a,rs,rfl,_⟩:=h
  rfl
 obtain ⟨g,n,ts,a,rs,rfl,nz,hG,hR,bad,q⟩:=h
 refine ⟨_,(a0C (a1E (a0H a4U (a0J gZ15 hr rfl dZ15.m dZ15.F.kp dZ15.b .nil a1A (a0A (pv 0) (a0A (pv 1) a0B))) a1Y (a0O _))
   (a0E (b6O hr.hd rfl C.m_NoTree C.k_NoTree (a0A a6V a0B)))
   a0N)
   b3C),?_⟩
 refine ⟨_,rfl,_,rfl,g,n,ts,a,rs,rfl,nz,hG,hR,λ v H1 s1 fv=>?_⟩
 have vn:v ≠ .non:=b7M bad fv
 refine ⟨rfl,_,rfl,?_⟩
 rw [show (!decide (v=V.non))=true by rw [decide_eq_false vn]; rfl]
 exact iteT ⟨Nat.le_of_lt (a1U (by decide)),λ p hp=>q p H1 s1 hp⟩
abbrev DZ8 (K:PySem.W.Frag) (mg:Str->Option Value):=Dn K mg "_law_refused" a2Z ["_law_web", "_law_rows"]
set_option maxHeartbeats 4000000 in
theorem a6K (B:Bl mg) (C:Cl K mg) (dZ21:DZ21 K mg) (dZ17:DZ17 K mg) (dZ19:DZ19 K mg) (dZ20:DZ20 K mg) (dZ30:DZ30 K mg) (dZ27:DZ27 K mg) (dZ32:DZ32 K mg) (dZ18:DZ18 K mg) (dZ14:DZ14 K mg) (dZ15:DZ15 K mg) (dZ25:DZ25 K mg) (dZ8:DZ8 K mg):FnOk P w K mg base CX0 7 dZ8.f dZ8.fd ["_law_web", "_law_rows"] (c0O K):=by
 have GX_order_of:FnOk P w K mg base (CXE P w) 6 _ _ _ _:=b0I B C dZ21 dZ17 dZ19 dZ20 dZ30 dZ27 dZ32 dZ18 dZ14 dZ15 dZ25
 refine dZ8.F.ok sc__law_refused (λ vs H Q E h=>?_) (λ cdv A outer s H vs Q E hr h=>?_)
 ·obtain ⟨g,n,ts,a,rs,rfl,_⟩:=h
  rfl
 obtain ⟨g,n,ts,a,rs,rfl,nz,hG,hR,bad,q⟩:=h
 have hu:(A.deeper (PyProof.Rows.envOfC "_law_refused" (a0F a2Z) s.heap.objs.size dZ8.f cdv)).units+64 < cLine:=by have:=hr.un; omega
 refine ⟨_,(a0C (a0Q (i:=2) sc__law_refused.nd rfl (Or.inl rfl) a1Y)
   (a0C (c1W ⟨rfl,rfl,rfl⟩ (b6Q (b6R (b6S (λ _ _ z=>z) GX_order_of hr rfl dZ25.m dZ25.F.kp dZ25.b .nil (a0A (pv 0) (a0A (pv 1) a0B))))) (λ p cc (hc:PySem.W.exmOne K (.ref cc) (.ref C.BagError)=some true)=>(c3M (i:=3) rfl C.m_BagError hc sc__law_refused.nd rfl rfl (a0C (a0Q (i:=4) sc__law_refused.nd rfl (Or.inl rfl) (a6X (a0I (a7F (K:=K) rfl) rfl B.isinstance (by decide +kernel) (a0A (pv 3) (a0A (a1V (v:=.ref C.NoTree) (u:=.ref C.NoTree) rfl C.m_NoTree rfl) a0B))) (a5P (a0I (a7F (K:=K) rfl) rfl B.isinstance (by decide +kernel) (a0A (pv 3) (a0A (a4T (v:=.ty "ValueError") (u:=.type "ValueError") rfl B.ValueError (by decide +kernel) rfl) a0B))))))
   (a0C (a0Q (i:=5) sc__law_refused.nd rfl (Or.inl rfl) (a0I (a5X (K:=K) rfl) rfl B.isinstance (by decide +kernel) (a0A (pv 3) (a0A (a0T (a0A (a1V (v:=.ref C.NoBag) (u:=.ref C.NoBag) rfl C.m_NoBag rfl) (a0A (a1V (v:=.ref C.NoColours) (u:=.ref C.NoColours) rfl C.m_NoColours rfl) (a0A (a1V (v:=.ref C.NoGraph) (u:=.ref C.NoGraph) rfl C.m_NoGraph rfl) (a0A (a1V (v:=.ref C.NoName) (u:=.ref C.NoName) rfl C.m_NoName rfl) (a0A (a1V (v:=.ref C.NoNumber) (u:=.ref C.NoNumber) rfl C.m_NoNumber rfl) (a0A (a1V (v:=.ref C.NoOrder) (u:=.ref C.NoOrder) rfl C.m_NoOrder rfl) (a0A (a1V (v:=.ref C.NoPart) (u:=.ref C.NoPart) rfl C.m_NoPart rfl) (a0A (a1V (v:=.ref C.NoPlace) (u:=.ref C.NoPlace) rfl C.m_NoPlace rfl) a0B))))))))) a0B))))
   (a0E (a0Q (i:=2) sc__law_refused.nd rfl (Or.inl rfl) (a1Q (a0A (pv 4) (a0A (c2O (pv 5) (a5P (a0I (a5X (K:=K) rfl) rfl B.isinstance (by decide +kernel) (a0A (pv 3) (a0A (a0T (a0A (a1V (v:=.ref C.NoRow) (u:=.ref C.NoRow) rfl C.m_NoRow rfl) (a0A (a1V (v:=.ref C.NoSteps) (u:=.ref C.NoSteps) rfl C.m_NoSteps rfl) (a0A (a1V (v:=.ref C.NoText) (u:=.ref C.NoText) rfl C.m_NoText rfl) (a0A (a1V (v:=.ref C.NoTie) (u:=.ref C.NoTie) rfl C.m_NoTie rfl) (a0A (a1V (v:=.ref C.NoWeights) (u:=.ref C.NoWeights) rfl C.m_NoWeights rfl) (a0A (a1V (v:=.ref C.TooWide) (u:=.ref C.TooWide) rfl C.m_TooWide rfl) a0B))))))) a0B))))) a0B))))))))))
   (a0E (a0M (a2W (b8U (K:=K) rfl hu) (pv 2) (a1Q (a0A a8M (a0A a8M a0B))) (a0O _)))))),?_⟩
 refine ⟨_,rfl,_,rfl,g,n,ts,a,rs,rfl,nz,hG,hR,bad,λ p H1 s1 hp p' cc e1 e2=>?_⟩
 cases e1
 cases e2
 refine ⟨C.x_NoTree_BagError,?_⟩
 have he:upd H1 p (ExcO p C.NoTree) p=some (ExcO p C.NoTree):=a2T
 have hs:Same H1 (upd H1 p (ExcO p C.NoTree)):=b6J hp _
 generalize upd H1 p (ExcO p C.NoTree)=G1 at he hs ⊢
 have k1:PySem.W.kitAny K (.ref C.NoTree) ([C.NoBag,C.NoColours,C.NoGraph,C.NoName,C.NoNumber,C.NoOrder,C.NoPart,C.NoPlace].map Value.ref)=some false:=by
  simp [PySem.W.kitAny,C.q_NoTree_NoBag,C.q_NoTree_NoColours,C.q_NoTree_NoGraph,C.q_NoTree_NoName,C.q_NoTree_NoNumber,C.q_NoTree_NoOrder,C.q_NoTree_NoPart,C.q_NoTree_NoPlace]
 have k2:PySem.W.kitAny K (.ref C.NoTree) ([C.NoRow,C.NoSteps,C.NoText,C.NoTie,C.NoWeights,C.TooWide].map Value.ref)=some false:=by
  simp [PySem.W.kitAny,C.q_NoTree_NoRow,C.q_NoTree_NoSteps,C.q_NoTree_NoText,C.q_NoTree_NoTie,C.q_NoTree_NoWeights,C.q_NoTree_TooWide]
 refine ⟨_,rfl,p,_,_,_,_,rfl,he,C.k_NoTree,rfl,C.q_NoTree_NoTree,_,rfl,iteT ?_⟩
 refine ⟨_,rfl,p,_,_,_,_,rfl,he,C.k_NoTree,rfl,C.v_NoTree,?_⟩
 refine ⟨_,rfl,(by show 8<=1000; decide),λ t1 H2 n2=>?_⟩
 refine ⟨p,C.NoTree,t1,_,[C.NoBag,C.NoColours,C.NoGraph,C.NoName,C.NoNumber,C.NoOrder,C.NoPart,C.NoPlace],false,rfl,n2.same _ _ he,C.k_NoTree,n2.here,rfl,k1,?_⟩
 refine ⟨_,rfl,_,rfl,_,rfl,iteF ?_⟩
 refine ⟨_,rfl,(by show 6<=1000; decide),λ t3 H3 n3=>?_⟩
 refine ⟨p,C.NoTree,t3,_,[C.NoRow,C.NoSteps,C.NoText,C.NoTie,C.NoWeights,C.TooWide],false,rfl,n3.same _ _ (n2.same _ _ he),C.k_NoTree,n3.here,rfl,k2,?_⟩
 refine ⟨(by show 2<=1000; decide),λ r4 H4 n4=>?_⟩
 refine ⟨_,rfl,(by show 2<=1000; decide),λ r5 H5 n5=>?_⟩
 refine ⟨.list [.bool true,.bool false],.list [.bool true,.bool false],.lst (SqL.of (n5.same _ _ n4.here)) (.cons (.bl true) (.cons (.bl false) .nil)),.lst (SqL.of n5.here) (.cons (.bl true) (.cons (.bl false) .nil)),rfl,rfl,?_⟩
 rw [if_neg Bool.false_ne_true,a4K rfl]
 exact q H5 (s1.trans (hs.trans (n2.same.trans (n3.same.trans (n4.same.trans n5.same)))))
end
end K
namespace K
open PySem L2 Lw Bg
abbrev a3N:Stmt:=top 54
theorem sc__law_told:FnScope ["_law_n", "_law_ties_here", "_law_rows", "_law_handed", "_law_web", "_law_found", "_law_wide"] ["_law_n", "_law_ties_here", "_law_rows"] (a0F a3N):=⟨rfl,rfl,rfl,by decide +kernel,rfl,by decide +kernel,by decide +kernel⟩
def b7N (K:Φρ):Sp:=λ vs H Q _=>∃ (n:Nat) (t l:Addr) (ts:List ζζ) (rs:List Row),vs=[.int n,.ref t,.ref l]/\TiesAt K H t ts/\ts.length<=45/\RowsAt K H l rs/\Tree n rs/\n<=10/\(∀ t∈ts,(0<=t.1/\t.1 < t.2/\t.2 < (n:Int))/\∃ r∈rs,t.1∈r.2/\t.2∈r.2)/\∀ H',Same H H'->Q (.bl true) H'
section
variable {P:Program} {w:World} {K:Φρ} {mg:Str->Option Value} {base:Heap}
abbrev DZ11 (K:PySem.W.Frag) (mg:Str->Option Value):=Dn K mg "_law_told" a3N ["_law_n", "_law_ties_here", "_law_rows"]
set_option maxHeartbeats 8000000 in
theorem b0J (B:Bl mg) (dZ21:DZ21 K mg) (dZ17:DZ17 K mg) (dZ19:DZ19 K mg) (dZ24:DZ24 K mg) (dZ20:DZ20 K mg) (dZ30:DZ30 K mg) (dZ27:DZ27 K mg) (dZ32:DZ32 K mg) (dZ18:DZ18 K mg) (dZ14:DZ14 K mg) (dZ15:DZ15 K mg) (dZ33:DZ33 K mg) (dZ28:DZ28 K mg) (dZ16:DZ16 K mg) (dZ31:DZ31 K mg) (dZ29:DZ29 K mg) (dZ22:DZ22 K mg) (dZ26:DZ26 K mg) (dZ25:DZ25 K mg) (dZ5:DZ5 K mg) (dZ11:DZ11 K mg):FnOk P w K mg base CX0 7 dZ11.f dZ11.fd ["_law_n", "_law_ties_here", "_law_rows"] (b7N K):=by
 have gZ25:FnOk P w K mg base CX0 6 _ _ _ _:=b1B B dZ21 dZ17 dZ19 dZ24 dZ20 dZ30 dZ27 dZ32 dZ18 dZ14 dZ15 dZ25
 have gZ5:FnOk P w K mg base CX0 6 _ _ _ _:=(b1E B dZ5).mono (by decide)
 have gZ26:FnOk P w K mg base CX0 6 _ _ _ _:=a6S B dZ21 dZ17 dZ19 dZ24 dZ28 dZ16 dZ31 dZ29 dZ22 dZ26
 have gZ33:FnOk P w K mg base CX0 6 _ _ _ _:=(b7A B dZ33).mono (by decide)
 refine dZ11.F.ok sc__law_told (λ vs H Q E h=>?_) (λ cdv A outer s H vs Q E hr h=>?_)
 ·obtain ⟨n,t,l,ts,rs,rfl,_⟩:=h
  rfl
 obtain ⟨n,t,l,ts,rs,rfl,hT,l45,hR,T,n10,okt,q⟩:=h
 have hu:(A.deeper (PyProof.Rows.envOfC "_law_told" (a0F a3N) s.heap.objs.size dZ11.f cdv)).units+64 < cLine:=by have:=hr.un; omega
 have hv:(A.deeper (PyProof.Rows.envOfC "_law_told" (a0F a3N) s.heap.objs.size dZ11.f cdv)).units+65 < cLine:=by have:=hr.un; omega
 obtain ⟨ys,hy,hpr,_⟩:=id hR
 have l20:=T.len
 refine ⟨_,(a0C (a2M (i:=3) ["_law_row"] [none] sc__law_told.nd rfl rfl (by kernel_rfl) rfl (a0Z (K:=K) rfl (pv 2)) (λ _ _ _ _ _=>(a0L (i:=0) (show (["_law_row"]:List Str).Nodup by decide +kernel) rfl (Or.inl rfl))) (λ _ _ _ _ _=>a2J) (λ _ _ _ _ _=>(a0T (a0A (a0U (a0P (K:=K) rfl) (pv 0) a0D (λ _ _=>rfl)) (a0A (a3D (a2P (K:=K) rfl) rfl B.list (by decide +kernel) (a0A (a0U (a0P (K:=K) rfl) (pv 0) a0D (λ _ _=>rfl)) a0B)) a0B)))) (by rfl))
   (a0C (a0Q (i:=4) sc__law_told.nd rfl (Or.inl rfl) (a0T (a0A (pv 0) (a0A (a3D (a2P (K:=K) rfl) rfl B.list (by decide +kernel) (a0A (pv 1) a0B)) a0B))))
   (a0C (a0Q (i:=5) sc__law_told.nd rfl (Or.inl rfl) (a0J gZ25 hr rfl dZ25.m dZ25.F.kp dZ25.b .nil a1A (a0A (pv 4) (a0A (pv 3) a0B))))
   (a0C (a1E (PW.pt (b2H (a0H (a7T (K:=K) rfl hu) (pv 3) (pv 2) (a0O _)) (a6W (a0H (a7T (K:=K) rfl hu) (pv 4) (a0T (a0A (pv 0) (a0A (pv 1) a0B))) (a0O _)))))
   (a0E (a0M a8M))
   a0N)
   (a0C (a1E (PW.pt (b2H (a3A (a1D (K:=K) rfl (a0I (a2F (K:=K) rfl) rfl B.isinstance (by decide +kernel) (a0A (pv 5) (a0A (a4T (v:=.ty "list") (u:=.type "list") rfl B.list (by decide +kernel) rfl) a0B))) (λ _=>rfl))) (a6W (a0H (a7T (K:=K) rfl hu) (pv 5) (a0J gZ5 hr rfl dZ5.m dZ5.F.kp dZ5.b .nil a1A (a0A (pv 2) (a0A (pv 0) a0B))) (a0O _)))))
   (a0E (a0M a8M))
   a0N)
   (a0C (a1E (a3A (a1D (K:=K) rfl (a0I (a5T (K:=K) rfl rfl) rfl B.all (by decide +kernel) (a0A (a6M ["_law_v"] [none]  (by kernel_rfl) rfl (a0Z (K:=K) rfl (pv 5)) (λ _ _ _ _ _=>(a0L (i:=0) (show (["_law_v"]:List Str).Nodup by decide +kernel) rfl (Or.inl rfl))) (λ _ _ _ _ _=>a2J) (λ _ _ _ _ _=>(a6X (a0I (a2F (K:=K) rfl) rfl B.isinstance (by decide +kernel) (a0A (pv 0) (a0A (a4T (v:=.ty "int") (u:=.type "int") rfl B.int (by decide +kernel) rfl) a0B))) (a5P (b7O (a0I (a2F (K:=K) rfl) rfl B.isinstance (by decide +kernel) (a0A (pv 0) (a0A (a4T (v:=.ty "bool") (u:=.type "bool") rfl B.bool (by decide +kernel) rfl) a0B)))))))) a0B)) (λ _=>rfl)))
   (a0E (a0M a8M))
   a0N)
   (a0C (a0Q (i:=6) sc__law_told.nd rfl (Or.inl rfl) (a0J gZ26 hr rfl dZ26.m dZ26.F.kp dZ26.b .nil a1A (a0A (pv 4) (a0A (pv 5) a0B))))
   (a0C (a3H (a5E (K:=K) rfl PySem.F.plainAttrs_list PySem.F.slot_list_append PySem.F.type_list_append a2B (pv 5) (a0A a0D a0B)))
   (a0E (a0M (a2W c1A (pv 6) (a0J gZ33 hr rfl dZ33.m dZ33.F.kp dZ33.b .nil a1A (a0A (pv 3) a0B)) (a0O _)))))))))))),?_⟩
 refine ⟨_,rfl,l,rfl,⟨_,hy⟩,b1F hy hpr (by omega) λ pm H1 s1 f1 RE=>?_⟩
 obtain ⟨tv,htv,ptv,_⟩:=id hT
 refine ⟨_,rfl,_,rfl,t,_,rfl,.inl (s1.seq htv),λ pt H2 n2=>⟨(by show 2<=1000; decide),λ pw H3 n3=>?_⟩⟩
 have s3:=s1.trans (n2.same.trans n3.same)
 have hG3:GraphV K H3 (.ref pw) n ts:=⟨pw,pt,rfl,SqT.of n3.here,tv,SqL.of (n3.same _ _ n2.here),Paired.mapP ptv λ _ _ ⟨p,e,h⟩=>⟨p,e,s3.tupq h⟩,by omega⟩
 have hR3:RowsAt K H3 pm rs:=(RE.same (n2.same.trans n3.same)).at (by omega)
 have inn:∀ t∈ts,∃ r∈rs,t.1∈r.2/\t.2∈r.2:=λ t ht=>(okt t ht).2
 refine ⟨_,rfl,_,rfl,.ref pw,n,ts,pm,rs,rfl,hG3,hR3,T,inn,n10,λ pf H4 s4 f4 h4=>?_⟩
 have O:=b2B T
 have lo:=O.o.len
 have s04:=s3.trans s4
 refine ⟨_,rfl,_,rfl,_,_,(hR3.same s4).isD,(hR.same s04).isD,a2D rs,a2D rs,_,rfl,?_⟩
 rw [if_pos rfl,a4K (a2D rs)]
 refine iteF ?_
 refine ⟨_,rfl,_,rfl,_,rfl,(by show 2<=1000; decide),λ p5 H5 n5=>?_⟩
 have s05:=s04.trans n5.same
 have hG5:GraphV K H5 (.ref p5) n ts:=⟨p5,t,rfl,SqT.of n5.here,(hT.same s05)⟩
 refine ⟨webD n ts,webD n ts,((hG3.same s4).same n5.same).isD,hG5.isD,a4W _ _,a4W _ _,_,rfl,?_⟩
 rw [if_pos rfl,a4K (a4W _ _)]
 refine iteF ?_
 have h5:=n5.same _ _ h4
 refine ⟨_,rfl,_,_,_,_,_,rfl,rfl,TyOf.lst h5,a8H,_,rfl,iteF ?_⟩
 refine ⟨_,rfl,_,rfl,_,rfl,l,n,rs,rfl,hR.same s05,T,n10,λ p6 H6 s6 h6=>?_⟩
 have h6':SqL K H6 pf ((natI (ordN rs)).map V.int):=by
  have:=a3W (ordN rs)
  rw [show ((natI (ordN rs)).map V.int)=natV (ordN rs) from this.symm]
  exact SqL.of (s6 _ _ h5)
 rw [O.eq] at h6
 refine ⟨_,_,.lst h6' (IsDs.ints _),.lst (SqL.of h6) (IsDs.ints _),a2R _,a2R _,_,rfl,?_⟩
 rw [if_pos rfl,a4K (a2R _)]
 refine iteF ?_
 have h6f:=s6 _ _ h5
 refine ⟨_,rfl,pf,rfl,⟨_,SqL.of h6f⟩,?_⟩
 refine a9F (λ x=>some (.bl true)) (SqL.of h6f) (by rw [List.length_map]; omega) (λ x H7 N hx7 s7 hN=>?_) (λ H7 p8 H8 s7 n8=>?_)
 ·obtain ⟨y,_,rfl⟩:=List.mem_map.mp hx7
  refine ⟨_,rfl,_,_,_,_,_,rfl,rfl,TyOf.int _,a5S,_,rfl,iteT ?_⟩
  exact ⟨_,rfl,_,_,_,_,_,rfl,rfl,TyOf.int _,a5D,_,rfl,hN H7 s7⟩
 have e1:(natV (ordN rs)).filterMap (λ _=>some (V.bl true))=((ordN rs).map λ _=>true).map V.bl:=by
  unfold natV
  rw [List.filterMap_map,List.map_map]
  exact a2X λ _ _=>rfl
 rw [e1] at n8
 refine ⟨p8,_,_,rfl,SqL.of n8.here,Truths.bls _,?_⟩
 have e2:(((ordN rs).map λ _=>true).all id)=true:=by simp
 rw [e2]
 refine ⟨_,rfl,iteF ?_⟩
 have s48:=n5.same.trans (s6.trans (s7.trans n8.same))
 have hG8:=(hG3.same s4).same s48
 have h8f:=s48 _ _ h4
 refine ⟨_,rfl,_,rfl,.ref pw,n,ts,pf,ordN rs,rfl,hG8,(λ t ht=>(okt t ht).1),SqL.of h8f,O.o.pm,n10,λ H9 s9=>?_⟩
 have h9f:=s9 _ _ h8f
 refine ⟨_,rfl,.inl ⟨rfl,_,SqL.of h9f⟩,pf,_,_,rfl,rfl,h9f,(by unfold natV; rw [List.length_map]; omega),λ H10 c10=>?_⟩
 have pn:H3 pf=none:=f4
 have s310:Same H3 H10:=(s4.trans (s48.trans s9)).chg pn c10
 refine ⟨_,rfl,_,rfl,pm,rs,rfl,hR3.same s310,T.pos,λ M H11 s11 mM mx=>⟨_,_,rfl,rfl,?_⟩⟩
 have sz:b2Z rs<=M:=by
  unfold b2Z
  rcases (b0G (lens rs) 0).2.2 with h | h
  ·rw [h]
   obtain ⟨r,_,e⟩:=List.mem_map.mp mM
   omega
  ·exact mx _ h
 have wt:=b3A T O inn
 dsimp only
 rw [decide_eq_true (by omega:a7J n ts (ordN rs)<=M - 1)]
 exact q H11 (s3.trans (s310.trans s11))
end
end K
namespace K
open PySem L2 Lw Bg
abbrev c0P:Stmt:=top 55
theorem sc_law:FnScope ["_law_script", "_law_n", "_law_rows", "_law_ties_here", "_law_cell_here", "_law_bad_here", "_law_handed"] ["_law_script"] (a0F c0P):=⟨rfl,rfl,rfl,by decide +kernel,rfl,by decide +kernel,by decide +kernel⟩
section
variable {P:Program} {w:World} {K:Φρ} {mg:Str->Option Value} {base:Heap}
set_option maxHeartbeats 16000000 in
theorem c3R (B:Bl mg) (C:Cl K mg) (dZ21:DZ21 K mg) (dZ17:DZ17 K mg) (dZ19:DZ19 K mg) (dZ24:DZ24 K mg) (dZ20:DZ20 K mg) (dZ30:DZ30 K mg) (dZ27:DZ27 K mg) (dZ32:DZ32 K mg) (dZ18:DZ18 K mg) (dZ14:DZ14 K mg) (dZ15:DZ15 K mg) (dZ33:DZ33 K mg) (dZ28:DZ28 K mg) (dZ16:DZ16 K mg) (dZ31:DZ31 K mg) (dZ29:DZ29 K mg) (dZ22:DZ22 K mg) (dZ26:DZ26 K mg) (dZ25:DZ25 K mg) (dZ2:DZ2 K mg) (dZ13:DZ13 K mg) (dZ6:DZ6 K mg) (dZ12:DZ12 K mg) (dZ10:DZ10 K mg) (dZ5:DZ5 K mg) (dZ7:DZ7 K mg) (dZ3:DZ3 K mg) (dZ0:DZ0 K mg) (dZ4:DZ4 K mg) (dZ1:DZ1 K mg) (dZ9:DZ9 K mg) (dZ8:DZ8 K mg) (dZ11:DZ11 K mg) (dZ23:Dn K mg "law" c0P ["_law_script"]):FnOk P w K mg base CX0 8 dZ23.f dZ23.fd ["_law_script"] (spLaw K):=by
 have gZ2:FnOk P w K mg base CX0 7 _ _ _ _:=(a2U B dZ2).mono (by decide)
 have gZ13:FnOk P w K mg base CX0 7 _ _ _ _:=(a6T B dZ2 dZ13).mono (by decide)
 have gZ12:FnOk P w K mg base CX0 7 _ _ _ _:=(b0E B dZ2 dZ6 dZ12).mono (by decide)
 have gZ10:FnOk P w K mg base CX0 7 _ _ _ _:=(b0F B dZ2 dZ10).mono (by decide)
 have gZ9:FnOk P w K mg base CX0 7 _ _ _ _:=(a6J B dZ7 dZ3 dZ0 dZ4 dZ1 dZ9).mono (by decide)
 have gZ8:FnOk P w K mg base CX0 7 _ _ _ _:=a6K B C dZ21 dZ17 dZ19 dZ20 dZ30 dZ27 dZ32 dZ18 dZ14 dZ15 dZ25 dZ8
 have gZ11:FnOk P w K mg base CX0 7 _ _ _ _:=b0J B dZ21 dZ17 dZ19 dZ24 dZ20 dZ30 dZ27 dZ32 dZ18 dZ14 dZ15 dZ33 dZ28 dZ16 dZ31 dZ29 dZ22 dZ26 dZ25 dZ5 dZ11
 refine dZ23.F.ok sc_law (λ vs H Q E h=>?_) (λ cdv A outer s H vs Q E hr h=>?_)
 ·obtain ⟨a,ns,rfl,_⟩:=h
  rfl
 obtain ⟨a,ns,rfl,hS,h63,q⟩:=h
 have hu:(A.deeper (PyProof.Rows.envOfC "law" (a0F c0P) s.heap.objs.size dZ23.f cdv)).units+64 < cLine:=by have:=hr.un; omega
 refine ⟨_,(a0C (a0Q (i:=1) sc_law.nd rfl (Or.inl rfl) (a0K a1M (a0J gZ2 hr rfl dZ2.m dZ2.F.kp dZ2.b .nil a1A (a0A (pv 0) (a0A a0D a0B))) a0D))
   (a0C (a0Q (i:=2) sc_law.nd rfl (Or.inl rfl) (a0J gZ12 hr rfl dZ12.m dZ12.F.kp dZ12.b .nil a1A (a0A (pv 0) (a0A (a0J gZ13 hr rfl dZ13.m dZ13.F.kp dZ13.b .nil a1A (a0A (pv 0) (a0A (pv 1) a0B))) (a0A (a0K a1R a0D (a0K a1M (a0J gZ2 hr rfl dZ2.m dZ2.F.kp dZ2.b .nil a1A (a0A (pv 0) (a0A a0D a0B))) a0D)) a0B)))))
   (a0C (a0Q (i:=3) sc_law.nd rfl (Or.inl rfl) (a0J gZ10 hr rfl dZ10.m dZ10.F.kp dZ10.b .nil a1A (a0A (pv 0) (a0A (pv 2) (a0A (pv 1) a0B)))))
   (a0C (a1E (a3A (a1D (K:=K) rfl (a0J gZ11 hr rfl dZ11.m dZ11.F.kp dZ11.b .nil a1A (a0A (pv 1) (a0A (pv 3) (a0A (pv 2) a0B)))) (λ _=>rfl)))
   (a0E (a0M a8M))
   a0N)
   (a0C (a0Q (i:=4) sc_law.nd rfl (Or.inl rfl) (a0K a1M (a0J gZ2 hr rfl dZ2.m dZ2.F.kp dZ2.b .nil a1A (a0A (pv 0) (a0A a0D a0B))) a0D))
   (a0C (a0Q (i:=5) sc_law.nd rfl (Or.inl rfl) (a0J gZ9 hr rfl dZ9.m dZ9.F.kp dZ9.b .nil a1A (a0A (pv 1) (a0A (pv 3) (a0A (pv 2) (a0A (a0K a1M (a0J gZ2 hr rfl dZ2.m dZ2.F.kp dZ2.b .nil a1A (a0A (pv 0) (a0A a0D a0B))) a0D) (a0A (pv 4) a0B)))))))
   (a3I (a1E (PW.pt (a2L (a0H a5Q (a0K a1M (a0J gZ2 hr rfl dZ2.m dZ2.F.kp dZ2.b .nil a1A (a0A (pv 0) (a0A a0D a0B))) a0D) a0D (a0O _)) (a1S (a0H a4U (a0U (a0P (K:=K) rfl) (pv 5) a0D (λ _ _=>rfl)) a1Y (a0O _)))))
   (a0C (a2M (i:=6) ["_law_row"] [none] sc_law.nd rfl rfl (by kernel_rfl) rfl (a0Z (K:=K) rfl (a0U (a0P (K:=K) rfl) (pv 5) a0D (λ _ _=>rfl))) (λ _ _ _ _ _=>(a0L (i:=0) (show (["_law_row"]:List Str).Nodup by decide +kernel) rfl (Or.inl rfl))) (λ _ _ _ _ _=>a2J) (λ _ _ _ _ _=>(a0T (a0A (a0U (a0P (K:=K) rfl) (pv 0) a0D (λ _ _=>rfl)) (a0A (a3D (a2P (K:=K) rfl) rfl B.list (by decide +kernel) (a0A (a0U (a0P (K:=K) rfl) (pv 0) a0D (λ _ _=>rfl)) a0B)) a0B)))) (by rfl))
   (a0E (a1E (PW.pt (b2H (a3A (a1D (K:=K) rfl (a0J gZ8 hr rfl dZ8.m dZ8.F.kp dZ8.b .nil a1A (a0A (a0T (a0A (pv 1) (a0A (a3D (a2P (K:=K) rfl) rfl B.list (by decide +kernel) (a0A (a0U (a0P (K:=K) rfl) (pv 5) a0D (λ _ _=>rfl)) a0B)) a0B))) (a0A (pv 6) a0B))) (λ _=>rfl))) (a6W (a0H (a7T (K:=K) rfl hu) (pv 6) (a0U (a0P (K:=K) rfl) (pv 5) a0D (λ _ _=>rfl)) (a0O _)))))
   (a0E (a0M a8M))
   a0N)))
   a0N)
   (a0E (a0M (a0J gZ11 hr rfl dZ11.m dZ11.F.kp dZ11.b .nil a1A (a0A (pv 1) (a0A (pv 3) (a0A (pv 2) a0B))))))))))))),?_⟩
 refine ⟨_,rfl,a,ns,0,rfl,hS,h63,by decide,by decide,λ z0=>⟨_,_,rfl,rfl,(show (0:Int) < 11 by decide),?_⟩⟩
 obtain ⟨n,en⟩:∃ n:Nat,z0 % 11=(n:Int):=⟨(z0 % 11).toNat,by omega⟩
 have n10:n<=10:=by omega
 dsimp only
 rw [en]
 refine ⟨_,rfl,_,rfl,_,rfl,a,ns,n,rfl,hS,h63,n10,λ ro us H1 n1 pm=>?_⟩
 refine ⟨_,rfl,a,ns,1,rfl,hS.same n1.same,h63,by decide,by decide,λ z1=>⟨_,_,rfl,rfl,(show (0:Int) < 7 by decide),_,_,rfl,rfl,?_⟩⟩
 obtain ⟨m,em⟩:∃ m:Nat,1+z1 % 7=(m:Int):=⟨(1+z1 % 7).toNat,by omega⟩
 dsimp only
 rw [em]
 refine ⟨a,ro,ns,us,n,m,rfl,hS.same n1.same,h63,n1.here,pm,n10,by omega,by omega,λ l ys rs H2 s2 f2 h2 p2 T m2=>?_⟩
 have s02:=n1.same.trans s2
 have l20:=T.len
 have RE2:RowsE H2 l rs:=⟨ys,h2,Paired.mapP p2 λ _ _ ⟨p,b,e,h1,h3,_,z⟩=>⟨p,b,e,h1,h3,z⟩⟩
 refine ⟨_,rfl,_,rfl,_,rfl,a,l,ns,rs,n,rfl,hS.same s02,h63,RE2.at (by omega),n10,λ t xs ts H3 s3 f3 h3 p3 okt l45=>?_⟩
 have s03:=s02.trans s3
 have lx:=Paired.length p3
 have tA:∀ {H':Hp},Same H3 H'->TiesAt K H' t ts:=λ s=>⟨xs,SqL.of (s _ _ h3),Paired.mapP p3 λ _ _ h=>(TieL.same s h).v,by omega⟩
 have RE3:=RE2.same s3
 refine ⟨_,rfl,_,rfl,_,rfl,n,t,l,ts,rs,rfl,tA (Same.refl _),l45,RE3.at (by omega),T,n10,okt,λ H4 s4=>⟨_,rfl,iteF ?_⟩⟩
 have s04:=s03.trans s4
 refine ⟨_,rfl,a,ns,62,rfl,hS.same s04,h63,by decide,by decide,λ z62=>⟨_,_,rfl,rfl,(show (0:Int) < 1000003 by decide),?_⟩⟩
 have c0:=Int.emod_nonneg z62 (show (1000003:Int)≠0 by decide)
 have c1:=Int.emod_lt_of_pos z62 (show (0:Int) < 1000003 by decide)
 refine ⟨_,rfl,_,rfl,_,rfl,_,rfl,a,ns,61,rfl,hS.same s04,h63,by decide,by decide,λ z61=>⟨_,_,rfl,rfl,(show (0:Int) < 10 by decide),_,rfl,?_⟩⟩
 refine ⟨n,t,l,xs,ts,rs,_,_,rfl,s4 _ _ h3,Paired.mapP p3 λ _ _ h=>TieL.same s4 h,l45,RE3.same s4,T,n10,c0,c1,λ pb t' wv ts' H5 s5 h5 hT5 l60 hw=>?_⟩
 have s35:=s4.trans s5
 have s05:=s03.trans s35
 refine ⟨λ σ' H'=>Same H5 H'/\∃ o4 o5 o6:Option V,σ'=[some (.ref a),some (.int n),some (.ref l),some (.ref t),o4,o5,o6],?_,?_⟩
 ·refine ⟨_,rfl,a,ns,60,rfl,hS.same s05,h63,by decide,by decide,λ z60=>⟨_,_,rfl,rfl,(show (0:Int) < 3 by decide),_,_,rfl,rfl,_,rfl,ite2 (λ _=>?_) (λ _=>iteF ⟨Same.refl _,_,_,_,rfl⟩)⟩⟩
  refine ⟨_,rfl,pb,_,_,_,rfl,rfl,SqT.of h5,rfl,rfl,_,rfl,?_⟩
  rcases hw with rfl | ⟨pq,rs',rfl,hR5,l100,bad⟩
  ·exact iteF ⟨Same.refl _,_,_,_,rfl⟩
  refine iteT ?_
  obtain ⟨zs,hz,pz,_⟩:=id hR5
  refine ⟨_,rfl,pb,_,_,_,rfl,rfl,SqT.of h5,rfl,pq,rfl,⟨_,hz⟩,b1F hz pz l100 λ pm H6 s6 f6 RE6=>?_⟩
  obtain ⟨tv,htv,ptv,_⟩:=id hT5
  refine ⟨_,rfl,_,rfl,pb,_,_,_,rfl,rfl,SqT.of (s6 _ _ h5),rfl,t',_,rfl,.inl (s6.seq htv),λ p7 H7 n7=>⟨(by show 2<=1000; decide),λ p8 H8 n8=>?_⟩⟩
  have s58:=s6.trans (n7.same.trans n8.same)
  have hG8:GraphV K H8 (.ref p8) n ts':=⟨p8,p7,rfl,SqT.of n8.here,tv,SqL.of (n8.same _ _ n7.here),Paired.mapP ptv λ _ _ ⟨p,e,h⟩=>⟨p,e,s58.tupq h⟩,by omega⟩
  have hR8:RowsAt K H8 pm rs':=(RE6.same (n7.same.trans n8.same)).at (by omega)
  refine ⟨_,rfl,.ref p8,n,ts',pm,rs',rfl,by omega,hG8,hR8,bad,λ H9 s9=>⟨_,rfl,iteF ?_⟩⟩
  refine ⟨_,rfl,_,rfl,pb,_,_,_,rfl,rfl,SqT.of (s9 _ _ (s58 _ _ h5)),rfl,_,_,(hR8.same s9).isD,(hR5.same (s58.trans s9)).isD,a2D rs',a2D rs',_,rfl,?_⟩
  rw [if_pos rfl,a4K (a2D rs')]
  exact iteF ⟨s58.trans s9,_,_,_,rfl⟩
 ·rintro σ H6 ⟨s6,o4,o5,o6,rfl⟩
  refine ⟨_,rfl,_,rfl,_,rfl,n,t,l,ts,rs,rfl,tA (s35.trans s6),l45,(RE3.same (s35.trans s6)).at (by omega),T,n10,okt,λ H7 s7=>q H7⟩
end
end K
open PySem PySem.W PyProof.Rows
def PySem.W.Fast.tw12297543885437020741 : Unit := ()
def PySem.W.Fast.tw8175290495558232326 : Unit := ()
def PySem.W.Fast.tw8720882974790039884 : Unit := ()
def PySem.W.Fast.tw17634692688270238862 : Unit := ()
def PySem.W.Fast.tw12414454472644995624 : Unit := ()
def PySem.W.Fast.tw430655083956197505 : Unit := ()
def PySem.W.Fast.tw6388961285767885244 : Unit := ()
def PySem.W.Fast.tw13443765936041755660 : Unit := ()
def PySem.W.Fast.tw1605805406519274196 : Unit := ()
def PySem.W.Fast.tw6561853929750314495 : Unit := ()
def PySem.W.Fast.tw9493574556195657347 : Unit := ()
def PySem.W.Fast.tw514458918896879049 : Unit := ()
def PySem.W.Fast.tw8283813300020872138 : Unit := ()
def PySem.W.Fast.tw14885690161812641270 : Unit := ()
def PySem.W.Fast.tw12921437824265483543 : Unit := ()
def PySem.W.Fast.tw13687508700033483091 : Unit := ()
def PySem.W.Fast.tw12576353558950868427 : Unit := ()
def PySem.W.Fast.tw11609318984048772420 : Unit := ()
def PySem.W.Fast.tw2966972164452406053 : Unit := ()
def PySem.W.Fast.tw15159600650173880752 : Unit := ()
def PySem.W.Fast.tw2909835309708356957 : Unit := ()
def PySem.W.Fast.tw17970979819109282451 : Unit := ()
def PySem.W.Fast.tw16533458214121272292 : Unit := ()
def PySem.W.Fast.tw15513001693278739646 : Unit := ()
def PySem.W.Fast.tw2763930336544046470 : Unit := ()
def PySem.W.Fast.tw6543348523211192858 : Unit := ()
def PySem.W.Fast.tw8820501448562751972 : Unit := ()
def PySem.W.Fast.tw12279368510133823309 : Unit := ()
def PySem.W.Fast.tw9019404592260085015 : Unit := ()
def PySem.W.Fast.tw11995032490369954056 : Unit := ()
def PySem.W.Fast.tw11224585866908103988 : Unit := ()
def PySem.W.Fast.tw8657994306291634125 : Unit := ()
def PySem.W.Fast.tw1537743223538453913 : Unit := ()
def PySem.W.Fast.tw2366566235455507193 : Unit := ()
set_option maxRecDepth 100000 in
set_option maxHeartbeats 0 in
theorem PySem.Challenge.cw_bagwood_k25_the_order_of_a_tree_holds : PySem.Challenge.rw_bagwood_k25_the_order_of_a_tree.Holds := by
 w_on; o_law; k_head; (case hw => w_witness2)
 k_fill
 refine L2.walk_ofK (l := PySem.Challenge.rw_bagwood_k25_the_order_of_a_tree) (n := 63) (k := 8) (x := "_law_script") (CX := L2.CX0) (sp := Lw.spLaw) rfl (by decide) rfl ⟨rfl, by decide, by decide⟩ (fun w h Y => PySem.W.kIn_of Y) ?F ?S ?C
 case F =>
  intro w mg fa h KX G hmg
  have B : L2.Bl mg := by
   refine' L2.bl_mk KX G ?z1 ?z2 ?z3 ?z4 ?z5 ?z6 ?z7 ?z8 ?z9 ?z10 ?z11 ?z12 ?z13 ?z14 ?z15 ?z16 ?z17
   all_goals k_is
  have dZ21 : Nonempty (L2.Dn (L2.KOf KX) mg "is_whole" K.a7G ["thing"]) := by
   dsimp only [L2.KOf]
   refine' L2.dn_mk1 KX G ?a ?l ?c ?k rfl (fun _ _ _ _ _ _ _ => rfl)
   (case a => k_is); (case l => k_is); (case c => k_is); (case k => k_is)
  obtain ⟨dZ21⟩ := dZ21
  have dZ17 : Nonempty (L2.Dn (L2.KOf KX) mg "is_below" K.a7H ["n", "thing"]) := by
   dsimp only [L2.KOf]
   refine' L2.dn_mk2 KX G ?a ?l ?c ?k rfl (fun _ _ _ _ _ _ _ _ => rfl)
   (case a => k_is); (case l => k_is); (case c => k_is); (case k => k_is)
  obtain ⟨dZ17⟩ := dZ17
  have dZ19 : Nonempty (L2.Dn (L2.KOf KX) mg "is_set" K.b1W ["n", "places"]) := by
   dsimp only [L2.KOf]
   refine' L2.dn_mk2 KX G ?a ?l ?c ?k rfl (fun _ _ _ _ _ _ _ _ => rfl)
   (case a => k_is); (case l => k_is); (case c => k_is); (case k => k_is)
  obtain ⟨dZ19⟩ := dZ19
  have dZ24 : Nonempty (L2.Dn (L2.KOf KX) mg "less" K.b5B ["one", "other"]) := by
   dsimp only [L2.KOf]
   refine' L2.dn_mk2 KX G ?a ?l ?c ?k rfl (fun _ _ _ _ _ _ _ _ => rfl)
   (case a => k_is); (case l => k_is); (case c => k_is); (case k => k_is)
  obtain ⟨dZ24⟩ := dZ24
  have dZ20 : Nonempty (L2.Dn (L2.KOf KX) mg "is_up" K.b5J ["k", "up"]) := by
   dsimp only [L2.KOf]
   refine' L2.dn_mk2 KX G ?a ?l ?c ?k rfl (fun _ _ _ _ _ _ _ _ => rfl)
   (case a => k_is); (case l => k_is); (case c => k_is); (case k => k_is)
  obtain ⟨dZ20⟩ := dZ20
  have dZ30 : Nonempty (L2.Dn (L2.KOf KX) mg "row_fault" K.a6C ["n", "rows"]) := by
   dsimp only [L2.KOf]
   refine' L2.dn_mk2 KX G ?a ?l ?c ?k rfl (fun _ _ _ _ _ _ _ _ => rfl)
   (case a => k_is); (case l => k_is); (case c => k_is); (case k => k_is)
  obtain ⟨dZ30⟩ := dZ30
  have dZ27 : Nonempty (L2.Dn (L2.KOf KX) mg "place_fault" K.a3L ["n", "rows"]) := by
   dsimp only [L2.KOf]
   refine' L2.dn_mk2 KX G ?a ?l ?c ?k rfl (fun _ _ _ _ _ _ _ _ => rfl)
   (case a => k_is); (case l => k_is); (case c => k_is); (case k => k_is)
  obtain ⟨dZ27⟩ := dZ27
  have dZ32 : Nonempty (L2.Dn (L2.KOf KX) mg "tie_fault" K.a4F ["ties", "rows"]) := by
   dsimp only [L2.KOf]
   refine' L2.dn_mk2 KX G ?a ?l ?c ?k rfl (fun _ _ _ _ _ _ _ _ => rfl)
   (case a => k_is); (case l => k_is); (case c => k_is); (case k => k_is)
  obtain ⟨dZ32⟩ := dZ32
  have dZ18 : Nonempty (L2.Dn (L2.KOf KX) mg "is_held" K.a6D ["rows", "up", "v"]) := by
   dsimp only [L2.KOf]
   refine' L2.dn_mk3 KX G ?a ?l ?c ?k rfl (fun _ _ _ _ _ _ _ _ _ => rfl)
   (case a => k_is); (case l => k_is); (case c => k_is); (case k => k_is)
  obtain ⟨dZ18⟩ := dZ18
  have dZ14 : Nonempty (L2.Dn (L2.KOf KX) mg "apart_fault" K.a3M ["n", "rows"]) := by
   dsimp only [L2.KOf]
   refine' L2.dn_mk2 KX G ?a ?l ?c ?k rfl (fun _ _ _ _ _ _ _ _ => rfl)
   (case a => k_is); (case l => k_is); (case c => k_is); (case k => k_is)
  obtain ⟨dZ14⟩ := dZ14
  have dZ15 : Nonempty (L2.Dn (L2.KOf KX) mg "fault" K.b5I ["graph", "rows"]) := by
   dsimp only [L2.KOf]
   refine' L2.dn_mk2 KX G ?a ?l ?c ?k rfl (fun _ _ _ _ _ _ _ _ => rfl)
   (case a => k_is); (case l => k_is); (case c => k_is); (case k => k_is)
  obtain ⟨dZ15⟩ := dZ15
  have dZ33 : Nonempty (L2.Dn (L2.KOf KX) mg "width" K.b5K ["tree"]) := by
   dsimp only [L2.KOf]
   refine' L2.dn_mk1 KX G ?a ?l ?c ?k rfl (fun _ _ _ _ _ _ _ => rfl)
   (case a => k_is); (case l => k_is); (case c => k_is); (case k => k_is)
  obtain ⟨dZ33⟩ := dZ33
  have dZ28 : Nonempty (L2.Dn (L2.KOf KX) mg "places_of" K.a5Z ["mask"]) := by
   dsimp only [L2.KOf]
   refine' L2.dn_mk1 KX G ?a ?l ?c ?k rfl (fun _ _ _ _ _ _ _ => rfl)
   (case a => k_is); (case l => k_is); (case c => k_is); (case k => k_is)
  obtain ⟨dZ28⟩ := dZ28
  have dZ16 : Nonempty (L2.Dn (L2.KOf KX) mg "first_bags" K.a5H ["graph"]) := by
   dsimp only [L2.KOf]
   refine' L2.dn_mk1 KX G ?a ?l ?c ?k rfl (fun _ _ _ _ _ _ _ => rfl)
   (case a => k_is); (case l => k_is); (case c => k_is); (case k => k_is)
  obtain ⟨dZ16⟩ := dZ16
  have dZ31 : Nonempty (L2.Dn (L2.KOf KX) mg "taken_out" K.a6A ["bags", "v"]) := by
   dsimp only [L2.KOf]
   refine' L2.dn_mk2 KX G ?a ?l ?c ?k rfl (fun _ _ _ _ _ _ _ _ => rfl)
   (case a => k_is); (case l => k_is); (case c => k_is); (case k => k_is)
  obtain ⟨dZ31⟩ := dZ31
  have dZ29 : Nonempty (L2.Dn (L2.KOf KX) mg "refuse_no_order" K.a3E ["n", "order"]) := by
   dsimp only [L2.KOf]
   refine' L2.dn_mk2 KX G ?a ?l ?c ?k rfl (fun _ _ _ _ _ _ _ _ => rfl)
   (case a => k_is); (case l => k_is); (case c => k_is); (case k => k_is)
  obtain ⟨dZ29⟩ := dZ29
  have dZ22 : Nonempty (L2.Dn (L2.KOf KX) mg "later" K.b5F ["graph", "order"]) := by
   dsimp only [L2.KOf]
   refine' L2.dn_mk2 KX G ?a ?l ?c ?k rfl (fun _ _ _ _ _ _ _ _ => rfl)
   (case a => k_is); (case l => k_is); (case c => k_is); (case k => k_is)
  obtain ⟨dZ22⟩ := dZ22
  have dZ26 : Nonempty (L2.Dn (L2.KOf KX) mg "order_width" K.a4O ["graph", "order"]) := by
   dsimp only [L2.KOf]
   refine' L2.dn_mk2 KX G ?a ?l ?c ?k rfl (fun _ _ _ _ _ _ _ _ => rfl)
   (case a => k_is); (case l => k_is); (case c => k_is); (case k => k_is)
  obtain ⟨dZ26⟩ := dZ26
  have dZ25 : Nonempty (L2.Dn (L2.KOf KX) mg "order_of" K.a7I ["graph", "tree"]) := by
   dsimp only [L2.KOf]
   refine' L2.dn_mk2 KX G ?a ?l ?c ?k rfl (fun _ _ _ _ _ _ _ _ => rfl)
   (case a => k_is); (case l => k_is); (case c => k_is); (case k => k_is)
  obtain ⟨dZ25⟩ := dZ25
  have dZ2 : Nonempty (L2.Dn (L2.KOf KX) mg "_law_cell" K.a6E ["_law_script", "_law_k"]) := by
   dsimp only [L2.KOf]
   refine' L2.dn_mk2 KX G ?a ?l ?c ?k rfl (fun _ _ _ _ _ _ _ _ => rfl)
   (case a => k_is); (case l => k_is); (case c => k_is); (case k => k_is)
  obtain ⟨dZ2⟩ := dZ2
  have dZ13 : Nonempty (L2.Dn (L2.KOf KX) mg "_law_turned" K.a4Q ["_law_script", "_law_n"]) := by
   dsimp only [L2.KOf]
   refine' L2.dn_mk2 KX G ?a ?l ?c ?k rfl (fun _ _ _ _ _ _ _ _ => rfl)
   (case a => k_is); (case l => k_is); (case c => k_is); (case k => k_is)
  obtain ⟨dZ13⟩ := dZ13
  have dZ6 : Nonempty (L2.Dn (L2.KOf KX) mg "_law_kept" K.a6F ["_law_old", "_law_cell_here"]) := by
   dsimp only [L2.KOf]
   refine' L2.dn_mk2 KX G ?a ?l ?c ?k rfl (fun _ _ _ _ _ _ _ _ => rfl)
   (case a => k_is); (case l => k_is); (case c => k_is); (case k => k_is)
  obtain ⟨dZ6⟩ := dZ6
  have dZ12 : Nonempty (L2.Dn (L2.KOf KX) mg "_law_tree" K.a6G ["_law_script", "_law_turned_here", "_law_many"]) := by
   dsimp only [L2.KOf]
   refine' L2.dn_mk3 KX G ?a ?l ?c ?k rfl (fun _ _ _ _ _ _ _ _ _ => rfl)
   (case a => k_is); (case l => k_is); (case c => k_is); (case k => k_is)
  obtain ⟨dZ12⟩ := dZ12
  have dZ10 : Nonempty (L2.Dn (L2.KOf KX) mg "_law_ties" K.a4G ["_law_script", "_law_rows", "_law_n"]) := by
   dsimp only [L2.KOf]
   refine' L2.dn_mk3 KX G ?a ?l ?c ?k rfl (fun _ _ _ _ _ _ _ _ _ => rfl)
   (case a => k_is); (case l => k_is); (case c => k_is); (case k => k_is)
  obtain ⟨dZ10⟩ := dZ10
  have dZ5 : Nonempty (L2.Dn (L2.KOf KX) mg "_law_due" K.a4Y ["_law_rows", "_law_n"]) := by
   dsimp only [L2.KOf]
   refine' L2.dn_mk2 KX G ?a ?l ?c ?k rfl (fun _ _ _ _ _ _ _ _ => rfl)
   (case a => k_is); (case l => k_is); (case c => k_is); (case k => k_is)
  obtain ⟨dZ5⟩ := dZ5
  have dZ7 : Nonempty (L2.Dn (L2.KOf KX) mg "_law_less" K.a6I ["_law_rows", "_law_at", "_law_v"]) := by
   dsimp only [L2.KOf]
   refine' L2.dn_mk3 KX G ?a ?l ?c ?k rfl (fun _ _ _ _ _ _ _ _ _ => rfl)
   (case a => k_is); (case l => k_is); (case c => k_is); (case k => k_is)
  obtain ⟨dZ7⟩ := dZ7
  have dZ3 : Nonempty (L2.Dn (L2.KOf KX) mg "_law_comes" K.a5I ["_law_rows", "_law_j", "_law_at"]) := by
   dsimp only [L2.KOf]
   refine' L2.dn_mk3 KX G ?a ?l ?c ?k rfl (fun _ _ _ _ _ _ _ _ _ => rfl)
   (case a => k_is); (case l => k_is); (case c => k_is); (case k => k_is)
  obtain ⟨dZ3⟩ := dZ3
  have dZ0 : Nonempty (L2.Dn (L2.KOf KX) mg "_law_apart_from" K.a2E ["_law_rows", "_law_v", "_law_at"]) := by
   dsimp only [L2.KOf]
   refine' L2.dn_mk3 KX G ?a ?l ?c ?k rfl (fun _ _ _ _ _ _ _ _ _ => rfl)
   (case a => k_is); (case l => k_is); (case c => k_is); (case k => k_is)
  obtain ⟨dZ0⟩ := dZ0
  have dZ4 : Nonempty (L2.Dn (L2.KOf KX) mg "_law_cut" K.a4Z ["_law_rows", "_law_cell_here"]) := by
   dsimp only [L2.KOf]
   refine' L2.dn_mk2 KX G ?a ?l ?c ?k rfl (fun _ _ _ _ _ _ _ _ => rfl)
   (case a => k_is); (case l => k_is); (case c => k_is); (case k => k_is)
  obtain ⟨dZ4⟩ := dZ4
  have dZ1 : Nonempty (L2.Dn (L2.KOf KX) mg "_law_bad" K.a7L ["_law_row", "_law_at", "_law_n", "_law_kind", "_law_far"]) := by
   dsimp only [L2.KOf]
   refine' L2.dn_mk5 KX G ?a ?l ?c ?k rfl (fun _ _ _ _ _ _ _ _ _ _ _ => rfl)
   (case a => k_is); (case l => k_is); (case c => k_is); (case k => k_is)
  obtain ⟨dZ1⟩ := dZ1
  have dZ9 : Nonempty (L2.Dn (L2.KOf KX) mg "_law_spoiled" K.a2Y ["_law_n", "_law_ties_here", "_law_rows", "_law_kind", "_law_cell_here"]) := by
   dsimp only [L2.KOf]
   refine' L2.dn_mk5 KX G ?a ?l ?c ?k rfl (fun _ _ _ _ _ _ _ _ _ _ _ => rfl)
   (case a => k_is); (case l => k_is); (case c => k_is); (case k => k_is)
  obtain ⟨dZ9⟩ := dZ9
  have dZ8 : Nonempty (L2.Dn (L2.KOf KX) mg "_law_refused" K.a2Z ["_law_web", "_law_rows"]) := by
   dsimp only [L2.KOf]
   refine' L2.dn_mk2 KX G ?a ?l ?c ?k rfl (fun _ _ _ _ _ _ _ _ => rfl)
   (case a => k_is); (case l => k_is); (case c => k_is); (case k => k_is)
  obtain ⟨dZ8⟩ := dZ8
  have dZ11 : Nonempty (L2.Dn (L2.KOf KX) mg "_law_told" K.a3N ["_law_n", "_law_ties_here", "_law_rows"]) := by
   dsimp only [L2.KOf]
   refine' L2.dn_mk3 KX G ?a ?l ?c ?k rfl (fun _ _ _ _ _ _ _ _ _ => rfl)
   (case a => k_is); (case l => k_is); (case c => k_is); (case k => k_is)
  obtain ⟨dZ11⟩ := dZ11
  have dZ23 : Nonempty (L2.Dn (L2.KOf KX) mg "law" K.c0P ["_law_script"]) := by
   dsimp only [L2.KOf]
   refine' L2.dn_mk1 KX G ?a ?l ?c ?k rfl (fun _ _ _ _ _ _ _ => rfl)
   (case a => k_is); (case l => k_is); (case c => k_is); (case k => k_is)
  obtain ⟨dZ23⟩ := dZ23
  have Cn : Nonempty (K.Cl (L2.KOf KX) mg) := by
   dsimp only [L2.KOf]
   refine' K.c3S KX G ?aBagError ?aNoGraph ?aNoPlace ?aNoTie ?aNoBag ?aNoTree ?aNoOrder ?aNoPart ?aNoSteps ?aTooWide ?aNoColours ?aNoWeights ?aNoNumber ?aNoName ?aNoText ?aNoRow ⟨?gNoTree1, ?gNoTree2, ?gNoTree3, ?gNoTree4, ?gNoTree5, ?gNoTree6, ?gNoTree7, ?gNoTree8⟩ ?vNoTree
   (case aBagError => k_is)
   (case aNoGraph => k_is)
   (case aNoPlace => k_is)
   (case aNoTie => k_is)
   (case aNoBag => k_is)
   (case aNoTree => k_is)
   (case aNoOrder => k_is)
   (case aNoPart => k_is)
   (case aNoSteps => k_is)
   (case aTooWide => k_is)
   (case aNoColours => k_is)
   (case aNoWeights => k_is)
   (case aNoNumber => k_is)
   (case aNoName => k_is)
   (case aNoText => k_is)
   (case aNoRow => k_is)
   (case gNoTree1 => k_is)
   (case gNoTree2 => k_is)
   (case gNoTree3 => k_is)
   (case gNoTree4 => k_is)
   (case gNoTree5 => k_is)
   (case gNoTree6 => k_is)
   (case gNoTree7 => k_is)
   (case gNoTree8 => kernel_rfl!)
   (case vNoTree => kernel_rfl!)
  obtain ⟨C⟩ := Cn
  exact L2.law_at hmg dZ23 fun base => K.c3R B C dZ21 dZ17 dZ19 dZ24 dZ20 dZ30 dZ27 dZ32 dZ18 dZ14 dZ15 dZ33 dZ28 dZ16 dZ31 dZ29 dZ22 dZ26 dZ25 dZ2 dZ13 dZ6 dZ12 dZ10 dZ5 dZ7 dZ3 dZ0 dZ4 dZ1 dZ9 dZ8 dZ11 dZ23
 case S => exact fun K H a ns hl hO hS => ⟨a, ns, rfl, Lw.Scr.of hO hS, hl, fun _ => rfl⟩
 case C => exact fun _ _ _ _ z => z
