import PyProof.Rows.All
import Wide.All
import OpenK.AllK
import Wide.FinOn
import Lean
import PyProof.EqAt
import PyProof.EqKinds
import PyProof.TupleCall
import PyProof.SetScanFacts
import PyProof.SetKind
import PyProof.DictKinds
import PyProof.FactsAll.set_0
import PyProof.FactsAll.set_1
import PyProof.FactsAll.set_2
import PyProof.FactsAll.set_3
import PyProof.FactsSeq
import PyProof.CollectWalk
import PyProof.ListRange
import PyProof.ZipIter
import PyProof.MeetsSeq
import PyProof.IsRules
import PyProof.Rows.ZipGen
import PyProof.SumWalkG
import PyProof.DictWalks
import PyProof.Rows.SortShell
import PyProof.Rows.SetFrom
import PyProof.SetRoads
import KE.KIntText
import KE.IntTextLaws
import PyProof.StrWalks
import PyProof.StrOps2
import PyProof.SliceStr2
import PyProof.PureStr
import PyProof.StrCalls3
import PyProof.Rows.StrMadeLen
import PyProof.StrLawsIn
import PySem.Challenge.RW_bagwood_k91_whole_no_tree_is_narrower
set_option Elab.async false
set_option linter.all false
set_option maxRecDepth 100000
local macro_rules | `(tactic| omega) => `(tactic| first | lia | omega (config := {}))
abbrev Φρ:=PySem.W.Frag
abbrev ζζ:=Int × Int
theorem τα {α:Type} {l:List α} {i:Nat} {a:α}:l.getD i a=l[i]?.getD a:=List.getD_eq_getElem?_getD ..
namespace L2
open PySem PySem.Spec PyProof.Rows
abbrev Key:=Sum Int Str
def d0M:Key->Value->Bool
 | .inl k,v=>Value.isInt k v
 | .inr x,v=>Value.isStrOf x v
def keyH (w:World):Key->Int
 | .inl k=>hashInt k
 | .inr x=>hashStr w x
theorem a1R:∀ {k:Key} {v:Value},d0M k v=true->(∃ i t,k=Sum.inl i/\v=Value.int i t)\/(∃ x t,k=Sum.inr x/\v=Value.str x t)
 | .inl i,v,h=>by
  obtain ⟨t,e⟩:=Value.isInt_shape (k:=i) (v:=v) h
  exact .inl ⟨i,t,rfl,e⟩
 | .inr x,v,h=>by
  obtain ⟨t,e⟩:=Value.isStrOf_shape (x:=x) (v:=v) h
  exact .inr ⟨x,t,rfl,e⟩
theorem d0N (a b:Int):decide ((Sum.inl a:Key)=Sum.inl b)=(a == b):=by
 by_cases e:a=b
 ·subst e; simp
 ·have h:¬ (Sum.inl a:Key)=Sum.inl b:=λ q=>e (Sum.inl.inj q)
  rw [decide_eq_false h]
  exact (beq_eq_false_iff_ne.mpr e).symm
theorem d0O (a b:Str):decide ((Sum.inr a:Key)=Sum.inr b)=decide (a=b):=by
 by_cases e:a=b
 ·subst e; simp
 ·have h:¬ (Sum.inr a:Key)=Sum.inr b:=λ q=>e (Sum.inr.inj q)
  rw [decide_eq_false h,decide_eq_false e]
theorem d0P (a:Int) (b:Str):decide ((Sum.inl a:Key)=Sum.inr b)=false:=decide_eq_false (λ q=>nomatch q)
theorem d0Q (a:Str) (b:Int):decide ((Sum.inr a:Key)=Sum.inl b)=false:=decide_eq_false (λ q=>nomatch q)
def b4P (prog:Program) (w:World):PySem.KeyKind prog w Key where
 is:=d0M
 hash:=keyH w
 inj:=λ v a b ha hb=>by
  rcases a1R ha with ⟨i,t,rfl,rfl⟩ | ⟨x,t,rfl,rfl⟩
  ·rcases a1R hb with ⟨j,u,rfl,e⟩ | ⟨y,u,rfl,e⟩
   ·injection e with e1 _; rw [e1]
   ·exact nomatch e
  ·rcases a1R hb with ⟨j,u,rfl,e⟩ | ⟨y,u,rfl,e⟩
   ·exact nomatch e
   ·injection e with e1 _; rw [e1]
 byValue:=λ k v h=>by
  rcases a1R h with ⟨i,t,rfl,rfl⟩ | ⟨x,t,rfl,rfl⟩ <;> rfl
 pyHash:=λ hv h=>by
  rcases a1R hv with ⟨i,t,rfl,rfl⟩ | ⟨x,t,rfl,rfl⟩
  ·exact wpAny_pyHash_int h
  ·exact wpAny_pyHash_str h
 eqBool:=λ hu hv h=>by
  rcases a1R hu with ⟨i,t,rfl,rfl⟩ | ⟨x,t,rfl,rfl⟩
  ·rcases a1R hv with ⟨j,u,rfl,rfl⟩ | ⟨y,u,rfl,rfl⟩
   ·rw [d0N] at h; exact wpAny_eqBool_int h
   ·rw [d0P] at h; exact SeqAt.EqAt.int_str i t y u _ _ _ _ h
  ·rcases a1R hv with ⟨j,u,rfl,rfl⟩ | ⟨y,u,rfl,rfl⟩
   ·rw [d0Q] at h; exact SeqAt.EqAt.str_int x t j u _ _ _ _ h
   ·rw [d0O] at h; exact wpAny_eqBool_str h
 «strs» := λ k x t v h=>by
  rcases a1R h with ⟨i,u,rfl,e⟩ | ⟨y,u,rfl,e⟩
  ·exact nomatch e
  ·injection e with e1 _
   subst e1
   cases v <;> rfl
end L2
namespace L2
open PySem PySem.Spec PyProof.Rows
inductive V where
 | non | bl (b:Bool) | int (i:Int) | str (x:Str) | byt (b:Array UInt8) | flt (b:UInt64) | ref (a:Addr) | ty (n:String)
 deriving DecidableEq
def RelV:V->Value->Prop
 | .non,u=>u=Value.none
 | .bl b,u=>u=Value.bool b
 | .int i,u=>∃ t,u=Value.int i t
 | .str x,u=>∃ t,u=Value.str x t
 | .byt b,u=>∃ t,u=Value.bytes b t
 | .flt b,u=>∃ t,u=Value.float b t
 | .ref a,u=>u=Value.ref a
 | .ty n,u=>u=Value.type n
abbrev Vals:List V->List Value->Prop:=Paired RelV
theorem Vals.length {xs:List V} {us:List Value} (r:Vals xs us):xs.length=us.length:=Paired.length r
theorem Vals.get:∀ {xs:List V} {us:List Value} {i:Nat} {x:V},Vals xs us->xs[i]?=some x->∃ u,us[i]?=some u/\RelV x u
 | _,_,_,_,.nil,e=>by simp at e
 | _,_,0,_,.cons r _,e=>by simp at e; subst e; exact ⟨_,rfl,r⟩
 | _,_,i+1,x,.cons _ t,e=>by
  obtain ⟨u,h1,h2⟩:=Vals.get (i:=i) (x:=x) t (by simpa using e)
  exact ⟨u,by simpa using h1,h2⟩
theorem Vals.set {x:V} {u:Value} (r:RelV x u):∀ {xs:List V} {us:List Value} (i:Nat),Vals xs us->Vals (xs.set i x) (us.set i u)
 | _,_,_,.nil=>.nil
 | _,_,0,.cons _ t=>.cons r t
 | _,_,i+1,.cons q t=>.cons q (Vals.set r i t)
theorem Vals.append:∀ {xs ys:List V} {us ws:List Value},Vals xs us->Vals ys ws->Vals (xs++ys) (us++ws)
 | _,_,_,_,.nil,s=>s
 | _,_,_,_,.cons r t,s=>.cons r (Vals.append t s)
theorem Vals.take:∀ {xs:List V} {us:List Value} (n:Nat),Vals xs us->Vals (xs.take n) (us.take n)
 | _,_,0,_=>.nil
 | _,_,_+1,.nil=>.nil
 | _,_,n+1,.cons r t=>.cons r (Vals.take n t)
theorem Vals.drop:∀ {xs:List V} {us:List Value} (n:Nat),Vals xs us->Vals (xs.drop n) (us.drop n)
 | _,_,0,r=>r
 | _,_,_+1,.nil=>.nil
 | _,_,n+1,.cons _ t=>Vals.drop n t
def RelO:Option V->Option Value->Prop
 | some v,some u=>RelV v u
 | none,none=>True
 | _,_=>False
def KV {κ:Type}:List (κ × V)->List (κ × Value)->Prop:=Paired λ (p:κ × V) (q:κ × Value)=>p.1=q.1/\RelV p.2 q.2
def kV:Key->V
 | .inl i=>.int i
 | .inr x=>.str x
inductive HO where
  | lst (xs:List V)
  | tup (xs:List V)
  | dK (kvs:List (Key × V)) | dT (kvs:List (List Key × V))
  | set (S:Int->Bool) (n:Nat)
  | ins (C dx:Addr) (fs:List (Str × V))
  | own (x:Addr)
  | xd (fs:List (Str × V))
  | met (f x:Addr)
  | rng (lo hi:Int)
  | frz (o:Obj) (u:HO)
  | tbl (ps:Array Value)
  | ext (φ:Heap->Prop)
abbrev Hp:=Addr->Option HO
def upd (H:Hp) (a:Addr) (o:HO):Hp:=λ b=>if b=a then some o else H b
theorem a5V {H:Hp} {a:Addr} {o:HO}:upd H a o a=some o:=by unfold upd; rw [if_pos rfl]
theorem a1K {H:Hp} {a b:Addr} {o:HO} (h:b≠a):upd H a o b=H b:=by unfold upd; rw [if_neg h]
theorem c3X {H:Hp} {a b:Addr} {o u:HO} (h:H a=some o) (h':H b=some u) (d:o≠u):a≠b:=by
 intro e; subst e; rw [h] at h'; exact d (Option.some.inj h')
theorem a1G {H:Hp} {a b:Addr} {o:HO} (h:H a=some o) (h':H b=none):a≠b:=by
 intro e; subst e; rw [h] at h'; cases h'
section
variable (P:Program) (w:World)
def ObjOk (H:Hp) (h:Heap) (a:Addr):HO->Prop
 | .lst xs=>xs.length<=sizeLine/\∃ (its:List Value) (n:Nat),Vals xs its/\h.get? a=some { cls:=.type "list", data:=.seq its.toArray n }
 | .tup xs=>xs.length<=sizeLine/\∃ its:List Value,Vals xs its/\IsTup h a its.toArray
 | .dK kvs=>kvs.length<=sizeLine/\(a == sysModules)=false/\∃ vs,KV kvs vs/\h.DictOf (b4P P w) a vs
 | .dT kvs=>kvs.length<=sizeLine/\(a == sysModules)=false/\∃ xs:List (List Key × Addr × Value),
   Paired (λ (p:List Key × V) (q:List Key × Addr × Value)=>p.1=q.1/\H q.2.1=some (.tup (p.1.map kV))/\RelV p.2 q.2.2) kvs xs /\
   ∃ o es ep,h.get? a=some o/\o.ExactDict/\o.data = .dict es ep/\es.toList=xs.map (entryOfKey (tupleKind (b4P P w)))/\(xs.map (·.1)).Nodup
 | .set S n=>h.SetOf (intKind P w) a S n
 | .ins C dx fs=>H dx=some (.own a)/\fs.length<=1000/\dx≠a/\h.get? a=some (PySem.W.instObj C dx) /\
   ∃ mA,h.Ns1 dx mA/\(∀ f,RelO (fs.lookup f) (mA f))/\PySem.Within mA (fs.map (·.1))
 | .own _=>∃ o,h.get? a=some o
 | .xd fs=>∃ mA,h.Ns1 a mA/\∀ f,RelO (fs.lookup f) (mA f)
 | .rng lo hi=>∃ t u v,h.get? a=some { cls:=.type "range", data:=.fields #[.int lo t,.int hi u,.int 1 v] }
 | .frz o u=>h.get? a=some o/\ObjOk H h a u
 | .tbl ps=>h.get? a=some { cls:=.none,data:=.fields ps }
 | .met f x=>h.get? a=some (PySem.W.methodObj (.ref f) (.ref x))
 | .ext φ=>φ h/\(∃ o,h.get? a=some o)/\∀ h1 h2:Heap,φ h1->(∀ o,h1.get? a=some o->h2.get? a=some o)->φ h2
def HOk (H:Hp) (h:Heap):Prop:=∀ a o,H a=some o->ObjOk P w H h a o
end
section
variable {P:Program} {w:World} {H H':Hp} {h h':Heap} {a:Addr} {o:HO}
theorem ObjOk.lt (x:ObjOk P w H h a o):a < h.objs.size:=by
 cases o with
 | lst xs=>obtain ⟨_,_,_,_,e⟩:=x; exact Heap.lt_size e
 | tup xs=>obtain ⟨_,_,_,p⟩:=x; exact p.lt
 | dK kvs=>obtain ⟨_,_,_,_,o,_,_,e,_⟩:=x; exact Heap.lt_size e
 | dT kvs=>obtain ⟨_,_,_,_,o,_,_,e,_⟩:=x; exact Heap.lt_size e
 | set S n=>obtain ⟨o,_,_,_,e,_⟩:=x; exact Heap.lt_size e
 | ins C dx fs=>obtain ⟨_,_,_,e,_⟩:=x; exact Heap.lt_size e
 | own y=>obtain ⟨_,e⟩:=x; exact Heap.lt_size e
 | xd fs=>obtain ⟨_,⟨_,_,_,e,_⟩,_⟩:=x; exact Heap.lt_size e
 | rng lo hi=>obtain ⟨_,_,_,e⟩:=x; exact Heap.lt_size e
 | frz ob u=>obtain ⟨e,_⟩:=x; exact Heap.lt_size e
 | tbl ps=>exact Heap.lt_size (show h.get? a=some _ from x)
 | met f y=>exact Heap.lt_size (show h.get? a=some _ from x)
 | ext φ=>obtain ⟨_,⟨_,e⟩,_⟩:=x; exact Heap.lt_size e
theorem Paired.mapP {α β:Type} {F G:α->β->Prop}:∀ {l₁:List α} {l₂:List β},Paired F l₁ l₂->(∀ a b,F a b->G a b)->Paired G l₁ l₂
 | _,_,.nil,_=>.nil
 | _,_,.cons r t,f=>.cons (f _ _ r) (Paired.mapP t f)
theorem ObjOk.stay (x:ObjOk P w H h a o) (k:∀ b u,(b=a\/H b=some (.own a))->h.get? b=some u->h'.get? b=some u)
  (ho:∀ b,H b=some (.own a)->H' b=some (.own a)) (ht:∀ b xs,H b=some (.tup xs)->H' b=some (.tup xs)):ObjOk P w H' h' a o:=by
 induction o with
 | lst xs=>obtain ⟨z,its,n,r,e⟩:=x; exact ⟨z,its,n,r,k _ _ (.inl rfl) e⟩
 | tup xs=>obtain ⟨z,its,r,ob,e,c⟩:=x; exact ⟨z,its,r,ob,k _ _ (.inl rfl) e,c⟩
 | dK kvs=>obtain ⟨z,y,vs,r,ob,es,ep,e,c⟩:=x; exact ⟨z,y,vs,r,ob,es,ep,k _ _ (.inl rfl) e,c⟩
 | dT kvs =>
  obtain ⟨z,y,xs,r,ob,es,ep,e,c⟩:=x
  exact ⟨z,y,xs,Paired.mapP r λ p q z=>⟨z.1,ht _ _ z.2.1,z.2.2⟩,ob,es,ep,k _ _ (.inl rfl) e,c⟩
 | set S n=>obtain ⟨ob,es,ep,t,e,c⟩:=x; exact ⟨ob,es,ep,t,k _ _ (.inl rfl) e,c⟩
 | ins C dx fs =>
  obtain ⟨d,z,ne,e,mA,⟨od,es,ep,e2,c⟩,r⟩:=x
  exact ⟨ho _ d,z,ne,k _ _ (.inl rfl) e,mA,⟨od,es,ep,k _ _ (.inr d) e2,c⟩,r⟩
 | own y=>obtain ⟨ob,e⟩:=x; exact ⟨ob,k _ _ (.inl rfl) e⟩
 | xd fs=>obtain ⟨mA,⟨od,es,ep,e,c⟩,r⟩:=x; exact ⟨mA,⟨od,es,ep,k _ _ (.inl rfl) e,c⟩,r⟩
 | rng lo hi=>obtain ⟨t,u,v,e⟩:=x; exact ⟨t,u,v,k _ _ (.inl rfl) e⟩
 | frz ob u ih=>obtain ⟨e,q⟩:=x; exact ⟨k _ _ (.inl rfl) e,ih q⟩
 | tbl ps =>
  have e:h.get? a=some { cls:=.none,data:=.fields ps }:=x
  show h'.get? a=some { cls:=.none,data:=.fields ps }
  exact k a _ (.inl rfl) e
 | met f y =>
  have e:h.get? a=some (PySem.W.methodObj (.ref f) (.ref y)):=x
  show h'.get? a=some (PySem.W.methodObj (.ref f) (.ref y))
  exact k a _ (.inl rfl) e
 | ext φ=>obtain ⟨p,⟨o,e⟩,st⟩:=x; exact ⟨st _ _ p λ o q=>k _ _ (.inl rfl) q,⟨o,k _ _ (.inl rfl) e⟩,st⟩
theorem HOk.lt (x:HOk P w H h) (e:H a=some o):a < h.objs.size:=(x a o e).lt
theorem HOk.fresh (x:HOk P w H h) (e:h.objs.size<=a):H a=none:=by
 cases q:H a with
 | none=>rfl
 | some u=>exact absurd (Nat.lt_of_lt_of_le (x.lt q) e) (Nat.lt_irrefl _)
theorem HOk.kept (x:HOk P w H h) (k:∀ b u,h.get? b=some u->h'.get? b=some u):HOk P w H h':=λ a o e =>
 (x a o e).stay (λ b u _ q=>k b u q) (λ _ q=>q) λ _ _ q=>q
theorem HOk.laid (x:HOk P w H h) (k:∀ b u,h.get? b=some u->h'.get? b=some u) (hp:h.objs.size<=a) (new:ObjOk P w (upd H a o) h' a o):HOk P w (upd H a o) h':=λ b u e=>by
 have hn:=x.fresh hp
 by_cases hb:b=a
 ·subst hb; rw [a5V] at e; cases e; exact new
 ·rw [a1K hb] at e
  exact (x b u e).stay (λ c v _ q=>k c v q) (λ c q=>by rw [a1K (a1G q hn)]; exact q) λ c xs q=>by rw [a1K (a1G q hn)]; exact q
end
def Rd (H:Hp) (a:Addr) (u:HO):Prop:=H a=some u\/∃ o,H a=some (.frz o u)
theorem Rd.ok {P:Program} {w:World} {H:Hp} {h:Heap} {a:Addr} {u:HO} (r:Rd H a u) (x:HOk P w H h):ObjOk P w H h a u:=by
 rcases r with r | ⟨o,r⟩
 ·exact x a u r
 ·obtain ⟨_,q⟩:=x a _ r
  exact q
def Mut:Option HO->Prop
 | some (.lst _)=>True
 | some (.dK _)=>True
 | some (.dT _)=>True
 | some (.set _ _)=>True
 | some (.ins _ _ _)=>True
 | some (.ext _)=>True
 | _=>False
section
variable {P:Program} {w:World} {H:Hp} {h h':Heap} {x e:Addr} {o':HO}
theorem HOk.write (ok:HOk P w H h) (mu:Mut (H x)) (he:e=x\/H e=some (.own x)) (k:∀ b u,b≠e->h.get? b=some u->h'.get? b=some u) (heo:∃ u,h'.get? e=some u)
  (new:ObjOk P w (upd H x o') h' x o'):HOk P w (upd H x o') h':=λ b u q=>by
 have nown:∀ c y,H c=some (.own y)->c≠x:=λ c y r z=>by subst z; rw [r] at mu; exact mu
 have ntup:∀ c xs,H c=some (.tup xs)->c≠x:=λ c xs r z=>by subst z; rw [r] at mu; exact mu
 by_cases hb:b=x
 ·subst hb; rw [a5V] at q; cases q; exact new
 ·rw [a1K hb] at q
  by_cases hbe:b=e
  ·have q':H b=some (.own x):=by
    rcases he with z | z
    ·exact absurd (hbe.trans z) hb
    ·rw [hbe]; exact z
   rw [q] at q'; cases q'
   obtain ⟨v,hv⟩:=heo
   exact ⟨v,by rw [hbe]; exact hv⟩
  ·refine (ok b u q).stay (λ c v hc r=>k c v ?_ r) (λ c r=>by rw [a1K (nown c b r)]; exact r) λ c xs r=>by rw [a1K (ntup c xs r)]; exact r
   rcases hc with rfl | hc
   ·exact hbe
   ·rintro rfl
    rcases he with z | z
    ·exact nown c b hc z
    ·rw [hc] at z; cases z; exact hb rfl
end
structure Un (fs ex:List Addr) (H H':Hp) (h h':Heap):Prop where
 keep:∀ b o,h.get? b=some o->H b=none->b ∉ fs->b ∉ ex->h'.get? b=some o
 slot:∀ b o,h.get? b=some o->H b=none->b∈fs->b ∉ ex->∃ sl,h'.get? b=some { o with slots:=sl }
 free:∀ b o,h.get? b=some o->H b=none->b ∉ ex->H' b=none
 there:∀ b o,h.get? b=some o->b ∉ ex->∃ o',h'.get? b=some o'
 tups:∀ b xs,H b=some (.tup xs)->H' b=some (.tup xs)
 frzs:∀ b o u,H b=some (.frz o u)->H' b=some (.frz o u)
 tbls:∀ b ps,H b=some (.tbl ps)->∃ more,H' b=some (.tbl (ps++more))
section
variable {fs fs' ex ex':List Addr} {H H1 H2:Hp} {h h1 h2 h':Heap} {a x e:Addr} {o:HO}
theorem Un.any (u:Un fs ex H H1 h h1) {b:Addr} {ob:Obj} (q:h.get? b=some ob) (n:H b=none) (hx:b ∉ ex):∃ sl,h1.get? b=some { ob with slots:=sl }:=by
 by_cases hb:b∈fs
 ·exact u.slot b ob q n hb hx
 ·exact ⟨ob.slots,u.keep b ob q n hb hx⟩
theorem Un.kept (k:∀ b u,h.get? b=some u->h'.get? b=some u):Un fs ex H H h h' :=
 ⟨λ b ob q _ _ _=>k b ob q,λ b ob q _ _ _=>⟨ob.slots,k b ob q⟩,λ _ _ _ n _=>n,λ b ob q _=>⟨ob,k b ob q⟩,λ _ _ q=>q,λ _ _ _ q=>q,λ _ ps q=>⟨#[],by rw [q]; simp⟩⟩
theorem Un.refl:Un fs ex H H h h:=Un.kept λ _ _ q=>q
theorem Un.laid (k:∀ b u,h.get? b=some u->h'.get? b=some u) (hp:h.objs.size<=a) (hn:H a=none):Un fs ex H (upd H a o) h h' where
 keep:=λ b u q _ _ _=>k b u q
 slot:=λ b u q _ _ _=>⟨u.slots,k b u q⟩
 free:=λ b u q n _=>by rw [a1K (Nat.ne_of_lt (Nat.lt_of_lt_of_le (Heap.lt_size q) hp))]; exact n
 there:=λ b u q _=>⟨u,k b u q⟩
 tups:=λ b xs q=>by rw [a1K (a1G q hn)]; exact q
 frzs:=λ b u xs q=>by rw [a1K (a1G q hn)]; exact q
 tbls:=λ b ps q=>⟨#[],by rw [a1K (a1G q hn),q]; simp⟩
theorem Un.write (mu:Mut (H x)) (he:e=x\/H e=some (.own x)) (k:∀ b u,b≠e->h.get? b=some u->h'.get? b=some u) (heo:∃ u,h'.get? e=some u):Un fs ex H (upd H x o) h h':=by
 have hx:∀ b,H b=none->b≠x:=λ b n z=>by subst z; rw [n] at mu; exact mu
 have hb:∀ b,H b=none->b≠e:=λ b n z=>by
  subst z
  rcases he with r | r
  ·exact hx b n r
  ·rw [n] at r; cases r
 have hm:∀ b u,H b=some u->¬ Mut (some u)->b≠x:=λ b u q nm z=>by subst z; rw [q] at mu; exact nm mu
 refine ⟨λ b u q n _ _=>k b u (hb b n) q,λ b u q n _ _=>⟨u.slots,k b u (hb b n) q⟩,λ b u q n _=>by rw [a1K (hx b n)]; exact n,λ b u q _=>?_,
  λ b xs q=>by rw [a1K (hm b _ q λ z=>z)]; exact q,λ b u xs q=>by rw [a1K (hm b _ q λ z=>z)]; exact q,λ b ps q=>⟨#[],by rw [a1K (hm b _ q λ z=>z),q]; simp⟩⟩
 by_cases hbe:b=e
 ·subst hbe; exact heo
 ·exact ⟨u,k b u hbe q⟩
end
def trk (h:Heap) (H:Hp):List Addr:=(List.range h.objs.size).filter λ a=>(H a).isSome
def hidT (h:Heap) (H:Hp):Heap:=PySem.W.hideAll h (trk h H)
theorem b9E (h:Heap) (H:Hp):(hidT h H).objs.size=h.objs.size:=PySem.W.hideAll_size _ _
theorem c3Y {h:Heap} {H:Hp} {b:Addr} {o:Obj} (e:h.get? b=some o) (n:H b=none):(hidT h H).get? b=some o :=
 PySem.W.hideAll_get _ e λ hm=>by
  have q:(H b).isSome=true:=(List.mem_filter.mp hm).2
  rw [n] at q; simp at q
theorem c7M {h:Heap} {H:Hp} {b:Addr} {o:Obj} (e:(hidT h H).get? b=some o):h.get? b=some o/\H b=none:=by
 have e':h.get? b=some o:=PySem.W.of_hideAll (trk h H) e
 refine ⟨e',?_⟩
 cases q:H b with
 | none=>rfl
 | some x =>
  have hm:b∈trk h H:=List.mem_filter.mpr ⟨List.mem_range.mpr (Heap.lt_size e'),by simp [q]⟩
  have z:(hidT h H).get? b=none:=PySem.W.hideAll_none (trk h H) hm
  rw [z] at e; cases e
end L2
namespace L2
open PySem PySem.Spec PyProof.Rows
structure Mod (K:Φρ) (mg:Str->Option Value) (base:Heap):Prop where
 kin:K.In base
 glob:base.Ns mainGlobals mg
 blt:∃ mb,base.Ns builtinsNs mb/\∀ x:Str,x ≠ "__name__" -> mb x=bootBuiltins x
 nolimit:base.NoLimit
structure Cx where
 prog:Program
 w:World
 K:Φρ
 mg:Str->Option Value
 base:Heap
 A:Around
 N:List Str
 s₀:Shared
 H₀:Hp
 env:Env
 outer:List Env
 stack:List Env
 ex:List Addr
 fn:Str->Bool
 calm:Bool
 pn:List (Addr × Obj)
 xe:Value->Shared->Prop
def frs (l:List Env):List Addr:=l.filterMap (·.frame)
abbrev Cx.fs (X:Cx):List Addr:=frs X.outer
def Vis (sc:Scope) (x:Str):Prop:=sc.names.lookup x=some .local\/sc.names.lookup x=some .cell\/sc.names.lookup x=some .free
def Loc (sc:Scope) (x:Str):Prop:=sc.names.lookup x=some .local\/sc.names.lookup x=some .cell
def Look (env:Env) (h:Heap) (m:Str->Option Value) (x:Str) (u:Value):Prop :=
 (env.kindOf x=some .local/\m x=some u)\/((env.kindOf x=some .cell\/env.kindOf x=some .free)/\∃ c,env.cells.lookup x=some c/\h.IsCell c (some u))
structure Cx.Ok (X:Cx):Prop where
 mod:Mod X.K X.mg X.base
 kind:X.env.scope.kind = .function
 glob:X.env.globals=mainGlobals
 blt:X.env.builtins=builtinsNs
 above:X.s₀.heap.objs.size<=X.env.locals
 inj:∀ x y c,X.env.cells.lookup x=some c->X.env.cells.lookup y=some c->x=y
 has:∀ x,(X.env.kindOf x=some .cell\/X.env.kindOf x=some .free)->∃ c,X.env.cells.lookup x=some c
 cab:∀ x c,X.fn x=true->X.env.cells.lookup x=some c->X.s₀.heap.objs.size<=c
 hd:X.calm=true->X.A.handled=none
 frames:X.A.frames=some X.stack
 stk:X.stack=X.outer\/(X.stack=X.env::X.outer/\X.env.frame=some X.env.locals)
 exf:∀ b∈X.ex,b≠X.env.locals/\∀ x c,X.env.cells.lookup x=some c->c≠b
 bs:∀ b o,X.base.get? b=some o->X.s₀.heap.get? b=some o/\X.H₀ b=none
 bsz:X.base.objs.size<=X.s₀.heap.objs.size
 noex:∀ b o,X.base.get? b=some o->b ∉ X.ex
 exfs:∀ b∈X.ex,b ∉ X.fs
 funs:X.s₀.heap.FunFrames X.base X.outer
 frf:∀ b∈X.fs,X.H₀ b=none
structure Inv (X:Cx) (pins:List (Addr × Obj)) (σ:List (Option V)) (H:Hp) (s:Shared):Prop where
 ok:X.Ok
 os:s.os=X.s₀.os
 bare:AllBare s.gens
 base:Un X.fs X.ex X.H₀ H X.s₀.heap s.heap
 loc:∃ m,s.heap.Ns X.env.locals m/\∀ (i:Nat) (x:Str) (v:V),X.N[i]?=some x->σ[i]?=some (some v)->Vis X.env.scope x->∃ u,RelV v u/\Look X.env s.heap m x u
 cell:∀ x c,X.env.cells.lookup x=some c->∃ v,s.heap.IsCell c v
 free:H X.env.locals=none
 freeC:∀ x c,X.env.cells.lookup x=some c->H c=none
 pin:∀ p∈X.pn++pins,s.heap.get? p.1=some p.2/\H p.1=none/\p.1≠X.env.locals/\p.1 ∉ X.fs/\∀ v,p.2.data ≠ .cell v
 hok:HOk X.prog X.w H s.heap
 len:σ.length=X.N.length
section
variable {X:Cx} {pins:List (Addr × Obj)} {σ:List (Option V)} {H H':Hp} {s:Shared} {h':Heap}
theorem Cx.Ok.nofr (ok:X.Ok) {b:Addr} {o:Obj} (e:X.base.get? b=some o):b ∉ X.fs:=λ hb=>by
 have:=(ok.funs.mem hb).1
 rw [e] at this; cases this
theorem Inv.bs (I:Inv X pins σ H s):∀ b o,X.base.get? b=some o->s.heap.get? b=some o/\H b=none:=λ b o e =>
 ⟨I.base.keep b o (I.ok.bs b o e).1 (I.ok.bs b o e).2 (I.ok.nofr e) (I.ok.noex b o e),I.base.free b o (I.ok.bs b o e).1 (I.ok.bs b o e).2 (I.ok.noex b o e)⟩
theorem Inv.bk (I:Inv X pins σ H s):∀ b o,X.base.get? b=some o->s.heap.get? b=some o:=λ b o e=>(I.bs b o e).1
theorem Inv.mod (I:Inv X pins σ H s):Mod X.K X.mg X.base:=I.ok.mod
theorem Inv.kIn (I:Inv X pins σ H s):X.K.In s.heap:=I.ok.mod.kin.keeps I.bk
theorem Inv.lt (I:Inv X pins σ H s):X.env.locals < s.heap.objs.size:=let ⟨_,hn,_⟩:=I.loc; hn.lt
theorem Inv.sz (I:Inv X pins σ H s):X.s₀.heap.objs.size<=s.heap.objs.size:=Nat.le_trans I.ok.above (Nat.le_of_lt I.lt)
theorem Inv.nofs (I:Inv X pins σ H s) {a:Addr} (h:s.heap.objs.size<=a):a ∉ X.fs:=λ hb=>by
 obtain ⟨_,o,ho,_⟩:=I.ok.funs.mem hb
 exact absurd (Nat.lt_of_lt_of_le (Heap.lt_size ho) (Nat.le_trans I.sz h)) (Nat.lt_irrefl _)
theorem Inv.cne (I:Inv X pins σ H s):∀ x c,X.env.cells.lookup x=some c->c≠X.env.locals:=λ x c e z=>by
 obtain ⟨v,o,ho,hd⟩:=I.cell x c e
 obtain ⟨m,⟨o',es,ep,ho',hd',_⟩,_⟩:=I.loc
 rw [z,ho'] at ho; cases ho; rw [hd'] at hd; cases hd
theorem Inv.funs (I:Inv X pins σ H s):s.heap.FunFrames X.base X.outer:=by
 have all:∀ (l:List Env),(∀ b∈frs l,b∈X.fs)->X.s₀.heap.FunFrames X.base l->s.heap.FunFrames X.base l:=by
  intro l
  induction l with
  | nil=>intro _ _; trivial
  | cons env r ih =>
   intro hs hl
   obtain ⟨hk,⟨L,o,hf,hn,ho,hd⟩,hr⟩:=hl
   have hL:L∈X.fs:=hs L (by unfold frs; rw [List.filterMap_cons,hf]; exact List.mem_cons_self)
   obtain ⟨sl,e⟩:=I.base.slot L o ho (I.ok.frf L hL) hL λ z=>I.ok.exfs L z hL
   exact ⟨hk,⟨L,_,hf,hn,e,hd⟩,ih (λ b hb=>hs b (by unfold frs; rw [List.filterMap_cons,hf]; exact List.mem_cons_of_mem _ hb)) hr⟩
 exact all X.outer (λ _ hb=>hb) I.ok.funs
theorem Inv.stack (I:Inv X pins σ H s):s.heap.FunFrames X.base X.stack:=by
 rcases I.ok.stk with e | ⟨e,hf⟩
 ·rw [e]; exact I.funs
 ·rw [e]
  obtain ⟨m,hn,_⟩:=I.loc
  refine .cons (by rw [I.ok.kind]; decide) hf hn ?_ I.funs
  exact Heap.get?_none_of_le (Nat.le_trans I.ok.bsz I.ok.above)
theorem Inv.stkSub (I:Inv X pins σ H s):∀ b∈frs X.stack,b∈X.env.locals::X.fs:=λ b hb=>by
 rcases I.ok.stk with e | ⟨e,hf⟩
 ·rw [e] at hb; exact List.mem_cons_of_mem _ hb
 ·rw [e] at hb
  unfold frs at hb
  rw [List.filterMap_cons,hf] at hb
  exact hb
theorem Inv.stkFree (I:Inv X pins σ H s):∀ b∈frs X.stack,H b=none:=λ b hb=>by
 rcases List.mem_cons.mp (I.stkSub b hb) with e | hb
 ·rw [e]; exact I.free
 ·obtain ⟨_,o,ho,_⟩:=I.ok.funs.mem hb
  exact I.base.free b o ho (I.ok.frf b hb) λ z=>I.ok.exfs b z hb
theorem Inv.step {g':Array GenState} {t':Nat} {d':Drawn} {ch:List Addr} (I:Inv X pins σ H s)
  (hch:∀ b∈ch,(b∈X.ex\/X.s₀.heap.objs.size<=b)/\b≠X.env.locals/\(∀ x c,X.env.cells.lookup x=some c->c≠b)/\∀ p∈X.pn++pins,p.1≠b)
  (keep:∀ b o,b≠X.env.locals->b ∉ X.fs->b ∉ ch->s.heap.get? b=some o->H b=none->h'.get? b=some o)
  (slot:∀ b o,b≠X.env.locals->b∈X.fs->b ∉ ch->s.heap.get? b=some o->H b=none->∃ sl,h'.get? b=some { o with slots:=sl }) (free:∀ b o,b ∉ ch->s.heap.get? b=some o->H b=none->H' b=none)
  (there:∀ b o,b ∉ ch->s.heap.get? b=some o->∃ o',h'.get? b=some o')
  (tups:∀ b xs,H b=some (.tup xs)->H' b=some (.tup xs)) (frzs:∀ b o u,H b=some (.frz o u)->H' b=some (.frz o u)) (tbls:∀ b ps,H b=some (.tbl ps)->∃ more,H' b=some (.tbl (ps++more)))
  (ns:∀ m,s.heap.Ns X.env.locals m->h'.Ns X.env.locals m) (hok:HOk X.prog X.w H' h') (hg:AllBare g') :
  Inv X pins σ H' { s with heap:=h',gens:=g',drawn:=d',toks:=t' }:=by
 have neL:∀ b o,X.s₀.heap.get? b=some o->b≠X.env.locals:=λ b o e=>Nat.ne_of_lt (Nat.lt_of_lt_of_le (Heap.lt_size e) I.ok.above)
 have neC:∀ b o,X.s₀.heap.get? b=some o->b ∉ X.ex->b ∉ ch:=λ b o e hx hb=>by
  rcases (hch b hb).1 with z | z
  ·exact hx z
  ·exact absurd (Nat.lt_of_lt_of_le (Heap.lt_size e) z) (Nat.lt_irrefl _)
 have cellK:∀ x c,X.env.cells.lookup x=some c->∀ v,s.heap.IsCell c v->h'.IsCell c v:=λ x c e v ⟨o,ho,hd⟩=>by
  have nch:c ∉ ch:=λ z=>(hch c z).2.2.1 x c e rfl
  by_cases hc:c∈X.fs
  ·obtain ⟨sl,q⟩:=slot c o (I.cne x c e) hc nch ho (I.freeC x c e)
   exact ⟨_,q,hd⟩
  ·exact ⟨o,keep c o (I.cne x c e) hc nch ho (I.freeC x c e),hd⟩
 refine ⟨I.ok,I.os,hg,⟨λ b o e n hb hx=>?_,λ b o e n hb hx=>?_,λ b o e n hx=>?_,λ b o e hx=>?_,λ b xs e=>tups b xs (I.base.tups b xs e),λ b o xs e=>frzs b o xs (I.base.frzs b o xs e),λ b ps e=>?_⟩,?_,λ x c e=>?_,?_,λ x c e=>?_,λ p hp=>?_,hok,I.len⟩
 ·exact keep b o (neL b o e) hb (neC b o e hx) (I.base.keep b o e n hb hx) (I.base.free b o e n hx)
 ·obtain ⟨sl,e1⟩:=I.base.slot b o e n hb hx
  obtain ⟨sl',e2⟩:=slot b _ (neL b o e) hb (neC b o e hx) e1 (I.base.free b o e n hx)
  exact ⟨sl',e2⟩
 ·obtain ⟨o',e1⟩:=I.base.there b o e hx
  exact free b o' (neC b o e hx) e1 (I.base.free b o e n hx)
 ·obtain ⟨o',e1⟩:=I.base.there b o e hx
  exact there b o' (neC b o e hx) e1
 ·obtain ⟨m1,e1⟩:=I.base.tbls b ps e
  obtain ⟨m2,e2⟩:=tbls b _ e1
  exact ⟨m1++m2,by rw [e2,Array.append_assoc]⟩
 ·obtain ⟨m,hn,hl⟩:=I.loc
  refine ⟨m,ns m hn,λ i x v e1 e2 e3=>?_⟩
  obtain ⟨u,r,l⟩:=hl i x v e1 e2 e3
  refine ⟨u,r,?_⟩
  rcases l with l | ⟨k,c,e,z⟩
  ·exact .inl l
  ·exact .inr ⟨k,c,e,cellK x c e _ z⟩
 ·obtain ⟨v,z⟩:=I.cell x c e
  exact ⟨v,cellK x c e v z⟩
 ·obtain ⟨m,⟨o,_,_,ho,_⟩,_⟩:=I.loc
  exact free _ o (λ z=>(hch _ z).2.1 rfl) ho I.free
 ·obtain ⟨v,o,ho,hd⟩:=I.cell x c e
  exact free c o (λ z=>(hch c z).2.2.1 x c e rfl) ho (I.freeC x c e)
 ·obtain ⟨e,n,ne,nf,d⟩:=I.pin p hp
  have nch:p.1 ∉ ch:=λ z=>(hch p.1 z).2.2.2 p hp rfl
  exact ⟨keep p.1 p.2 ne nf nch e n,free p.1 p.2 nch e n,ne,nf,d⟩
theorem Inv.un {t':Nat} (I:Inv X pins σ H s) (u:Un X.fs [] H H' s.heap h') (hok:HOk X.prog X.w H' h'):Inv X pins σ H' { s with heap:=h',toks:=t' }:=by
 obtain ⟨m,⟨o,es,ep,ho,r⟩,_⟩:=id I.loc
 obtain ⟨sl,hL⟩:=u.any ho I.free (by simp)
 exact I.step (g':=s.gens) (d':=s.drawn) (ch:=[]) (λ _ z=>nomatch z) (λ b o _ hb _ e n=>u.keep b o e n hb (by simp)) (λ b o _ hb _ e n=>u.slot b o e n hb (by simp)) (λ b o _ e n=>u.free b o e n (by simp)) (λ b o _ e=>u.there b o e (by simp)) u.tups u.frzs u.tbls (λ m' hm=>by
  obtain ⟨o',es',ep',ho',r'⟩:=hm
  rw [ho] at ho'; cases ho'
  exact ⟨_,es',ep',hL,r'⟩) hok I.bare
theorem Inv.call {g':Array GenState} {t':Nat} {d':Drawn} {ch:List Addr} (I:Inv X pins σ H s) (u:Un (frs X.stack) ch H H' s.heap h') (hok:HOk X.prog X.w H' h') (hg:AllBare g')
  (hch:∀ b∈ch,(b∈X.ex\/X.s₀.heap.objs.size<=b)/\b≠X.env.locals/\(∀ x c,X.env.cells.lookup x=some c->c≠b)/\∀ p∈X.pn++pins,p.1≠b) :
  Inv X pins σ H' { s with heap:=h',gens:=g',drawn:=d',toks:=t' }:=by
 obtain ⟨m,⟨o,es,ep,ho,r⟩,_⟩:=id I.loc
 obtain ⟨sl,hL⟩:=u.any ho I.free λ z=>(hch _ z).2.1 rfl
 exact I.step (ch:=ch) hch (λ b o hL hb hc e n=>u.keep b o e n (λ z=>(List.mem_cons.mp (I.stkSub b z)).elim hL hb) hc) (λ b o _ _ hc e n=>u.any e n hc) (λ b o hc e n=>u.free b o e n hc) (λ b o hc e=>u.there b o e hc) u.tups u.frzs u.tbls (λ m' hm=>by
  obtain ⟨o',es',ep',ho',r'⟩:=hm
  rw [ho] at ho'; cases ho'
  exact ⟨_,es',ep',hL,r'⟩) hok hg
theorem Inv.turned {t':Nat} {it:Addr} (I:Inv X pins σ H s) (k:∀ b o,b≠it->s.heap.get? b=some o->h'.get? b=some o) (hn:H it=none) (hL:it≠X.env.locals)
  (h1:it∈X.ex\/X.s₀.heap.objs.size<=it) (h2:∀ x c,X.env.cells.lookup x=some c->c≠it) (h3:∀ p∈X.pn++pins,p.1≠it):Inv X pins σ H { s with heap:=h',toks:=t' }:=by
 have nit:∀ b u,H b=some u->b≠it:=λ b u e z=>by rw [z,hn] at e; cases e
 refine I.step (g':=s.gens) (d':=s.drawn) (ch:=[it]) (λ b hb=>?_) (λ b o _ _ hc e _=>k b o (λ z=>hc (by simp [z])) e) (λ b o _ _ hc e _=>⟨o.slots,k b o (λ z=>hc (by simp [z])) e⟩) (λ _ _ _ _ n=>n)
  (λ b o hc e=>⟨o,k b o (λ z=>hc (by simp [z])) e⟩) (λ _ _ e=>e) (λ _ _ _ e=>e) (λ b ps e=>⟨#[],by rw [e]; simp⟩) (λ m hm=>?_) (λ b u e=>?_) I.bare
 ·have e:b=it:=by simpa using hb
  subst e
  exact ⟨h1,hL,h2,h3⟩
 ·obtain ⟨o,es,ep,ho,r⟩:=hm
  exact ⟨o,es,ep,k _ o (Ne.symm hL) ho,r⟩
 ·refine (I.hok b u e).stay (λ c v hc q=>k c v ?_ q) (λ _ q=>q) λ _ _ q=>q
  rcases hc with z | z
  ·rw [z]; exact nit b u e
  ·exact nit c _ z
theorem Inv.tok (I:Inv X pins σ H s) (t:Nat):Inv X pins σ H { s with toks:=t }:=I.un (h':=s.heap) (t':=t) Un.refl I.hok
theorem Inv.kept {t':Nat} (I:Inv X pins σ H s) (k:∀ b u,s.heap.get? b=some u->h'.get? b=some u):Inv X pins σ H { s with heap:=h',toks:=t' }:=I.un (Un.kept k) (I.hok.kept k)
theorem Inv.laid {a:Addr} {o:HO} {t':Nat} (I:Inv X pins σ H s) (k:∀ b u,s.heap.get? b=some u->h'.get? b=some u) (hp:s.heap.objs.size<=a) (new:ObjOk X.prog X.w (upd H a o) h' a o) :
  Inv X pins σ (upd H a o) { s with heap:=h',toks:=t' }:=I.un (Un.laid k hp (I.hok.fresh hp)) (I.hok.laid k hp new)
theorem Inv.write {x e:Addr} {o:HO} {t':Nat} (I:Inv X pins σ H s) (mu:Mut (H x)) (he:e=x\/H e=some (.own x)) (k:∀ b u,b≠e->s.heap.get? b=some u->h'.get? b=some u) (heo:∃ u,h'.get? e=some u)
  (new:ObjOk X.prog X.w (upd H x o) h' x o):Inv X pins σ (upd H x o) { s with heap:=h',toks:=t' }:=I.un (Un.write mu he k heo) (I.hok.write mu he k heo new)
theorem Inv.pins_of {pins':List (Addr × Obj)} (I:Inv X pins σ H s) (h:∀ p∈pins',s.heap.get? p.1=some p.2/\H p.1=none/\p.1≠X.env.locals/\p.1 ∉ X.fs/\∀ v,p.2.data ≠ .cell v):Inv X pins' σ H s :=
 ⟨I.ok,I.os,I.bare,I.base,I.loc,I.cell,I.free,I.freeC,λ p hp=>(List.mem_append.mp hp).elim (λ z=>I.pin p (List.mem_append_left _ z)) (h p),I.hok,I.len⟩
theorem b5X {N:List Str} (hN:N.Nodup) {i j:Nat} {x:Str} (a:N[i]?=some x) (b:N[j]?=some x):i=j:=by
 obtain ⟨h1,e1⟩:=List.getElem?_eq_some_iff.mp a
 obtain ⟨h2,e2⟩:=List.getElem?_eq_some_iff.mp b
 exact (List.getElem_inj hN).mp (e1.trans e2.symm)
theorem b2D {M:Model} {A:Around} {E:Value->Shared->Prop} {i:Nat} {x:Str} {v:V} {u:Value} {Q:Unit->Shared->Prop} (I:Inv X pins σ H s) (hN:X.N.Nodup) (hi:X.N[i]?=some x) (hx:Loc X.env.scope x) (r:RelV v u)
  (h:∀ s',Inv X pins (σ.set i (some v)) H s'->(∃ a,Heap.SameBut a s.heap s'.heap/\(a=X.env.locals\/X.env.cells.lookup x=some a))->Q () s') (hf:X.fn x=true\/X.env.scope.names.lookup x=some .local:=by first | exact .inl rfl | exact .inr rfl | assumption):wpAny M A (storeName X.env x u) Q E s:=by
 obtain ⟨m,hn,hl⟩:=id I.loc
 have hcls:(X.env.scope.kind == .class || (X.env.scope.kind == .module && X.env.locals != X.env.globals))=false:=by rw [I.ok.kind]; rfl
 have hiσ:i < σ.length:=by rw [I.len]; exact (List.getElem?_eq_some_iff.mp hi).1
 have cne:=I.cne
 have tracked:∀ {a:Addr} {h':Heap},(∃ o,s.heap.get? a=some o/\H a=none)->Heap.SameBut a s.heap h'->HOk X.prog X.w H h':=λ {a h'} ha hs b ob e=>by
  obtain ⟨_,_,hfree⟩:=ha
  refine (I.hok b ob e).stay (λ c w' hc q=>(hs.2 c ?_).trans q) (λ _ q=>q) λ _ _ q=>q
  rintro rfl
  rcases hc with rfl | hc
  ·rw [hfree] at e; cases e
  ·rw [hfree] at hc; cases hc
 rcases hx with hk | hk
 ·refine wpAny_storeName_local hk hn (λ h' hn' hs=>?_) hcls
  obtain ⟨oL,_,_,hoL,_⟩:=id hn
  refine h _ ⟨I.ok,I.os,I.bare,⟨λ b o e n hb hx=>?_,λ b o e n hb hx=>?_,I.base.free,λ b o e hx=>?_,I.base.tups,I.base.frzs,I.base.tbls⟩,⟨_,hn',λ j y v' e1 e2 e3=>?_⟩,λ y c e=>?_,I.free,I.freeC,λ p hp=>?_,tracked ⟨oL,hoL,I.free⟩ hs,by simpa using I.len⟩ ⟨_,hs,.inl rfl⟩
  ·exact (hs.2 b (Nat.ne_of_lt (Nat.lt_of_lt_of_le (Heap.lt_size e) I.ok.above))).trans (I.base.keep b o e n hb hx)
  ·obtain ⟨sl,e1⟩:=I.base.slot b o e n hb hx
   exact ⟨sl,(hs.2 b (Nat.ne_of_lt (Nat.lt_of_lt_of_le (Heap.lt_size e) I.ok.above))).trans e1⟩
  ·obtain ⟨o',e1⟩:=I.base.there b o e hx
   exact ⟨o',(hs.2 b (Nat.ne_of_lt (Nat.lt_of_lt_of_le (Heap.lt_size e) I.ok.above))).trans e1⟩
  ·by_cases hj:j=i
   ·subst hj
    rw [hi] at e1; cases e1
    rw [List.getElem?_set_self hiσ] at e2
    cases e2
    exact ⟨u,r,.inl ⟨hk,by simp⟩⟩
   ·rw [List.getElem?_set_ne (Ne.symm hj)] at e2
    obtain ⟨u',r',q⟩:=hl j y v' e1 e2 e3
    refine ⟨u',r',?_⟩
    rcases q with ⟨k,e⟩ | ⟨k,c,e,z⟩
    ·refine .inl ⟨k,?_⟩
     have:y≠x:=λ e=>hj (b5X hN e1 (e ▸ hi))
     simp [this,e]
    ·exact .inr ⟨k,c,e,z.sameBut hs (cne y c e)⟩
  ·obtain ⟨w',z⟩:=I.cell y c e
   exact ⟨w',z.sameBut hs (cne y c e)⟩
  ·obtain ⟨e,n,ne,nf,d⟩:=I.pin p hp
   exact ⟨(hs.2 p.1 ne).trans e,n,ne,nf,d⟩
 ·have hfn:X.fn x=true:=by
   rcases hf with z | z
   ·exact z
   ·rw [z] at hk; cases hk
  obtain ⟨c,hc⟩:=I.ok.has x (.inl hk)
  obtain ⟨w',z⟩:=I.cell x c hc
  refine wpAny_storeName_cell I.ok.kind hk hc z (λ h' hc' hs=>?_)
  obtain ⟨oc,hoc,hocd⟩:=id z
  refine h { s with heap:=h' } ⟨I.ok,I.os,I.bare,⟨λ b o e n hb hx=>?_,λ b o e n hb hx=>?_,I.base.free,λ b o e hx=>?_,I.base.tups,I.base.frzs,I.base.tbls⟩,⟨m,hn.sameBut hs (Ne.symm (cne x c hc)),λ j y v' e1 e2 e3=>?_⟩,λ y c' e=>?_,I.free,I.freeC,λ p hp=>?_,tracked ⟨oc,hoc,I.freeC x c hc⟩ hs,by simpa using I.len⟩ ⟨c,hs,.inr hc⟩
  ·exact (hs.2 b (Nat.ne_of_lt (Nat.lt_of_lt_of_le (Heap.lt_size e) (I.ok.cab x c hfn hc)))).trans (I.base.keep b o e n hb hx)
  ·obtain ⟨sl,e1⟩:=I.base.slot b o e n hb hx
   exact ⟨sl,(hs.2 b (Nat.ne_of_lt (Nat.lt_of_lt_of_le (Heap.lt_size e) (I.ok.cab x c hfn hc)))).trans e1⟩
  ·obtain ⟨o',e1⟩:=I.base.there b o e hx
   exact ⟨o',(hs.2 b (Nat.ne_of_lt (Nat.lt_of_lt_of_le (Heap.lt_size e) (I.ok.cab x c hfn hc)))).trans e1⟩
  ·by_cases hj:j=i
   ·subst hj
    rw [hi] at e1; cases e1
    rw [List.getElem?_set_self hiσ] at e2
    cases e2
    exact ⟨u,r,.inr ⟨.inl hk,c,hc,hc'⟩⟩
   ·rw [List.getElem?_set_ne (Ne.symm hj)] at e2
    obtain ⟨u',r',q⟩:=hl j y v' e1 e2 e3
    refine ⟨u',r',?_⟩
    rcases q with q | ⟨k,c',e,z'⟩
    ·exact .inl q
    ·refine .inr ⟨k,c',e,z'.sameBut hs ?_⟩
     rintro rfl
     exact hj (b5X hN e1 (I.ok.inj _ _ _ e hc ▸ hi))
  ·by_cases hcc:c'=c
   ·subst hcc; exact ⟨_,hc'⟩
   ·obtain ⟨w2,z2⟩:=I.cell y c' e
    exact ⟨w2,z2.sameBut hs hcc⟩
  ·obtain ⟨e,n,ne,nf,d⟩:=I.pin p hp
   refine ⟨(hs.2 p.1 ?_).trans e,n,ne,nf,d⟩
   intro q
   rw [q,hoc] at e
   have q':oc=p.2:=Option.some.inj e
   exact d w' (by rw [<- q']; exact hocd)
theorem b5Y {M:Model} {A:Around} {E:Value->Shared->Prop} {i:Nat} {x:Str} {v:V} {u:Value} {Q:Unit->Shared->Prop} (I:Inv X pins σ H s) (hN:X.N.Nodup) (hi:X.N[i]?=some x) (hx:Loc X.env.scope x) (r:RelV v u)
  (h:∀ s',Inv X pins (σ.set i (some v)) H s'->Q () s') (hf:X.fn x=true\/X.env.scope.names.lookup x=some .local:=by first | exact .inl rfl | exact .inr rfl | assumption):wpAny M A (storeName X.env x u) Q E s :=
 b2D I hN hi hx r (λ s' I' _=>h s' I') hf
theorem Inv.call' {s':Shared} {ch:List Addr} (I:Inv X pins σ H s) (ho:s'.os=s.os) (u:Un (frs X.stack) ch H H' s.heap s'.heap) (hok:HOk X.prog X.w H' s'.heap) (hg:AllBare s'.gens)
  (hch:∀ b∈ch,(b∈X.ex\/X.s₀.heap.objs.size<=b)/\b≠X.env.locals/\(∀ x c,X.env.cells.lookup x=some c->c≠b)/\∀ p∈X.pn++pins,p.1≠b):Inv X pins σ H' s':=by
 obtain ⟨h',g',d',t',o'⟩:=s'
 have e:o'=s.os:=ho
 subst e
 exact I.call (g':=g') (t':=t') (d':=d') u hok hg hch
end
abbrev XK:=Value->Option Addr->Hp->Prop
abbrev St:=List (Option V)
abbrev VK:=V->Hp->Prop
abbrev TE:=St->Hp->VK->Prop
abbrev TT:=St->Hp->(Bool->Hp->Prop)->Prop
abbrev TA:=St->Hp->(List V->Hp->Prop)->Prop
structure Ends where
 nx:St->Hp->Prop
 rt:VK
 bk:St->Hp->Prop:=λ _ _=>False
 ct:St->Hp->Prop:=λ _ _=>False
abbrev TS:=Ends->St->Hp->Prop
def EP (X:Cx) (pins:List (Addr × Obj)) (σ:St) (Q:VK) (u:Value) (s':Shared):Prop:=∃ v H',Inv X pins σ H' s'/\RelV v u/\Q v H'
def TP (X:Cx) (pins:List (Addr × Obj)) (σ:St) (Q:Bool->Hp->Prop) (b:Bool) (s':Shared):Prop:=∃ H',Inv X pins σ H' s'/\Q b H'
def AP (X:Cx) (pins:List (Addr × Obj)) (σ:St) (Q:List V->Hp->Prop) (us:List Value) (s':Shared):Prop:=∃ vs H',Inv X pins σ H' s'/\Vals vs us/\Q vs H'
def SP (X:Cx) (pins:List (Addr × Obj)) (D:Ends) (f:Flow) (s':Shared):Prop :=
 match f with
 | .next=>∃ σ' H',Inv X pins σ' H' s'/\D.nx σ' H'
 | .brk=>∃ σ' H',Inv X pins σ' H' s'/\D.bk σ' H'
 | .cont=>∃ σ' H',Inv X pins σ' H' s'/\D.ct σ' H'
 | .ret u=>∃ v σ' H',Inv X pins σ' H' s'/\RelV v u/\D.rt v H'
def PE (X:Cx) (e:Expr) (t:TE):Prop :=
 ∀ (pins:List (Addr × Obj)) (s:Shared) (σ:St) (H:Hp) (Q:VK),Inv X pins σ H s->t σ H Q->wpAny (model X.prog X.w) X.A (eval e X.env) (EP X pins σ Q) X.xe s
def PT (X:Cx) (e:Expr) (t:TT):Prop :=
 ∀ (pins:List (Addr × Obj)) (s:Shared) (σ:St) (H:Hp) (Q:Bool->Hp->Prop),Inv X pins σ H s->t σ H Q->wpAny (model X.prog X.w) X.A (isTrue e X.env (eval e X.env)) (TP X pins σ Q) X.xe s
def PW (X:Cx) (e:Expr) (t:TT):Prop :=
 ∀ (whole:Sem Value) (pins:List (Addr × Obj)) (s:Shared) (σ:St) (H:Hp) (Q:Bool->Hp->Prop),Inv X pins σ H s->t σ H Q->wpAny (model X.prog X.w) X.A (isTrue e X.env whole) (TP X pins σ Q) X.xe s
theorem PW.pt {X:Cx} {e:Expr} {t:TT} (h:PW X e t):PT X e t:=h _
def PA (X:Cx) (es:List Expr) (t:TA):Prop :=
 ∀ (pos:Pos) (pins:List (Addr × Obj)) (s:Shared) (σ:St) (H:Hp) (Q:List V->Hp->Prop),Inv X pins σ H s->t σ H Q->wpAny (model X.prog X.w) X.A (spliced (backTo pos (starEach es X.env))) (AP X pins σ Q) X.xe s
def PS (X:Cx) (st:Stmt) (t:TS):Prop :=
 ∀ (pins:List (Addr × Obj)) (s:Shared) (σ:St) (H:Hp) (D:Ends),Inv X pins σ H s->t D σ H->wpAny (model X.prog X.w) X.A (exec st X.env) (SP X pins D) X.xe s
def PSs (X:Cx) (st:List Stmt) (t:TS):Prop :=
 ∀ (pins:List (Addr × Obj)) (s:Shared) (σ:St) (H:Hp) (D:Ends),Inv X pins σ H s->t D σ H->wpAny (model X.prog X.w) X.A (execs st X.env) (SP X pins D) X.xe s
theorem thn {α:Type} {t:Sem α} {Q Q':α->Shared->Prop} {M:Model} {A:Around} {E:Value->Shared->Prop} {s:Shared} (h:wpAny M A t Q E s) (hQ:∀ a s,Q a s->Q' a s):wpAny M A t Q' E s:=wpAny_mono h hQ λ _ _ x=>x
end L2
namespace L2
open PySem PySem.Spec PyProof.Rows
section
variable {X:Cx}
def tVar (i:Nat):TE:=λ σ H Q=>∃ v,σ[i]?=some (some v)/\Q v H
def tC (v:V):TE:=λ _ H Q=>Q v H
theorem d0R {i:Nat} {x:Str} {pos:Pos} (hN:X.N[i]?=some x) (hv:Vis X.env.scope x) (hd:(x == ("__debug__" : Str))=false:=by decide) (hcd:(x == ("__classdict__" : Str))=false:=by decide):PE X (.Name x pos) (tVar i):=by
 intro pins s σ H Q I h
 obtain ⟨v,e,h⟩:=h
 obtain ⟨m,hn,hl⟩:=I.loc
 obtain ⟨u,r,l⟩:=hl i x v hN e hv
 have fin:EP X pins σ Q u s:=⟨v,H,I,r,h⟩
 rcases l with ⟨hk,hm⟩ | ⟨hk,c,hc,hcell⟩
 ·exact wpAny_Name (wpAny_loadName_local I.ok.kind hk hn hm fin) hd
 ·rcases hk with hk | hk
  ·exact wpAny_Name (wpAny_loadName_cell I.ok.kind hk hc hcell fin) hd
  ·exact wpAny_Name (wpAny_loadName_free I.ok.kind hk hc hcell fin hcd) hd
theorem a0E {i j pos}:PE X (.Constant (.int i) j pos) (tC (.int i)):=λ _ _ _ H _ I h=>wpAny_Constant_int ⟨.int i,H,I.tok _,⟨_,rfl⟩,h⟩
theorem a6U {b j pos}:PE X (.Constant (.bool b) j pos) (tC (.bl b)):=λ _ _ _ H _ I h=>Constant_bool ⟨.bl b,H,I,rfl,h⟩
theorem a2B {j pos}:PE X (.Constant .none j pos) (tC .non):=λ _ _ _ H _ I h=>Constant_none ⟨.non,H,I,rfl,h⟩
theorem b5Z {x j pos}:PE X (.Constant (.str x) j pos) (tC (.str x)):=λ _ _ _ H _ I h=>Calls.Constant_str ⟨.str x,H,I.tok _,⟨_,rfl⟩,h⟩
def Gl (X:Cx) (x:Str):Prop:=X.env.kindOf x=some .globalImplicit
theorem c7N {E:Value->Shared->Prop} {pins:List (Addr × Obj)} {s:Shared} {σ:St} {H:Hp} {x:Str} {u:Value} {pos:Pos} {Q:Value->Shared->Prop} (I:Inv X pins σ H s) (hg:Gl X x) (hm:X.mg x=some u) (h:Q u s)
  (hd:(x == ("__debug__" : Str))=false:=by decide):wpAny (model X.prog X.w) X.A (eval (.Name x pos) X.env) Q E s :=
 Calls.Name_function_global I.ok.kind hg (Calls.loadGlobal_global (by rw [I.ok.glob]; exact I.mod.glob.keeps I.bk) hm h) hd
theorem a5W {E:Value->Shared->Prop} {pins:List (Addr × Obj)} {s:Shared} {σ:St} {H:Hp} {x:Str} {u:Value} {pos:Pos} {Q:Value->Shared->Prop} (I:Inv X pins σ H s) (hg:Gl X x) (hm:X.mg x=none) (hv:bootBuiltins x=some u) (h:Q u s)
  (hn:x ≠ "__name__" := by decide) (hd:(x == ("__debug__" : Str))=false:=by decide):wpAny (model X.prog X.w) X.A (eval (.Name x pos) X.env) Q E s:=by
 obtain ⟨mb,h1,h2⟩:=I.mod.blt
 exact Calls.Name_function_global I.ok.kind hg (Calls.loadGlobal_builtin (by rw [I.ok.glob]; exact I.mod.glob.keeps I.bk) hm (by rw [I.ok.blt]; exact h1.keeps I.bk) ((h2 x hn).trans hv) h) hd
theorem a2Z {x:Str} {v:V} {u:Value} {pos:Pos} (hg:Gl X x) (hm:X.mg x=none) (hv:bootBuiltins x=some u) (r:RelV v u) (hn:x ≠ "__name__" := by decide) (hd:(x == ("__debug__" : Str))=false:=by decide):PE X (.Name x pos) (tC v) :=
 λ _ _ _ H _ I h=>a5W I hg hm hv ⟨v,H,I,r,h⟩ hn hd
variable {a b:Expr} {ta tb:TE} {pos:Pos}
variable {tA tB':TT} {rest:List Expr}
def tAnd (t u:TT):TT:=λ σ H Q=>t σ H λ c H1=>if c=true then u σ H1 Q else Q false H1
def tOr (t u:TT):TT:=λ σ H Q=>t σ H λ c H1=>if c=true then Q true H1 else u σ H1 Q
def tNot (t:TT):TT:=λ σ H Q=>t σ H λ c H1=>Q (!c) H1
theorem b0T (ha:PT X a tA):PW X (.BoolOp .And [a] pos) tA:=by
 intro wh pins s σ H Q I h
 refine isTrue_and (thn (ha pins s σ H Q I h) λ c s1 e=>?_)
 cases c with
 | true=>exact isTrue_and_nil e
 | false=>exact e
theorem a4S (ha:PT X a tA):PW X (.BoolOp .Or [a] pos) tA:=by
 intro wh pins s σ H Q I h
 refine isTrue_or (thn (ha pins s σ H Q I h) λ c s1 e=>?_)
 cases c with
 | false=>exact isTrue_or_nil e
 | true=>exact e
theorem b6A (ha:PT X a tA) (hb:PW X (.BoolOp .And (b::rest) pos) tB'):PW X (.BoolOp .And (a::b::rest) pos) (tAnd tA tB'):=by
 intro wh pins s σ H Q I h
 refine isTrue_and (thn (ha pins s σ H _ I h) λ c s1 ⟨H1,I1,q1⟩=>?_)
 cases c with
 | true=>exact hb wh pins s1 σ H1 Q I1 q1
 | false=>exact ⟨H1,I1,q1⟩
theorem a4U (ha:PT X a tA) (hb:PW X (.BoolOp .Or (b::rest) pos) tB'):PW X (.BoolOp .Or (a::b::rest) pos) (tOr tA tB'):=by
 intro wh pins s σ H Q I h
 refine isTrue_or (thn (ha pins s σ H _ I h) λ c s1 ⟨H1,I1,q1⟩=>?_)
 cases c with
 | true=>exact ⟨H1,I1,q1⟩
 | false=>exact hb wh pins s1 σ H1 Q I1 q1
theorem a3A (ha:PT X a tA):PT X (.UnaryOp .Not a pos) (tNot tA):=by
 intro pins s σ H Q I h
 exact isTrue_not (ha pins s σ H (λ c H1=>Q (!c) H1) I h)
def d3L (ta tb:TE):TE:=λ σ H Q=>ta σ H λ x H1=>∃ c,x = .bl c/\if c=true then tb σ H1 Q else Q (.bl false) H1
def d3M (ta:TE):TE:=λ σ H Q=>ta σ H λ x H1=>∃ c,x = .bl c/\Q (.bl (!c)) H1
theorem a9V {op} {t:TE} (h:PE X a t):PE X (.BoolOp op [a] pos) t:=λ pins s σ H Q I hw=>BoolOp_one (h pins s σ H Q I hw)
theorem a9W (ha:PE X a ta) (hb:PE X (.BoolOp .And (b::rest) pos) tb):PE X (.BoolOp .And (a::b::rest) pos) (d3L ta tb):=by
 intro pins s σ H Q I h
 refine BoolOp_and (thn (ha pins s σ H _ I h) λ v s1 ⟨x,H1,I1,r1,q1⟩=>?_)
 obtain ⟨c,rfl,q1⟩:=q1
 cases r1
 refine wpAny_truthy_bool ?_
 cases c with
 | true=>exact hb pins s1 σ H1 Q I1 q1
 | false=>exact ⟨.bl false,H1,I1,rfl,q1⟩
theorem d0S (ha:PE X a ta):PE X (.UnaryOp .Not a pos) (d3M ta):=by
 intro pins s σ H Q I h
 refine UnaryOp_ (thn (ha pins s σ H _ I h) λ v s1 ⟨x,H1,I1,r1,q1⟩=>?_)
 obtain ⟨c,rfl,q1⟩:=q1
 cases r1
 exact not_of (wpAny_truthy_bool ⟨.bl (!c),H1,I1,rfl,q1⟩)
def tIf (t:TT) (ta tb:TE):TE:=λ σ H Q=>t σ H λ c H1=>if c=true then ta σ H1 Q else tb σ H1 Q
theorem a7X {c:Expr} (hc:PT X c tA) (ha:PE X a ta) (hb:PE X b tb):PE X (.IfExp c a b pos) (tIf tA ta tb):=by
 intro pins s σ H Q I h
 refine wpAny_IfExp (thn (hc pins s σ H _ I h) λ d s1 ⟨H1,I1,q1⟩=>?_)
 cases d with
 | true=>exact ha pins s1 σ H1 Q I1 q1
 | false=>exact hb pins s1 σ H1 Q I1 q1
end
end L2
namespace L2
open PySem PySem.Spec PyProof.Rows
def SqL (K:Φρ) (H:Hp) (a:Addr) (xs:List V):Prop :=
 Rd H a (.lst xs) \/
  ∃ (o:Obj) (its:Array Value) (n:Nat),K.lookup a=some o/\o.cls = .type "list" /\ o.dict=none/\o.data = .seq its n/\its.size<=sizeLine/\Vals xs its.toList
def SqT (K:Φρ) (H:Hp) (a:Addr) (xs:List V):Prop :=
 Rd H a (.tup xs) \/
  ∃ (o:Obj) (its:Array Value) (n:Nat),K.lookup a=some o/\o.cls = .type "tuple" /\ o.data = .seq its n/\its.size<=sizeLine/\Vals xs its.toList
def absV:Value->Option V
 | .none=>some .non
 | .bool b=>some (.bl b)
 | .int i _=>some (.int i)
 | .str x _=>some (.str x)
 | .bytes b _=>some (.byt b)
 | .float b _=>some (.flt b)
 | .ref a=>some (.ref a)
 | .type n=>some (.ty n)
 | _=>none
theorem RelV.abs {x:V} {u:Value} (r:RelV x u):absV u=some x:=by
 cases x with
 | non=>cases r; rfl
 | bl _=>cases r; rfl
 | int _=>obtain ⟨t,rfl⟩:=r; rfl
 | str _=>obtain ⟨t,rfl⟩:=r; rfl
 | byt _=>obtain ⟨t,rfl⟩:=r; rfl
 | flt _=>obtain ⟨t,rfl⟩:=r; rfl
 | ref _=>cases r; rfl
 | ty _=>cases r; rfl
theorem RelV.inj {x y:V} {u:Value} (r:RelV x u) (q:RelV y u):x=y:=Option.some.inj (r.abs.symm.trans q.abs)
theorem Vals.inj:∀ {xs ys:List V} {us:List Value},Vals xs us->Vals ys us->xs=ys
 | _,_,_,.nil,.nil=>rfl
 | _,_,_,.cons r t,.cons r' t'=>by rw [r.inj r',Vals.inj t t']
section
variable {X:Cx} {pins:List (Addr × Obj)} {σ:St} {H:Hp} {s:Shared} {a:Addr} {xs ys:List V}
theorem SqL.of {K:Φρ} (h:H a=some (.lst xs)):SqL K H a xs:=.inl (.inl h)
theorem SqT.of {K:Φρ} (h:H a=some (.tup xs)):SqT K H a xs:=.inl (.inl h)
theorem Inv.list (I:Inv X pins σ H s) (h:SqL X.K H a xs):∃ its:List Value,Vals xs its/\PlainL s.heap a its.toArray/\xs.length<=sizeLine:=by
 rcases h with h | ⟨o,its,n,hk,hc,hd,hs,hz,r⟩
 ·obtain ⟨z,its,n,r,e⟩:=h.ok I.hok
  exact ⟨its,r,⟨_,n,e,rfl,rfl,rfl⟩,z⟩
 ·refine ⟨its.toList,r,⟨o,n,I.kIn a o hk,hc,hd,by simpa using hs⟩,?_⟩
  have e:=r.length
  simp only [Array.length_toList] at e
  omega
theorem Inv.tuple (I:Inv X pins σ H s) (h:SqT X.K H a xs):∃ its:List Value,Vals xs its/\IsTup s.heap a its.toArray/\xs.length<=sizeLine:=by
 rcases h with h | ⟨o,its,n,hk,hc,hs,hz,r⟩
 ·obtain ⟨z,its,r,p⟩:=h.ok I.hok
  exact ⟨its,r,p,z⟩
 ·refine ⟨its.toList,r,⟨o,I.kIn a o hk,hc,n,by simpa using hs⟩,?_⟩
  have e:=r.length
  simp only [Array.length_toList] at e
  omega
theorem Inv.list_inj (I:Inv X pins σ H s) (h:SqL X.K H a xs) (h':SqL X.K H a ys):xs=ys:=by
 obtain ⟨its,r,⟨o,n,e,_,_,d⟩,_⟩:=I.list h
 obtain ⟨its',r',⟨o',n',e',_,_,d'⟩,_⟩:=I.list h'
 rw [e] at e'; cases e'
 rw [d] at d'
 injection d' with d1 _
 have:its=its':=by simpa using congrArg Array.toList d1
 subst this
 exact r.inj r'
end
abbrev Cx.wish (X:Cx) (E:Value->Shared->Prop):Cx:={ X with xe:=E }
abbrev Cx.nox (X:Cx):Cx:=X.wish λ _ _=>False
theorem Cx.Ok.wish {X:Cx} (ok:X.Ok) (E:Value->Shared->Prop):(X.wish E).Ok :=
 ⟨ok.mod,ok.kind,ok.glob,ok.blt,ok.above,ok.inj,ok.has,ok.cab,ok.hd,ok.frames,ok.stk,ok.exf,ok.bs,ok.bsz,ok.noex,ok.exfs,ok.funs,ok.frf⟩
theorem Cx.Ok.unwish {X:Cx} {E:Value->Shared->Prop} (ok:(X.wish E).Ok):X.Ok :=
 ⟨ok.mod,ok.kind,ok.glob,ok.blt,ok.above,ok.inj,ok.has,ok.cab,ok.hd,ok.frames,ok.stk,ok.exf,ok.bs,ok.bsz,ok.noex,ok.exfs,ok.funs,ok.frf⟩
section
variable {X:Cx} {pins:List (Addr × Obj)} {σ:St} {H:Hp} {s:Shared} {E:Value->Shared->Prop}
theorem Inv.wish (I:Inv X pins σ H s) (E:Value->Shared->Prop):Inv (X.wish E) pins σ H s:=⟨I.ok.wish E,I.os,I.bare,I.base,I.loc,I.cell,I.free,I.freeC,I.pin,I.hok,I.len⟩
theorem Inv.unwish (I:Inv (X.wish E) pins σ H s):Inv X pins σ H s:=⟨I.ok.unwish,I.os,I.bare,I.base,I.loc,I.cell,I.free,I.freeC,I.pin,I.hok,I.len⟩
theorem SP.unwish {D:Ends} {f:Flow} {s':Shared} (h:SP (X.wish E) pins D f s'):SP X pins D f s':=by
 cases f with
 | next=>obtain ⟨σ',H',I,q⟩:=h; exact ⟨σ',H',I.unwish,q⟩
 | brk=>obtain ⟨σ',H',I,q⟩:=h; exact ⟨σ',H',I.unwish,q⟩
 | cont=>obtain ⟨σ',H',I,q⟩:=h; exact ⟨σ',H',I.unwish,q⟩
 | ret u=>obtain ⟨v,σ',H',I,r,q⟩:=h; exact ⟨v,σ',H',I.unwish,r,q⟩
theorem PSs.nox {st:List Stmt} {t:TS} (h:PSs X.nox st t):PSs X st t:=λ pins s σ H D I hw =>
 wpAny_mono (h pins s σ H D (I.wish _) hw) (λ _ _ q=>q.unwish) λ _ _ z=>False.elim z
end
section
variable {X:Cx} {st:Stmt} {rest:List Stmt} {t u:TS} {e:Expr} {te:TE} {pos:Pos}
def d0T:TS:=λ D σ H=>D.nx σ H
def tSeq (t u:TS):TS:=λ D σ H=>t { D with nx:=u D } σ H
theorem a0Y:PSs X [] d0T:=λ _ _ σ H _ I h=>wpAny_execs_nil ⟨σ,H,I,h⟩
theorem a0C (h1:PS X st t) (h2:PSs X rest u):PSs X (st::rest) (tSeq t u):=by
 intro pins s σ H D I h
 refine wpAny_execs_cons (thn (h1 pins s σ H { D with nx:=u D } I h) λ f s1 q=>?_)
 cases f with
 | next =>
  obtain ⟨σ',H',I',q⟩:=q
  exact h2 pins s1 σ' H' D I' q
 | ret v=>exact q
 | brk=>exact q
 | cont=>exact q
theorem a0D (h1:PS X st t):PSs X [st] t:=by
 intro pins s σ H D I h
 refine wpAny_execs_cons (thn (h1 pins s σ H D I h) λ f s1 q=>?_)
 cases f with
 | next=>exact wpAny_execs_nil q
 | ret v=>exact q
 | brk=>exact q
 | cont=>exact q
theorem Inv.quiet {pins:List (Addr × Obj)} {σ:St} {H:Hp} {s:Shared} (I:Inv X pins σ H s):interactive X.env=false:=by simp [interactive,I.ok.kind]
def d3N (te:TE):TS:=λ D σ H=>te σ H λ _ H1=>D.nx σ H1
theorem a2D (he:PE X e te) (hs:swapsWith e none pos.line X.env=pure false:=by rfl):PS X (.Expr e pos) (d3N te):=by
 intro pins s σ H D I h
 exact wpAny_Expr_any (thn (he pins s σ H _ I h) λ v s1 ⟨x,H1,I1,r1,q1⟩=>⟨σ,H1,I1,q1⟩) I.quiet hs
def tRet (te:TE):TS:=λ D σ H=>te σ H D.rt
theorem a0N (he:PE X e te):PS X (.Return (some e) pos) (tRet te):=by
 intro pins s σ H D I h
 exact wpAny_Return_some (thn (he pins s σ H _ I h) λ v s1 ⟨x,H1,I1,r1,q1⟩=>⟨x,σ,H1,I1,r1,q1⟩)
def tIfS (c:TT) (t u:TS):TS:=λ D σ H=>c σ H λ b H1=>if b=true then t D σ H1 else u D σ H1
theorem a1X {c:Expr} {a b:List Stmt} {tc:TT} (hc:PT X c tc) (ha:PSs X a t) (hb:PSs X b u):PS X (.If c a b pos) (tIfS tc t u):=by
 intro pins s σ H D I h
 refine wpAny_If (thn (hc pins s σ H _ I h) λ d s1 ⟨H1,I1,q1⟩=>?_)
 cases d with
 | true=>exact ha pins s1 σ H1 D I1 q1
 | false=>exact hb pins s1 σ H1 D I1 q1
def d0U:TS:=λ _ _ _=>False
theorem b0U:PS X st d0U:=λ _ _ _ _ _ _ h=>h.elim
end
abbrev TG:=V->St->Hp->(St->Hp->Prop)->Prop
abbrev TGs:=List V->St->Hp->(St->Hp->Prop)->Prop
def PG (X:Cx) (target:Expr) (t:TG):Prop :=
 ∀ (pins:List (Addr × Obj)) (s:Shared) (σ:St) (H:Hp) (v:V) (u:Value) (Q:St->Hp->Prop),Inv X pins σ H s->RelV v u->t v σ H Q ->
  wpAny (model X.prog X.w) X.A (assign target X.env u) (λ _ s'=>∃ σ' H',Inv X pins σ' H' s'/\Q σ' H') X.xe s
def PGs (X:Cx) (ts:List Expr) (t:TGs):Prop :=
 ∀ (pins:List (Addr × Obj)) (s:Shared) (σ:St) (H:Hp) (vs:List V) (us:List Value) (Q:St->Hp->Prop),Inv X pins σ H s->Vals vs us->t vs σ H Q ->
  wpAny (model X.prog X.w) X.A (assignInOrder ((assignEach ts X.env).map (·.2)) us) (λ _ s'=>∃ σ' H',Inv X pins σ' H' s'/\Q σ' H') X.xe s
abbrev TSet:=V->V->V->Hp->(Hp->Prop)->Prop
def PSet (X:Cx) (t:TSet):Prop :=
 ∀ (pins:List (Addr × Obj)) (s:Shared) (σ:St) (H:Hp) (o i v:V) (ov iv u:Value) (Q:Hp->Prop),Inv X pins σ H s->RelV o ov->RelV i iv->RelV v u->t o i v H Q ->
  wpAny (model X.prog X.w) X.A (setItem ov iv u) (λ _ s'=>∃ H',Inv X pins σ H' s'/\Q H') X.xe s
section
variable {X:Cx} {pos:Pos}
def b7T (i:Nat):TG:=λ v σ H Q=>Q (σ.set i (some v)) H
theorem a0H {i:Nat} {x:Str} (hN:X.N.Nodup) (hi:X.N[i]?=some x) (hx:Loc X.env.scope x) (hf:X.fn x=true\/X.env.scope.names.lookup x=some .local:=by first | exact .inl rfl | exact .inr rfl | assumption):PG X (.Name x pos) (b7T i):=by
 intro pins s σ H v u Q I r h
 exact wpAny_assign_Name (b5Y I hN hi hx r (λ s' I'=>⟨_,H,I',h⟩) hf)
def gNil:TGs:=λ vs σ H Q=>vs=[]/\Q σ H
def c7O (t:TG) (u:TGs):TGs:=λ vs σ H Q=>∃ v r,vs=v::r/\t v σ H λ σ' H'=>u r σ' H' Q
theorem a2L:PGs X [] gNil:=by
 intro pins s σ H vs us Q I r h
 obtain ⟨e,h⟩:=h
 subst e
 cases r
 exact assignInOrder_nil ⟨σ,H,I,h⟩
theorem a0X {e:Expr} {es:List Expr} {t:TG} {u:TGs} (h1:PG X e t) (h2:PGs X es u)
  (hs:(assignEach (e::es) X.env).map (·.2)=assign e X.env::(assignEach es X.env).map (·.2):=by rfl):PGs X (e::es) (c7O t u):=by
 intro pins s σ H vs us Q I r h
 obtain ⟨v,vr,e1,h⟩:=h
 subst e1
 cases r with
 | cons r rr =>
  rw [hs]
  refine assignInOrder_cons (thn (h1 pins s σ H _ _ _ I r h) λ _ s1 ⟨σ1,H1,I1,q1⟩=>?_)
  exact h2 pins s1 σ1 H1 _ _ Q I1 rr q1
def gTup (K:Φρ) (n:Nat) (t:TGs):TG:=λ v σ H Q=>∃ a xs,v = .ref a/\SqT K H a xs/\xs.length=n/\t xs σ H Q
theorem d0V {es:List Expr} {k:Nat} {t:TGs} {n:Nat} (hc:X.calm=true) (h:PGs X es t)
  (hn:(assignEach es X.env).length=n:=by rfl) (hst:(assignEach es X.env).findIdx? (·.1)=none:=by rfl):PG X (.Tuple es k pos) (gTup X.K n t):=by
 intro pins s σ H v u Q I r hw
 obtain ⟨a,xs,e1,hq,hl,hw⟩:=hw
 subst e1
 cases r
 obtain ⟨its,rv,ht,hz⟩:=I.tuple hq
 refine assign_Tuple_tuple (I.ok.hd hc) ht (by simp [hn,<- hl,rv.length]) hst λ h' hx=>?_
 have I1:Inv X pins σ H { s with heap:=h' }:=I.kept (t':=s.toks) λ b o e=>hx b o (Nat.ne_of_lt (Heap.lt_size e)) e
 exact h pins _ σ H xs _ Q I1 (by simpa using rv) hw
def gSub (to ti:TE) (t:TSet):TG:=λ v σ H Q=>to σ H λ o H1=>ti σ H1 λ i H2=>t o i v H2 λ H3=>Q σ H3
theorem a8F {o i:Expr} {to ti:TE} {t:TSet} (ho:PE X o to) (hi:PE X i ti) (hs:PSet X t)
  (ha:∀ v,assign (.Subscript o i pos) X.env v=(do
   let ov <- holding [v] (eval o X.env)
   let iv <- holding [v,ov] (eval i X.env)
   standAt pos
   holding [v,ov,iv] (setItem ov iv v)
   release [v,ov,iv] []):=by intro _; rfl):PG X (.Subscript o i pos) (gSub to ti t):=by
 intro pins s σ H v u Q I r h
 rw [ha]
 refine wpAny_bind (wpAny_holding (thn (ho pins s σ H _ I h) λ ov s1 ⟨x,H1,I1,r1,q1⟩=>?_))
 refine wpAny_bind (wpAny_holding (thn (hi pins s1 σ H1 _ I1 q1) λ iv s2 ⟨y,H2,I2,r2,q2⟩=>?_))
 refine wpAny_bind (wpAny_standAt (wpAny_bind (wpAny_holding (thn (hs pins s2 σ H2 x y v ov iv u _ I2 r1 r2 r q2) λ _ s3 ⟨H3,I3,q3⟩=>?_))))
 exact wpAny_release ⟨σ,H3,I3,q3⟩
def tAsg (te:TE) (g:TG):TS:=λ D σ H=>te σ H λ x H1=>g x σ H1 D.nx
theorem a8G {tg e:Expr} {te:TE} {g:TG} (he:PE X e te) (hg:PG X tg g) (hs:swapsWithSole [tg] e pos.line X.env=pure false:=by rfl) (hw:swappedStores [tg] e X.env=pure none:=by rfl)
  (h1:(assignEach [tg] X.env).map (·.2)=[assign tg X.env]:=by rfl):PS X (.Assign [tg] e pos) (tAsg te g):=by
 intro pins s σ H D I h
 refine wpAny_Assign_stores (thn (he pins s σ H _ I h) λ v s1 ⟨x,H1,I1,r1,q1⟩=>?_) hs hw
 rw [h1]
 exact thn (hg pins s1 σ H1 x v _ I1 r1 q1) λ _ s2 q=>q
theorem a0J {i:Nat} {x:Str} {e:Expr} {te:TE} {pos':Pos} (hN:X.N.Nodup) (hi:X.N[i]?=some x) (hx:Loc X.env.scope x) (he:PE X e te) (hs:swapsWith e (some (.Name x pos')) pos.line X.env=pure false:=by rfl) (hf:X.fn x=true\/X.env.scope.names.lookup x=some .local:=by first | exact .inl rfl | exact .inr rfl | assumption) :
  PS X (.Assign [.Name x pos'] e pos) (tAsg te (b7T i)):=by
 intro pins s σ H D I h
 refine wpAny_Assign_Name (thn (he pins s σ H _ I h) λ v s1 ⟨y,H1,I1,r1,q1⟩=>?_) hs
 exact b5Y I1 hN hi hx r1 (λ s2 I2=>⟨_,H1,I2,q1⟩) hf
end
section
variable {X:Cx} {pos:Pos}
def d0W (c:TT) (tb:TS):TS:=λ D σ H=>∃ W:Nat->St->Hp->Prop,(∃ m,W m σ H)/\∀ m σ H,W m σ H ->
 c σ H λ b H1=>if b=true then ∃ N:St->Hp->Prop,(∀ σ' H',N σ' H'->∃ m',m' < m/\W m' σ' H')/\tb { D with nx:=N,ct:=N,bk:=D.nx } σ H1 else D.nx σ H1
theorem a5X {c:Expr} {body:List Stmt} {tc:TT} {tb:TS} (hp:PassesOwn (model X.prog X.w) X.A X.env X.xe) (hc:PT X c tc) (hb:PSs X body tb):PS X (.While c body [] pos) (d0W tc tb):=by
 intro pins s σ H D I h
 obtain ⟨W,⟨m0,w0⟩,turn⟩:=h
 refine wpAny_While (codeAny_whileLoop (λ n s'=>∃ σ' H',Inv X pins σ' H' s'/\W n σ' H') ?_ m0 ⟨σ,H,I,w0⟩)
 rintro n s1 ⟨σ1,H1,I1,w1⟩
 refine wpAny_passesOwn hp (thn (hc pins s1 σ1 H1 _ I1 (turn n σ1 H1 w1)) λ b s2 ⟨H2,I2,q2⟩=>?_)
 cases b with
 | true =>
  obtain ⟨N,hN,q2⟩:=q2
  rw [if_pos rfl]
  refine wpAny_passesOwn hp (thn (hb pins s2 σ1 H2 _ I2 q2) λ f s3 q3=>?_)
  cases f with
  | next =>
   obtain ⟨σ3,H3,I3,n3⟩:=q3
   obtain ⟨m',hm,w3⟩:=hN σ3 H3 n3
   exact ⟨m',hm,σ3,H3,I3,w3⟩
  | cont =>
   obtain ⟨σ3,H3,I3,n3⟩:=q3
   obtain ⟨m',hm,w3⟩:=hN σ3 H3 n3
   exact ⟨m',hm,σ3,H3,I3,w3⟩
  | brk=>exact q3
  | ret v=>exact q3
 | false =>
  rw [if_neg Bool.false_ne_true]
  exact wpAny_execs_nil ⟨σ1,H2,I2,q2⟩
end
structure It where
 go:Nat->Hp->Prop
 yld:Nat->Hp->V->Hp->Prop
 stop:Nat->Hp->Prop
def FpOk (X:Cx) (pins:List (Addr × Obj)) (H:Hp) (b:Addr):Prop :=
 H b=none/\b≠X.env.locals/\b ∉ X.fs/\(b∈X.ex\/X.s₀.heap.objs.size<=b)/\(∀ x c,X.env.cells.lookup x=some c->c≠b)/\∀ p∈X.pn++pins,p.1≠b
theorem Inv.fpOk {X:Cx} {pins:List (Addr × Obj)} {σ:St} {H H':Hp} {s:Shared} {b:Addr} (I:Inv X pins σ H s) (hb:s.heap.objs.size<=b) (hn:H' b=none):FpOk X pins H' b:=by
 refine ⟨hn,Nat.ne_of_gt (Nat.lt_of_lt_of_le I.lt hb),I.nofs hb,.inr (Nat.le_trans I.sz hb),λ x c e z=>?_,λ p hp z=>?_⟩
 ·obtain ⟨v,q⟩:=I.cell x c e
  exact absurd (Nat.lt_of_lt_of_le q.lt (by rw [z]; exact hb)) (Nat.lt_irrefl _)
 ·exact absurd (Nat.lt_of_lt_of_le (Heap.lt_size (I.pin p hp).1) (by rw [z]; exact hb)) (Nat.lt_irrefl _)
structure Turn (P:Program) (w:World) (K:Φρ) (tg:Expr) (J:It) (fp:List Addr) (it:Addr) (tn:Nat->Heap->Prop):Prop where
 mem:it∈fp
 obj:∀ i h,tn i h->∀ b∈fp,∃ o,h.get? b=some o/\∀ v,o.data ≠ .cell v
 keep:∀ i h h',tn i h->(∀ b∈fp,∀ o,h.get? b=some o->h'.get? b=some o)->tn i h'
 item:∀ (X:Cx),X.prog=P->X.w=w->X.K=K->X.calm=true->∀ (i:Nat) (pins:List (Addr × Obj)) (s:Shared) (σ:St) (H:Hp) (E:Value->Shared->Prop),Inv X pins σ H s->(∀ b∈fp,FpOk X pins H b)->tn i s.heap->J.go i H ->
  wpAny (model P w) X.A (pyNext (.ref it)) (λ r s1=>∃ u,r=some u /\
   wpAny (model P w) X.A (letOwnedTupleGo tg (.ref it) u) (λ _ s2=>∃ x H',Inv X pins σ H' s2/\RelV x u/\J.yld i H x H'/\tn (i+1) s2.heap/\∀ b∈fp,H' b=none) E s1) E s
 done:∀ (X:Cx),X.prog=P->X.w=w->X.K=K->X.calm=true->∀ (i:Nat) (pins:List (Addr × Obj)) (s:Shared) (σ:St) (H:Hp) (E:Value->Shared->Prop),Inv X pins σ H s->(∀ b∈fp,FpOk X pins H b)->tn i s.heap->J.stop i H ->
  wpAny (model P w) X.A (pyNext (.ref it)) (λ r s1=>r=none/\Inv X pins σ H s1) E s
 self:∀ (A:Around) (i:Nat) (s:Shared) (Q:Value->Shared->Prop) (E:Value->Shared->Prop),tn i s.heap->Q (.ref it) s->wpAny (model P w) A (pyIter (.ref it)) Q E s
abbrev TI:=St->Hp->(It->Hp->Prop)->Prop
def PIE (X:Cx) (pins:List (Addr × Obj)) (σ:St) (tg:Expr) (R:It->Hp->Prop) (itv:Value) (s2:Shared):Prop :=
 ∃ (it:Addr) (fp:List Addr) (tn:Nat->Heap->Prop) (J:It) (H':Hp),itv = .ref it/\Inv X pins σ H' s2/\Turn X.prog X.w X.K tg J fp it tn/\tn 0 s2.heap/\(∀ b∈fp,FpOk X pins H' b)/\R J H'
def PI (X:Cx) (tg iter:Expr) (wi:TI):Prop :=
 ∀ (pins:List (Addr × Obj)) (s:Shared) (σ:St) (H:Hp) (R:It->Hp->Prop),Inv X pins σ H s->wi σ H R ->
  wpAny (model X.prog X.w) X.A (eval iter X.env) (λ v s1=>wpAny (model X.prog X.w) X.A (pyIter v) (PIE X pins σ tg R) X.xe s1) X.xe s
theorem d0X {M : Model} {A : Around} {E : Value -> Shared -> Prop} {s : Shared} {tg : Expr} {it : Addr} {u : Value} {o : Obj} {n : String} {vs : Array Value} {Q : Unit -> Shared -> Prop} (ho : s.heap.get? it = some o) (hc : o.cls = .type n) (hd : o.data = .fields vs)
    (hn : ["enumerate", "zip", "dict_itemiterator", "dict_reverseitemiterator", "odict_iterator", "itertools.zip_longest", "itertools.pairwise"].contains n = false) (hQ : Q () s) : wpAny M A (letOwnedTupleGo tg (.ref it) u) Q E s := by
  unfold letOwnedTupleGo
  cases tg <;> first
    | exact wpAny_pure hQ
    | (cases u <;> first
        | exact wpAny_pure hQ
        | (refine wpAny_bind (wpAny_load ho ?_)
           rw [hc, hd]
           show wpAny M A (if (["enumerate", "zip", "dict_itemiterator", "dict_reverseitemiterator", "odict_iterator", "itertools.zip_longest", "itertools.pairwise"].contains n && vs[0]? == some (rawInt _)) = true then _ else _) Q E s
           rw [if_neg (by intro h; rw [hn, Bool.false_and] at h; cases h)]
           exact wpAny_pure hQ))
def Itl (K:Φρ) (a:Addr):It :=
 ⟨λ i H=>∃ xs x,SqL K H a xs/\xs[i]?=some x,λ i H x H'=>H'=H/\∀ xs,SqL K H a xs->xs[i]?=some x,λ i H=>∃ xs,SqL K H a xs/\xs.length<=i⟩
def Itr (lo:Int) (n:Nat):It:=⟨λ i _=>i < n,λ i H x H'=>H'=H/\x = .int (lo+i),λ i _=>n<=i⟩
theorem b9F {P:Program} {w:World} {K:Φρ} {tg:Expr} (a it:Addr):Turn P w K tg (Itl K a) [it] it (λ i h=>h.IsListIter it a i) where
 mem:=by simp
 obj:=λ i h st b hb=>by
  have e:b=it:=by simpa using hb
  subst e
  obtain ⟨o,e,c,d⟩:=st
  exact ⟨o,e,λ v z=>by rw [d] at z; cases z⟩
 keep:=λ i h h' st k=>st.at λ o e=>k it (by simp) o e
 item:=by
  intro X hP hw hK hc i pins s σ H E I hf st hg
  subst hP hw hK
  obtain ⟨xs,x,hq,hx⟩:=hg
  obtain ⟨its,rv,p,hz⟩:=I.list hq
  obtain ⟨u,hu,ru⟩:=rv.get hx
  obtain ⟨f0,f1,f2,f3,f4,f5⟩:=hf it (by simp)
  refine wpAny_pyNext_list_item st p.isList (x:=u) (by simpa using hu) λ h' st' sb=>?_
  have I1:Inv X pins σ H { s with heap:=h' }:=I.turned (t':=s.toks) (λ b o hb e=>(sb.2 b hb).trans e) f0 f1 f3 f4 f5
  obtain ⟨o,e,c,d⟩:=id st'
  exact ⟨u,rfl,d0X (s:={ s with heap:=h' }) e c d (by decide) ⟨x,H,I1,ru,⟨rfl,λ ys hy=>by rw [I.list_inj hy hq]; exact hx⟩,st',λ b hb=>(hf b hb).1⟩⟩
 done:=by
  intro X hP hw hK hc i pins s σ H E I hf st hg
  subst hP hw hK
  obtain ⟨xs,hq,hx⟩:=hg
  obtain ⟨its,rv,p,hz⟩:=I.list hq
  obtain ⟨f0,f1,f2,f3,f4,f5⟩:=hf it (by simp)
  have hl:=rv.length
  exact wpAny_pyNext_list_end (I.ok.hd hc) st p.isList (by simp; omega) λ h' eb=>⟨rfl,I.turned (t':=s.toks) (λ b o hb e=>eb b o hb e) f0 f1 f3 f4 f5⟩
 self:=λ _ _ _ _ _ st h=>wpAny_pyIter_listiter st h
theorem b7U {P:Program} {w:World} {K:Φρ} {tg:Expr} (it:Addr) (lo:Int) (n:Nat):Turn P w K tg (Itr lo n) [it] it (λ i h=>IsRangeIter h it (lo+(i:Nat)*1) ((n:Int) - (i:Nat)) 1) where
 mem:=by simp
 obj:=λ i h st b hb=>by
  have e:b=it:=by simpa using hb
  subst e
  exact ⟨_,st,λ v z=>by
   have z':Data.fields _=Data.cell v:=z
   cases z'⟩
 keep:=λ i h h' st k=>k it (by simp) _ st
 item:=by
  intro X hP hw hK hc i pins s σ H E I hf st hg
  subst hP hw hK
  obtain ⟨f0,f1,f2,f3,f4,f5⟩:=hf it (by simp)
  have W:=Walks.range (prog:=X.prog) (w:=X.w) (I.ok.hd hc) it lo 1 n
  refine W.item i s _ _ hg st λ v h' tk hv st' kk=>?_
  obtain ⟨t,rfl⟩:=hv
  have I1:Inv X pins σ H { s with heap:=h',toks:=tk }:=I.turned (λ b o hb e=>kk b o (by simpa using hb) e) f0 f1 f3 f4 f5
  refine ⟨_,rfl,d0X (s:={ s with heap:=h',toks:=tk }) (n:="range_iterator") st' rfl rfl (by decide) ⟨.int (lo+i),H,I1,⟨t,?_⟩,⟨rfl,rfl⟩,st',λ b hb=>(hf b hb).1⟩⟩
  rw [Int.mul_one]
 done:=by
  intro X hP hw hK hc i pins s σ H E I hf st hg
  subst hP hw hK
  obtain ⟨f0,f1,f2,f3,f4,f5⟩:=hf it (by simp)
  exact wpAny_pyNext_range_end (I.ok.hd hc) st (by have:n<=i:=hg; omega) λ h' eb=>⟨rfl,I.turned (t':=s.toks) (λ b o hb e=>eb b o hb e) f0 f1 f3 f4 f5⟩
 self:=λ _ _ _ _ _ st h=>wpAny_pyIter_rangeiter st h
end L2
namespace L2
open PySem PySem.Spec PyProof.Rows
section
variable {X:Cx} {tg:Expr}
def d0Y (K:Φρ) (tl:TE):TI:=λ σ H R=>tl σ H λ x H1=>∃ a,x = .ref a/\(∃ xs,SqL K H1 a xs)/\R (Itl K a) H1
theorem c7P {l:Expr} {tl:TE} (hl:PE X l tl):PI X tg l (d0Y X.K tl):=by
 intro pins s σ H R I h
 refine thn (hl pins s σ H _ I h) λ v s1 ⟨x,H1,I1,r1,q1⟩=>?_
 obtain ⟨a,e,⟨xs,hq⟩,q⟩:=q1
 subst e
 cases r1
 obtain ⟨its,rv,p,hz⟩:=I1.list hq
 refine wpAny_pyIter_list p.isList ?_
 refine ⟨s1.heap.objs.size,[s1.heap.objs.size],_,_,H1,rfl,I1.kept (t':=s1.toks) λ b o e=>Heap.get?_push_of_some _ e,b9F a _,⟨_,Heap.get?_push_size _ rfl,rfl,rfl⟩,λ b hb=>?_,q⟩
 have e:b=s1.heap.objs.size:=by simpa using hb
 subst e
 exact I1.fpOk (Nat.le_refl _) (I1.hok.fresh (Nat.le_refl _))
theorem b6B {pins:List (Addr × Obj)} {σ:St} {H:Hp} {s:Shared} {R:It->Hp->Prop} {E:Value->Shared->Prop} {lo hi:Int} {t u v:Tok} {tk:Nat} (I:Inv X pins σ H s) (h1 : -(2 ^ 62)<=lo) (h2:lo < 2 ^ 62) (h3 : -(2 ^ 62)<=hi) (h4:hi < 2 ^ 62)
  (q:R (Itr lo (hi - lo).toNat) H):wpAny (model X.prog X.w) X.A (pyIter (.ref s.heap.objs.size)) (PIE X pins σ tg R) E { s with heap:=s.heap.push { cls:=.type "range", data:=.fields #[.int lo t,.int hi u,.int 1 v] },toks:=tk }:=by
 refine wpAny_pyIter_range (IsRange.new ..) (small_one h1 h2 h3 h4) ?_
 have I1:Inv X pins σ H { s with heap:=s.heap.push { cls:=.type "range", data:=.fields #[.int lo t,.int hi u,.int 1 v] },toks:=tk }:=I.kept λ b o e=>Heap.get?_push_of_some _ e
 refine ⟨(s.heap.push { cls:=.type "range", data:=.fields #[.int lo t,.int hi u,.int 1 v] }).objs.size,[(s.heap.push { cls:=.type "range", data:=.fields #[.int lo t,.int hi u,.int 1 v] }).objs.size],_,_,H,rfl,
  I1.kept (t':=tk) λ b o e=>Heap.get?_push_of_some _ e,b7U _ lo (hi - lo).toNat,?_,λ b hb=>?_,q⟩
 ·have e1:lo+((0:Nat):Int)*1=lo:=by simp
  have e2:(((hi - lo).toNat:Nat):Int) - ((0:Nat):Int)=Builtin.Range.rangeSize lo hi 1:=by rw [rangeSize_one]; split <;> omega
  show IsRangeIter _ _ (lo+((0:Nat):Int)*1) ((((hi - lo).toNat:Nat):Int) - ((0:Nat):Int)) 1
  rw [e1,e2]
  exact Heap.get?_push_size _ rfl
 ·have e:b=(s.heap.push { cls:=.type "range", data:=.fields #[.int lo t,.int hi u,.int 1 v] }).objs.size:=by simpa using hb
  subst e
  exact I1.fpOk (Nat.le_refl _) (I1.hok.fresh (Nat.le_refl _))
def d3O (ta:TA):TI:=λ σ H R=>ta σ H λ vs H1=>∃ j:Int,vs=[.int j] /\ -(2 ^ 62)<=j/\j < 2 ^ 62/\R (Itr 0 j.toNat) H1
def d3P (ta:TA):TI:=λ σ H R=>ta σ H λ vs H1=>∃ i j:Int,vs=[.int i,.int j]/\(-(2 ^ 62)<=i/\i < 2 ^ 62 /\ -(2 ^ 62)<=j/\j < 2 ^ 62)/\R (Itr i (j - i).toNat) H1
theorem a2U {a:Expr} {ta:TA} {p pos:Pos} (hg:Gl X "range") (hm:X.mg "range" = none) (ha:PA X [a] ta) (hs:starEach [a] X.env=[(false,eval a X.env)]:=by rfl):PI X tg (.Call (.Name "range" p) [a] [] pos) (d3O ta):=by
 intro pins s σ H R I h
 refine Call_ (a5W I hg hm boot_range (PyProof.Rows.callWith_type1 (thn (ha pos pins s σ H _ I h) λ us s1 ⟨vs,H1,I1,r1,q1⟩=>?_) hs rfl))
 obtain ⟨j,e,q1,q2,q⟩:=q1
 subst e
 cases r1 with
 | cons r rr =>
  cases rr
  obtain ⟨t,rfl⟩:=r
  exact call_range_1 (b6B I1 (by omega) (by omega) q1 q2 (by simpa using q))
theorem a3V {a b:Expr} {ta:TA} {p pos:Pos} (hg:Gl X "range") (hm:X.mg "range" = none) (ha:PA X [a,b] ta) (hs:starEach [a,b] X.env=[(false,eval a X.env),(false,eval b X.env)]:=by rfl) (hs2:starEach [b] X.env=[(false,eval b X.env)]:=by rfl) :
  PI X tg (.Call (.Name "range" p) [a,b] [] pos) (d3P ta):=by
 intro pins s σ H R I h
 refine Call_ (a5W I hg hm boot_range (PyProof.Rows.callWith_type1 (thn (ha pos pins s σ H _ I h) λ us s1 ⟨vs,H1,I1,r1,q1⟩=>?_) (by rw [hs,hs2]) (by rw [hs2]; rfl)))
 obtain ⟨i,j,e,⟨q1,q2,q3,q4⟩,q⟩:=q1
 subst e
 cases r1 with
 | cons r rr =>
  cases rr with
  | cons r' rr =>
   cases rr
   obtain ⟨t,rfl⟩:=r
   obtain ⟨t',rfl⟩:=r'
   exact call_range_2 (b6B I1 q1 q2 q3 q4 q)
def tFor (wi:TI) (g:TG) (tb:TS):TS:=λ D σ H=>wi σ H λ J H1=>∃ W:Nat->Nat->St->Hp->Prop,(∃ m,W 0 m σ H1)/\∀ i m σ H,W i m σ H ->
 (J.stop i H/\D.nx σ H)\/(J.go i H/\∃ N:St->Hp->Prop,(∀ σ' H',N σ' H'->∃ m',m' < m/\W (i+1) m' σ' H')/\∀ x H',J.yld i H x H'->g x σ H' λ σ2 H2=>tb { D with nx:=N,ct:=N,bk:=D.nx } σ2 H2)
def a7C (fp:List Addr) (h:Heap):List (Addr × Obj):=fp.filterMap λ b=>(h.get? b).map λ o=>(b,o)
theorem a3W {fp:List Addr} {h:Heap} {b:Addr} {o:Obj} (hb:b∈fp) (e:h.get? b=some o):(b,o)∈a7C fp h:=List.mem_filterMap.mpr ⟨b,hb,by rw [e]; rfl⟩
theorem b9G {fp:List Addr} {h:Heap} {p:Addr × Obj} (hp:p∈a7C fp h):p.1∈fp/\h.get? p.1=some p.2:=by
 obtain ⟨b,hb,e⟩:=List.mem_filterMap.mp hp
 cases q:h.get? b with
 | none=>rw [q] at e; cases e
 | some o =>
  rw [q] at e
  have e':(b,o)=p:=Option.some.inj e
  subst e'
  exact ⟨hb,q⟩
theorem Inv.pinned {pins:List (Addr × Obj)} {σ:St} {H:Hp} {s:Shared} {fp:List Addr} (I:Inv X pins σ H s) (hf:∀ b∈fp,FpOk X pins H b) (ho:∀ b∈fp,∃ o,s.heap.get? b=some o/\∀ v,o.data ≠ .cell v):Inv X (pins++a7C fp s.heap) σ H s :=
 I.pins_of λ p hp=>(List.mem_append.mp hp).elim (λ z=>I.pin p (List.mem_append_right _ z)) λ z=>by
  obtain ⟨hb,e⟩:=b9G z
  obtain ⟨f0,f1,f2,_⟩:=hf p.1 hb
  obtain ⟨o,e',d⟩:=ho p.1 hb
  rw [e] at e'; cases e'
  exact ⟨e,f0,f1,f2,d⟩
theorem Inv.unpinned {pins pl:List (Addr × Obj)} {σ:St} {H:Hp} {s:Shared} (I:Inv X (pins++pl) σ H s):Inv X pins σ H s:=I.pins_of λ p hp=>I.pin p (List.mem_append_right _ (List.mem_append_left _ hp))
theorem a1Q {iter:Expr} {body:List Stmt} {wi:TI} {g:TG} {tb:TS} {pos:Pos} (hp:PassesOwn (model X.prog X.w) X.A X.env X.xe) (hc:X.calm=true) (hi:PI X tg iter wi) (hg:PG X tg g) (hb:PSs X body tb)
  (hs:∀ x,foldedSetIterable iter X.env x=pure x:=by intro _; rfl):PS X (.For tg iter body [] pos) (tFor wi g tb):=by
 intro pins s σ H D I h
 refine wpAny_For (thn (hi pins s σ H _ I h) λ v s1 h1=>thn h1 λ itv s2 h2=>?_) hs
 obtain ⟨it,fp,tn,J,H2,e,I2,T,st2,f2,W,⟨m0,w0⟩,turn⟩:=h2
 subst e
 have stat:∀ {H':Hp},(∀ b∈fp,H' b=none)->∀ b∈fp,FpOk X pins H' b:=λ hn b hb=>⟨hn b hb,(f2 b hb).2⟩
 refine codeAny_forLoop_any (λ n s'=>∃ i σ' H',Inv X pins σ' H' s'/\tn i s'.heap/\(∀ b∈fp,H' b=none)/\W i n σ' H') ?_ m0 ⟨0,σ,H2,I2,st2,λ b hb=>(f2 b hb).1,w0⟩
 rintro n s3 ⟨i,σ3,H3,I3,st3,fr3,w3⟩
 rcases turn i n σ3 H3 w3 with ⟨stop,qn⟩ | ⟨go,N,hN,step⟩
 ·refine wpAny_passesOwn hp (thn (T.done X rfl rfl rfl hc i pins s3 σ3 H3 X.xe I3 (stat fr3) st3 stop) λ r s4 ⟨hr,I4⟩=>?_)
  subst hr
  exact wpAny_execs_nil ⟨σ3,H3,I4,qn⟩
 ·refine wpAny_passesOwn hp (thn (T.item X rfl rfl rfl hc i pins s3 σ3 H3 X.xe I3 (stat fr3) st3 go) λ r s4 ⟨u,hr,h4⟩=>?_)
  subst hr
  refine wpAny_passesOwn hp (thn h4 λ _ s5 ⟨x,H5,I5,r5,y5,st5,fr5⟩=>?_)
  have I5':=I5.pinned (stat fr5) (T.obj _ _ st5)
  refine wpAny_passesOwn hp (thn (hg _ s5 σ3 H5 x u _ I5' r5 (step x H5 y5)) λ _ s6 ⟨σ6,H6,I6,q6⟩=>?_)
  refine wpAny_passesOwn hp (thn (hb _ s6 σ6 H6 _ I6 q6) λ f s7 q7=>?_)
  have again:∀ {σ7:St} {H7:Hp},Inv X (pins++a7C fp s5.heap) σ7 H7 s7->N σ7 H7->∃ m,m < n/\∃ i σ' H',Inv X pins σ' H' s7/\tn i s7.heap/\(∀ b∈fp,H' b=none)/\W i m σ' H':=λ {σ7 H7} I7 n7=>by
   obtain ⟨m',hm,w7⟩:=hN σ7 H7 n7
   refine ⟨m',hm,i+1,σ7,H7,I7.unpinned,T.keep _ _ _ st5 λ b hb o e=>(I7.pin (b,o) (List.mem_append_right _ (List.mem_append_right _ (a3W hb e)))).1,λ b hb=>?_,w7⟩
   obtain ⟨o,e,d⟩:=T.obj _ _ st5 b hb
   exact (I7.pin (b,o) (List.mem_append_right _ (List.mem_append_right _ (a3W hb e)))).2.1
  cases f with
  | next=>obtain ⟨σ7,H7,I7,n7⟩:=q7; exact again I7 n7
  | cont=>obtain ⟨σ7,H7,I7,n7⟩:=q7; exact again I7 n7
  | brk=>obtain ⟨σ7,H7,I7,q7⟩:=q7; exact ⟨σ7,H7,I7.unpinned,q7⟩
  | ret v=>obtain ⟨x7,σ7,H7,I7,r7,q7⟩:=q7; exact ⟨x7,σ7,H7,I7.unpinned,r7,q7⟩
end
theorem a2G {K:Φρ} {a:Addr} {xs:List V} {g:TG} {tb:TS} {D:Ends} {σ:St} {H:Hp} (Pv:Nat->St->Hp->Prop) (h0:Pv 0 σ H) (hl:∀ i σ H,i<=xs.length->Pv i σ H->SqL K H a xs)
  (hs:∀ i x σ H,xs[i]?=some x->Pv i σ H->g x σ H λ σ2 H2=>tb { D with nx:=Pv (i+1),ct:=Pv (i+1),bk:=D.nx } σ2 H2) (hd:∀ σ H,Pv xs.length σ H->D.nx σ H) :
  ∃ W:Nat->Nat->St->Hp->Prop,(∃ m,W 0 m σ H)/\∀ i m σ H,W i m σ H ->
   ((Itl K a).stop i H/\D.nx σ H)\/((Itl K a).go i H/\∃ N:St->Hp->Prop,(∀ σ' H',N σ' H'->∃ m',m' < m/\W (i+1) m' σ' H')/\∀ x H',(Itl K a).yld i H x H'->g x σ H' λ σ2 H2=>tb { D with nx:=N,ct:=N,bk:=D.nx } σ2 H2):=by
 refine ⟨λ i m σ H=>m=xs.length - i/\i<=xs.length/\Pv i σ H,⟨xs.length,by simp,Nat.zero_le _,h0⟩,?_⟩
 rintro i m σ H ⟨rfl,hi,p⟩
 have q:=hl i σ H hi p
 by_cases hlt:i < xs.length
 ·refine .inr ⟨⟨xs,xs[i],q,by simp [hlt]⟩,Pv (i+1),λ σ' H' p'=>⟨xs.length - (i+1),by omega,rfl,hlt,p'⟩,λ x H' y=>?_⟩
  obtain ⟨e,y⟩:=y
  subst e
  exact hs i x σ _ (y xs q) p
 ·have e:i=xs.length:=by omega
  subst e
  exact .inl ⟨⟨xs,q,Nat.le_refl _⟩,hd σ H p⟩
theorem a3D {lo:Int} {n:Nat} {g:TG} {tb:TS} {D:Ends} {σ:St} {H:Hp} (Pv:Nat->St->Hp->Prop) (h0:Pv 0 σ H)
  (hs:∀ i σ H,i < n->Pv i σ H->g (.int (lo+i)) σ H λ σ2 H2=>tb { D with nx:=Pv (i+1),ct:=Pv (i+1),bk:=D.nx } σ2 H2) (hd:∀ σ H,Pv n σ H->D.nx σ H) :
  ∃ W:Nat->Nat->St->Hp->Prop,(∃ m,W 0 m σ H)/\∀ i m σ H,W i m σ H ->
   ((Itr lo n).stop i H/\D.nx σ H)\/((Itr lo n).go i H/\∃ N:St->Hp->Prop,(∀ σ' H',N σ' H'->∃ m',m' < m/\W (i+1) m' σ' H')/\∀ x H',(Itr lo n).yld i H x H'->g x σ H' λ σ2 H2=>tb { D with nx:=N,ct:=N,bk:=D.nx } σ2 H2):=by
 refine ⟨λ i m σ H=>m=n - i/\i<=n/\Pv i σ H,⟨n,by simp,Nat.zero_le _,h0⟩,?_⟩
 rintro i m σ H ⟨rfl,hi,p⟩
 by_cases hlt:i < n
 ·refine .inr ⟨hlt,Pv (i+1),λ σ' H' p'=>⟨n - (i+1),by omega,rfl,hlt,p'⟩,λ x H' y=>?_⟩
  obtain ⟨e,y⟩:=y
  subst e y
  exact hs i σ _ hlt p
 ·have e:i=n:=by omega
  subst e
  exact .inl ⟨Nat.le_refl _,hd σ H p⟩
end L2
namespace L2
open PySem PySem.Spec PyProof.Rows
abbrev R2:=V->V->Hp->VK->Prop
def OpR (X:Cx) (f:Value->Value->Sem Value) (r:R2):Prop :=
 ∀ (pins:List (Addr × Obj)) (s:Shared) (σ:St) (H:Hp) (x y:V) (v u:Value) (Q:VK),Inv X pins σ H s->RelV x v->RelV y u->r x y H Q ->
  wpAny (model X.prog X.w) X.A (f v u) (EP X pins σ Q) X.xe s
def UnR (X:Cx) (f:Value->Sem Value) (r:V->Hp->VK->Prop):Prop :=
 ∀ (pins:List (Addr × Obj)) (s:Shared) (σ:St) (H:Hp) (x:V) (v:Value) (Q:VK),Inv X pins σ H s->RelV x v->r x H Q ->
  wpAny (model X.prog X.w) X.A (f v) (EP X pins σ Q) X.xe s
def CallR (X:Cx) (f:Value) (r:List V->Hp->VK->Prop):Prop :=
 ∀ (pins:List (Addr × Obj)) (s:Shared) (σ:St) (H:Hp) (xs:List V) (us:List Value) (Q:VK),Inv X pins σ H s->Vals xs us->r xs H Q ->
  wpAny (model X.prog X.w) X.A (call f us) (EP X pins σ Q) X.xe s
def TruR (X:Cx) (r:V->Hp->(Bool->Hp->Prop)->Prop):Prop :=
 ∀ (pins:List (Addr × Obj)) (s:Shared) (σ:St) (H:Hp) (x:V) (v:Value) (Q:Bool->Hp->Prop),Inv X pins σ H s->RelV x v->r x H Q ->
  wpAny (model X.prog X.w) X.A (truthy v) (TP X pins σ Q) X.xe s
def tOp (r:R2) (ta tb:TE):TE:=λ σ H Q=>ta σ H λ x H1=>tb σ H1 λ y H2=>r x y H2 Q
def tUn (r:V->Hp->VK->Prop) (ta:TE):TE:=λ σ H Q=>ta σ H λ x H1=>r x H1 Q
def rI (C:Int->Int->Prop) (g:Int->Int->V):R2:=λ x y H Q=>∃ i j,x = .int i/\y = .int j/\C i j/\Q (g i j) H
def rI0 (g:Int->Int->V):R2:=λ x y H Q=>∃ i j,x = .int i/\y = .int j/\Q (g i j) H
def rU (g:Int->V):V->Hp->VK->Prop:=λ x H Q=>∃ i,x = .int i/\Q (g i) H
section
variable {X:Cx} {a b c:Expr} {ta tb tc:TE} {pos:Pos}
theorem binT (ha:PE X a ta) (hb:PE X b tb) {pins:List (Addr × Obj)} {s:Shared} {σ:St} {H:Hp} {R:V->V->Hp->Prop} (I:Inv X pins σ H s)
  (h:ta σ H λ x H1=>tb σ H1 λ y H2=>R x y H2) {Q:Value->Shared->Prop} {f:Value->Value->Sem Value}
  (hf:∀ v u s2 x y H2,Inv X pins σ H2 s2->RelV x v->RelV y u->R x y H2->wpAny (model X.prog X.w) X.A (f v u) Q X.xe s2) :
  wpAny (model X.prog X.w) X.A (eval a X.env) (λ v s₁=>wpAny (model X.prog X.w) X.A (eval b X.env) (λ u s₂=>wpAny (model X.prog X.w) X.A (f v u) Q X.xe s₂) X.xe s₁) X.xe s:=by
 refine thn (ha pins s σ H _ I h) λ v s1 ⟨x,H1,I1,r1,q1⟩=>?_
 refine thn (hb pins s1 σ H1 _ I1 q1) λ u s2 ⟨y,H2,I2,r2,q2⟩=>?_
 exact hf v u s2 x y H2 I2 r1 r2 q2
theorem a0Q {op:Operator} {r:R2} (ho:OpR X (binaryOp op) r) (ha:PE X a ta) (hb:PE X b tb):PE X (.BinOp a op b pos) (tOp r ta tb):=by
 intro pins s σ H Q I h
 exact wpAny_BinOp (binT ha hb I h λ v u s2 x y H2 I2 rx ry q=>ho pins s2 σ H2 x y v u Q I2 rx ry q)
theorem c3Z {op:UnaryOp} {r:V->Hp->VK->Prop} (ho:UnR X (unaryOp op) r) (ha:PE X a ta):PE X (.UnaryOp op a pos) (tUn r ta):=by
 intro pins s σ H Q I h
 exact UnaryOp_ (thn (ha pins s σ H _ I h) λ v s1 ⟨x,H1,I1,r1,q1⟩=>ho pins s1 σ H1 x v Q I1 r1 q1)
theorem opI {f:Value->Value->Sem Value} {C:Int->Int->Prop} {g:Int->Int->Int}
  (rule:∀ (i j:Int) (t u:Tok) (s:Shared) (Q:Value->Shared->Prop) (E:Value->Shared->Prop),C i j->Q (.int (g i j) s.toks) { s with toks:=s.toks+1 }->wpAny (model X.prog X.w) X.A (f (.int i t) (.int j u)) Q E s) :
  OpR X f (rI C λ i j=>.int (g i j)):=by
 intro pins s σ H x y v u Q I rx ry h
 obtain ⟨i,j,rfl,rfl,hc,q⟩:=h
 obtain ⟨t,rfl⟩:=rx
 obtain ⟨t',rfl⟩:=ry
 exact rule i j t t' s _ _ hc ⟨.int (g i j),H,I.tok _,⟨_,rfl⟩,q⟩
theorem opI0 {f:Value->Value->Sem Value} {g:Int->Int->Int}
  (rule:∀ (i j:Int) (t u:Tok) (s:Shared) (Q:Value->Shared->Prop) (E:Value->Shared->Prop),Q (.int (g i j) s.toks) { s with toks:=s.toks+1 }->wpAny (model X.prog X.w) X.A (f (.int i t) (.int j u)) Q E s) :
  OpR X f (rI0 λ i j=>.int (g i j)):=by
 intro pins s σ H x y v u Q I rx ry h
 obtain ⟨i,j,rfl,rfl,q⟩:=h
 obtain ⟨t,rfl⟩:=rx
 obtain ⟨t',rfl⟩:=ry
 exact rule i j t t' s _ _ ⟨.int (g i j),H,I.tok _,⟨_,rfl⟩,q⟩
theorem opB0 {f:Value->Value->Sem Value} {g:Int->Int->Bool}
  (rule:∀ (i j:Int) (t u:Tok) (s:Shared) (Q:Value->Shared->Prop) (E:Value->Shared->Prop),Q (.bool (g i j)) s->wpAny (model X.prog X.w) X.A (f (.int i t) (.int j u)) Q E s) :
  OpR X f (rI0 λ i j=>.bl (g i j)):=by
 intro pins s σ H x y v u Q I rx ry h
 obtain ⟨i,j,rfl,rfl,q⟩:=h
 obtain ⟨t,rfl⟩:=rx
 obtain ⟨t',rfl⟩:=ry
 exact rule i j t t' s _ _ ⟨.bl (g i j),H,I,rfl,q⟩
def CDiv (i j:Int):Prop:=0 < j/\j < 1073741824
def CPow (i j:Int):Prop:=0<=j/\j<=1000000/\i.natAbs < 2 ^ 64
def CMul (i j:Int):Prop:=(-(2 ^ 64) < i/\i < 2 ^ 64)\/(-(2 ^ 64) < j/\j < 2 ^ 64)
theorem CMul.ok {i j:Int} (h:CMul i j):IntMulOk i j:=by
 rcases h with ⟨h1,h2⟩ | ⟨h1,h2⟩
 ·exact .of_left (intBits_le_64 h1 h2)
 ·exact .of_right (intBits_le_64 h1 h2)
theorem b7V (k:Nat):(0:Int)<=2 ^ k:=by
 rw [two_pow_cast]
 exact Int.natCast_nonneg _
theorem a3M:OpR X (binaryOp .Add) (rI0 λ i j=>.int (i+j)):=opI0 λ _ _ _ _ _ _ _ q=>add_int q
theorem a3E:OpR X (binaryOp .Sub) (rI0 λ i j=>.int (i - j)):=opI0 λ _ _ _ _ _ _ _ q=>sub_int q
theorem a7D:OpR X (binaryOp .Mult) (rI CMul λ i j=>.int (i*j)):=opI λ _ _ _ _ _ _ _ hc q=>mul_int q hc.ok
theorem a8H:OpR X (binaryOp .FloorDiv) (rI CDiv λ i j=>.int (i / j)):=opI λ i j _ _ _ _ _ hc q=>by
 have h1:(0:Int) < j:=hc.1
 have h2:j < 1073741824:=hc.2
 exact floordiv_int (by omega) (by rw [Int.fdiv_eq_ediv_of_nonneg i (by omega)]; exact q) (.inl (PyProof.noPylong_small (by omega)))
theorem a3N:OpR X (binaryOp .Mod) (rI (λ _ j=>0 < j) λ i j=>.int (i % j)):=opI λ i j _ _ _ _ _ hc q=>by
 have h1:(0:Int) < j:=hc
 exact mod_int' (by omega) (by rw [Int.fmod_eq_emod_of_nonneg i (by omega)]; exact q)
theorem a8I:OpR X (binaryOp .Pow) (rI CPow λ i j=>.int (i ^ j.toNat)):=opI λ _ _ _ _ _ _ _ hc q=>pow_int_small hc.1 hc.2.1 hc.2.2 q
theorem a3X:OpR X (binaryOp .LShift) (rI CPow λ i j=>.int (i*2 ^ j.toNat)):=opI λ _ _ _ _ _ _ _ hc q=>lshift_int_small hc.1 hc.2.1 hc.2.2 q
theorem d0Z:OpR X (binaryOp .RShift) (rI (λ _ j=>0<=j) λ i j=>.int (i / 2 ^ j.toNat)):=opI λ i j _ _ _ _ _ hc q =>
 rshift_int hc (by rw [Int.fdiv_eq_ediv_of_nonneg i (b7V _)]; exact q)
theorem b2E:OpR X (binaryOp .BitAnd) (rI0 λ i j=>.int (Builtin.bitAnd i j)):=opI0 λ _ _ _ _ _ _ _ q=>and_int q
theorem b4Q:OpR X (binaryOp .BitOr) (rI0 λ i j=>.int (Builtin.bitOr i j)):=opI0 λ _ _ _ _ _ _ _ q=>or_int q
theorem unI {f:Value->Sem Value} {g:Int->Int}
  (rule:∀ (i:Int) (t:Tok) (s:Shared) (Q:Value->Shared->Prop) (E:Value->Shared->Prop),Q (.int (g i) s.toks) { s with toks:=s.toks+1 }->wpAny (model X.prog X.w) X.A (f (.int i t)) Q E s) :
  UnR X f (rU λ i=>.int (g i)):=by
 intro pins s σ H x v Q I rx h
 obtain ⟨i,rfl,q⟩:=h
 obtain ⟨t,rfl⟩:=rx
 exact rule i t s _ _ ⟨.int (g i),H,I.tok _,⟨_,rfl⟩,q⟩
theorem b6C:UnR X (unaryOp .USub) (rU λ i=>.int (-i)):=unI λ _ _ _ _ _ q=>neg_int q
end
def scal:V->V->Bool
 | .non,.non=>true | .non,.int _=>true | .int _,.non=>true | .non,.bl _=>true | .bl _,.non=>true | .non,.str _=>true | .str _,.non=>true
 | .int _,.int _=>true | .bl _,.bl _=>true | .str _,.str _=>true | .byt _,.byt _=>true
 | .int _,.str _=>true | .str _,.int _=>true | .bl _,.str _=>true | .str _,.bl _=>true
 | _,_=>false
def rEq:R2:=λ x y H Q=>scal x y=true/\Q (.bl (decide (x=y))) H
def rNe:R2:=λ x y H Q=>scal x y=true/\Q (.bl (!decide (x=y))) H
theorem b9H {i j:Int}:decide (V.int i=V.int j)=(i == j):=by
 rw [Bool.eq_iff_iff]
 simp
theorem c6X {i j:Bool}:decide (V.bl i=V.bl j)=(i == j):=by
 rw [Bool.eq_iff_iff]
 simp
theorem b9I {i j:Str}:decide (V.str i=V.str j)=(i == j):=by
 rw [Bool.eq_iff_iff]
 simp
theorem b9J {i j:Array UInt8}:decide (V.byt i=V.byt j)=(i.toList == j.toList):=by
 rw [Bool.eq_iff_iff]
 cases i
 cases j
 simp
section
variable {X:Cx} {a b c:Expr} {ta tb tc:TE} {pos:Pos}
theorem a1F {pins:List (Addr × Obj)} {σ:St} {H:Hp} {s:Shared} {Q:VK} {k k':Bool} (I:Inv X pins σ H s) (q:Q (.bl k) H) (e:k=k'):EP X pins σ Q (.bool k') s:=by
 subst e
 exact ⟨.bl k,H,I,rfl,q⟩
theorem a3Q:OpR X (compareOp .Eq) rEq:=by
 intro pins s σ H x y v u Q I rx ry h
 obtain ⟨hs,q⟩:=h
 cases x with
 | non =>
  cases rx
  cases y with
  | non=>cases ry; exact PySem.EqNone.eq_none_none (a1F I q (by simp))
  | bl j=>cases ry; exact PySem.EqNone.eq_none_bool (a1F I q (by simp))
  | int j=>obtain ⟨t',rfl⟩:=ry; exact PySem.EqNone.eq_none_int (a1F I q (by simp))
  | str j=>obtain ⟨t',rfl⟩:=ry; exact PySem.EqNone.eq_none_str (a1F I q (by simp))
  | _=>exact absurd (show false=true from hs) Bool.false_ne_true
 | bl i =>
  cases rx
  cases y with
  | non=>cases ry; exact PySem.EqNone.eq_bool_none (a1F I q (by simp))
  | bl j=>cases ry; exact eq_bool (a1F I q c6X)
  | str j=>obtain ⟨t',rfl⟩:=ry; exact PySem.EqMixed.eq_bool_str (a1F I q (by simp))
  | _=>exact absurd (show false=true from hs) Bool.false_ne_true
 | int i =>
  obtain ⟨t,rfl⟩:=rx
  cases y with
  | non=>cases ry; exact PySem.EqNone.eq_int_none (a1F I q (by simp))
  | int j=>obtain ⟨t',rfl⟩:=ry; exact eq_int (a1F I q b9H)
  | str j=>obtain ⟨t',rfl⟩:=ry; exact PySem.EqMixed.eq_int_str (a1F I q (by simp))
  | _=>exact absurd (show false=true from hs) Bool.false_ne_true
 | str i =>
  obtain ⟨t,rfl⟩:=rx
  cases y with
  | non=>cases ry; exact PySem.EqNone.eq_str_none (a1F I q (by simp))
  | bl j=>cases ry; exact PySem.EqMixed.eq_str_bool (a1F I q (by simp))
  | int j=>obtain ⟨t',rfl⟩:=ry; exact PySem.EqMixed.eq_str_int (a1F I q (by simp))
  | str j=>obtain ⟨t',rfl⟩:=ry; exact eq_str (a1F I q b9I)
  | _=>exact absurd (show false=true from hs) Bool.false_ne_true
 | byt i =>
  obtain ⟨t,rfl⟩:=rx
  cases y with
  | byt j=>obtain ⟨t',rfl⟩:=ry; exact PySem.W.eq_bytes (a1F I q b9J)
  | _=>exact absurd (show false=true from hs) Bool.false_ne_true
 | _=>cases y <;> exact absurd (show false=true from hs) Bool.false_ne_true
theorem b7W:OpR X (compareOp .NotEq) rNe:=by
 intro pins s σ H x y v u Q I rx ry h
 obtain ⟨hs,q⟩:=h
 cases x with
 | non =>
  cases rx
  cases y with
  | non=>cases ry; exact PySem.EqNone.ne_none_none (a1F I q (by simp))
  | bl j=>cases ry; exact PySem.EqNone.ne_none_bool (a1F I q (by simp))
  | int j=>obtain ⟨t',rfl⟩:=ry; exact PySem.EqNone.ne_none_int (a1F I q (by simp))
  | str j=>obtain ⟨t',rfl⟩:=ry; exact PySem.EqNone.ne_none_str (a1F I q (by simp))
  | _=>exact absurd (show false=true from hs) Bool.false_ne_true
 | bl i =>
  cases rx
  cases y with
  | non=>cases ry; exact PySem.EqNone.ne_bool_none (a1F I q (by simp))
  | bl j=>cases ry; exact ne_bool (a1F I q (congrArg not c6X))
  | str j=>obtain ⟨t',rfl⟩:=ry; exact PySem.EqMixed.ne_bool_str (a1F I q (by simp))
  | _=>exact absurd (show false=true from hs) Bool.false_ne_true
 | int i =>
  obtain ⟨t,rfl⟩:=rx
  cases y with
  | non=>cases ry; exact PySem.EqNone.ne_int_none (a1F I q (by simp))
  | int j=>obtain ⟨t',rfl⟩:=ry; exact ne_int (a1F I q (congrArg not b9H))
  | str j=>obtain ⟨t',rfl⟩:=ry; exact PySem.EqMixed.ne_int_str (a1F I q (by simp))
  | _=>exact absurd (show false=true from hs) Bool.false_ne_true
 | str i =>
  obtain ⟨t,rfl⟩:=rx
  cases y with
  | non=>cases ry; exact PySem.EqNone.ne_str_none (a1F I q (by simp))
  | bl j=>cases ry; exact PySem.EqMixed.ne_str_bool (a1F I q (by simp))
  | int j=>obtain ⟨t',rfl⟩:=ry; exact PySem.EqMixed.ne_str_int (a1F I q (by simp))
  | str j=>obtain ⟨t',rfl⟩:=ry; exact ne_str (a1F I q (congrArg not b9I))
  | _=>exact absurd (show false=true from hs) Bool.false_ne_true
 | byt i =>
  obtain ⟨t,rfl⟩:=rx
  cases y with
  | byt j=>obtain ⟨t',rfl⟩:=ry; exact PySem.W.ne_bytes (a1F I q (congrArg not b9J))
  | _=>exact absurd (show false=true from hs) Bool.false_ne_true
 | _=>cases y <;> exact absurd (show false=true from hs) Bool.false_ne_true
theorem b7X:OpR X (compareOp .Lt) (rI0 λ i j=>.bl (decide (i < j))):=opB0 λ _ _ _ _ _ _ _ q=>lt_int q
theorem d1A:OpR X (compareOp .LtE) (rI0 λ i j=>.bl (decide (i<=j))):=opB0 λ _ _ _ _ _ _ _ q=>le_int q
theorem b4R:OpR X (compareOp .Gt) (rI0 λ i j=>.bl (decide (j < i))):=opB0 λ _ _ _ _ _ _ _ q=>gt_int q
theorem d3Q:OpR X (compareOp .GtE) (rI0 λ i j=>.bl (decide (j<=i))):=opB0 λ _ _ _ _ _ _ _ q=>ge_int q
theorem b6D : OpR X (compareOp .Is) (fun x y H Q => y = .non /\ Q (.bl (decide (x = .non))) H) := by
  intro pins s σ H x y v u Q I rx ry h
  obtain ⟨rfl, q⟩ := h
  cases ry
  refine is_none_gen (a1F I q ?_)
  cases x <;> first
    | (cases rx; rfl)
    | (obtain ⟨t, rfl⟩ := rx; rfl)
theorem a5M : OpR X (compareOp .IsNot) (fun x y H Q => y = .non /\ Q (.bl (!decide (x = .non))) H) := by
  intro pins s σ H x y v u Q I rx ry h
  obtain ⟨rfl, q⟩ := h
  cases ry
  refine isnot_none_gen (a1F I q ?_)
  cases x <;> first
    | (cases rx; rfl)
    | (obtain ⟨t, rfl⟩ := rx; rfl)
theorem a0U (b:Expr) {op:CmpOp} (h:op ≠ .In:=by decide) (h2:op ≠ .NotIn:=by decide):behindInMarks op b=false:=by
 have e1:(op == CmpOp.In)=false:=by cases op <;> first | rfl | exact absurd rfl h
 have e2:(op == CmpOp.NotIn)=false:=by cases op <;> first | rfl | exact absurd rfl h2
 cases b <;> simp [behindInMarks,e1,e2]
theorem a4E {op:CmpOp} {r:R2} (ho:OpR X (compareOp op) r) (ha:PE X a ta) (hb:PE X b tb) (hm:behindInMarks op b=false):PE X (.Compare a [op] [b] pos) (tOp r ta tb):=by
 intro pins s σ H Q I h
 exact wpAny_Compare1 (binT ha hb I h λ v u s2 x y H2 I2 rx ry q=>ho pins s2 σ H2 x y v u Q I2 rx ry q) hm
def d3R (t:TE):TT:=λ σ H Q=>t σ H λ x H'=>∃ k,x = .bl k/\Q k H'
theorem a0P {op:CmpOp} {r:R2} (ho:OpR X (compareOp op) r) (ha:PE X a ta) (hb:PE X b tb) (hm:behindInMarks op b=false):PT X (.Compare a [op] [b] pos) (d3R (tOp r ta tb)):=by
 intro pins s σ H Q I h
 refine wpAny_isTrue_Compare1 (thn (ha pins s σ H _ I h) λ v s1 ⟨x,H1,I1,r1,q1⟩=>thn (hb pins s1 σ H1 _ I1 q1) λ u s2 ⟨y,H2,I2,r2,q2⟩ =>
  thn (ho pins s2 σ H2 x y v u _ I2 r1 r2 q2) λ c s3 ⟨z,H3,I3,r3,k,e,q3⟩=>?_) hm
 subst e
 cases r3
 exact wpAny_truthy_bool ⟨H3,I3,q3⟩
def d1B (r r':R2) (ta tb tc:TE):TE:=λ σ H Q=>ta σ H λ x H1=>tb σ H1 λ y H2=>r x y H2 λ z H3=>∃ k,z = .bl k /\
 (if k=true then tc σ H3 λ w' H4=>r' y w' H4 Q else Q (.bl false) H3)
theorem c4A {op op':CmpOp} {r r':R2} (ho:OpR X (compareOp op) r) (ho':OpR X (compareOp op') r') (ha:PE X a ta) (hb:PE X b tb) (hc:PE X c tc)
  (hm:lastMarks [op,op'] [b,c]=false:=by with_unfolding_all rfl):PE X (.Compare a [op,op'] [b,c] pos) (d1B r r' ta tb tc):=by
 intro pins s σ H Q I h
 refine Compare_chain (thn (ha pins s σ H _ I h) λ v s1 ⟨x,H1,I1,r1,q1⟩=>chain_link (thn (hb pins s1 σ H1 _ I1 q1) λ u s2 ⟨y,H2,I2,r2,q2⟩ =>
  thn (ho pins s2 σ H2 x y v u _ I2 r1 r2 q2) λ d s3 ⟨z,H3,I3,r3,k,e,q3⟩=>?_)) hm
 subst e
 cases r3
 refine wpAny_truthy_bool ?_
 cases k with
 | false=>exact ite_ff ⟨.bl false,H3,I3,rfl,q3⟩
 | true=>exact ite_tt (chain_last (thn (hc pins s3 σ H3 _ I3 q3) λ w' s4 ⟨z',H4,I4,r4,q4⟩=>ho' pins s4 σ H4 y z' u w' Q I4 r2 r4 q4))
def TruV (K:Φρ) (x:V) (H:Hp) (k:Bool):Prop :=
 match x with
 | .non=>k=false
 | .bl b=>k=b
 | .int i=>k=(i != 0)
 | .str y=>y.length<=sizeLine/\k=((y.length:Int) != 0)
 | .byt y=>y.size<=sizeLine/\k=((y.size:Int) != 0)
 | .ref p=>(∃ xs,SqL K H p xs/\k = !xs.isEmpty)\/(∃ xs,SqT K H p xs/\k = !xs.isEmpty)\/∃ kvs,H p=some (.dK kvs)/\k = !kvs.isEmpty
 | _=>False
theorem b7Y {κ:Type} {kvs:List (κ × V)} {vs:List (κ × Value)} (r:KV kvs vs):(!vs.isEmpty) = !kvs.isEmpty:=by
 cases r <;> rfl
theorem a6V {xs:List V} {its:List Value} (r:Vals xs its):(!its.toArray.isEmpty) = !xs.isEmpty:=by
 cases r <;> simp
theorem a9X:(sizeLine:Nat) < 2 ^ 63:=by rw [sizeLine_eq]; decide
theorem b9K:TruR X (λ x H Q=>∃ k,TruV X.K x H k/\Q k H):=by
 intro pins s σ H x v Q I rx h
 obtain ⟨k,e,q⟩:=h
 have hl:=a9X
 have hs:sizeLine=16777216:=sizeLine_eq
 cases x with
 | non =>
  cases rx
  have e':k=false:=e
  subst e'
  exact truthy_none ⟨H,I,q⟩
 | bl b =>
  cases rx
  have e':k=b:=e
  subst e'
  exact wpAny_truthy_bool ⟨H,I,q⟩
 | int i =>
  obtain ⟨t,rfl⟩:=rx
  have e':k=(i != 0):=e
  subst e'
  exact PySem.P.truthy_int ⟨H,I,q⟩
 | str y =>
  obtain ⟨t,rfl⟩:=rx
  obtain ⟨hy,e'⟩:y.length<=sizeLine/\k=((y.length:Int) != 0):=e
  subst e'
  exact PySem.P.truthy_str (by omega) ⟨H,I.tok _,q⟩
 | byt y =>
  obtain ⟨t,rfl⟩:=rx
  obtain ⟨hy,e'⟩:y.size<=sizeLine/\k=((y.size:Int) != 0):=e
  subst e'
  exact PySem.W.truthy_bytes (by omega) ⟨H,I.tok _,q⟩
 | ref p =>
  cases rx
  have e':(∃ xs,SqL X.K H p xs/\k = !xs.isEmpty)\/(∃ xs,SqT X.K H p xs/\k = !xs.isEmpty)\/∃ kvs,H p=some (.dK kvs)/\k = !kvs.isEmpty:=e
  rcases e' with ⟨xs,hx,e'⟩ | ⟨xs,hx,e'⟩ | ⟨kvs,hx,e'⟩
  ·subst e'
   obtain ⟨its,r,pl,hz⟩:=I.list hx
   have hlen:=r.length
   exact wpAny_truthy_list pl.isList (by simp only [List.size_toArray]; omega) ⟨H,I.tok _,by rw [a6V r]; exact q⟩
  ·subst e'
   obtain ⟨its,r,pl,hz⟩:=I.tuple hx
   have hlen:=r.length
   exact truthy_tuple pl (by simp only [List.size_toArray]; omega) ⟨H,I.tok _,by rw [a6V r]; exact q⟩
  ·subst e'
   obtain ⟨hz,hS,vs,r,m⟩:kvs.length<=sizeLine/\(p == sysModules)=false/\∃ vs,KV kvs vs/\s.heap.DictOf (b4P X.prog X.w) p vs:=I.hok p _ hx
   have hlen:kvs.length=vs.length:=Paired.length r
   exact wpAny_truthy_dict hS m (by omega) ⟨H,I.tok _,by rw [b7Y r]; exact q⟩
 | _=>exact (show False from e).elim
theorem c4B (ha:PE X a ta) (he:∀ whole,isTrue a X.env whole=(do let v <- whole; standAt a.pos; holding [v] (truthy v))) :
  PT X a (λ σ H Q=>ta σ H λ x H'=>∃ k,TruV X.K x H' k/\Q k H'):=by
 intro pins s σ H Q I h
 exact isTrue_plain (thn (ha pins s σ H _ I h) λ v s1 ⟨x,H1,I1,r1,q1⟩=>b9K pins s1 σ H1 x v Q I1 r1 q1) (he _)
theorem a5G {x:V} {us:List Value} (r:Vals [x] us):∃ u,us=[u]/\RelV x u:=by
 cases r with
 | cons r1 r2=>cases r2; exact ⟨_,rfl,r1⟩
theorem c7Q {x y:V} {us:List Value} (r:Vals [x,y] us):∃ u w',us=[u,w']/\RelV x u/\RelV y w':=by
 cases r with
 | cons r1 r2 =>
  cases r2 with
  | cons r3 r4=>cases r4; exact ⟨_,_,rfl,r1,r3⟩
theorem b9L (hc:X.calm=true):CallR X (.builtin "max") (λ xs H Q=>∃ i j,xs=[.int i,.int j]/\Q (.int (if j > i then j else i)) H):=by
 intro pins s σ H xs us Q I r h
 obtain ⟨i,j,rfl,q⟩:=h
 obtain ⟨u,w',rfl,⟨t,rfl⟩,⟨t',rfl⟩⟩:=c7Q r
 refine max_two_ints (I.ok.hd hc) λ h' tk k=>⟨_,H,I.kept k,?_,q⟩
 by_cases hj:j > i
 ·rw [if_pos hj,if_pos hj]; exact ⟨_,rfl⟩
 ·rw [if_neg hj,if_neg hj]; exact ⟨_,rfl⟩
theorem b9M (hc:X.calm=true):CallR X (.builtin "min") (λ xs H Q=>∃ i j,xs=[.int i,.int j]/\Q (.int (if j < i then j else i)) H):=by
 intro pins s σ H xs us Q I r h
 obtain ⟨i,j,rfl,q⟩:=h
 obtain ⟨u,w',rfl,⟨t,rfl⟩,⟨t',rfl⟩⟩:=c7Q r
 refine min_two_ints (I.ok.hd hc) λ h' tk k=>⟨_,H,I.kept k,?_,q⟩
 by_cases hj:j < i
 ·rw [if_pos hj,if_pos hj]; exact ⟨_,rfl⟩
 ·rw [if_neg hj,if_neg hj]; exact ⟨_,rfl⟩
end
end L2
namespace L2
open PySem PySem.Spec PyProof.Rows
structure ObjM (h:Heap) (x dx C:Addr) (mA:Str->Option Value):Prop where
 obj:h.get? x=some (PySem.W.instObj C dx)
 ns:h.Ns1 dx mA
 ne:dx≠x
theorem b9N {h:Heap} {dx:Addr} {mA:Str->Option Value} (n:h.Ns1 dx mA):∃ od,h.get? dx=some od/\∀ name,PySem.W.lookIn name od=some (mA name):=by
 obtain ⟨o,es,ep,ho,hd,hk,_,hm⟩:=n
 refine ⟨o,ho,λ name=>?_⟩
 have e:=hm name
 unfold nsFind findBy at e
 rw [<- Array.find?_toList] at e
 unfold PySem.W.lookIn
 rw [hd]
 dsimp only
 split
 ·rename_i y q
  rw [q] at e
  exact congrArg some e
 ·rename_i q
  rw [q] at e
  have a:es.toList.any (·.refKey)=false:=by
   rw [List.any_eq_false]
   intro y hy
   obtain ⟨z,t,hkey⟩:=hk y (Array.mem_toList_iff.mp hy)
   simp [DictEntry.refKey,hkey]
  have a':¬ es.toList.any (·.refKey)=true:=by rw [a]; exact Bool.false_ne_true
  rw [if_neg a']
  exact congrArg some e
theorem ObjM.look {h:Heap} {x dx C:Addr} {mA:Str->Option Value} (I:ObjM h x dx C mA):∃ od,PySem.W.InstAt h x (PySem.W.instObj C dx) C (some od)/\∀ name,PySem.W.lookIn name od=some (mA name) :=
 let ⟨od,ho,hl⟩:=b9N I.ns
 ⟨od,⟨I.obj,rfl,rfl,ho⟩,hl⟩
section
variable {prog:Program} {w:World} {A:Around} {E:Value->Shared->Prop} {s:Shared} {K:Φρ} {x dx C f:Addr} {mA:Str->Option Value} {name:Str} {v:Value}
end
section
variable {P:Program} {w:World} {H H':Hp} {h h':Heap} {a C dx:Addr} {fs fs':List (Str × V)}
theorem c7R (hok:HOk P w H h) (e:H a=some (.ins C dx fs)):∃ mA,ObjM h a dx C mA/\(∀ f,RelO (fs.lookup f) (mA f))/\PySem.Within mA (fs.map (·.1))/\fs.length<=1000/\H dx=some (.own a):=by
 obtain ⟨d,z,ne,ob,mA,n,r,q⟩:=(show ObjOk P w H h a (.ins C dx fs) from hok a _ e)
 exact ⟨mA,⟨ob,n,ne⟩,r,q,z,d⟩
end
structure Cls (K:Φρ) (C:Addr):Prop where
 pg:PySem.W.plainGet K C Str.empty=true
 hd:PySem.W.hasDictIn K C=true
 po:PySem.W.plainOver K C=true
 sa:PySem.W.findIn K (.ref C) "__setattr__" = some (some (.builtin "object.__setattr__"))
theorem Cls.get {K:Φρ} {C:Addr} (c:Cls K C) (f:Str):PySem.W.plainGet K C f=true:=c.pg
section
variable {X:Cx} {pins:List (Addr × Obj)} {σ:St} {H:Hp} {s:Shared} {a C dx:Addr} {fs:List (Str × V)} {f:Str} {v:V} {A:Around} {E:Value->Shared->Prop}
end
section
variable {X:Cx} {o e value:Expr} {f:Str} {pos pos' tpos:Pos} {ta tv:TE}
end
section
variable {X:Cx} {pins:List (Addr × Obj)} {σ:St} {H:Hp} {s:Shared} {A:Around} {E:Value->Shared->Prop} {Q:Value->Shared->Prop} {c:Value} {b:Bool}
inductive TyOf (K:Φρ) (H:Hp):V->Value->Prop where
 | non:TyOf K H .non (.type "NoneType")
 | bl (x:Bool):TyOf K H (.bl x) (.type "bool")
 | int (i:Int):TyOf K H (.int i) (.type "int")
 | str (x:Str):TyOf K H (.str x) (.type "str")
 | flt (x:UInt64):TyOf K H (.flt x) (.type "float")
 | lst {a:Addr} {xs:List V} (e:H a=some (.lst xs)):TyOf K H (.ref a) (.type "list")
 | frz {a:Addr} {o:Obj} {xs:List V} (e:H a=some (.frz o (.lst xs))):TyOf K H (.ref a) (.type "list")
 | tup {a:Addr} {xs:List V} (e:H a=some (.tup xs)):TyOf K H (.ref a) (.type "tuple")
 | dK {a:Addr} {kvs:List (Key × V)} (e:H a=some (.dK kvs)):TyOf K H (.ref a) (.type "dict")
 | dT {a:Addr} {kvs:List (List Key × V)} (e:H a=some (.dT kvs)):TyOf K H (.ref a) (.type "dict")
 | ins {a C dx:Addr} {fs:List (Str × V)} (e:H a=some (.ins C dx fs)) (cl:Cls K C) (ha:PySem.W.findIn K (.ref C) "__class__" = some (some (.builtin "object.__class__")))
   (hn:PySem.W.specialIn K (.builtin "object.__class__") "__get__" = some (some (.builtin "getset_descriptor.__get__"))) (htk:PySem.W.takesIn K (.builtin "object.__class__")=some true)
   (hm:PySem.W.mroIn K C (.type "object")=some true):TyOf K H (.ref a) (.ref C)
theorem b9O {x:V} {u t:Value} (I:Inv X pins σ H s) (rx:RelV x u) (ty:TyOf X.K H x t) (e:PySem.W.kitOne X.K t c=some b) (h:∀ tk,Q (.bool b) { s with toks:=tk }) :
  wpAny (model X.prog X.w) A (call (.builtin "isinstance") [u,c]) Q E s:=by
 cases ty with
 | non=>cases (show u=Value.none from rx); exact PySem.W.kia_one PySem.W.kitx_none I.kIn True.intro e (λ z=>nomatch z) h
 | bl y=>cases (show u=Value.bool y from rx); exact PySem.W.kia_one PySem.W.kitx_bool I.kIn True.intro e (λ z=>nomatch z) h
 | int i=>obtain ⟨t,q⟩:=(show ∃ t,u=Value.int i t from rx); cases q; exact PySem.W.kia_one PySem.W.kitx_int I.kIn True.intro e (λ z=>nomatch z) h
 | str y=>obtain ⟨t,q⟩:=(show ∃ t,u=Value.str y t from rx); cases q; exact PySem.W.kia_one PySem.W.kitx_str I.kIn True.intro e (λ z=>nomatch z) h
 | flt y=>obtain ⟨t,q⟩:=(show ∃ t,u=Value.float y t from rx); cases q; exact PySem.W.kia_one PySem.W.kitx_float I.kIn True.intro e (λ z=>nomatch z) h
 | @lst a xs ea =>
  cases (show u=Value.ref a from rx)
  obtain ⟨_,_,n,_,h1⟩:=(show ObjOk X.prog X.w H s.heap a (.lst xs) from I.hok a _ ea)
  exact PySem.W.kia_one PySem.W.kitx_list I.kIn ⟨_,h1,rfl⟩ e (λ z=>nomatch z) h
 | @frz a ob xs ea =>
  cases (show u=Value.ref a from rx)
  obtain ⟨_,_,_,n,_,h1⟩:=(show ObjOk X.prog X.w H s.heap a (.frz ob (.lst xs)) from I.hok a _ ea)
  exact PySem.W.kia_one PySem.W.kitx_list I.kIn ⟨_,h1,rfl⟩ e (λ z=>nomatch z) h
 | @tup a xs ea =>
  cases (show u=Value.ref a from rx)
  obtain ⟨_,_,_,p⟩:=(show ObjOk X.prog X.w H s.heap a (.tup xs) from I.hok a _ ea)
  obtain ⟨o,h1,h2,_⟩:=p
  exact PySem.W.kia_one PySem.W.kitx_tuple I.kIn ⟨o,h1,h2⟩ e (λ z=>nomatch z) h
 | @dK a kvs ea =>
  cases (show u=Value.ref a from rx)
  obtain ⟨_,_,vs,_,p⟩:=(show ObjOk X.prog X.w H s.heap a (.dK kvs) from I.hok a _ ea)
  obtain ⟨o,es,ep,h1,h2,_⟩:=p
  exact PySem.W.kia_one PySem.W.kitx_dict I.kIn ⟨o,h1,h2.1⟩ e (λ z=>nomatch z) h
 | @dT a kvs ea =>
  cases (show u=Value.ref a from rx)
  obtain ⟨_,_,xs,_,o,es,ep,h1,h2,_⟩:=(show ObjOk X.prog X.w H s.heap a (.dT kvs) from I.hok a _ ea)
  exact PySem.W.kia_one PySem.W.kitx_dict I.kIn ⟨o,h1,h2.1⟩ e (λ z=>nomatch z) h
 | @ins a C dx fs ea cl ha hn htk hm =>
  cases (show u=Value.ref a from rx)
  obtain ⟨mA,O,_⟩:=c7R I.hok ea
  obtain ⟨od,J,_⟩:=O.look
  exact PySem.W.kia_one (PySem.W.kitx_own (cl.get _) cl.hd ha hn htk hm) I.kIn J e (λ z=>nomatch z) h
end
end L2
namespace L2
open PySem PySem.Spec PyProof.Rows
structure Room (k:Nat) (A:Around):Prop where
 hd:A.handled=none
 dp:A.depth+3*k+5 < recursionLimit
 un:A.units+16*k+200 < cLine
theorem Room.mono {j k:Nat} {A:Around} (r:Room k A) (h:j<=k):Room j A:=⟨r.hd,by have:=r.dp; omega,by have:=r.un; omega⟩
theorem Room.deeper {k:Nat} {A:Around} (r:Room (k+1) A) (env:Env):Room k (A.deeper env) :=
 ⟨r.hd,by have:=r.dp; show A.depth+1+3*k+5 < _; omega,by have:=r.un; show A.units+3+16*k+200 < _; omega⟩
theorem Room.depth {k:Nat} {A:Around} (r:Room k A):A.depth < recursionLimit:=by have:=r.dp; omega
theorem Room.units {k:Nat} {A:Around} (r:Room k A):A.units+64 < cLine:=by have:=r.un; omega
def tNil:TA:=λ _ H Q=>Q [] H
def c7S (ta:TE) (tr:TA):TA:=λ σ H Q=>ta σ H λ x H1=>tr σ H1 λ xs H2=>Q (x::xs) H2
section
variable {X:Cx} {e:Expr} {es:List Expr} {te:TE} {t:TA} {pos:Pos}
theorem a0B:PA X [] tNil:=λ _ _ _ _ H Q I h=>Calls.spliced_nil ⟨[],H,I,.nil,h⟩
theorem a0A (ha:PE X e te) (hr:PA X es t) (hs:starEach (e::es) X.env=(false,eval e X.env)::starEach es X.env:=by rfl):PA X (e::es) (c7S te t):=by
 intro pos pins s σ H Q I h
 rw [hs]
 show wpAny _ _ (spliced ((false,eval e X.env)::backTo pos (starEach es X.env))) _ _ s
 refine Calls.spliced_cons (thn (ha pins s σ H _ I h) λ u s1 ⟨x,H1,I1,r1,q1⟩=>?_)
 exact thn (hr pos pins s1 σ H1 _ I1 q1) λ us s2 ⟨xs,H2,I2,r2,q2⟩=>⟨x::xs,H2,I2,.cons r1 r2,q2⟩
end
abbrev Sp:=List V->Hp->VK->XK->Prop
abbrev CXT:=List Env->Hp->Shared->XK->Value->Shared->Prop
structure Env0 (P:Program) (w:World) (K:Φρ) (mg:Str->Option Value) (base:Heap) (A:Around) (outer:List Env) (s:Shared) (H:Hp):Prop where
 frames:A.frames=some outer
 mod:Mod K mg base
 bs:∀ b o,base.get? b=some o->s.heap.get? b=some o/\H b=none
 bsz:base.objs.size<=s.heap.objs.size
 funs:s.heap.FunFrames base outer
 frf:∀ b∈frs outer,H b=none
 hok:HOk P w H s.heap
 bare:AllBare s.gens
def CE (outer:List Env) (P:Program) (w:World) (H:Hp) (s:Shared) (Q:VK) (u:Value) (s':Shared):Prop :=
 ∃ v H',s'.os=s.os/\AllBare s'.gens/\Un (frs outer) [] H H' s.heap s'.heap/\HOk P w H' s'.heap/\RelV v u/\Q v H'
def CR (CX:CXT) (outer:List Env) (P:Program) (w:World) (H:Hp) (s:Shared) (Q:VK) (E:XK) (r:Result) (s':Shared):Prop :=
 match r with
 | .ok (.ret u)=>CE outer P w H s Q u s'
 | .ok _=>False
 | .error e=>CX outer H s E e s'
structure FnOk (P:Program) (w:World) (K:Φρ) (mg:Str->Option Value) (base:Heap) (CX:CXT) (k:Nat) (f:Addr) (fd:FuncData) (ps:List Str) (sp:Sp):Prop where
 len:∀ vs H Q E,sp vs H Q E->vs.length=ps.length
 run:∀ (A:Around) (outer:List Env) (s:Shared) (H:Hp) (args:Args) (us:List Value) (vs:List V) (Q:VK) (E:XK),Room k A->Env0 P w K mg base A outer s H->BindsTo s fd args (ps.zip us)->Vals vs us->sp vs H Q E ->
  codeAny (model P w) A (.call (.ref f) args) (CR CX outer P w H s Q E) s
theorem FnOk.mono {P:Program} {w:World} {K:Φρ} {mg:Str->Option Value} {base:Heap} {CX:CXT} {j k:Nat} {f:Addr} {fd:FuncData} {ps:List Str} {sp:Sp} (F:FnOk P w K mg base CX j f fd ps sp) (h:j<=k) :
  FnOk P w K mg base CX k f fd ps sp:=⟨F.len,λ A outer s H args us vs Q E hr=>F.run A outer s H args us vs Q E (hr.mono h)⟩
section
variable {X:Cx} {pins:List (Addr × Obj)} {σ:St} {H:Hp} {s s':Shared}
theorem Inv.env0 (I:Inv X pins σ H s):Env0 X.prog X.w X.K X.mg X.base X.A X.stack s H :=
 ⟨I.ok.frames,I.ok.mod,I.bs,Nat.le_trans I.ok.bsz I.sz,I.stack,I.stkFree,I.hok,I.bare⟩
theorem Inv.after {Q:VK} {u:Value} (I:Inv X pins σ H s) (h:CE X.stack X.prog X.w H s Q u s'):EP X pins σ Q u s':=by
 obtain ⟨v,H',os,bare,un,hok,r,q⟩:=h
 obtain ⟨hh,g,d,t,os'⟩:=s'
 obtain rfl:os'=s.os:=os
 exact ⟨v,H',I.call (h':=hh) (g':=g) (d':=d) (t':=t) (ch:=[]) un hok bare (λ b z=>absurd z (by simp)),r,q⟩
end
def d3S (sp:Sp) (dvs:List V) (E:XK) (t:TA):TE:=λ σ H Q=>t σ H λ vs H1=>sp (vs++dvs) H1 Q E
def Binds (K:Φρ) (fd:FuncData) (ps:List Str) (ds:List Value):Prop :=
 ∀ (s:Shared) (us:List Value),K.In s.heap->(us++ds).length=ps.length->BindsTo s fd ⟨us,[]⟩ (ps.zip (us++ds))
theorem Binds.all {K:Φρ} {fd:FuncData} {ps:List Str} (h:∀ us:List Value,us.length=ps.length->bindArgs fd ⟨us,[]⟩=pure (ps.zip us)):Binds K fd ps []:=λ s us _ hl=>by
 rw [List.append_nil] at hl ⊢
 exact .of_eq (h us hl)
def b9P (CX:CXT) (X:Cx) (E:XK):Prop:=∀ (pins:List (Addr × Obj)) (σ:St) (H:Hp) (s:Shared) (e:Value) (s':Shared),Inv X pins σ H s->CX X.stack H s E e s'->X.xe e s'
section
variable {X:Cx} {CX:CXT} {k:Nat} {f C:Addr} {fd:FuncData} {ps:List Str} {sp:Sp} {dvs:List V} {ds:List Value} {E:XK} {x m:Str} {p pos apos:Pos} {e o:Expr} {es:List Expr} {ta:TE} {t:TA}
theorem d1C {pins:List (Addr × Obj)} {σ:St} {H:Hp} {s:Shared} {Q:VK} {us:List Value} {vs:List V} (F:FnOk X.prog X.w X.K X.mg X.base CX k f fd ps sp) (hr:Room k X.A) (hb:Binds X.K fd ps ds) (hd:Vals dvs ds) (hx:b9P CX X E)
  (I:Inv X pins σ H s) (r:Vals vs us) (h:sp (vs++dvs) H Q E):wpAny (model X.prog X.w) X.A (call (.ref f) us) (EP X pins σ Q) X.xe s:=by
 have r2:Vals (vs++dvs) (us++ds):=r.append hd
 have hl:(us++ds).length=ps.length:=by rw [<- r2.length]; exact F.len _ _ _ _ h
 refine wpAny_call (codeAny_mono (F.run X.A X.stack s H ⟨us,[]⟩ (us++ds) (vs++dvs) Q E hr I.env0 (hb s us I.kIn hl) r2 h) λ r s' hq=>?_)
 cases r with
 | error e=>exact hx pins σ H s e s' I hq
 | ok fl =>
  cases fl with
  | ret u=>exact I.after hq
  | next=>exact False.elim hq
  | brk=>exact False.elim hq
  | cont=>exact False.elim hq
theorem a0G (F:FnOk X.prog X.w X.K X.mg X.base CX k f fd ps sp) (hr:Room k X.A) (hg:Gl X x) (hm:X.mg x=some (.ref f)) (hk:PySem.W.keepIn X.K (.ref f)=true) (hb:Binds X.K fd ps ds) (hd:Vals dvs ds) (hx:b9P CX X E)
  (ha:PA X (e::es) t) (hdb:(x == ("__debug__" : Str))=false:=by decide) (he:starEach (e::es) X.env=(false,eval e X.env)::starEach es X.env:=by rfl) (hpl:(backTo pos (starEach es X.env)).any (·.1)=false:=by rfl) :
  PE X (.Call (.Name x p) (e::es) [] pos) (d3S sp dvs E t):=by
 intro pins s σ H Q I h
 refine wpAny_Call_Name_kw (c7N I hg hm ?_ hdb)
 refine PySem.W.callWith_K (h₀:=X.base) I.ok.mod.kin hk (thn (ha pos pins s σ H _ I h) λ us s1 ⟨vs,H1,I1,r,q⟩=>⟨I1.kIn,?_⟩) he hpl
 exact d1C F hr hb hd hx I1 r q
end
def PK (X:Cx) (kws:List Keyword) (t:TA):Prop :=
 ∀ (pos:Pos) (pins:List (Addr × Obj)) (s:Shared) (σ:St) (H:Hp) (Q:List V->Hp->Prop),Inv X pins σ H s->t σ H Q->wpAny (model X.prog X.w) X.A (evalAll ((backToKw pos (keywordEach kws X.env)).map (·.2))) (AP X pins σ Q) X.xe s
section
variable {X:Cx} {CX:CXT} {k:Nat} {f C:Addr} {fd:FuncData} {ps ks:List Str} {sp:Sp} {E:XK} {x m:Str} {p pos apos kpos:Pos} {e o:Expr} {es:List Expr} {kws:List Keyword} {te ta:TE} {t tk:TA} {nm:Option Str}
theorem d1D:PK X [] tNil:=λ _ _ _ _ H Q I h=>wpAny_evalAll_nil ⟨[],H,I,.nil,h⟩
theorem c7T (ha:PE X e te) (hr:PK X kws t):PK X (⟨nm,e,kpos⟩::kws) (c7S te t):=by
 intro pos pins s σ H Q I h
 show wpAny _ _ (evalAll ((do let v <- eval e X.env; standAt pos; pure v)::(backToKw pos (keywordEach kws X.env)).map (·.2))) _ _ s
 refine wpAny_evalAll_cons (wpAny_bind (thn (ha pins s σ H _ I h) λ u s1 ⟨x,H1,I1,r1,q1⟩=>wpAny_bind (wpAny_standAt (wpAny_pure ?_))))
 exact thn (hr pos pins s1 σ H1 _ I1 q1) λ us s2 ⟨xs,H2,I2,r2,q2⟩=>⟨x::xs,H2,I2,.cons r1 r2,q2⟩
variable {g:List Value->List Value->List Value} {gV:List V->List V->List V}
end
structure FnScope (N P:List Str) (sc:Scope):Prop where
 kind:sc.kind = .function
 co:sc.isCoroutine=false
 gen:sc.isGenerator=false
 nd:N.Nodup
 pre:N.take P.length=P
 par:∀ x∈P,sc.names.lookup x=some .local\/sc.names.lookup x=some .cell
 nofree:∀ y∈sc.names,y.2 ≠ .free
theorem b2F {kindOf:Str->Option NameKind} {x:Str}:∀ {binds:List (Str × Value)} {m:Str->Option Value},(∀ v,(x,v) ∉ binds)->bindL kindOf binds m x=m x
 | [],_,_=>rfl
 | (n,v)::r,m,h=>by
  unfold bindL
  rw [b2F λ w hw=>h w (List.mem_cons_of_mem _ hw)]
  split
  ·have:x≠n:=by rintro rfl; exact h v List.mem_cons_self
   simp [this]
  ·rfl
theorem b2G {kindOf:Str->Option NameKind} {x:Str}:∀ {binds:List (Str × Value)} {m:Str->Option Value},(∀ v,(x,v) ∉ binds)->bindC kindOf binds m x=m x
 | [],_,_=>rfl
 | (n,v)::r,m,h=>by
  unfold bindC
  rw [b2G λ w hw=>h w (List.mem_cons_of_mem _ hw)]
  split
  ·rfl
  ·have:x≠n:=by rintro rfl; exact h v List.mem_cons_self
   simp [this]
theorem b2H {kindOf:Str->Option NameKind} {x:Str} {v:Value}:∀ {P:List Str} {vs:List Value} {i:Nat} {m:Str->Option Value},P.Nodup->P[i]?=some x->vs[i]?=some v->kindOf x=some .local ->
  bindL kindOf (P.zip vs) m x=some v
 | [],_,_,_,_,h,_,_=>by simp at h
 | _::_,[],_,_,_,_,h,_=>by simp at h
 | p::P,w::vs,0,m,nd,h1,h2,hk=>by
  simp at h1 h2; subst h1; subst h2
  show bindL kindOf ((p,w)::P.zip vs) m p=_
  unfold bindL
  rw [b2F λ v hv=>(List.nodup_cons.mp nd).1 (List.of_mem_zip hv).1,if_pos hk]
  simp
 | p::P,w::vs,i+1,m,nd,h1,h2,hk=>by
  show bindL kindOf ((p,w)::P.zip vs) m x=_
  unfold bindL
  exact b2H (i:=i) (List.nodup_cons.mp nd).2 (by simpa using h1) (by simpa using h2) hk
theorem b2I {kindOf:Str->Option NameKind} {x:Str} {v:Value}:∀ {P:List Str} {vs:List Value} {i:Nat} {m:Str->Option Value},P.Nodup->P[i]?=some x->vs[i]?=some v->kindOf x≠some .local ->
  bindC kindOf (P.zip vs) m x=some v
 | [],_,_,_,_,h,_,_=>by simp at h
 | _::_,[],_,_,_,_,h,_=>by simp at h
 | p::P,w::vs,0,m,nd,h1,h2,hk=>by
  simp at h1 h2; subst h1; subst h2
  show bindC kindOf ((p,w)::P.zip vs) m p=_
  unfold bindC
  rw [b2G λ v hv=>(List.nodup_cons.mp nd).1 (List.of_mem_zip hv).1,if_neg hk]
  simp
 | p::P,w::vs,i+1,m,nd,h1,h2,hk=>by
  show bindC kindOf ((p,w)::P.zip vs) m x=_
  unfold bindC
  exact b2I (i:=i) (List.nodup_cons.mp nd).2 (by simpa using h1) (by simpa using h2) hk
def start (N:List Str) (vs:List V):St:=vs.map some++List.replicate (N.length - vs.length) none
def cxOf (CX:CXT) (P:Program) (w:World) (K:Φρ) (mg:Str->Option Value) (base:Heap) (N:List Str) (qual:Str) (scope:Scope) (f:Addr) (cd:Value) (A:Around) (outer:List Env) (s:Shared) (H:Hp) (E:XK):Cx where
 prog:=P
 w:=w
 K:=K
 mg:=mg
 base:=base
 A:=A.deeper (envOfC qual scope s.heap.objs.size f cd)
 N:=N
 s₀:=s
 H₀:=H
 env:=envOfC qual scope s.heap.objs.size f cd
 outer:=outer
 stack:=envOfC qual scope s.heap.objs.size f cd::outer
 ex:=[]
 calm:=true
 fn:=λ _=>true
 pn:=[]
 xe:=λ e s'=>wpAny (model P w) (A.deeper (envOfC qual scope s.heap.objs.size f cd)) (leaving (envOfC qual scope s.heap.objs.size f cd) e) (λ _ s''=>CX outer H s E e s'') (λ e' s''=>CX outer H s E e' s'') s'
theorem b0V {sc:Scope} {n:Nat} {x:Str} (h:sc.names.lookup x=some .cell):∃ c,(cellsFrom n sc.names []).lookup x=some c:=by
 have q:=PySem.W.cellsFrom_some sc.names n [] (.inl h)
 exact Option.isSome_iff_exists.mp q
theorem b9Q {CX:CXT} {P:Program} {w:World} {K:Φρ} {mg:Str->Option Value} {base:Heap} {N ps:List Str} {qual:Str} {scope:Scope} {f:Addr} {cd:Value} {A:Around} {outer:List Env} {s s1:Shared} {H:Hp} {E:XK} {us:List Value} {vs:List V}
  (S:FnScope N ps scope) (hd:A.handled=none) (e0:Env0 P w K mg base A outer s H) (hl:vs.length=ps.length) (r:Vals vs us)
  (x:InCallC s s.heap.objs.size (bindL (envOfC qual scope s.heap.objs.size f cd).kindOf (ps.zip us) λ _=>none) (cellsFrom (s.heap.objs.size+1) scope.names []) (bindC (envOfC qual scope s.heap.objs.size f cd).kindOf (ps.zip us) λ _=>none) s1) :
  Inv (cxOf CX P w K mg base N qual scope f cd A outer s H E) [] (start N vs) H s1:=by
 have hpl:ps.length<=N.length:=by have:=congrArg List.length S.pre; rw [List.length_take] at this; omega
 obtain ⟨h1,tk,rfl,hk⟩:=x.done
 have noA:∀ b:Addr,b ∉ (cxOf CX P w K mg base N qual scope f cd A outer s H E).ex:=λ b z=>absurd (show b∈([]:List Addr) from z) (by simp)
 refine ⟨⟨e0.mod,S.kind,rfl,rfl,Nat.le_refl _,λ y z c h1 h2=>?_,λ y hy=>?_,λ y c _ h=>?_,λ _=>hd,Around.frames_deeper e0.frames,.inr ⟨rfl,rfl⟩,λ b z=>absurd z (noA b),e0.bs,e0.bsz,λ b _ _=>noA b,λ b z=>absurd z (noA b),e0.funs,e0.frf⟩,
  rfl,e0.bare,Un.kept hk,⟨_,x.toInCall.ns,λ i y v h1 h2 h3=>?_⟩,λ y c h=>⟨_,x.cell y c h⟩,e0.hok.fresh (Nat.le_refl _),λ y c h=>?_,λ p hp=>absurd (show p∈([]:List (Addr × Obj)) from hp) (by simp),e0.hok.kept hk,?_⟩
 ·exact name_of_addr x.apart (PySem.mem_of_lookup h1) (PySem.mem_of_lookup h2)
 ·have hy:scope.names.lookup y=some .cell\/scope.names.lookup y=some .free:=hy
  rcases hy with hy | hy
  ·exact b0V hy
  ·exact absurd rfl (S.nofree _ (PySem.mem_of_lookup hy))
 ·exact Nat.le_of_lt (x.above y c (PySem.mem_of_lookup h))
 ·have hi:i < vs.length:=by
   unfold start at h2
   by_cases hi:i < vs.length
   ·exact hi
   ·rw [List.getElem?_append_right (by simpa using hi)] at h2
    rw [List.getElem?_replicate] at h2
    split at h2 <;> cases h2
  have ha:vs[i]?=some v:=by
   unfold start at h2
   rw [List.getElem?_append_left (by simpa using hi),List.getElem?_map] at h2
   cases e:vs[i]? with
   | none=>rw [e] at h2; cases h2
   | some a=>rw [e] at h2; cases h2; rfl
  obtain ⟨u,hu,rv⟩:=r.get ha
  have hp:ps[i]?=some y:=by
   rw [<- S.pre,List.getElem?_take_of_lt (by omega)]; exact h1
  have ndP:ps.Nodup:=by rw [<- S.pre]; exact S.nd.sublist (List.take_sublist _ _)
  refine ⟨u,rv,?_⟩
  rcases S.par y (List.mem_of_getElem? hp) with k | k
  ·exact .inl ⟨k,b2H ndP hp hu k⟩
  ·obtain ⟨c,e⟩:=b0V (n:=s.heap.objs.size+1) k
   refine .inr ⟨.inl k,c,e,?_⟩
   have q:=x.cell y c e
   rw [b2I ndP hp hu (by show scope.names.lookup y≠_; rw [k]; decide)] at q
   exact q
 ·exact e0.hok.fresh (Nat.le_of_lt (x.above y c (PySem.mem_of_lookup h)))
 ·unfold start
  show _=N.length
  rw [List.length_append,List.length_map,List.length_replicate]
  omega
theorem d3T {CX:CXT} {P:Program} {w:World} {K:Φρ} {mg:Str->Option Value} {base:Heap} {k:Nat} {f:Addr} {name qual:Str} {params:Arguments} {body:List Stmt} {scope:Scope} {dV kV doc pm cdv ct oc:Value} {an od:Option Addr}
  {osl:Array (Option Value)} {N ps:List Str} {sp:Sp} (lk:K.lookup f=some ⟨oc,od,.func (PySem.W.fnOf name qual params body scope dV kV doc pm an cdv ct),osl⟩) (hcd:PySem.W.codeIn K cdv qual=true) (S:FnScope N ps scope)
  (len:∀ vs H Q E,sp vs H Q E->vs.length=ps.length)
  (hbody:∀ (A:Around) (outer:List Env) (s:Shared) (H:Hp) (vs:List V) (Q:VK) (E:XK),Room k (A.deeper (envOfC qual scope s.heap.objs.size f cdv))->sp vs H Q E ->
   ∃ t,PSs (cxOf CX P w K mg base N qual scope f cdv A outer s H E) body t/\t { nx:=λ _ H'=>Q .non H',rt:=Q } (start N vs) H) :
  FnOk P w K mg base CX (k+1) f (PySem.W.fnOf name qual params body scope dV kV doc pm an cdv ct) ps sp:=by
 refine ⟨len,λ A outer s H args us vs Q E hr e0 hb r hsp=>?_⟩
 have hl:=len _ _ _ _ hsp
 have KX:K.In s.heap:=e0.mod.kin.keeps λ b o e=>(e0.bs b o e).1
 have lim:s.heap.NoLimit:=e0.mod.nolimit.keeps λ b o e=>(e0.bs b o e).1
 have hkind:∀ y∈ps.zip us,scope.names.lookup y.1=some .local\/(scope.names.lookup y.1=some .cell/\((cellsFrom (s.heap.objs.size+1) scope.names []).lookup y.1).isSome=true):=λ ⟨n,v⟩ hy=>by
  rcases S.par n (List.of_mem_zip hy).1 with q | q
  ·exact .inl q
  ·exact .inr ⟨q,PySem.W.cellsFrom_some _ _ _ (.inl q)⟩
 refine codeAny_call_function hr.depth (KX _ _ lk) rfl S.co S.gen rfl (PySem.W.codeRec_of KX hcd) (hb _ _ _ _ ?_)
 refine wpAny_newFunctionEnv_cells S.kind hkind λ env he s1 x=>?_
 subst he
 refine ⟨lim.keeps x.toInCall.keep,codeAny_func ?_⟩
 obtain ⟨t,ht,hq⟩:=hbody A outer s H vs Q E (hr.deeper _) hsp
 have I:Inv (cxOf CX P w K mg base N qual scope f cdv A outer s H E) [] (start N vs) H s1:=b9Q S hr.hd e0 hl r x
 refine wpAny_mono (ht [] s1 (start N vs) H _ I hq) (λ fl s' hs=>?_) λ e s' hs=>hs
 have fin:∀ {σ':St} {H':Hp} {v:V} {u:Value},Inv (cxOf CX P w K mg base N qual scope f cdv A outer s H E) [] σ' H' s'->RelV v u->Q v H'->CE outer P w H s Q u s' :=
  λ {σ' H' v u} J rv q=>⟨v,H',J.os,J.bare,J.base,J.hok,rv,q⟩
 cases fl with
 | ret u =>
  obtain ⟨v,σ',H',J,rv,q⟩:=hs
  exact fin J rv q
 | next =>
  obtain ⟨σ',H',J,q⟩:=hs
  exact fin (v:=V.non) (u:=Value.none) J rfl q
 | brk =>
  obtain ⟨_,_,_,q⟩:=hs
  exact False.elim q
 | cont =>
  obtain ⟨_,_,_,q⟩:=hs
  exact False.elim q
end L2
namespace L2
open PySem PySem.Spec PyProof.Rows
section
variable {X:Cx} {x:Str} {p pos:Pos} {e:Expr} {es:List Expr} {t:TA} {id T:String} {r:List V->Hp->VK->Prop}
def tCB (r:List V->Hp->VK->Prop) (t:TA):TE:=λ σ H Q=>t σ H λ vs H1=>r vs H1 Q
theorem a0I (hc:CallR X (.builtin id) r) (hg:Gl X x) (hm:X.mg x=none) (hv:bootBuiltins x=some (.builtin id)) (ha:PA X (e::es) t) (hn:x ≠ "__name__" := by decide) (hdb:(x == ("__debug__" : Str))=false:=by decide)
  (he:starEach (e::es) X.env=(false,eval e X.env)::starEach es X.env:=by rfl) (hpl:(backTo pos (starEach es X.env)).any (·.1)=false:=by rfl):PE X (.Call (.Name x p) (e::es) [] pos) (tCB r t):=by
 intro pins s σ H Q I h
 refine wpAny_Call_Name_kw (a5W I hg hm hv ?_ hn hdb)
 exact PyProof.Rows.callWith_builtin1 (thn (ha pos pins s σ H _ I h) λ us s1 ⟨vs,H1,I1,r1,q1⟩=>hc pins s1 σ H1 vs us Q I1 r1 q1) he hpl
theorem a2M (hc:CallR X (.type T) r) (hg:Gl X x) (hm:X.mg x=none) (hv:bootBuiltins x=some (.type T)) (ha:PA X (e::es) t) (hn:x ≠ "__name__" := by decide) (hdb:(x == ("__debug__" : Str))=false:=by decide)
  (he:starEach (e::es) X.env=(false,eval e X.env)::starEach es X.env:=by rfl) (hpl:(backTo pos (starEach es X.env)).any (·.1)=false:=by rfl):PE X (.Call (.Name x p) (e::es) [] pos) (tCB r t):=by
 intro pins s σ H Q I h
 refine wpAny_Call_Name_kw (a5W I hg hm hv ?_ hn hdb)
 exact PyProof.Rows.callWith_type1 (thn (ha pos pins s σ H _ I h) λ us s1 ⟨vs,H1,I1,r1,q1⟩=>hc pins s1 σ H1 vs us Q I1 r1 q1) he hpl
end
end L2
namespace HT
open PySem PyProof.Rows
section
open PySem.SeqAt
open PySem.AutoSeq1 (wpAny_loadPart')
open PySem.MeetsSeq PySem.MeetsSeq2 PySem.MeetsSeq3
end
section
variable {prog:Program} {w:World} {A:Around} {E:Value->Shared->Prop} {s:Shared}
def sIx (n d:Nat):Option Int->Nat
 | none=>d
 | some v=>if v < 0 then (v+(n:Int)).toNat else min v.toNat n
end
end HT
namespace L2
open PySem PySem.Spec PyProof.Rows
abbrev TO:=St->Hp->(Option Int->Hp->Prop)->Prop
def PO (X:Cx) (e:Option Expr) (t:TO):Prop :=
 ∀ (pins:List (Addr × Obj)) (s:Shared) (σ:St) (H:Hp) (Q:Option Int->Hp->Prop),Inv X pins σ H s->t σ H Q ->
  wpAny (model X.prog X.w) X.A (evalPart e X.env) (λ u s'=>∃ o H',Inv X pins σ H' s'/\IsPart u o/\Q o H') X.xe s
def c7U:TO:=λ _ H Q=>Q none H
def d3U (t:TE):TO:=λ σ H Q=>t σ H λ x H1=>∃ i,x = .int i/\Q (some i) H1
section
variable {X:Cx} {e:Expr} {te:TE} {lo hi:Option Expr} {tl th:TO} {pos p2:Pos}
theorem c7V:PO X none c7U:=by
 intro pins s σ H Q I h
 rw [evalPart_none]
 exact wpAny_pure ⟨none,H,I,.none,h⟩
theorem c7W (h:PE X e te):PO X (some e) (d3U te):=by
 intro pins s σ H Q I hw
 rw [evalPart_some]
 refine thn (h pins s σ H _ I hw) λ u s1 ⟨x,H1,I1,r1,q1⟩=>?_
 obtain ⟨i,rfl,q⟩:=q1
 obtain ⟨t,rfl⟩:=r1
 exact ⟨some i,H1,I1,.int i t,q⟩
def SlR (X:Cx) (r:V->Option Int->Option Int->Hp->VK->Prop):Prop :=
 ∀ (pins:List (Addr × Obj)) (s:Shared) (σ:St) (H:Hp) (x:V) (v vl vu:Value) (lo hi:Option Int) (sl:Addr) (Q:VK),Inv X pins σ H s->RelV x v->s.heap.IsSliceOf sl vl vu .none->IsPart vl lo->IsPart vu hi->r x lo hi H Q ->
  ∃ T id,typeLookup (.type T) "__getitem__" = pure (some (.builtin id))/\s.TypeIs v T/\wpAny (model X.prog X.w) X.A (getItem v (.ref sl)) (EP X pins σ Q) X.xe s
def tSl (r:V->Option Int->Option Int->Hp->VK->Prop) (te:TE) (tl th:TO):TE:=λ σ H Q=>te σ H λ x H1=>tl σ H1 λ l H2=>th σ H2 λ u H3=>r x l u H3 Q
theorem c4C {r:V->Option Int->Option Int->Hp->VK->Prop} (hr:SlR X r) (he:PE X e te) (hl:PO X lo tl) (hu:PO X hi th):PE X (.Subscript e (.Slice lo hi none p2) pos) (tSl r te tl th):=by
 intro pins s σ H Q I h
 refine Subscript_ (thn (he pins s σ H _ I h) λ v s1 ⟨x,H1,I1,r1,q1⟩=>?_)
 refine wpAny_Slice (thn (hl pins s1 σ H1 _ I1 q1) λ vl s2 ⟨l,H2,I2,pl,q2⟩=>thn (hu pins s2 σ H2 _ I2 q2) λ vu s3 ⟨u,H3,I3,pu,q3⟩=>?_)
 rw [evalPart_none]
 refine wpAny_pure ?_
 have I4:Inv X pins σ H3 { s3 with heap:=s3.heap.push { cls:=.type "slice", data:=.fields #[vl,vu,.none] } }:=I3.kept (t':=s3.toks) λ b ob q=>Heap.get?_push_of_some _ q
 obtain ⟨T,id,hT,ht,hg⟩:=hr pins { s3 with heap:=s3.heap.push { cls:=.type "slice", data:=.fields #[vl,vu,.none] } } σ H3 x v vl vu l u s3.heap.objs.size Q I4 r1 (Heap.IsSliceOf.new ..) pl pu q3
 show wpAny (model X.prog X.w) X.A (subscriptTail e (.Slice lo hi none p2) v (.ref s3.heap.objs.size)) (EP X pins σ Q) X.xe { s3 with heap:=s3.heap.push { cls:=.type "slice", data:=.fields #[vl,vu,.none] } }
 exact tail_any (ops:=[.ref s3.heap.objs.size,v]) ht hT hg (by with_unfolding_all rfl)
def cutV (xs:List V) (lo hi:Option Int):List V:=(xs.drop (HT.sIx xs.length 0 lo)).take (HT.sIx xs.length xs.length hi - HT.sIx xs.length 0 lo)
theorem b4S (xs:List V) (lo hi:Option Int):(cutV xs lo hi).length<=xs.length:=by
 unfold cutV
 rw [List.length_take,List.length_drop]
 omega
end
end L2
namespace L2
open PySem PySem.Spec PyProof.Rows
def ixN (n:Nat) (i:Int):Option Nat:=if 0<=i then (if i < n then some i.toNat else none) else if -(n:Int)<=i then some (i+n).toNat else none
def atI {α:Type} (xs:List α) (i:Int):Option α:=(ixN xs.length i).bind λ j=>xs[j]?
theorem b9R {n:Nat} {i:Int} {j:Nat} (h:ixN n i=some j):seqIndex? i n=some j/\j < n /\ -(n:Int)<=i/\i < n:=by
 unfold ixN at h
 by_cases h0:0<=i
 ·rw [if_pos h0] at h
  by_cases h1:i < n
  ·rw [if_pos h1] at h
   have e:i.toNat=j:=Option.some.inj h
   exact ⟨by rw [seqIndex_of h0 h1,e],by omega,by omega,h1⟩
  ·rw [if_neg h1] at h; cases h
 ·rw [if_neg h0] at h
  by_cases h1 : -(n:Int)<=i
  ·rw [if_pos h1] at h
   have e:(i+n).toNat=j:=Option.some.inj h
   exact ⟨by rw [seqIndex_neg (by omega) h1,e],by omega,h1,by omega⟩
  ·rw [if_neg h1] at h; cases h
theorem b9S {α:Type} {xs:List α} {i:Int} {v:α} (h:atI xs i=some v):∃ j,seqIndex? i xs.length=some j/\xs[j]?=some v/\j < xs.length /\ -(xs.length:Int)<=i/\i < xs.length:=by
 unfold atI at h
 cases e:ixN xs.length i with
 | none=>rw [e] at h; cases h
 | some j =>
  rw [e] at h
  obtain ⟨h1,h2,h3,h4⟩:=b9R e
  exact ⟨j,h1,h,h2,h3,h4⟩
theorem a1L {α:Type} {xs:List α} {j:Nat} {v:α} (h:xs[j]?=some v):atI xs (j:Int)=some v:=by
 have hj:j < xs.length:=(List.getElem?_eq_some_iff.mp h).1
 have e:ixN xs.length (j:Int)=some j:=by
  unfold ixN
  rw [if_pos (by omega),if_pos (by omega)]; simp
 unfold atI; rw [e]; exact h
theorem c4D {α:Type} (xs:List α) (v:α):atI (xs++[v]) (-1)=some v:=by
 have hl:(xs++[v]).length=xs.length+1:=by simp
 have e:ixN (xs++[v]).length (-1)=some xs.length:=by
  unfold ixN
  rw [hl,if_neg (by decide),if_pos (by omega)]
  congr 1
  omega
 unfold atI
 rw [e]
 show (xs++[v])[xs.length]?=some v
 simp
def c7X (b:Expr):Prop:=∀ o i,subscripted b false o i=operate [o,i] (getItem o i)
def IxR (X:Cx) (r:R2):Prop :=
 ∀ (value slice:Expr) (pins:List (Addr × Obj)) (s:Shared) (σ:St) (H:Hp) (x y:V) (v u:Value) (Q:VK),Inv X pins σ H s->RelV x v->RelV y u->r x y H Q ->
  subscripted slice false v u=operate [v,u] (getItem v u)->wpAny (model X.prog X.w) X.A (subscriptTail value slice v u) (EP X pins σ Q) X.xe s
def MtR (X:Cx) (id:String) (r:V->List V->Hp->VK->Prop):Prop :=
 ∀ (pins:List (Addr × Obj)) (s:Shared) (σ:St) (H:Hp) (x:V) (xs:List V) (v:Value) (us:List Value) (Q:VK),Inv X pins σ H s->RelV x v->Vals xs us->r x xs H Q ->
  wpAny (model X.prog X.w) X.A (call (.builtin id) (v::us)) (EP X pins σ Q) X.xe s
section
variable {X:Cx} {a b:Expr} {ta tb:TE} {pos:Pos}
theorem a0V {r:R2} (hr:IxR X r) (ha:PE X a ta) (hb:PE X b tb) (hs:c7X b):PE X (.Subscript a b pos) (tOp r ta tb):=by
 intro pins s σ H Q I h
 exact Subscript_ (binT ha hb I h λ v u s2 x y H2 I2 rx ry q=>hr a b pins s2 σ H2 x y v u Q I2 rx ry q (hs _ _))
def rIxL (K:Φρ):R2:=λ x y H Q=>∃ p xs i v,x = .ref p/\y = .int i/\SqL K H p xs/\atI xs i=some v/\Q v H
def rIxT (K:Φρ):R2:=λ x y H Q=>∃ p xs i v,x = .ref p/\y = .int i/\SqT K H p xs/\atI xs i=some v/\Q v H
theorem c7Y:IxR X (rIxL X.K):=by
 intro value slice pins s σ H x y v u Q I rx ry h hs
 obtain ⟨p,xs,i,z,rfl,rfl,hq,he,q⟩:=h
 cases rx
 obtain ⟨t,rfl⟩:=ry
 obtain ⟨its,r,pl,hz⟩:=I.list hq
 obtain ⟨j,h1,h2,h3,h4,h5⟩:=b9S he
 obtain ⟨w,ew,rw'⟩:=r.get h2
 have hl:=r.length
 have hn:=a9X
 have fin:EP X pins σ Q w s:=⟨z,H,I,rw',q⟩
 by_cases h0:0<=i
 ·have hj:i.toNat=j:=by
   rw [seqIndex_of h0 h5] at h1
   exact Option.some.inj h1
  exact item_listR pl.isList h0 (by omega) (by rw [hj]; simpa using ew) fin hs
 ·have hj:(i+(its.toArray.size:Int)).toNat=j:=by
   rw [seqIndex_neg (by omega) h4] at h1
   rw [List.size_toArray,<- hl]
   exact Option.some.inj h1
  exact subscriptTail_builtinR (x:=w) pl.isList.typeIs slot_list_getitem.lookup
   (wpAny_getItem_list_neg (Q:=λ r s'=>r=w/\EP X pins σ Q r s') pl.isList (by omega) (by rw [List.size_toArray] <;> omega) (by omega) (by rw [hj]; simpa using ew) ⟨rfl,fin⟩) hs
theorem d1E:IxR X (rIxT X.K):=by
 intro value slice pins s σ H x y v u Q I rx ry h hs
 obtain ⟨p,xs,i,z,rfl,rfl,hq,he,q⟩:=h
 cases rx
 obtain ⟨t,rfl⟩:=ry
 obtain ⟨its,r,pl,hz⟩:=I.tuple hq
 obtain ⟨j,h1,h2,h3,h4,h5⟩:=b9S he
 obtain ⟨w,ew,rw'⟩:=r.get h2
 have hl:=r.length
 have hn:=a9X
 have fin:EP X pins σ Q w s:=⟨z,H,I,rw',q⟩
 exact subscriptTail_builtinR (x:=w) pl.typeIs slot_tuple_getitem.lookup
  (getItem_tuple (j:=j) (Q:=λ r s'=>r=w/\EP X pins σ Q r s') pl (by omega) (by omega) (by rw [List.size_toArray,<- hl]; exact h1) (by simpa using ew) ⟨rfl,fin⟩) hs
theorem b7Z (its:List Value) (n j:Nat) (u:Value):Obj.mapSeq (·.setIfInBounds j u) { cls:=.type "list", data:=.seq its.toArray n }={ cls:=.type "list", data:=.seq (its.set j u).toArray n }:=by
 simp [Obj.mapSeq]
theorem Inv.lst {pins:List (Addr × Obj)} {σ:St} {H:Hp} {s:Shared} {p:Addr} {xs:List V} (I:Inv X pins σ H s) (h:H p=some (.lst xs)) :
  ∃ (its:List Value) (n:Nat),Vals xs its/\s.heap.get? p=some { cls:=.type "list", data:=.seq its.toArray n }/\xs.length<=sizeLine:=by
 obtain ⟨z,its,n,r,e⟩:=I.hok p _ h
 exact ⟨its,n,r,e,z⟩
theorem Inv.lstUpd {pins:List (Addr × Obj)} {σ:St} {H:Hp} {s:Shared} {p:Addr} {xs ys:List V} {its its':List Value} {n n':Nat} {f:Obj->Obj} (I:Inv X pins σ H s) (h:H p=some (.lst xs))
  (ho:s.heap.get? p=some { cls:=.type "list", data:=.seq its.toArray n }) (hf:f { cls:=.type "list", data:=.seq its.toArray n }={ cls:=.type "list", data:=.seq its'.toArray n' }) (r:Vals ys its') (hz:ys.length<=sizeLine) (t:Nat) :
  Inv X pins σ (upd H p (.lst ys)) { s with heap:=s.heap.update p f,toks:=t }:=by
 have e:(s.heap.update p f).get? p=some { cls:=.type "list", data:=.seq its'.toArray n' }:=by
  rw [Heap.get?_update_self f ho (by rw [hf] <;> rfl),hf]
 refine I.write (x:=p) (e:=p) (by rw [h]; trivial) (.inl rfl) (λ b u hb q=>(Heap.get?_update_other _ _ (Ne.symm hb)).trans q) ⟨_,e⟩ ?_
 exact ⟨hz,its',n',r,e⟩
def d3V:V->V->V->Hp->(Hp->Prop)->Prop:=λ o i v H Q=>∃ p xs k j,o = .ref p/\i = .int k/\H p=some (.lst xs)/\ixN xs.length k=some j/\Q (upd H p (.lst (xs.set j v)))
theorem c4E:PSet X d3V:=by
 intro pins s σ H o i v ov iv u Q I ro ri rv h
 obtain ⟨p,xs,k,j,rfl,rfl,hp,hj,q⟩:=h
 cases ro
 obtain ⟨t,rfl⟩:=ri
 obtain ⟨its,n,r,ho,hz⟩:=I.lst hp
 obtain ⟨h1,h2,h3,h4⟩:=b9R hj
 have hl:=r.length
 have hn:=a9X
 have I':Inv X pins σ (upd H p (.lst (xs.set j v))) { s with heap:=s.heap.update p (Obj.mapSeq (·.setIfInBounds j u)) } :=
  I.lstUpd hp ho (b7Z its n j u) (r.set rv j) (by rw [List.length_set]; exact hz) s.toks
 by_cases h0:0<=k
 ·have hk:k.toNat=j:=by
   rw [seqIndex_of h0 h4] at h1
   exact Option.some.inj h1
  exact PySem.W.ki_setAt ho h0 (by omega) (by rw [List.size_toArray,<- hl]; exact h4) (by rw [hk]; exact ⟨_,I',q⟩)
 ·have hk:(k+(its.toArray.size:Int)).toNat=j:=by
   rw [seqIndex_neg (by omega) h3] at h1
   rw [List.size_toArray,<- hl]
   exact Option.some.inj h1
  exact PySem.W.ki_setBack ho (by omega) (by rw [List.size_toArray,<- hl]; exact h3) (by omega) (by rw [hk]; exact ⟨_,I',q⟩)
theorem b2J (lo hi:Option Int) (n:Nat):(sliceBounds lo hi none n).1=((HT.sIx n 0 lo:Nat):Int)/\(sliceBounds lo hi none n).2.1=((HT.sIx n n hi:Nat):Int)/\(sliceBounds lo hi none n).2.2=1:=by
 refine ⟨?_,?_,rfl⟩
 ·cases lo with
  | none=>simp [sliceBounds,HT.sIx]
  | some i =>
   simp only [sliceBounds,HT.sIx,Option.getD_none,show (1:Int) > 0 by decide,if_true]
   by_cases h:i < 0
   ·simp only [h,if_true] <;> omega
   ·simp only [h,if_false] <;> omega
 ·cases hi with
  | none=>simp [sliceBounds,HT.sIx]
  | some i =>
   simp only [sliceBounds,HT.sIx,Option.getD_none,show (1:Int) > 0 by decide,if_true]
   by_cases h:i < 0
   ·simp only [h,if_true] <;> omega
   ·simp only [h,if_false] <;> omega
theorem b0W (its:List Value) (lo hi:Option Int):slicePick its.toArray lo hi none=((its.drop (HT.sIx its.length 0 lo)).take (HT.sIx its.length its.length hi - HT.sIx its.length 0 lo)).toArray:=by
 obtain ⟨h1,h2,h3⟩:=b2J lo hi its.toArray.size
 unfold slicePick
 rw [h1,h2,h3]
 simp only [sliceRange_one,pick_run,List.size_toArray] <;> rfl
def rSlL (K:Φρ):V->Option Int->Option Int->Hp->VK->Prop:=λ x lo hi H Q=>∃ a xs,x = .ref a/\SqL K H a xs/\∀ p,H p=none->Q (.ref p) (upd H p (.lst (cutV xs lo hi)))
theorem c7Z:SlR X (rSlL X.K):=by
 intro pins s σ H x v vl vu lo hi sl Q I rx hs pl pu h
 obtain ⟨a,xs,rfl,hx,q⟩:=h
 cases rx
 obtain ⟨its,r,ht,hz⟩:=I.list hx
 have hlen:=r.length
 refine ⟨"list", _,slot_list_getitem.lookup,ht.isList.typeIs,?_⟩
 refine wpAny_getItem_list_slice ht.isList hs pl pu .none (by simp) ?_ (by rw [List.size_toArray] <;> omega)
 rw [b0W,<- hlen]
 refine ⟨.ref s.heap.objs.size,_,I.laid (t':=s.toks) (o:=.lst (cutV xs lo hi)) (λ b ob q=>Heap.get?_push_of_some _ q) (Nat.le_refl _) ?_,rfl,q _ (I.hok.fresh (Nat.le_refl _))⟩
 exact ⟨Nat.le_trans (b4S xs lo hi) hz,_,0,(r.drop (HT.sIx xs.length 0 lo)).take (HT.sIx xs.length xs.length hi - HT.sIx xs.length 0 lo),Heap.get?_push_size _ rfl⟩
theorem b2K:CallR X (.builtin "len") (λ xs H Q=>∃ p ys,xs=[.ref p]/\(SqL X.K H p ys\/SqT X.K H p ys)/\Q (.int ys.length) H):=by
 intro pins s σ H xs us Q I r h
 obtain ⟨p,ys,rfl,hq,q⟩:=h
 obtain ⟨u,rfl,rx⟩:=a5G r
 cases rx
 have hn:=a9X
 rcases hq with hq | hq
 ·obtain ⟨its,r',pl,hz⟩:=I.list hq
  have hlen:=r'.length
  exact Calls.call_len_list pl.isList (by simp only [List.size_toArray] <;> omega) ⟨.int ys.length,H,I.tok _,⟨s.toks+1,by rw [List.size_toArray,hlen]⟩,q⟩
 ·obtain ⟨its,r',pl,hz⟩:=I.tuple hq
  have hlen:=r'.length
  exact len_tuple pl (by simp only [List.size_toArray] <;> omega) ⟨.int ys.length,H,I.tok _,⟨s.toks+1,by rw [List.size_toArray,hlen]⟩,q⟩
theorem b2L:CallR X (.type "list") (λ xs H Q=>∃ p ys,xs=[.ref p]/\(SqL X.K H p ys\/SqT X.K H p ys)/\∀ l,H l=none->Q (.ref l) (upd H l (.lst ys))):=by
 intro pins s σ H xs us Q I r h
 obtain ⟨p,ys,rfl,hq,q⟩:=h
 obtain ⟨u,rfl,rx⟩:=a5G r
 cases rx
 have fin:∀ (its:List Value),Vals ys its->ys.length<=sizeLine->∀ (h':Heap) (c':Nat),(∀ b o',s.heap.get? b=some o'->h'.get? b=some o') ->
   h'.get? s.heap.objs.size=some { cls:=.type "list", dict:=none,data:=.seq its.toArray c',slots:=#[] }->EP X pins σ Q (.ref s.heap.objs.size) { s with heap:=h' }:=λ its r' hz h' c' kp e =>
  ⟨.ref s.heap.objs.size,_,I.laid (t':=s.toks) kp (Nat.le_refl _) (show ObjOk X.prog X.w _ h' _ (.lst ys) from ⟨hz,its,c',r',e⟩),rfl,q _ (I.hok.fresh (Nat.le_refl _))⟩
 rcases hq with hq | hq
 ·obtain ⟨its,r',pl,hz⟩:=I.list hq
  have hlen:=r'.length
  obtain ⟨o,ho,hc,n,hd⟩:=pl.isList
  exact call_list_seq p (.inl rfl) ho hc hd (λ h' c' kp e=>fin its r' hz h' c' kp e) (by simp only [List.size_toArray] <;> omega)
 ·obtain ⟨its,r',pl,hz⟩:=I.tuple hq
  have hlen:=r'.length
  obtain ⟨o,ho,hc,n,hd⟩:=pl
  exact call_list_seq p (.inr rfl) ho hc hd (λ h' c' kp e=>fin its r' hz h' c' kp e) (by simp only [List.size_toArray] <;> omega)
def tyV (K:Φρ) (T:String) (x:V) (H:Hp):Prop:=match x with
 | .str _=>T = "str"
 | .int _=>T = "int"
 | .ref p=>(T = "list" /\ ∃ xs,SqL K H p xs)\/(T = "tuple" /\ ∃ o,K.lookup p=some o/\o.cls = .type "tuple" /\ o.dict=none) \/
   (T = "dict" /\ ((∃ kvs,H p=some (.dK kvs))\/∃ kvs,H p=some (.dT kvs)))\/(T = "set" /\ ∃ S n,H p=some (.set S n))
 | _=>False
theorem c6Y {pins:List (Addr × Obj)} {σ:St} {H:Hp} {s:Shared} {T:String} {x:V} {v:Value} (I:Inv X pins σ H s) (r:RelV x v) (ty:tyV X.K T x H) :
  s.TypeIs v T/\∀ a,v = .ref a->∃ ob,s.heap.get? a=some ob/\ob.dict=none:=by
 cases x with
 | str z =>
  obtain ⟨t,rfl⟩:=r
  cases (show T = "str" from ty)
  exact ⟨typeIs_str s z t,λ _ e=>nomatch e⟩
 | int i =>
  obtain ⟨t,rfl⟩:=r
  cases (show T = "int" from ty)
  exact ⟨typeIs_int s i t,λ _ e=>nomatch e⟩
 | ref p =>
  cases r
  rcases ty with ⟨rfl,xs,hq⟩ | ⟨rfl,o,hk,hc,hd⟩ | ⟨rfl,hk⟩ | ⟨rfl,S,n,hk⟩
  ·obtain ⟨its,_,pl,_⟩:=I.list hq
   refine ⟨pl.isList.typeIs,λ a e=>?_⟩
   cases e
   obtain ⟨o,n,e,c,hd,_⟩:=pl
   exact ⟨o,e,hd⟩
  ·refine ⟨⟨o,I.kIn p o hk,hc⟩,λ a e=>?_⟩
   cases e
   exact ⟨o,I.kIn _ o hk,hd⟩
  ·have z:∃ o,s.heap.get? p=some o/\o.ExactDict:=by
    rcases hk with ⟨kvs,hk⟩ | ⟨kvs,hk⟩
    ·obtain ⟨_,_,_,_,o,_,_,e,ex,_⟩:=I.hok p _ hk
     exact ⟨o,e,ex⟩
    ·obtain ⟨_,_,_,_,o,_,_,e,ex,_⟩:=I.hok p _ hk
     exact ⟨o,e,ex⟩
   obtain ⟨o,e,ex⟩:=z
   refine ⟨⟨o,e,ex.1⟩,λ a e2=>?_⟩
   cases e2
   exact ⟨o,e,ex.2.1⟩
  ·obtain ⟨o,_,_,_,e,ex,_⟩:=I.hok p _ hk
   refine ⟨⟨o,e,ex.1⟩,λ a e2=>?_⟩
   cases e2
   exact ⟨o,e,ex.2.1⟩
 | _=>exact False.elim ty
def tBM0 (K:Φρ) (T:String) (r:V->List V->Hp->VK->Prop) (to:TE):TE:=λ σ H Q=>to σ H λ x H1=>tyV K T x H1/\r x [] H1 Q
def tBM (K:Φρ) (T:String) (r:V->List V->Hp->VK->Prop) (to:TE) (t:TA):TE:=λ σ H Q=>to σ H λ x H1=>tyV K T x H1/\t σ H1 λ xs H2=>r x xs H2 Q
variable {o e:Expr} {es:List Expr} {to:TE} {t:TA} {name:Str} {apos cpos:Pos} {T id:String} {r:V->List V->Hp->VK->Prop}
theorem d1F (pa:PlainAttrs T) (slot:Slot T name id) (hty:typeOf (.builtin id)=pure (.type "method_descriptor")) (hm:MtR X id r) (ho:PE X o to)
  (hbase:attributeBase o name X.env (eval o X.env)=eval o X.env:=by rfl) (hline:(apos.endLine == cpos.line)=true:=by rfl):PE X (.Call (.Attribute o name apos) [] [] cpos) (tBM0 X.K T r to):=by
 intro pins s σ H Q I h
 refine wpAny_Call_method0_late hbase hline (thn (ho pins s σ H _ I h) λ v s1 ⟨x,H1,I1,r1,ty,q1⟩=>?_)
 obtain ⟨h1,h2⟩:=c6Y I1 r1 ty
 exact ⟨T,id,pa,slot,hty,h1,h2,Calls.callWith_builtin rfl (PySem.evalArgs_none (hm pins s1 σ H1 x [] v [] Q I1 r1 .nil q1))⟩
theorem d3W (pa:PlainAttrs T) (slot:Slot T name id) (hty:typeOf (.builtin id)=pure (.type "method_descriptor")) (hm:MtR X id r) (ho:PE X o to) (ha:PA X (e::es) t)
  (hbase:attributeBase o name X.env (eval o X.env)=eval o X.env:=by rfl)
  (hfew:((backTo cpos (starEach (e::es) X.env)).all (λ x=>!x.1) && (backToKw cpos (keywordEach [] X.env)).all (λ x=>x.1.isSome)
   && decide ((e::es).length+([]:List Keyword).length+(if ([]:List Keyword).isEmpty then 0 else 1) < 30))=true:=by rfl)
  (hline:(apos.endLine == cpos.line)=true:=by rfl) (hs:starEach (e::es) X.env=(false,eval e X.env)::starEach es X.env:=by rfl) (hplain:(backTo cpos (starEach es X.env)).any (·.1)=false:=by rfl) :
  PE X (.Call (.Attribute o name apos) (e::es) [] cpos) (tBM X.K T r to t):=by
 intro pins s σ H Q I h
 refine wpAny_Call_method_late hbase hfew hline rfl (thn (ho pins s σ H _ I h) λ v s1 ⟨x,H1,I1,r1,ty,q1⟩=>?_)
 obtain ⟨h1,h2⟩:=c6Y I1 r1 ty
 refine ⟨T,id,pa,slot,hty,h1,h2,?_⟩
 have hA:=ha cpos pins s1 σ H1 _ I1 q1
 rw [hs] at hA ⊢
 refine Calls.callWith_builtin (by show (false || (backTo cpos (starEach es X.env)).any (·.1))=false; rw [hplain] <;> rfl) (Calls.evalArgs_plain ?_)
 exact thn hA λ us s2 ⟨vs,H2,I2,r2,q2⟩=>hm pins s2 σ H2 x vs v us Q I2 r1 r2 q2
end
end L2
namespace L2
open PySem PySem.Spec PyProof.Rows
def MtM (X:Cx) (id:String) (r:V->List V->Hp->VK->Prop):Prop :=
 ∀ (pins:List (Addr × Obj)) (s:Shared) (σ:St) (H:Hp) (x:V) (xs:List V) (v:Value) (us:List Value) (Q:VK),Inv X pins σ H s->RelV x v->Vals xs us->r x xs H Q ->
  wpAny (model X.prog X.w) X.A (call (.builtin id) (v::us)) (EP X pins σ Q) X.xe s
theorem Vals.one:∀ {x:V} {us:List Value},Vals [x] us->∃ u,us=[u]/\RelV x u
 | _,_,.cons r .nil=>⟨_,rfl,r⟩
theorem Vals.two:∀ {x y:V} {us:List Value},Vals [x,y] us->∃ u v,us=[u,v]/\RelV x u/\RelV y v
 | _,_,_,.cons r (.cons q .nil)=>⟨_,_,rfl,r,q⟩
theorem Vals.zero:∀ {us:List Value},Vals [] us->us=[]
 | _,.nil=>rfl
section
variable {X:Cx} {pins:List (Addr × Obj)} {σ:St} {H:Hp} {s:Shared} {l b:Addr} {xs ys zs:List V}
theorem Inv.lset {its its':List Value} {n:Nat} {f:Array Value->Array Value} {t':Nat} (I:Inv X pins σ H s) (hH:H l=some (.lst xs))
  (e:s.heap.get? l=some { cls:=.type "list", data:=.seq its.toArray n }) (hf:f its.toArray=its'.toArray) (hv:Vals ys its') (hz:ys.length<=sizeLine) :
  Inv X pins σ (upd H l (.lst ys)) { s with heap:=s.heap.update l (Obj.mapSeq f),toks:=t' }:=by
 have q:=PySem.IsL.update e f
 rw [hf] at q
 refine I.write (x:=l) (e:=l) (by rw [hH]; exact trivial) (.inl rfl) (λ b' u hb hu=>(Heap.get?_update_other s.heap (Obj.mapSeq f) (Ne.symm hb)).trans hu) ⟨_,q⟩ ?_
 exact ⟨hz,its',_,hv,q⟩
theorem Inv.lnew {its:List Value} {t':Nat} (I:Inv X pins σ H s) (hv:Vals ys its) (hz:ys.length<=sizeLine) :
  Inv X pins σ (upd H s.heap.objs.size (.lst ys)) { s with heap:=s.heap.push { cls:=.type "list", data:=.seq its.toArray },toks:=t' } :=
 I.laid (λ _ _ q=>Heap.get?_push_of_some _ q) (Nat.le_refl _) ⟨hz,its,0,hv,Heap.get?_push_size _ rfl⟩
theorem Inv.fresh (I:Inv X pins σ H s):H s.heap.objs.size=none:=I.hok.fresh (Nat.le_refl _)
theorem Inv.lstM (I:Inv X pins σ H s) (hH:H l=some (.lst xs)):xs.length<=sizeLine/\∃ (its:List Value) (n:Nat),Vals xs its/\xs.length=its.length/\s.heap.get? l=some { cls:=.type "list", data:=.seq its.toArray n }:=by
 obtain ⟨z,its,n,r,e⟩:=I.hok l _ hH
 exact ⟨z,its,n,r,r.length,e⟩
end
section
variable {X:Cx}
def c8A:V->List V->Hp->VK->Prop:=λ x vs H Q=>∃ l xs y,x = .ref l/\vs=[y]/\H l=some (.lst xs)/\xs.length < sizeLine/\Q .non (upd H l (.lst (xs++[y])))
theorem mt_append:MtM X "list.append" c8A:=by
 intro pins s σ H x vs v us Q I rx rv h
 obtain ⟨l,xs,y,rfl,rfl,hH,hz,q⟩:=h
 cases rx
 obtain ⟨u,rfl,ru⟩:=rv.one
 obtain ⟨z,its,n,r,hl,e⟩:=I.lstM hH
 refine call_meets F.slot_list_append ⟨_,e,rfl⟩ F.entry_list_append (F.args_list_append_2 _ _) (PySem.list_append l its.toArray n u (by rw [List.size_toArray]; omega)) ⟨e,?_⟩
 refine ⟨.non,_,I.lset (its':=its++[u]) hH e (by simp) (r.append (.cons ru .nil)) ?_,rfl,q⟩
 rw [List.length_append,List.length_singleton]
 omega
def d1G:V->List V->Hp->VK->Prop:=λ x vs H Q=>∃ l xs,x = .ref l/\vs=[]/\H l=some (.lst xs)/\Q .non (upd H l (.lst []))
theorem mt_clear:MtM X "list.clear" d1G:=by
 intro pins s σ H x vs v us Q I rx rv h
 obtain ⟨l,xs,rfl,rfl,hH,q⟩:=h
 cases rx
 have hus:=rv.zero
 subst hus
 obtain ⟨z,its,n,r,hl,e⟩:=I.lstM hH
 refine call_meets F.slot_list_clear ⟨_,e,rfl⟩ F.entry_list_clear (F.args_list_clear_1 _) (AutoSeq1.list_clear_list_0 l its.toArray n (by rw [List.size_toArray]; omega)) ⟨e,?_⟩
 exact ⟨.non,_,I.lset (its':=[]) (ys:=[]) hH e rfl .nil (Nat.zero_le _),rfl,q⟩
def rCat:R2:=λ x y H Q=>∃ l b xs zs,x = .ref l/\y = .ref b/\H l=some (.lst xs)/\H b=some (.lst zs)/\xs.length+zs.length<=sizeLine/\∀ p,H p=none->Q (.ref p) (upd H p (.lst (xs++zs)))
theorem op_cat:OpR X (binaryOp .Add) rCat:=by
 intro pins s σ H x y v u Q I rx ry h
 obtain ⟨l,b,xs,zs,rfl,rfl,hH,hB,hz,q⟩:=h
 cases rx
 cases ry
 obtain ⟨z,its,n,r,hl,e⟩:=I.lstM hH
 obtain ⟨z2,its2,n2,r2,hl2,e2⟩:=I.lstM hB
 refine PySem.P.add_list e e2 ?_ (by rw [List.size_toArray,List.size_toArray]; omega)
 have ea:its.toArray++its2.toArray=(its++its2).toArray:=by simp
 rw [ea]
 exact ⟨.ref _,_,I.lnew (t':=s.toks) (r.append r2) (by rw [List.length_append]; omega),rfl,q _ I.fresh⟩
end
section
variable {prog:Program} {w:World} {A:Around} {E:Value->Shared->Prop} {s:Shared}
end
section
variable {X:Cx}
end
end L2
namespace Att
open PySem PySem.W PySem.Calls PyProof.Rows
theorem a8J {P:Params} {h:Heap}:∀ (ns:List Int) (vs:List Value),WellAll P h vs (ns.map WData.int)->IntsAre vs ns:=by
 intro ns
 induction ns with
 | nil =>
  intro vs w
  rw [List.map_nil] at w
  cases w
  exact .nil
 | cons n ns ih =>
  intro vs w
  rw [List.map_cons] at w
  cases w with
  | cons a b =>
   cases a
   exact .cons _ _ (ih _ b)
theorem b9T {l : OpenLaw} {n : Nat} (hn : l.most = some n) {P : Params} {h : Heap} {args : List WData} {vals : List Value}
    (hpre : l.row.toRowW.claim.pre args = true) (hwl : WellAll P h vals args) :
    ∃ a vs ns, vals = [Value.ref a] /\ args = [WData.list (ns.map WData.int)] /\ h.get? a = some { cls := .type "list", data := .seq vs.toArray } /\ IntsAre vs ns /\ ns.length <= n := by
  have hsh : WShape.hasAll [] args [.list .int] = true := (pre_splitW hpre).1
  have hc : l.pre.holds [] { args := args } = true := (pre_splitW hpre).2
  obtain ⟨d, r, rfl, h1, h2⟩ := hasAllW_cons hsh
  obtain rfl := hasAllW_nil h2
  obtain ⟨xs, rfl, h3⟩ := hasW_list h1
  obtain ⟨ns, rfl⟩ := items_int h3
  have hlen : ns.length <= n := by
    unfold OpenLaw.pre at hc
    have h4 : (WTm.not (.lt (.lit (.int (n : Int))) (.len (.arg 0)))).holds [] { args := [.list (ns.map .int)] } = true := by
      have h4 := (holds_andW hc).1
      rw [hn] at h4
      exact h4
    have h5 := condW_of h4 (w_not (w_lt w_lit (w_len_list (w_arg rfl))))
    rw [List.length_map] at h5
    refine Nat.le_of_not_lt fun q => ?_
    have q' : (n : Int) < ((ns.length : Nat) : Int) := by omega
    first
      | (rw [decide_eq_true q'] at h5; exact absurd h5 (by decide))
      | (simp at h5; omega)
  cases hwl with
  | cons w1 w2 =>
    cases w2
    cases w1 with
    | list ho hall => exact ⟨_, _, ns, rfl, rfl, ho, a8J ns _ hall, hlen⟩
theorem b9U (l : OpenLaw) (args : List WData) : l.row.toRowW.claim.post args (.bool true) args = true :=
  postW_of (r := l.row.toRowW) (X := (true == true))
    (show WShape.has [] (.bool true) .bool = true by first | rfl | decide | simp [WShape.has, WShape.arms, WShape.armsAll])
    (show (WTm.eq .res (.lit (.bool true))).value [] { args := args, res := some (.bool true), after := args } = some (.bool (true == true)) from w_eq_bool (w_res rfl) w_lit) rfl
theorem attach_call {l:OpenLaw} {n:Nat} {q:Program} {loose:List Str} {XP:(Str->Option Value)->Heap->Prop} {YP:World->Heap->Prop} {d:DefRec}
  (hn:l.most=some n) (hdf:d.params.defaults=[])
  (call:∀ (w:World) (s₀ s₁:Shared) (mg mb:Str->Option Value) (fa:Addr) (o:Obj) (pm cd doc:Value) (a:Addr) (vs:List Value) (ns:List Int),
   Ground q loose [] XP w s₀ mg mb s₁.heap->YP w s₁.heap ->
   s₁.heap.get? fa=some o->o.data = .func (docDef d.name d.params d.body d.scope pm cd doc)->s₁.heap.CodeRec cd d.name->mg d.name=some (.ref fa) ->
   s₁.heap.get? a=some { cls:=.type "list", data:=.seq vs.toArray }->IntsAre vs ns->ns.length<=n->s₁.gens = #[] ->
   codeAny (model l.prog w) callerA (.call (.ref fa) ⟨[.ref a],[]⟩) (λ r s'=>r = .ok (.ret (.bool true))/\OldK s₁.heap s'.heap/\s'.os=s₁.os/\AllBare s'.gens) s₁) :
  WalkO q loose XP YP l.row.toRowW d [] (λ f vs=>PySem.call f vs):=by
 intro w s₀ s₁ mg mb G Y fa o pm cd doc dV kV ho hd hcd hD hmg hg args vals as hpre hlay hrd hwl hlo
 obtain rfl:dV = .none:=Dflts.none hD hdf
 obtain rfl:kV = .none:=Dflts.noKw hD
 obtain ⟨a,vs,ns,rfl,rfl,hobj,hints,hlen⟩:=b9T hn hpre hwl
 refine enter_call (codeAny_mono (call w s₀ s₁ mg mb fa o pm cd doc a vs ns G Y ho (fd_plain hd) hcd hmg hobj hints hlen hg) λ r s' hq=>?_)
 obtain ⟨rfl,h2,h3,h4⟩:=hq
 exact ⟨.inl ⟨.bool true,.bool true,[],rfl,λ _=>rfl,.bool true,b9U l _,λ _=>⟨List.Pairwise.nil,λ _ hm=>(nomatch hm)⟩⟩,h2,h3,h4⟩
section
variable {prog:Program} {w:World} {A:Around} {E:Value->Shared->Prop} {s:Shared} {K:Frag}
end
end Att
namespace L2
open PySem PySem.Spec PyProof.Rows
theorem b2M:∀ {vs:List Value} {ns:List Int},IntsAre vs ns->Vals (ns.map V.int) vs
 | _,_,.nil=>.nil
 | _,_,.cons n t h=>.cons ⟨t,rfl⟩ (b2M h)
def Only (H:Hp):Prop:=∀ b,H b=none\/∃ o xs,H b=some (.frz o (.lst xs))
theorem c4F {P:Program} {w:World} {K:Φρ} {mg mb:Str->Option Value} {CX:CXT} {k:Nat} {fa a:Addr} {fd:FuncData} {x:Str} {sp:Sp} {s₁:Shared} {vs:List Value} {ns:List Int}
  (KX:K.In s₁.heap) (hns:s₁.heap.Ns mainGlobals mg) (hb:s₁.heap.Ns builtinsNs mb) (hbb:∀ x:Str,x ≠ "__name__" -> mb x=bootBuiltins x) (hlim:s₁.heap.NoLimit) (hg:s₁.gens = #[])
  (ha:s₁.heap.get? a=some { cls:=.type "list", data:=.seq vs.toArray }) (hi:IntsAre vs ns) (hl:ns.length<=sizeLine) (hr:Room k callerA)
  (F:∀ base:Heap,K.In base->base.Ns mainGlobals mg->FnOk P w K mg base CX k fa fd [x] sp) (hbind:∀ (s:Shared) (u:Value),BindsTo s fd ⟨[u],[]⟩ [(x,u)])
  (hsp:∀ H:Hp,Only H->SqL K H a (ns.map V.int)->sp [.ref a] H (λ v _=>v = .bl true) λ _ _ _=>False)
  (hCX:∀ H e s',CX [] H s₁ (λ _ _ _=>False) e s'->False) :
  codeAny (model P w) callerA (.call (.ref fa) ⟨[.ref a],[]⟩) (λ r s'=>r = .ok (.ret (.bool true))/\OldK s₁.heap s'.heap/\s'.os=s₁.os/\AllBare s'.gens) s₁:=by
 have rv:=b2M hi
 have lenV:=hi.length
 have core:∀ H:Hp,Only H->SqL K H a (ns.map V.int)->HOk P w H s₁.heap->(∀ b,H b≠none->b=a)->(H a≠none->K.lookup a=none) ->
   codeAny (model P w) callerA (.call (.ref fa) ⟨[.ref a],[]⟩) (λ r s'=>r = .ok (.ret (.bool true))/\OldK s₁.heap s'.heap/\s'.os=s₁.os/\AllBare s'.gens) s₁:=by
  intro H hO hS hok hA hK
  have base_of:∀ {b:Addr} {o:Obj},s₁.heap.get? b=some o->H b=none->(hidT s₁.heap H).get? b=some o:=λ e n=>c3Y e n
  have noA:∀ {b:Addr} {o:Obj} {es:Array DictEntry} {ep:Nat},s₁.heap.get? b=some o->o.data = .dict es ep->H b=none:=λ {b o es ep} e d=>by
   cases q:H b with
   | none=>rfl
   | some u =>
    have e':b=a:=hA b (by rw [q]; simp)
    subst e'
    rw [ha] at e; cases e
    have d':Data.seq vs.toArray _=Data.dict es ep:=d
    cases d'
  have nsK:∀ {b:Addr} {m:Str->Option Value},s₁.heap.Ns b m->(hidT s₁.heap H).Ns b m:=λ {b m} ⟨o,es,ep,e,d,r⟩=>⟨o,es,ep,base_of e (noA e d),d,r⟩
  have hKb:K.In (hidT s₁.heap H):=λ b o e=>base_of (KX b o e) (by
   cases q:H b with
   | none=>rfl
   | some u =>
    have e':b=a:=hA b (by rw [q]; simp)
    subst e'
    rw [hK (by rw [q]; simp)] at e; cases e)
  have hM:Mod K mg (hidT s₁.heap H):=⟨hKb,nsK hns,⟨mb,nsK hb,hbb⟩,let ⟨mc,h1,h2⟩:=hlim; ⟨mc,nsK h1,h2⟩⟩
  have e0:Env0 P w K mg (hidT s₁.heap H) callerA [] s₁ H:=⟨rfl,hM,λ b o e=>c7M e,Nat.le_of_eq (b9E _ _),trivial,λ b hb=>absurd (show b∈([]:List Addr) from hb) (by simp),hok,.of_eq hg⟩
  refine codeAny_mono ((F _ hKb (nsK hns)).run callerA [] s₁ H ⟨[.ref a],[]⟩ [.ref a] [.ref a] _ _ hr e0 (hbind s₁ (.ref a)) (.cons rfl .nil) (hsp H hO hS)) λ r s' h=>?_
  cases r with
  | error e=>exact (hCX H e s' h).elim
  | ok fl =>
   cases fl with
   | next=>exact False.elim h
   | brk=>exact False.elim h
   | cont=>exact False.elim h
   | ret u =>
    obtain ⟨v,H',os,bare,un,hok',r',q⟩:=h
    have q':v = .bl true:=q
    subst q'
    obtain rfl:u=Value.bool true:=r'
    refine ⟨rfl,OldK.of_keep λ b o e=>?_,os,bare⟩
    cases q:H b with
    | none=>exact un.keep b o e q (by intro z; exact absurd (show b∈([]:List Addr) from z) (by simp)) (by simp)
    | some u =>
     rcases hO b with z | ⟨ob,xs,z⟩
     ·rw [q] at z; cases z
     ·have z2:=un.frzs b ob _ z
      obtain ⟨e1,_⟩:=hok b _ z
      obtain ⟨e2,_⟩:=hok' b _ z2
      rw [e] at e1; cases e1
      exact e2
 cases hk:K.lookup a with
 | some o =>
  have e:=KX a o hk
  rw [ha] at e
  cases e
  refine core (λ _=>none) (λ _=>.inl rfl) (.inr ⟨_,vs.toArray,_,hk,rfl,rfl,rfl,by rw [List.size_toArray,lenV]; exact hl,by simpa using rv⟩) (λ b u z=>by have z':(none:Option HO)=some u:=z; cases z') (λ b z=>absurd rfl z) λ z=>absurd rfl z
 | none =>
  refine core (λ b=>if b=a then some (.frz { cls:=.type "list", data:=.seq vs.toArray } (.lst (ns.map V.int))) else none) (λ b=>?_) (.inl (.inr ⟨{ cls:=.type "list", data:=.seq vs.toArray },if_pos rfl⟩)) (λ b u z=>?_) (λ b z=>?_) λ _=>hk
  ·by_cases hb:b=a
   ·exact .inr ⟨_,_,if_pos hb⟩
   ·exact .inl (if_neg hb)
  ·by_cases hb:b=a
   ·have z':=(if_pos hb).symm.trans z
    cases z'
    subst hb
    exact ⟨ha,by rw [List.length_map]; exact hl,vs,_,rv,ha⟩
   ·have z':=(if_neg hb).symm.trans z
    cases z'
  ·by_cases hb:b=a
   ·exact hb
   ·exact absurd (if_neg hb) z
end L2
namespace L2
open PySem PySem.Spec PyProof.Rows
abbrev KOf {K:Φρ} {h:Heap} (_:K.In h):Φρ:=K
theorem c8B {l:PySem.W.OpenLaw} {n k:Nat} {q:Program} {loose:List Str} {XP:(Str->Option Value)->Heap->Prop} {YP:World->Heap->Prop} {d:DefRec} {K:Params->Φρ} {CX:World->CXT} {sp:World->Sp} {x:Str}
  (hn:l.most=some n) (hn2:n<=sizeLine) (hdf:d.params.defaults=[]) (hr:Room k callerA)
  (hY:∀ (w:World) (h:Heap),YP w h->(K w.params).In h)
  (F:∀ (w:World) (mg:Str->Option Value) (fa:Addr) (h:Heap),(K w.params).In h->h.Ns mainGlobals mg->mg d.name=some (.ref fa) ->
   ∃ fd:FuncData,(∀ (s:Shared) (u:Value),BindsTo s fd ⟨[u],[]⟩ [(x,u)]) /\
    ∀ base:Heap,(K w.params).In base->base.Ns mainGlobals mg->FnOk l.prog w (K w.params) mg base (CX w) k fa fd [x] (sp w))
  (hsp:∀ (w:World) (H:Hp) (a:Addr) (ns:List Int),ns.length<=n->Only H->SqL (K w.params) H a (ns.map V.int)->sp w [.ref a] H (λ v _=>v = .bl true) λ _ _ _=>False)
  (hCX:∀ (w:World) (H:Hp) (s:Shared) (e:Value) (s':Shared),CX w [] H s (λ _ _ _=>False) e s'->False) :
  PySem.W.WalkO q loose XP YP l.row.toRowW d [] (λ f vs=>PySem.call f vs):=by
 refine Att.attach_call hn hdf λ w s₀ s₁ mg mb fa o pm cd doc a vs ns G Y ho hd hcd hmg hobj hints hlen hg=>?_
 have KX:=hY w _ Y
 obtain ⟨fd,hb,hF⟩:=F w mg fa _ KX G.T.g hmg
 exact c4F KX G.T.g G.T.b G.T.builtins G.T.nolimit hg hobj hints (Nat.le_trans hlen hn2) hr hF hb (λ H hO hS=>hsp w H a ns hlen hO hS) λ H e s'=>hCX w H s₁ e s'
theorem walk_ofK {l:PySem.W.OpenLaw} {n k:Nat} {q:Program} {loose:List Str} {XP:(Str->Option Value)->Heap->Prop} {YP:World->Heap->Prop} {d:DefRec} {K:Params->Φρ} {CX:CXT} {sp:Φρ->Sp} {x:Str}
  (hn:l.most=some n) (hn2:n<=sizeLine) (hdf:d.params.defaults=[]) (hr:Room k callerA)
  (hY:∀ (w:World) (h:Heap),YP w h->(K w.params).In h)
  (F:∀ (w:World) (mg:Str->Option Value) (fa:Addr) (h:Heap),(K w.params).In h->h.Ns mainGlobals mg->mg d.name=some (.ref fa) ->
   ∃ fd:FuncData,(∀ (s:Shared) (u:Value),BindsTo s fd ⟨[u],[]⟩ [(x,u)]) /\
    ∀ base:Heap,(K w.params).In base->base.Ns mainGlobals mg->FnOk l.prog w (K w.params) mg base CX k fa fd [x] (sp (K w.params)))
  (hsp:∀ (K:Φρ) (H:Hp) (a:Addr) (ns:List Int),ns.length<=n->Only H->SqL K H a (ns.map V.int)->sp K [.ref a] H (λ v _=>v = .bl true) λ _ _ _=>False)
  (hCX:∀ (H:Hp) (s:Shared) (e:Value) (s':Shared),CX [] H s (λ _ _ _=>False) e s'->False) :
  PySem.W.WalkO q loose XP YP l.row.toRowW d [] (λ f vs=>PySem.call f vs) :=
 c8B (K:=K) (CX:=λ _=>CX) (sp:=λ w=>sp (K w.params)) hn hn2 hdf hr hY F (λ w H a ns h1 h2 h3=>hsp (K w.params) H a ns h1 h2 h3) λ _ H s e s'=>hCX H s e s'
end L2
namespace L2
open PySem PySem.Spec PyProof.Rows
def a1Y (s:Stmt):Arguments:=match s with
 | .FunctionDef _ a _ _ _ _ _ _ _ _=>a
 | _=>{ posonlyargs:=[],args:=[],vararg:=none,kwonlyargs:=[],kw_defaults:=[],kwarg:=none,defaults:=[] }
def a1S (s:Stmt):List Stmt:=match s with
 | .FunctionDef _ _ b _ _ _ _ _ _ _=>b
 | _=>[]
def a0F (s:Stmt):Scope:=match s with
 | .FunctionDef _ _ _ _ _ _ sc _ _ _=>sc
 | _=>{ kind:=.function,names:=[],isGenerator:=false,isCoroutine:=false }
abbrev CX0:CXT:=λ _ _ _ _ _ _=>False
abbrev E0:XK:=λ _ _ _=>False
theorem a0S {X:Cx}:b9P CX0 X E0:=λ _ _ _ _ _ _ _ h=>h.elim
structure Fun (K:Φρ) (x qual:Str) (st:Stmt) (f:Addr) (fd:FuncData):Prop where
 ex:∃ (oc:Value) (od:Option Addr) (kV doc pm:Value) (an:Option Addr) (cdv ct:Value) (osl:Array (Option Value)),
  fd=PySem.W.fnOf x qual (a1Y st) (a1S st) (a0F st) .none kV doc pm an cdv ct/\K.lookup f=some ⟨oc,od,.func fd,osl⟩/\PySem.W.codeIn K cdv qual=true
 kp:PySem.W.keepIn K (.ref f)=true
section
variable {P:Program} {w:World} {K:Φρ} {mg:Str->Option Value} {base:Heap}
theorem Fun.ok {x qual:Str} {st:Stmt} {f:Addr} {fd:FuncData} {N ps:List Str} {k:Nat} {sp:Sp} (F:Fun K x qual st f fd) (S:FnScope N ps (a0F st)) (len:∀ vs H Q E,sp vs H Q E->vs.length=ps.length)
  (hbody:∀ (cdv:Value) (A:Around) (outer:List Env) (s:Shared) (H:Hp) (vs:List V) (Q:VK) (E:XK),Room k (A.deeper (envOfC qual (a0F st) s.heap.objs.size f cdv))->sp vs H Q E ->
   ∃ t,PSs (cxOf CX0 P w K mg base N qual (a0F st) f cdv A outer s H E).nox (a1S st) t/\t { nx:=λ _ H'=>Q .non H',rt:=Q } (start N vs) H):FnOk P w K mg base CX0 (k+1) f fd ps sp:=by
 obtain ⟨oc,od,kV,doc,pm,an,cdv,ct,osl,rfl,lk,hcd⟩:=F.ex
 refine d3T lk hcd S len λ A outer s H vs Q E hr hsp=>?_
 obtain ⟨t,h,q⟩:=hbody cdv A outer s H vs Q E hr hsp
 exact ⟨t,h.nox,q⟩
theorem Fun.binds {x qual:Str} {st:Stmt} {f:Addr} {fd:FuncData} {ps:List Str} (F:Fun K x qual st f fd)
  (h:∀ (kV doc pm:Value) (an:Option Addr) (cdv ct:Value) (us:List Value),us.length=ps.length->bindArgs (PySem.W.fnOf x qual (a1Y st) (a1S st) (a0F st) .none kV doc pm an cdv ct) ⟨us,[]⟩=pure (ps.zip us)):Binds K fd ps []:=by
 obtain ⟨oc,od,kV,doc,pm,an,cdv,ct,osl,rfl,lk,hcd⟩:=F.ex
 exact .all (h kV doc pm an cdv ct)
theorem d1H {x qual:Str} {st:Stmt} {f:Addr} {oc:Value} {od an:Option Addr} {osl:Array (Option Value)} {kV doc pm cdv ct:Value} (l:K.lookup f=some ⟨oc,od,.func (PySem.W.fnOf x qual (a1Y st) (a1S st) (a0F st) .none kV doc pm an cdv ct),osl⟩)
  (c:PySem.W.codeIn K cdv qual=true) (k:PySem.W.keepIn K (.ref f)=true):Fun K x qual st f (PySem.W.fnOf x qual (a1Y st) (a1S st) (a0F st) .none kV doc pm an cdv ct):=⟨⟨oc,od,kV,doc,pm,an,cdv,ct,osl,rfl,l,c⟩,k⟩
end
theorem a1E {n:Nat} (h:n<=1000):n < sizeLine:=Nat.lt_of_le_of_lt h (by decide)
section
variable {X:Cx}
theorem pv (i:Nat) {x:Str} {pos:Pos} (hN:X.N[i]?=some x:=by rfl) (hv:Vis X.env.scope x:=by first | exact Or.inl rfl | exact Or.inr (Or.inl rfl) | exact Or.inr (Or.inr rfl)) (hd:(x == ("__debug__" : Str))=false:=by decide)
  (hcd:(x == ("__classdict__" : Str))=false:=by decide):PE X (.Name x pos) (tVar i):=d0R hN hv hd hcd
end
theorem iteF {A B:Prop} (h:B):if false=true then A else B:=by
 rw [if_neg Bool.false_ne_true]
 exact h
theorem iteT {A B:Prop} (h:A):if true=true then A else B:=by
 rw [if_pos rfl]
 exact h
theorem ite2 {c A B:Prop} [Decidable c] (h1:c->A) (h2:¬ c->B):if c then A else B:=by
 by_cases h:c
 ·rw [if_pos h]
  exact h1 h
 ·rw [if_neg h]
  exact h2 h
def Same (H H':Hp):Prop:=∀ b o,H b=some o->H' b=some o
theorem Same.refl (H:Hp):Same H H:=λ _ _ h=>h
theorem Same.trans {H H1 H2:Hp} (a:Same H H1) (b:Same H1 H2):Same H H2:=λ c o h=>b c o (a c o h)
theorem Same.free {H H':Hp} (e:Same H H') {l:Addr} (h:H' l=Option.none):H l=Option.none:=by
 cases q:H l with
 | none=>rfl
 | some o =>
  rw [e l o q] at h
  cases h
theorem Same.seq {K:Φρ} {H H':Hp} {a:Addr} {xs:List V} (e:Same H H') (h:SqL K H a xs):SqL K H' a xs:=by
 rcases h with (h | ⟨o,h⟩) | h
 ·exact .inl (.inl (e _ _ h))
 ·exact .inl (.inr ⟨o,e _ _ h⟩)
 ·exact .inr h
end L2
namespace L2
open PySem PySem.Spec PyProof.Rows
def clOf (cells:List (Str × Addr)):List (Str × NameKind)->List (Str × Addr)->List (Str × Addr)
 | [],acc=>acc
 | (n,k)::r,acc=>clOf cells r (if k == .free then (match cells.lookup n with | some c=>(n,c)::acc | none=>acc) else acc)
theorem c6Z {env:Env}:∀ (ns:List (Str × NameKind)) (acc:List (Str × Addr)),(∀ x∈ns,x.2 = .free->∃ c,env.cells.lookup x.1=some c) ->
  (forIn ns acc λ (x:Str × NameKind) (cs:List (Str × Addr))=>(if x.2 == NameKind.free then do let a <- cellOf env x.1; pure (ForInStep.yield ((x.1,a)::cs)) else pure (ForInStep.yield cs):Sem (ForInStep (List (Str × Addr)))))=pure (clOf env.cells ns acc)
 | [],acc,_=>by simp [clOf]
 | (n,k)::r,acc,h=>by
  rw [List.forIn_cons]
  have ih:=λ a=>c6Z (env:=env) r a λ x hx=>h x (List.mem_cons_of_mem _ hx)
  unfold clOf
  by_cases hk:(k == NameKind.free)=true
  ·obtain ⟨c,hc⟩:=h (n,k) List.mem_cons_self (by simpa using hk)
   have hc':env.cells.lookup n=some c:=hc
   have hce:cellOf env n=pure c:=by simp only [cellOf,hc']
   simp only [hk,if_true,hce,pure_bind,hc']
   exact ih _
  ·simp only [hk,if_false,pure_bind,ih]
   simp
theorem a6W {scope:Scope} {env:Env} (h:∀ x∈scope.names,x.2 = .free->∃ c,env.cells.lookup x.1=some c):closureFor scope env=pure (clOf env.cells scope.names []):=by
 have q:=c6Z (env:=env) scope.names [] h
 unfold closureFor
 rw [<- q]
 first
  | rfl
  | simp
theorem a4F {cells:List (Str × Addr)}:∀ (ns:List (Str × NameKind)) (acc:List (Str × Addr)) {x:Str} {c:Addr},(∀ y d,acc.lookup y=some d->cells.lookup y=some d)->(clOf cells ns acc).lookup x=some c->cells.lookup x=some c
 | [],acc,x,c,ha,h=>ha x c h
 | (n,k)::r,acc,x,c,ha,h=>by
  unfold clOf at h
  refine a4F r _ (λ y d hy=>?_) h
  split at hy
  ·split at hy
   ·rename_i c' hc'
    rw [List.lookup_cons] at hy
    split at hy
    ·rename_i e
     have e':y=n:=by simpa using e
     subst e'
     rw [hc']; exact hy
    ·exact ha y d hy
   ·exact ha y d hy
  ·exact ha y d hy
theorem b2N {cells:List (Str × Addr)}:∀ (ns:List (Str × NameKind)) (acc:List (Str × Addr)) {x:Str},(∃ c,acc.lookup x=some c)->∃ c,(clOf cells ns acc).lookup x=some c
 | [],acc,x,h=>h
 | (n,k)::r,acc,x,h=>by
  unfold clOf
  refine b2N r _ ?_
  split
  ·split
   ·rw [List.lookup_cons]
    split
    ·exact ⟨_,rfl⟩
    ·exact h
   ·exact h
  ·exact h
theorem a5Y {cells:List (Str × Addr)}:∀ (ns:List (Str × NameKind)) (acc:List (Str × Addr)) {x:Str},(x,NameKind.free)∈ns->(∃ c,cells.lookup x=some c)->∃ c,(clOf cells ns acc).lookup x=some c
 | [],acc,x,h,_=>nomatch h
 | (n,k)::r,acc,x,h,hc=>by
  unfold clOf
  rcases List.mem_cons.mp h with e | h
  ·cases e
   obtain ⟨c,hc⟩:=hc
   refine b2N r _ ?_
   simp [hc]
  ·exact a5Y r _ h hc
end L2
namespace L2
open PySem PySem.Spec PyProof.Rows
theorem Inv.track {X:Cx} {pins:List (Addr × Obj)} {σ:St} {H:Hp} {s:Shared} {a:Addr} {o:HO} (I:Inv X pins σ H s) (hn:H a=none) (h0:X.s₀.heap.objs.size<=a) (hL:a≠X.env.locals)
  (hc:∀ x c,X.env.cells.lookup x=some c->c≠a) (hp:∀ p∈X.pn++pins,p.1≠a) (new:ObjOk X.prog X.w (upd H a o) s.heap a o):Inv X pins σ (upd H a o) s:=by
 have ne:∀ b u,H b=some u->b≠a:=λ b u e=>a1G e hn
 have q:=I.step (g':=s.gens) (d':=s.drawn) (t':=s.toks) (h':=s.heap) (H':=upd H a o) (ch:=[a]) (λ b hb=>?_) (λ b ob _ _ _ e _=>e) (λ b ob _ _ _ e _=>⟨ob.slots,e⟩) (λ b ob hb _ n=>?_)
  (λ b ob _ e=>⟨ob,e⟩) (λ b xs e=>by rw [a1K (ne b _ e)]; exact e) (λ b ob u e=>by rw [a1K (ne b _ e)]; exact e) (λ b ps e=>⟨#[],by rw [a1K (ne b _ e),e]; simp⟩) (λ m hm=>hm) (λ b u e=>?_) I.bare
 ·exact q
 ·have e:b=a:=by simpa using hb
  subst e
  exact ⟨.inr h0,hL,hc,hp⟩
 ·rw [a1K (λ z=>hb (by simp [z]))]; exact n
 ·by_cases hb:b=a
  ·subst hb; rw [a5V] at e; cases e; exact new
  ·rw [a1K hb] at e
   exact (I.hok b u e).stay (λ c v _ q=>q) (λ c q=>by rw [a1K (a1G q hn)]; exact q) λ c xs q=>by rw [a1K (a1G q hn)]; exact q
def a4V (X:Cx) (N':List Str) (scope:Scope) (C:Addr) (s:Shared) (H:Hp) (fp:List Addr) (xe:Value->Shared->Prop):Cx :=
 { X with N:=N',s₀:=s,H₀:=H,env:=compEnvC scope (clOf X.env.cells scope.names []) C X.env,outer:=X.stack,ex:=fp,fn:=λ _=>false,xe:=xe }
structure BlkOk (X:Cx) (N':List Str) (ix:List (Option Nat)) (scope:Scope):Prop where
 kind:scope.kind = .function
 nocell:∀ y∈scope.names,y.2 ≠ .cell
 locs:∀ y∈scope.names,y.2 = .local->scope.names.lookup y.1=some .local
 free:∀ y∈scope.names,y.2 = .free->X.env.kindOf y.1=some .cell\/X.env.kindOf y.1=some .free
 len:ix.length=N'.length
 cap:∀ (i j:Nat),ix[i]?=some (some j)->∃ x,N'[i]?=some x/\X.N[j]?=some x/\scope.names.lookup x=some .free
def capt (ix:List (Option Nat)) (σ:St):St:=ix.map λ o=>o.bind λ j=>(σ[j]?).join
theorem a4W {env:Env} {x:Str}:∀ {names:List (Str × NameKind)},names.lookup x=some .free->(names.map λ (n,k)=>if (k == NameKind.free && env.scope.kind == .function && env.kindOf n == some .cell) then (n,NameKind.cell) else (n,k)).lookup x=some .cell\/(names.map λ (n,k)=>if (k == NameKind.free && env.scope.kind == .function && env.kindOf n == some .cell) then (n,NameKind.cell) else (n,k)).lookup x=some .free
 | [],h=>by simp at h
 | (n,k)::r,h=>by
  have ih:=@a4W env x r
  simp only [List.map_cons]
  cases hx:x == n with
  | true =>
   simp only [List.lookup_cons,hx] at h
   cases h
   by_cases hc:(NameKind.free == NameKind.free && env.scope.kind == .function && env.kindOf n == some .cell)=true
   ·rw [if_pos hc]; left; simp [List.lookup_cons,hx]
   ·rw [if_neg hc]; right; simp [List.lookup_cons,hx]
  | false =>
   simp only [List.lookup_cons,hx] at h
   by_cases hc:(k == NameKind.free && env.scope.kind == .function && env.kindOf n == some .cell)=true
   ·rw [if_pos hc]; simp only [List.lookup_cons,hx]; exact ih h
   ·rw [if_neg hc]; simp only [List.lookup_cons,hx]; exact ih h
theorem a7E {env:Env} {x:Str}:∀ {names:List (Str × NameKind)},(∀ y∈names,y.2 ≠ .cell)->((names.map λ (n,k)=>if (k == NameKind.free && env.scope.kind == .function && env.kindOf n == some .cell) then (n,NameKind.cell) else (n,k)).lookup x=some .cell\/(names.map λ (n,k)=>if (k == NameKind.free && env.scope.kind == .function && env.kindOf n == some .cell) then (n,NameKind.cell) else (n,k)).lookup x=some .free)->(x,NameKind.free)∈names
 | [],_,h=>by simp at h
 | (n,k)::r,hn,h=>by
  have ih:=@a7E env x r λ y hy=>hn y (List.mem_cons_of_mem _ hy)
  simp only [List.map_cons] at h
  cases hx:x == n with
  | true =>
   have e:x=n:=by simpa using hx
   subst e
   have hk:=hn (x,k) List.mem_cons_self
   by_cases hc:(k == NameKind.free && env.scope.kind == .function && env.kindOf x == some .cell)=true
   ·have hf:k = .free:=by
     simp only [Bool.and_eq_true,beq_iff_eq] at hc
     exact hc.1.1
    subst hf
    exact List.mem_cons_self
   ·rw [if_neg hc] at h
    simp only [List.lookup_cons,hx] at h
    rcases h with h | h
    ·exact absurd (Option.some.inj h) hk
    ·have hf:k = .free:=Option.some.inj h
     subst hf
     exact List.mem_cons_self
  | false =>
   refine List.mem_cons_of_mem _ (ih ?_)
   by_cases hc:(k == NameKind.free && env.scope.kind == .function && env.kindOf n == some .cell)=true
   ·rw [if_pos hc] at h; simpa only [List.lookup_cons,hx] using h
   ·rw [if_neg hc] at h; simpa only [List.lookup_cons,hx] using h
theorem b2O {X:Cx} {pins:List (Addr × Obj)} {σ:St} {H:Hp} {s:Shared} {N':List Str} {ix:List (Option Nat)} {scope:Scope} {i:Nat} {x:Str} {v:V} (B:BlkOk X N' ix scope) (I:Inv X pins σ H s)
  (h1:N'[i]?=some x) (h2:(capt ix σ)[i]?=some (some v)):∃ u c,RelV v u/\(clOf X.env.cells scope.names []).lookup x=some c/\X.env.cells.lookup x=some c/\s.heap.IsCell c (some u) /\
   ((relabel scope X.env).names.lookup x=some .cell\/(relabel scope X.env).names.lookup x=some .free):=by
 have clB:∀ x c,(clOf X.env.cells scope.names []).lookup x=some c->X.env.cells.lookup x=some c:=λ x c h=>a4F scope.names [] (λ _ _ z=>by simp at z) h
 obtain ⟨j,hj,hv⟩:∃ j,ix[i]?=some (some j)/\σ[j]?=some (some v):=by
  unfold capt at h2
  rw [List.getElem?_map] at h2
  cases e:ix[i]? with
  | none=>rw [e] at h2; cases h2
  | some o =>
   rw [e] at h2
   cases o with
   | none=>cases h2
   | some j =>
    refine ⟨j,rfl,?_⟩
    have h2':(σ[j]?).join=some v:=Option.some.inj h2
    cases e2:σ[j]? with
    | none=>rw [e2] at h2'; cases h2'
    | some o2=>rw [e2] at h2'; have:o2=some v:=h2'; rw [this]
 obtain ⟨x',hx1,hx2,hx3⟩:=B.cap i j hj
 have exx:x'=x:=by
  have h1':N'[i]?=some x:=h1
  rw [hx1] at h1'; exact Option.some.inj h1'
 subst exx
 have hmem:=PySem.mem_of_lookup hx3
 have hout:=B.free _ hmem rfl
 obtain ⟨m0,_,hl⟩:=I.loc
 obtain ⟨u,r,l⟩:=hl j x' v hx2 hv (by
  rcases hout with e | e
  ·exact .inr (.inl e)
  ·exact .inr (.inr e))
 rcases l with ⟨k,_⟩ | ⟨k,c,e,z⟩
 ·rcases hout with e | e
  ·rw [e] at k; cases k
  ·rw [e] at k; cases k
 ·obtain ⟨c',hc'⟩:=a5Y scope.names [] hmem (I.ok.has x' hout)
  have:=clB x' c' hc'
  rw [e] at this; cases this
  exact ⟨u,c,r,hc',e,z,a4W hx3⟩
theorem b9V {X:Cx} {pins:List (Addr × Obj)} {σ:St} {H:Hp} {s s4:Shared} {N':List Str} {ix:List (Option Nat)} {scope:Scope} {C:Addr} {fp:List Addr} {xe:Value->Shared->Prop} {m:Str->Option Value}
  (B:BlkOk X N' ix scope) (I:Inv X pins σ H s) (hf:∀ b∈fp,FpOk X pins H b) (hC:s.heap.objs.size<=C) (hfs:∀ b∈fp,b < s.heap.objs.size)
  (ho:s4.os=s.os) (hg:s4.gens=s.gens) (hk:∀ b o,s.heap.get? b=some o->s4.heap.get? b=some o) (hns:s4.heap.Ns C m) :
  Inv (a4V X N' scope C s H fp xe) pins (capt ix σ) H s4:=by
 have clB:∀ x c,(clOf X.env.cells scope.names []).lookup x=some c->X.env.cells.lookup x=some c:=λ x c h=>a4F scope.names [] (λ _ _ z=>by simp at z) h
 have hfree:H C=none:=I.hok.fresh hC
 have neC:∀ b o,s.heap.get? b=some o->b≠C:=λ b o e=>Nat.ne_of_lt (Nat.lt_of_lt_of_le (Heap.lt_size e) hC)
 refine ⟨⟨I.ok.mod,B.kind,I.ok.glob,I.ok.blt,hC,λ x y c h1 h2=>I.ok.inj x y c (clB x c h1) (clB y c h2),λ x hx=>?_,λ x c h=>absurd (show false=true from h) Bool.false_ne_true,I.ok.hd,I.ok.frames,.inl rfl,λ b hb=>⟨?_,λ x c e=>?_⟩,I.bs,?_,λ b o e hb=>?_,λ b hb z=>?_,I.stack,I.stkFree⟩,
  ho,?_,Un.kept hk,⟨m,hns,λ i x v h1 h2 h3=>?_⟩,λ x c e=>?_,hfree,λ x c e=>I.freeC x c (clB x c e),λ p hp=>?_,I.hok.kept hk,?_⟩
 ·have hx':=a7E (env:=X.env) (x:=x) B.nocell hx
  exact a5Y scope.names [] hx' (I.ok.has x (B.free _ hx' rfl))
 ·exact Nat.ne_of_lt (Nat.lt_of_lt_of_le (hfs b hb) hC)
 ·exact (hf b hb).2.2.2.2.1 x c (clB x c e)
 ·exact Nat.le_trans I.ok.bsz I.sz
 ·obtain ⟨_,_,_,q,_⟩:=hf b hb
  rcases q with q | q
  ·exact I.ok.noex b o e q
  ·exact absurd (Nat.lt_of_lt_of_le (Heap.lt_size (I.ok.bs b o e).1) q) (Nat.lt_irrefl _)
 ·obtain ⟨_,q1,q2,_⟩:=hf b hb
  rcases List.mem_cons.mp (I.stkSub b z) with e | e
  ·exact q1 e
  ·exact q2 e
 ·rw [hg]; exact I.bare
 ·obtain ⟨u,c,r,hc1,_,⟨oc,z1,z2⟩,hk'⟩:=b2O B I h1 h2
  exact ⟨u,r,.inr ⟨hk',c,hc1,oc,hk _ _ z1,z2⟩⟩
 ·obtain ⟨v,oc,h1,h2⟩:=I.cell x c (clB x c e)
  exact ⟨v,oc,hk _ _ h1,h2⟩
 ·obtain ⟨e,n,ne,nf,d⟩:=I.pin p hp
  refine ⟨hk _ _ e,n,neC _ _ e,λ z=>?_,d⟩
  rcases List.mem_cons.mp (I.stkSub p.1 z) with e' | e'
  ·exact ne e'
  ·exact nf e'
 ·show (ix.map _).length=N'.length
  rw [List.length_map]; exact B.len
end L2
namespace L2
open PySem PySem.Spec PyProof.Rows
theorem a8K {prog:Program} {w:World} {A:Around} {R:Result->Shared->Prop} {s:Shared} {elt target iter:Expr} {ifs:List Expr} {scope:Scope} {pos:Pos} {it acc:Value} {env:Env} (Iv:Nat->Shared->Prop)
  (turn:∀ n s,Iv n s->wpAny (model prog w) A (pyNext it) (λ r s₁=>match r with
   | none=>R (.ok .next) s₁
   | some v=>wpAny (model prog w) A (letOwnedTupleGo target it v) (λ _ s₁'=>wpAny (model prog w) A (assign target env v) (λ _ s₂ =>
     wpAny (model prog w) A (forIn ifs true λ c r=>if r=true then do let ok <- isTrue c env (eval c env); pure (ForInStep.yield ok) else pure (ForInStep.yield r)) (λ ok s₃ =>
      if ok=true then wpAny (model prog w) A (eval elt env) (λ x s₄ =>
       wpAny (model prog w) A (call (.builtin "list.append") [acc,x]) (λ _ s₅=>∃ m,m < n/\Iv m s₅) (notedBy (model prog w) A env λ e s'=>R (.error e) s') s₄) (notedBy (model prog w) A env λ e s'=>R (.error e) s') s₃
      else ∃ m,m < n/\Iv m s₃) (notedBy (model prog w) A env λ e s'=>R (.error e) s') s₂) (notedBy (model prog w) A env λ e s'=>R (.error e) s') s₁') (notedBy (model prog w) A env λ e s'=>R (.error e) s') s₁) (notedBy (model prog w) A env λ e s'=>R (.error e) s') s)
  (n:Nat) (h:Iv n s) :
  codeAny (model prog w) A (.compLoop (.ListComp elt [⟨target,iter,ifs,0⟩] scope pos) 0 it acc env) R s:=by
 refine codeAny_loop rfl Iv (λ n s hI=>?_) n h
 show wpAny _ A ((compTurn (.ListComp elt [⟨target,iter,ifs,0⟩] scope pos) 0 it acc env).onRaise (λ x=>do noteFrame x env; theTreesLotGoes x)) _ _ s
 refine wpAny_noted ?_
 rw [compTurn_list]
 refine wpAny_bind (wpAny_standAt (wpAny_bind (wpAny_mono (turn n s hI) (λ r s₁ h₁=>?_) λ _ _ h'=>h')))
 cases r with
 | none=>exact wpAny_pure h₁
 | some v =>
  refine wpAny_bind (wpAny_mono h₁ (λ _ s₁' h₁'=>?_) λ _ _ h'=>h')
  refine wpAny_bind (wpAny_mono h₁' (λ _ s₂ h₂=>wpAny_bind (wpAny_mono h₂ (λ ok s₃ h₃=>?_) λ _ _ h'=>h')) λ _ _ h'=>h')
  cases ok with
  | false=>exact wpAny_pure ⟨rfl,h₃⟩
  | true =>
   exact wpAny_bind (wpAny_bind (wpAny_mono h₃ (λ x s₄ h₄=>wpAny_bind (wpAny_mono h₄ (λ _ s₅ h₅=>wpAny_pure (wpAny_pure ⟨rfl,h₅⟩)) λ _ _ h'=>h')) λ _ _ h'=>h'))
def PTs (X:Cx) (ifs:List Expr) (t:TT):Prop :=
 ∀ (pins:List (Addr × Obj)) (s:Shared) (σ:St) (H:Hp) (Q:Bool->Hp->Prop),Inv X pins σ H s->t σ H Q ->
  wpAny (model X.prog X.w) X.A (forIn ifs true λ c r=>if r=true then do let ok <- isTrue c X.env (eval c X.env); pure (ForInStep.yield ok) else pure (ForInStep.yield r)) (TP X pins σ Q) X.xe s
def d3X:TT:=λ _ H Q=>Q true H
theorem a1H {X:Cx}:PTs X [] d3X:=λ _ _ _ H _ I h=>wpAny_tests_nil ⟨H,I,h⟩
theorem a2S {X:Cx} {c:Expr} {t:TT} (h:PT X c t):PTs X [c] t:=λ pins s σ H Q I hw=>wpAny_tests_one (h pins s σ H Q I hw)
def a5I (ix:List (Option Nat)) (g:TG) (tt:TT) (te:TE) (σ:St) (H1:Hp) (Q:VK) (J:It):Prop:=∃ W:Nat->Nat->List V->Hp->Prop,(∃ m,W 0 m [] H1)/\∀ i m ys H,W i m ys H ->
 (J.stop i H/\ys.length<=sizeLine/\∀ p,H p=none->Q (.ref p) (upd H p (.lst ys))) \/
 (J.go i H/\ys.length<=sizeLine/\∃ N:List V->Hp->Prop,(∀ ys' H',N ys' H'->∃ m',m' < m/\W (i+1) m' ys' H')/\∀ x H',J.yld i H x H'->g x (capt ix σ) H' λ σ2 H2=>tt σ2 H2 λ b H3=>if b=true then te σ2 H3 λ v H4=>N (ys++[v]) H4 else N ys H3)
def tLC (ix:List (Option Nat)) (wi:TI) (g:TG) (tt:TT) (te:TE):TE:=λ σ H Q=>wi σ H λ J H1=>a5I ix g tt te σ H1 Q J
section
variable {X:Cx} {elt tg iter:Expr} {ifs:List Expr} {scope:Scope} {pos:Pos} {N':List Str} {ix:List (Option Nat)} {wi:TI} {g:TG} {tt:TT} {te:TE}
theorem c7A (B:BlkOk X N' ix scope) (hc:X.calm=true)
  (hg:∀ C s H fp xe,PG (a4V X N' scope C s H fp xe) tg g) (ht:∀ C s H fp xe,PTs (a4V X N' scope C s H fp xe) ifs tt) (he:∀ C s H fp xe,PE (a4V X N' scope C s H fp xe) elt te)
  {pins:List (Addr × Obj)} {s2:Shared} {σ:St} {H2:Hp} {Q:VK} {it:Addr} {fp:List Addr} {tn:Nat->Heap->Prop} {J:It} {RR:Value->Addr->Result->Shared->Prop} {E:Value->Shared->Prop}
  (I2:Inv X pins σ H2 s2) (T:Turn X.prog X.w X.K tg J fp it tn) (st2:tn 0 s2.heap) (f2:∀ b∈fp,FpOk X pins H2 b)
  (q:∃ W:Nat->Nat->List V->Hp->Prop,(∃ m,W 0 m [] H2)/\∀ i m ys H,W i m ys H ->
   (J.stop i H/\ys.length<=sizeLine/\∀ p,H p=none->Q (.ref p) (upd H p (.lst ys))) \/
   (J.go i H/\ys.length<=sizeLine/\∃ N:List V->Hp->Prop,(∀ ys' H',N ys' H'->∃ m',m' < m/\W (i+1) m' ys' H')/\∀ x H',J.yld i H x H'->g x (capt ix σ) H' λ σ2 H2=>tt σ2 H2 λ b H3=>if b=true then te σ2 H3 λ v H4=>N (ys++[v]) H4 else N ys H3))
  (hRR:∀ D C s' H' ys,Inv X pins σ (upd H' D (.lst ys)) s'->H' D=none->Q (.ref D) (upd H' D (.lst ys))->(∃ m,s'.heap.Ns C m)->upd H' D (.lst ys) C=none->C≠X.env.locals->X.s₀.heap.objs.size<=C->(∀ x c,X.env.cells.lookup x=some c->c≠C)->(∀ p∈X.pn++pins,p.1≠C)->RR (.ref D) C (.ok .next) s') :
  wpAny (model X.prog X.w) X.A (newList []) (λ acc s₃=>wpAny (model X.prog X.w) X.A (newFunctionEnv scope X.env.globals (clOf X.env.cells scope.names []) [] X.env.qual none .none (some X.env)) (λ cenv s₄ =>
   codeAny (model X.prog X.w) X.A (.compStart (.ListComp elt [⟨tg,iter,ifs,0⟩] scope pos) 0 (.ref it) acc { cenv with scope:=relabel scope X.env }) (RR acc cenv.locals) s₄) E s₃) E s2:=by
 have hfs:∀ b∈fp,b < s2.heap.objs.size:=λ b hb=>by
  obtain ⟨o,e,_⟩:=T.obj _ _ st2 b hb
  exact Heap.lt_size e
 refine wpAny_newObj_type (wpAny_newFunctionEnv B.nocell (by intro y hy; simp at hy) (λ h₁ hns₁ hsb₁=>?_) B.kind)
 dsimp only at hns₁ hsb₁ ⊢
 generalize hH3:s2.heap.push { cls:=.type "list", dict:=none,data:=.seq ([]:List Value).toArray }=H3 at hns₁ hsb₁ ⊢
 have hC:H3.objs.size=s2.heap.objs.size+1:=by rw [<- hH3,Heap.size_push]
 have hDC:s2.heap.objs.size≠H3.objs.size:=by rw [hC]; exact Nat.ne_of_lt (Nat.lt_succ_self _)
 have below:∀ b,b < s2.heap.objs.size->b≠H3.objs.size/\b≠s2.heap.objs.size:=λ b hb=>⟨by rw [hC]; exact Nat.ne_of_lt (Nat.lt_succ_of_lt hb),Nat.ne_of_lt hb⟩
 have old:∀ b o,s2.heap.get? b=some o->h₁.get? b=some o:=λ b o e=>hsb₁.extBut b o (below b (Heap.lt_size e)).1 (Heap.get?_push_of_some _ (hH3 ▸ Heap.get?_push_of_some _ e))
 have hacc:h₁.get? s2.heap.objs.size=some { cls:=.type "list", data:=.seq ([]:List Value).toArray 0 }:=hsb₁.extBut _ _ hDC (Heap.get?_push_of_some _ (hH3 ▸ Heap.get?_push_size _ rfl))
 have hCle:s2.heap.objs.size<=H3.objs.size:=by rw [hC]; exact Nat.le_succ _
 generalize hD:s2.heap.objs.size=D at *
 generalize hCC:H3.objs.size=C at *
 obtain ⟨W,⟨m0,w0⟩,turn⟩:=q
 let xe:Value->Shared->Prop:=notedBy (model X.prog X.w) X.A (compEnvC scope (clOf X.env.cells scope.names []) C X.env) λ e s'=>RR (.ref D) C (.error e) s'
 let X':Cx:=a4V X N' scope C s2 H2 fp xe
 have DL:D ∉ frs X.stack:=λ z=>by
  rcases List.mem_cons.mp (I2.stkSub D z) with e | e
  ·exact absurd I2.lt (by rw [<- e,hD]; exact Nat.lt_irrefl _)
  ·exact I2.nofs (by rw [hD]; exact Nat.le_refl _) e
 have cellLt:∀ x c,X.env.cells.lookup x=some c->c < D:=λ x c e=>by
  obtain ⟨v,oc,h,_⟩:=I2.cell x c e
  rw [<- hD]; exact Heap.lt_size h
 have clB:∀ x c,(clOf X.env.cells scope.names []).lookup x=some c->X.env.cells.lookup x=some c:=λ x c h=>a4F scope.names [] (λ _ _ z=>by simp at z) h
 have pinLt:∀ p∈X.pn++pins,p.1 < D:=λ p hp=>by rw [<- hD]; exact Heap.lt_size (I2.pin p hp).1
 have fpX:∀ {pl:List (Addr × Obj)} {H':Hp},(∀ b∈fp,H' b=none)->(∀ p∈pl,p∈pins\/p.1=D)->∀ b∈fp,FpOk X' pl H' b:=λ {pl H'} hn hpl b hb=>by
  obtain ⟨_,q1,q2,q3,q4,q5⟩:=f2 b hb
  refine ⟨hn b hb,(below b (hfs b hb)).1,λ z=>?_,.inl hb,λ x c e=>q4 x c (clB x c e),λ p hp=>?_⟩
  ·rcases List.mem_cons.mp (I2.stkSub b z) with e | e
   ·exact q1 e
   ·exact q2 e
  ·rcases List.mem_append.mp hp with hp | hp
   ·exact q5 p (List.mem_append_left _ hp)
   ·rcases hpl p hp with z | z
    ·exact q5 p (List.mem_append_right _ z)
    ·rw [z]; exact Ne.symm (below b (hfs b hb)).2
 have loop:∀ s₃:Shared,s₃={ s2 with heap:=h₁,toks:=s2.toks+([]:List (Str × Value)).length } ->
   codeAny (model X.prog X.w) X.A (.compLoop (.ListComp elt [⟨tg,iter,ifs,0⟩] scope pos) 0 (.ref it) (.ref D) (compEnvC scope (clOf X.env.cells scope.names []) C X.env)) (RR (.ref D) C) s₃:=by
  rintro s₃ rfl
  refine a8K (λ n s'=>∃ i H' ys its k,Inv X' pins (capt ix σ) H' s'/\tn i s'.heap/\(∀ b∈fp,H' b=none)/\H' D=none/\s'.heap.get? D=some { cls:=.type "list", data:=.seq (List.toArray its) k }/\Vals ys its/\W i n ys H') ?_ m0
   ⟨0,H2,[],[],0,b9V B I2 f2 (by rw [hD]; exact hCle) (λ b hb=>by rw [hD]; exact hfs b hb) rfl rfl old hns₁,T.keep _ _ _ st2 λ b _ o e=>old b o e,λ b hb=>(f2 b hb).1,I2.hok.fresh (by rw [hD]; exact Nat.le_refl _),hacc,.nil,w0⟩
  rintro n s' ⟨i,H',ys,its,k,I',st',fr',hDn,hDo,rv,w'⟩
  have hDX:∀ v,({ cls:=.type "list", data:=.seq (List.toArray its) k }:Obj).data ≠ .cell v:=λ v z=>by
   have z':Data.seq (List.toArray its) k=Data.cell v:=z
   cases z'
  have pinD:∀ {σ':St} {H'':Hp} {s'':Shared} {its':List Value} {k':Nat},Inv X' pins σ' H'' s''->H'' D=none->s''.heap.get? D=some { cls:=.type "list", data:=.seq (List.toArray its') k' }->Inv X' (pins++[(D,{ cls:=.type "list", data:=.seq (List.toArray its') k' })]) σ' H'' s'':=λ {σ' H'' s'' its' k'} J hn ho =>
   J.pins_of λ p hp=>(List.mem_append.mp hp).elim (λ z=>J.pin p (List.mem_append_right _ z)) λ z=>by
    have e:p=(D,{ cls:=.type "list", data:=.seq (List.toArray its') k' }):=by simpa using z
    subst e
    exact ⟨ho,hn,hDC,DL,λ v z=>by
     have z':Data.seq (List.toArray its') k'=Data.cell v:=z
     cases z'⟩
  have plD:∀ {its':List Value} {k':Nat},∀ p∈pins++[(D,({ cls:=.type "list", data:=.seq (List.toArray its') k' }:Obj))],p∈pins\/p.1=D:=λ {its' k'} p hp=>(List.mem_append.mp hp).elim .inl λ z=>by
   have e:p=(D,{ cls:=.type "list", data:=.seq (List.toArray its') k' }):=by simpa using z
   subst e
   exact .inr rfl
  have unD:∀ {pl:List (Addr × Obj)} {σ':St} {H'':Hp} {s'':Shared},Inv X' (pins++pl) σ' H'' s''->Inv X' pins σ' H'' s'':=λ J=>J.pins_of λ p hp=>J.pin p (List.mem_append_right _ (List.mem_append_left _ hp))
  have I'p:=pinD I' hDn hDo
  rcases turn i n ys H' w' with ⟨stop,hsz,fin⟩ | ⟨go,hsz,N,hN,step⟩
  ·refine wpAny_mono (T.done X' rfl rfl rfl hc i _ s' (capt ix σ) H' X'.xe I'p (fpX fr' plD) st' stop) (λ r s5 ⟨hr,I5⟩=>?_) λ _ _ z=>z
   subst hr
   have hDo5:s5.heap.get? D=some { cls:=.type "list", data:=.seq (List.toArray its) k }:=(I5.pin (D,_) (List.mem_append_right _ (List.mem_append_right _ (List.mem_singleton.mpr rfl)))).1
   have sz0:X.s₀.heap.objs.size<=D:=by rw [<- hD]; exact I2.sz
   have J:Inv X pins σ H' s5:=I2.call' (ch:=fp) I5.os I5.base I5.hok I5.bare λ b hb=>by
    obtain ⟨_,q1,_,q3,q4,q5⟩:=f2 b hb
    exact ⟨q3,q1,q4,q5⟩
   have nL:X.env.locals < D:=by rw [<- hD]; exact I2.lt
   have J2:Inv X pins σ (upd H' D (.lst ys)) s5:=Inv.track J hDn sz0 (Nat.ne_of_gt nL) (λ x c e=>Nat.ne_of_lt (cellLt x c e)) (λ p hp=>Nat.ne_of_lt (pinLt p hp)) ⟨hsz,its,k,rv,hDo5⟩
   obtain ⟨mC,hnC,_⟩:=I5.loc
   have DltC:D < C:=Nat.lt_of_le_of_ne hCle hDC
   refine hRR D C s5 H' ys J2 hDn (fin D hDn) ⟨mC,hnC⟩ ?_ (Nat.ne_of_gt (Nat.lt_trans nL DltC)) (Nat.le_trans sz0 hCle) (λ x c e=>Nat.ne_of_lt (Nat.lt_trans (cellLt x c e) DltC)) λ p hp=>Nat.ne_of_lt (Nat.lt_trans (pinLt p hp) DltC)
   rw [a1K (Ne.symm hDC)]
   exact I5.free
  ·refine wpAny_mono (T.item X' rfl rfl rfl hc i _ s' (capt ix σ) H' X'.xe I'p (fpX fr' plD) st' go) (λ r s5 ⟨u,hr,h5⟩=>?_) λ _ _ z=>z
   subst hr
   refine wpAny_mono h5 (λ _ s6 ⟨x,H6,I6,r6,y6,st6,fr6⟩=>?_) λ _ _ z=>z
   have I6':=I6.pinned (fpX fr6 plD) (T.obj _ _ st6)
   refine wpAny_mono (hg C s2 H2 fp xe _ s6 (capt ix σ) H6 x u _ I6' r6 (step x H6 y6)) (λ _ s7 ⟨σ7,H7,I7,q7⟩=>?_) λ _ _ z=>z
   have after:∀ {σ8:St} {H8:Hp} {s8:Shared},Inv X' ((pins++[(D,{ cls:=.type "list", data:=.seq (List.toArray its) k })])++a7C fp s6.heap) σ8 H8 s8 ->
     Inv X' pins (capt ix σ) H8 s8/\tn (i+1) s8.heap/\(∀ b∈fp,H8 b=none)/\H8 D=none/\s8.heap.get? D=some { cls:=.type "list", data:=.seq (List.toArray its) k }:=λ {σ8 H8 s8} I8=>by
    have pD:=I8.pin (D,{ cls:=.type "list", data:=.seq (List.toArray its) k }) (List.mem_append_right _ (List.mem_append_left _ (List.mem_append_right _ (List.mem_singleton.mpr rfl))))
    have fpP:∀ b∈fp,∀ o,s6.heap.get? b=some o->s8.heap.get? b=some o/\H8 b=none:=λ b hb o e=>by
     have z:=I8.pin (b,o) (List.mem_append_right _ (List.mem_append_right _ (a3W hb e)))
     exact ⟨z.1,z.2.1⟩
    refine ⟨⟨I8.ok,I8.os,I8.bare,I8.base,?_,I8.cell,I8.free,I8.freeC,λ p hp=>?_,I8.hok,?_⟩,T.keep _ _ _ st6 λ b hb o e=>(fpP b hb o e).1,λ b hb=>?_,pD.2.1,pD.1⟩
    ·obtain ⟨m8,hn8,_⟩:=I8.loc
     refine ⟨m8,hn8,λ i x v h1 h2 h3=>?_⟩
     obtain ⟨u,c,r,hc1,hc2,⟨oc,z1,z2⟩,hk'⟩:=b2O B I2 h1 h2
     obtain ⟨sl,e8⟩:=I8.base.any z1 (I2.freeC x c hc2) λ z=>(f2 c z).2.2.2.2.1 x c hc2 rfl
     exact ⟨u,r,.inr ⟨hk',c,hc1,_,e8,z2⟩⟩
    ·rcases List.mem_append.mp hp with hp | hp
     ·exact I8.pin p (List.mem_append_left _ hp)
     ·exact I8.pin p (List.mem_append_right _ (List.mem_append_left _ (List.mem_append_left _ hp)))
    ·show (capt ix σ).length=N'.length
     unfold capt
     rw [List.length_map]; exact B.len
    ·obtain ⟨o,e,_⟩:=T.obj _ _ st6 b hb
     exact (fpP b hb o e).2
   refine wpAny_mono (ht C s2 H2 fp xe _ s7 σ7 H7 _ I7 q7) (λ b s8 ⟨H8,I8,q8⟩=>?_) λ _ _ z=>z
   cases b with
   | false =>
    rw [if_neg Bool.false_ne_true] at q8 ⊢
    obtain ⟨m',hm,w8⟩:=hN _ _ q8
    obtain ⟨J,tn8,f8,d8,o8⟩:=after I8
    exact ⟨m',hm,i+1,H8,ys,its,k,J,tn8,f8,d8,o8,rv,w8⟩
   | true =>
    rw [if_pos rfl] at q8 ⊢
    refine wpAny_mono (he C s2 H2 fp xe _ s8 σ7 H8 _ I8 q8) (λ v s9 ⟨y,H9,I9,r9,q9⟩=>?_) λ _ _ z=>z
    obtain ⟨J,tn9,f9,d9,o9⟩:=after I9
    obtain ⟨m',hm,w9⟩:=hN _ _ q9
    refine append_at (hsz:=by rw [List.size_toArray,<- rv.length]; exact hsz) o9 λ h10 hs10 hD10=>?_
    refine ⟨m',hm,i+1,H9,ys++[y],its++[v],k+1,?_,T.keep _ _ _ tn9 λ b hb o e=>hs10.extBut b o (λ z=>?_) e,f9,d9,by rw [List.push_toArray] at hD10; exact hD10,rv.append (.cons r9 .nil),w9⟩
    ·refine J.turned (t':=s9.toks) (it:=D) (λ b o hb e=>hs10.extBut b o hb e) d9 hDC (.inr (by show s2.heap.objs.size<=D; rw [hD]; exact Nat.le_refl _)) (λ x c e=>Nat.ne_of_lt (cellLt x c (clB x c e))) λ p hp=>Nat.ne_of_lt (pinLt p hp)
    ·exact (below b (hfs b hb)).2 z
 exact codeAny_compStart_list (loop _ rfl) (T.self X.A 0 _ _ _ (T.keep _ _ _ st2 λ b _ o e=>old b o e) (loop _ rfl))
end
end L2
namespace L2
open PySem PySem.Spec PyProof.Rows
def a7Y (outer:Scope) (N N':List Str) (ix:List (Option Nat)) (scope:Scope):Bool :=
 (scope.kind == .function) && (scope.names.all λ y=>y.2 != .cell) && (scope.names.all λ y=>y.2 != .local || scope.names.lookup y.1 == some .local) &&
 (scope.names.all λ y=>y.2 != .free || outer.names.lookup y.1 == some .cell || outer.names.lookup y.1 == some .free) && (ix.length == N'.length) &&
 (List.range ix.length).all λ i=>match ix[i]? with
  | some (some j)=>(match N'[i]? with | some x=>N[j]? == some x && scope.names.lookup x == some .free | none=>false)
  | _=>true
theorem c7B {X:Cx} {N':List Str} {ix:List (Option Nat)} {scope:Scope} (h:a7Y X.env.scope X.N N' ix scope=true):BlkOk X N' ix scope:=by
 unfold a7Y at h
 simp only [Bool.and_eq_true] at h
 obtain ⟨⟨⟨⟨⟨h1,h2⟩,h3⟩,h4⟩,h5⟩,h6⟩:=h
 refine ⟨?_,λ y hy=>?_,λ y hy hl=>?_,λ y hy hl=>?_,by simpa using h5,λ i j e=>?_⟩
 ·simpa using h1
 ·have:=List.all_eq_true.mp h2 y hy
  simpa using this
 ·have:=List.all_eq_true.mp h3 y hy
  rw [hl] at this
  simpa using this
 ·have:=List.all_eq_true.mp h4 y hy
  rw [hl] at this
  simp at this
  exact this
 ·have hi:i < ix.length:=(List.getElem?_eq_some_iff.mp e).1
  have:=List.all_eq_true.mp h6 i (List.mem_range.mpr hi)
  rw [e] at this
  simp only at this
  cases q:N'[i]? with
  | none=>rw [q] at this; simp at this
  | some x =>
   rw [q] at this
   simp at this
   exact ⟨x,rfl,this.1,this.2⟩
section
variable {X:Cx} {elt tg iter:Expr} {ifs:List Expr} {scope:Scope} {pos:Pos} {N':List Str} {ix:List (Option Nat)} {wi:TI} {g:TG} {tt:TT} {te:TE}
theorem a2V (N':List Str) (ix:List (Option Nat)) (hB:a7Y X.env.scope X.N N' ix scope=true) (hc:X.calm=true) (hi:PI X tg iter wi)
  (hg:∀ C s H fp xe,PG (a4V X N' scope C s H fp xe) tg g) (ht:∀ C s H fp xe,PTs (a4V X N' scope C s H fp xe) ifs tt) (he:∀ C s H fp xe,PE (a4V X N' scope C s H fp xe) elt te)
  (hs:∀ x,foldedSetIterable iter X.env x=pure x:=by intro _; rfl):PE X (.ListComp elt [⟨tg,iter,ifs,0⟩] scope pos) (tLC ix wi g tt te):=by
 intro pins s σ H Q I h
 have B:=c7B hB
 rw [eval_ListComp]
 refine wpAny_comprehension_free (use:=none) rfl hs (a6W λ y hy hf=>I.ok.has y.1 (B.free y hy hf)) B.kind B.locs (thn (hi pins s σ H _ I h) λ v s1 h1=>thn h1 λ itv s2 h2=>?_)
 obtain ⟨it,fp,tn,J,H2,e,I2,T,st2,f2,q⟩:=h2
 subst e
 refine c7A B hc hg ht he I2 T st2 f2 q ?_
 intro D C s' H' ys J2 hDn hq ⟨m,hn⟩ hC1 hC2 hC3 hC4 hC5
 refine ⟨m,hn,λ h' hs'=>?_⟩
 exact ⟨.ref D,_,J2.turned (t':=s'.toks) (it:=C) (λ b o hb e=>hs'.extBut b o hb e) hC1 hC2 (.inr hC3) hC4 hC5,rfl,hq⟩
theorem a3B {i:Nat} {x:Str} {pos' spos:Pos} (N':List Str) (ix:List (Option Nat)) (hN:X.N.Nodup) (hi':X.N[i]?=some x) (hx:X.env.scope.names.lookup x=some .local)
  (hB:a7Y X.env.scope X.N N' ix scope=true) (hc:X.calm=true) (hi:PI X tg iter wi)
  (hg:∀ C s H fp xe,PG (a4V X N' scope C s H fp xe) tg g) (ht:∀ C s H fp xe,PTs (a4V X N' scope C s H fp xe) ifs tt) (he:∀ C s H fp xe,PE (a4V X N' scope C s H fp xe) elt te)
  (hsw:swapsWith (.ListComp elt [⟨tg,iter,ifs,0⟩] scope pos) (some (.Name x pos')) spos.line X.env=pure true)
  (hs:∀ x,foldedSetIterable iter X.env x=pure x:=by intro _; rfl):PS X (.Assign [.Name x pos'] (.ListComp elt [⟨tg,iter,ifs,0⟩] scope pos) spos) (tAsg (tLC ix wi g tt te) (b7T i)):=by
 intro pins s σ H D0 I h
 have B:=c7B hB
 rw [exec_Assign_Name_used _ _ _ _ hsw]
 refine wpAny_bind (wpAny_standAt (wpAny_bind ?_))
 show wpAny _ X.A (do let _ <- comprehension (.ListComp elt [⟨tg,iter,ifs,0⟩] scope pos) scope X.env _ (newList []) false (eval iter X.env) (some (assign (.Name x pos') X.env))) _ _ s
 refine wpAny_bind (wpAny_mono (wpAny_comprehension_free (use:=some (assign (.Name x pos') X.env)) (Q:=λ _ s'=>SP X pins D0 .next s') rfl hs (a6W λ y hy hf=>I.ok.has y.1 (B.free y hy hf)) B.kind B.locs
  (thn (hi pins s σ H _ I h) λ v s1 h1=>thn h1 λ itv s2 h2=>?_)) (λ _ s' hq=>wpAny_pure (wpAny_pure hq)) λ _ _ e=>e)
 obtain ⟨it,fp,tn,J,H2,e,I2,T,st2,f2,q⟩:=h2
 subst e
 refine c7A (Q:=λ x H1=>b7T i x σ H1 D0.nx) B hc hg ht he I2 T st2 f2 q ?_
 intro D C s' H' ys J2 hDn hq ⟨m,hn⟩ hC1 hC2 hC3 hC4 hC5
 show wpAny _ X.A (assign (.Name x pos') X.env (.ref D)) _ _ _
 refine wpAny_assign_Name (b2D (v:=.ref D) J2 hN hi' (.inl hx) rfl (λ s'' I'' hsb=>?_) (.inr hx))
 obtain ⟨a,hsb,ha⟩:=hsb
 have aC:C≠a:=by
  rcases ha with rfl | ha
  ·exact hC2
  ·exact λ z=>hC4 x a ha z.symm
 refine ⟨m,hn.sameBut hsb aC,λ h'' hs''=>?_⟩
 exact ⟨_,_,I''.turned (t':=s''.toks) (it:=C) (λ b o hb e=>hs''.extBut b o hb e) hC1 hC2 (.inr hC3) hC4 hC5,hq⟩
end
section
variable {K:Φρ} {a:Addr} {xs:List V} {ix:List (Option Nat)} {g:TG} {tt:TT} {te:TE} {σ:St} {H1:Hp} {Q:VK}
theorem a4G (Pv:Nat->List V->Hp->Prop) (h0:Pv 0 [] H1) (hl:∀ i ys H,i<=xs.length->Pv i ys H->SqL K H a xs/\ys.length<=sizeLine)
  (hs:∀ i x ys H,xs[i]?=some x->Pv i ys H->g x (capt ix σ) H λ σ2 H2=>tt σ2 H2 λ b H3=>if b=true then te σ2 H3 λ v H4=>Pv (i+1) (ys++[v]) H4 else Pv (i+1) ys H3)
  (hd:∀ ys H,Pv xs.length ys H->∀ p,H p=none->Q (.ref p) (upd H p (.lst ys))):a5I ix g tt te σ H1 Q (Itl K a):=by
 refine ⟨λ i m ys H=>m=xs.length - i/\i<=xs.length/\Pv i ys H,⟨xs.length,by simp,Nat.zero_le _,h0⟩,?_⟩
 rintro i m ys H ⟨rfl,hi,p⟩
 obtain ⟨q,z⟩:=hl i ys H hi p
 by_cases hlt:i < xs.length
 ·refine .inr ⟨⟨xs,xs[i],q,by simp [hlt]⟩,z,Pv (i+1),λ ys' H' p'=>⟨xs.length - (i+1),by omega,rfl,hlt,p'⟩,λ x H' y=>?_⟩
  obtain ⟨e,y⟩:=y
  subst e
  exact hs i x ys _ (y xs q) p
 ·have e:i=xs.length:=by omega
  subst e
  exact .inl ⟨⟨xs,q,Nat.le_refl _⟩,z,hd ys H p⟩
theorem b0X {lo:Int} {n:Nat} (Pv:Nat->List V->Hp->Prop) (h0:Pv 0 [] H1) (hl:∀ i ys H,i<=n->Pv i ys H->ys.length<=sizeLine)
  (hs:∀ i ys H,i < n->Pv i ys H->g (.int (lo+i)) (capt ix σ) H λ σ2 H2=>tt σ2 H2 λ b H3=>if b=true then te σ2 H3 λ v H4=>Pv (i+1) (ys++[v]) H4 else Pv (i+1) ys H3)
  (hd:∀ ys H,Pv n ys H->∀ p,H p=none->Q (.ref p) (upd H p (.lst ys))):a5I ix g tt te σ H1 Q (Itr lo n):=by
 refine ⟨λ i m ys H=>m=n - i/\i<=n/\Pv i ys H,⟨n,by simp,Nat.zero_le _,h0⟩,?_⟩
 rintro i m ys H ⟨rfl,hi,p⟩
 have z:=hl i ys H hi p
 by_cases hlt:i < n
 ·refine .inr ⟨hlt,z,Pv (i+1),λ ys' H' p'=>⟨n - (i+1),by omega,rfl,hlt,p'⟩,λ x H' y=>?_⟩
  obtain ⟨e,y⟩:=y
  subst e y
  exact hs i ys _ hlt p
 ·have e:i=n:=by omega
  subst e
  exact .inl ⟨Nat.le_refl _,z,hd ys H p⟩
end
theorem c4G {K:Φρ} {a:Addr} {xs:List V} {ix:List (Option Nat)} {g:TG} {tt:TT} {te:TE} {σ:St} {H1:Hp} {Q:VK} (f:V->Option V) (hx:SqL K H1 a xs) (hz:xs.length<=sizeLine)
  (hs:∀ x H (N:Option V->Hp->Prop),x∈xs->Same H1 H->(∀ H',Same H1 H'->N (f x) H')->g x (capt ix σ) H λ σ2 H2=>tt σ2 H2 λ b H3=>if b=true then te σ2 H3 λ v H4=>N (some v) H4 else N none H3)
  (hd:∀ H p,Same H1 H->H p=none->Q (.ref p) (upd H p (.lst (xs.filterMap f)))):a5I ix g tt te σ H1 Q (Itl K a):=by
 refine a4G (K:=K) (a:=a) (xs:=xs) (λ i ys H=>ys=(xs.take i).filterMap f/\Same H1 H) ⟨rfl,Same.refl _⟩ (λ i ys H hi ⟨e,s⟩=>⟨s.seq hx,?_⟩) (λ i x ys H hi ⟨e,s⟩=>?_) λ ys H ⟨e,s⟩ p hp=>?_
 ·subst e
  refine Nat.le_trans (List.length_filterMap_le _ _) (Nat.le_trans ?_ hz)
  rw [List.length_take]; exact Nat.min_le_right _ _
 ·have hm:x∈xs:=List.mem_of_getElem? hi
  obtain ⟨hil,hix⟩:=List.getElem?_eq_some_iff.mp hi
  have et:xs.take (i+1)=xs.take i++[x]:=by rw [List.take_succ_eq_append_getElem hil,hix]
  refine hs x H (λ o H'=>match o with | some v=>(ys++[v]=(xs.take (i+1)).filterMap f/\Same H1 H') | none=>(ys=(xs.take (i+1)).filterMap f/\Same H1 H')) hm s λ H' s'=>?_
  cases ef:f x with
  | some v =>
   refine ⟨?_,s'⟩
   rw [e,et,List.filterMap_append]
   simp [ef]
  | none =>
   refine ⟨?_,s'⟩
   rw [e,et,List.filterMap_append]
   simp [ef]
 ·subst e
  rw [List.take_length]
  exact hd H p s hp
theorem b9W {lo:Int} {n:Nat} {ix:List (Option Nat)} {g:TG} {tt:TT} {te:TE} {σ:St} {H1:Hp} {Q:VK} (f:Nat->Option V) (hz:n<=sizeLine)
  (hs:∀ i H (N:Option V->Hp->Prop),i < n->Same H1 H->(∀ H',Same H1 H'->N (f i) H')->g (.int (lo+i)) (capt ix σ) H λ σ2 H2=>tt σ2 H2 λ b H3=>if b=true then te σ2 H3 λ v H4=>N (some v) H4 else N none H3)
  (hd:∀ H p,Same H1 H->H p=none->Q (.ref p) (upd H p (.lst ((List.range n).filterMap f)))):a5I ix g tt te σ H1 Q (Itr lo n):=by
 refine b0X (λ i ys H=>ys=(List.range i).filterMap f/\Same H1 H) ⟨rfl,Same.refl _⟩ (λ i ys H hi ⟨e,s⟩=>?_) (λ i ys H hi ⟨e,s⟩=>?_) λ ys H ⟨e,s⟩ p hp=>?_
 ·subst e
  refine Nat.le_trans (List.length_filterMap_le _ _) (Nat.le_trans ?_ hz)
  rw [List.length_range]; exact hi
 ·refine hs i H (λ o H'=>match o with | some v=>(ys++[v]=(List.range (i+1)).filterMap f/\Same H1 H') | none=>(ys=(List.range (i+1)).filterMap f/\Same H1 H')) hi s λ H' s'=>?_
  cases ef:f i with
  | some v =>
   refine ⟨?_,s'⟩
   rw [e,List.range_succ,List.filterMap_append]
   simp [ef]
  | none =>
   refine ⟨?_,s'⟩
   rw [e,List.range_succ,List.filterMap_append]
   simp [ef]
 ·subst e
  exact hd H p s hp
end L2
namespace L2
open PySem PySem.Spec PyProof.Rows
mutual
inductive IsD (K:Φρ) (H:Hp):V->PyData->Prop
 | non:IsD K H .non .none
 | bl (b:Bool):IsD K H (.bl b) (.bool b)
 | int (i:Int):IsD K H (.int i) (.int i)
 | str (x:Str):IsD K H (.str x) (.str x)
 | lst {a:Addr} {xs:List V} {ds:List PyData}:SqL K H a xs->IsDs K H xs ds->IsD K H (.ref a) (.list ds)
 | tup {a:Addr} {xs:List V} {ds:List PyData}:SqT K H a xs->IsDs K H xs ds->IsD K H (.ref a) (.tuple ds)
inductive IsDs (K:Φρ) (H:Hp):List V->List PyData->Prop
 | nil:IsDs K H [] []
 | cons {x:V} {xs:List V} {d:PyData} {ds:List PyData}:IsD K H x d->IsDs K H xs ds->IsDs K H (x::xs) (d::ds)
end
theorem Same.tupq {K:Φρ} {H H':Hp} {a:Addr} {xs:List V} (e:Same H H') (h:SqT K H a xs):SqT K H' a xs:=by
 rcases h with (h | ⟨o,h⟩) | h
 ·exact .inl (.inl (e _ _ h))
 ·exact .inl (.inr ⟨o,e _ _ h⟩)
 ·exact .inr h
mutual
theorem IsD.reads {X:Cx} {pins:List (Addr × Obj)} {σ:St} {H:Hp} {s:Shared} (I:Inv X pins σ H s):∀ {v:V} {d:PyData} {u:Value},IsD X.K H v d->RelV v u->∃ as,Reads s.heap u d as
 | _,_,_,.non,r=>by cases r; exact ⟨_,.none⟩
 | _,_,_,.bl b,r=>by cases r; exact ⟨_,.bool b⟩
 | _,_,_,.int i,r=>by obtain ⟨t,rfl⟩:=r; exact ⟨_,.int i t⟩
 | _,_,_,.str x,r=>by obtain ⟨t,rfl⟩:=r; exact ⟨_,.str x t⟩
 | _,_,_,.lst h q,r=>by
  cases r
  obtain ⟨its,rv,⟨o,n,e,c,_,d⟩,_⟩:=I.list h
  obtain ⟨as,ra⟩:=IsDs.reads I q rv
  exact ⟨_,.list e c d (by simpa using ra)⟩
 | _,_,_,.tup h q,r=>by
  cases r
  obtain ⟨its,rv,⟨o,e,c,n,d⟩,_⟩:=I.tuple h
  obtain ⟨as,ra⟩:=IsDs.reads I q rv
  exact ⟨_,.tuple e c d (by simpa using ra)⟩
theorem IsDs.reads {X:Cx} {pins:List (Addr × Obj)} {σ:St} {H:Hp} {s:Shared} (I:Inv X pins σ H s):∀ {xs:List V} {ds:List PyData} {us:List Value},IsDs X.K H xs ds->Vals xs us->∃ as,ReadsAll s.heap us ds as
 | _,_,_,.nil,.nil=>⟨_,.nil⟩
 | _,_,_,.cons h q,.cons r t=>by
  obtain ⟨as,ra⟩:=IsD.reads I h r
  obtain ⟨bs,rb⟩:=IsDs.reads I q t
  exact ⟨_,.cons ra rb⟩
end
theorem IsDs.ints {K:Φρ} {H:Hp}:∀ ns:List Int,IsDs K H (ns.map V.int) (ns.map PyData.int)
 | []=>.nil
 | n::ns=>.cons (.int n) (IsDs.ints ns)
section
variable {X:Cx}
def rEqD (K:Φρ) (neg:Bool):R2:=λ x y H Q=>∃ d d',IsD K H x d/\IsD K H y d'/\SeqAt.shaped d=true/\SeqAt.shaped d'=true/\Q (.bl (if neg then !PyData.eqv d d' else PyData.eqv d d')) H
theorem d1I (hu:X.A.units+64 < cLine):OpR X (compareOp .Eq) (rEqD X.K false):=by
 intro pins s σ H x y v u Q I rx ry h
 obtain ⟨d,d',h1,h2,s1,s2,q⟩:=h
 obtain ⟨as,ra⟩:=h1.reads I rx
 obtain ⟨bs,rb⟩:=h2.reads I ry
 exact eq_dataH ra rb s1 s2 hu ⟨.bl _,H,I,rfl,q⟩
theorem d1J (hu:X.A.units+64 < cLine):OpR X (compareOp .NotEq) (rEqD X.K true):=by
 intro pins s σ H x y v u Q I rx ry h
 obtain ⟨d,d',h1,h2,s1,s2,q⟩:=h
 obtain ⟨as,ra⟩:=h1.reads I rx
 obtain ⟨bs,rb⟩:=h2.reads I ry
 exact ne_dataH ra rb s1 s2 hu ⟨.bl _,H,I,rfl,q⟩
def rInD (K:Φρ) (neg:Bool):R2:=λ x y H Q=>∃ d ds,IsD K H x d/\IsD K H y (.list ds)/\SeqAt.shaped d=true/\SeqAt.shaped (.list ds)=true/\Q (.bl (if neg then !ds.any (λ e=>PyData.eqv e d) else ds.any (λ e=>PyData.eqv e d))) H
theorem d1K (hu:X.A.units+65 < cLine):OpR X (compareOp .In) (rInD X.K false):=by
 intro pins s σ H x y v u Q I rx ry h
 obtain ⟨d,ds,h1,h2,s1,s2,q⟩:=h
 obtain ⟨as,ra⟩:=h1.reads I rx
 obtain ⟨bs,rb⟩:=h2.reads I ry
 exact SeqAt.in_list_reads rb ra (SeqAt.canLay_of_shaped s2) (SeqAt.canLay_of_shaped s1) (room_in_shaped s1 hu) ⟨.bl _,H,I,rfl,q⟩
theorem b9X (hu:X.A.units+65 < cLine):OpR X (compareOp .NotIn) (rInD X.K true):=by
 intro pins s σ H x y v u Q I rx ry h
 obtain ⟨d,ds,h1,h2,s1,s2,q⟩:=h
 obtain ⟨as,ra⟩:=h1.reads I rx
 obtain ⟨bs,rb⟩:=h2.reads I ry
 exact SeqAt.notIn_list_reads rb ra (SeqAt.canLay_of_shaped s2) (SeqAt.canLay_of_shaped s1) (room_in_shaped s1 hu) ⟨.bl _,H,I,rfl,q⟩
def clsV:V->Option Value
 | .ty n=>some (.type n)
 | .ref a=>some (.ref a)
 | _=>none
theorem c4H {c:V} {cv u:Value} (h:clsV c=some cv) (r:RelV c u):u=cv:=by
 cases c with
 | ty n=>cases h; exact r
 | ref a=>cases h; exact r
 | _=>cases h
theorem b4T:CallR X (.builtin "isinstance") (λ xs H Q=>∃ x c cv t b,xs=[x,c]/\clsV c=some cv/\TyOf X.K H x t/\PySem.W.kitOne X.K t cv=some b/\Q (.bl b) H):=by
 intro pins s σ H xs us Q I r h
 obtain ⟨x,c,cv,t,b,rfl,hc,ty,hk,q⟩:=h
 obtain ⟨u1,u2,rfl,r1,r2⟩:=c7Q r
 obtain rfl:=c4H hc r2
 exact b9O I r1 ty hk λ tk=>⟨.bl b,H,I.tok tk,rfl,q⟩
abbrev Cx.in1 (X:Cx):Cx:={ X with A:=X.A.in1 }
theorem Inv.in1 {pins:List (Addr × Obj)} {σ:St} {H:Hp} {s:Shared} (I:Inv X pins σ H s):Inv X.in1 pins σ H s :=
 ⟨⟨I.ok.mod,I.ok.kind,I.ok.glob,I.ok.blt,I.ok.above,I.ok.inj,I.ok.has,I.ok.cab,I.ok.hd,I.ok.frames,I.ok.stk,I.ok.exf,I.ok.bs,I.ok.bsz,I.ok.noex,I.ok.exfs,I.ok.funs,I.ok.frf⟩,I.os,I.bare,I.base,I.loc,I.cell,I.free,I.freeC,I.pin,I.hok,I.len⟩
theorem Inv.of_in1 {pins:List (Addr × Obj)} {σ:St} {H:Hp} {s:Shared} (I:Inv X.in1 pins σ H s):Inv X pins σ H s :=
 ⟨⟨I.ok.mod,I.ok.kind,I.ok.glob,I.ok.blt,I.ok.above,I.ok.inj,I.ok.has,I.ok.cab,I.ok.hd,I.ok.frames,I.ok.stk,I.ok.exf,I.ok.bs,I.ok.bsz,I.ok.noex,I.ok.exfs,I.ok.funs,I.ok.frf⟩,I.os,I.bare,I.base,I.loc,I.cell,I.free,I.freeC,I.pin,I.hok,I.len⟩
def Truths (K:Φρ) (H:Hp) (xs:List V) (bs:List Bool):Prop:=Paired (λ x b=>TruV K x H b) xs bs
theorem Truths.get {K:Φρ} {H:Hp}:∀ {xs:List V} {bs:List Bool} {i:Nat} {x:V},Truths K H xs bs->xs[i]?=some x->∃ b,bs[i]?=some b/\TruV K x H b
 | _,_,_,_,.nil,h=>by simp at h
 | _,_,0,_,.cons h r,e=>by
  simp at e; subst e
  exact ⟨_,rfl,h⟩
 | _,_,i+1,_,.cons h r,e=>by
  obtain ⟨d,e1,q⟩:=Truths.get (i:=i) r (by simpa using e)
  exact ⟨d,by simpa using e1,q⟩
theorem Truths.bls {K:Φρ} {H:Hp}:∀ bs:List Bool,Truths K H (bs.map V.bl) bs
 | []=>.nil
 | b::bs=>.cons rfl (Truths.bls bs)
theorem c4I {pins:List (Addr × Obj)} {σ:St} {H:Hp} {p it:Addr} {ys:List V} {bs:List Bool} {R:Result->Shared->Prop} (hc:X.calm=true) (hq:SqL X.K H p ys) (ht:Truths X.K H ys bs) (f:FpOk X pins H it) :
  ∀ (k i:Nat) (s:Shared),ys.length - i=k->Inv X pins σ H s->s.heap.IsListIter it p i->(∀ s',Inv X pins σ H s'->R (.ok (.ret (.bool ((bs.drop i).all id)))) s') ->
  codeAny (model X.prog X.w) X.A (.builtin "all.loop" ⟨[.ref it],[]⟩) R s:=by
 obtain ⟨f0,f1,f2,f3,f4,f5⟩:=f
 intro k
 induction k with
 | zero =>
  intro i s hk I st hR
  obtain ⟨its,rv,pl,hz⟩:=I.list hq
  have hl:=rv.length
  refine codeAny_builtin F.entry_all_loop ?_
  rw [Around.under_plainId F.plain_all_loop _]
  show wpAny _ X.A.in1 (pyNext (.ref it) >>= _) _ _ s
  refine wpAny_bind (wpAny_pyNext_list_end (I.ok.hd hc) st pl.isList (by simp; omega) λ h' eb=>?_)
  refine wpAny_bind (wpAny_rule (wpAny_pure ?_))
  have q:=hR _ (I.turned (t':=s.toks) (λ b o hb e=>eb b o hb e) f0 f1 f3 f4 f5)
  have hlb:bs.length=ys.length:=(Paired.length ht).symm
  rw [List.drop_of_length_le (by omega)] at q
  exact q
 | succ k ih =>
  intro i s hk I st hR
  obtain ⟨its,rv,pl,hz⟩:=I.list hq
  have hl:=rv.length
  have hlt:i < ys.length:=by omega
  have hx:ys[i]?=some ys[i]:=by simp [hlt]
  obtain ⟨u,hu,ru⟩:=rv.get hx
  obtain ⟨b,hb,tb⟩:=ht.get hx
  refine codeAny_builtin F.entry_all_loop ?_
  rw [Around.under_plainId F.plain_all_loop _]
  show wpAny _ X.A.in1 (pyNext (.ref it) >>= _) _ _ s
  refine wpAny_bind (wpAny_pyNext_list_item st pl.isList (x:=u) (by simpa using hu) λ h' st' sb=>?_)
  have I1:Inv X pins σ H { s with heap:=h' }:=I.turned (t':=s.toks) (λ b o hb e=>(sb.2 b hb).trans e) f0 f1 f3 f4 f5
  have hdb:bs.drop i=b::bs.drop (i+1):=by
   obtain ⟨hlb,eb⟩:=List.getElem?_eq_some_iff.mp hb
   rw [List.drop_eq_getElem_cons hlb,eb]
  rw [hdb] at hR
  have I1p:Inv X (pins++a7C [it] h') σ H { s with heap:=h' }:=I1.pinned (fp:=[it]) (λ c hcc=>by rw [List.mem_singleton.mp hcc]; exact ⟨f0,f1,f2,f3,f4,f5⟩) λ c hcc=>by
   rw [List.mem_singleton.mp hcc]
   obtain ⟨o,e,c',d⟩:=st'
   exact ⟨o,e,λ v z=>by rw [d] at z; cases z⟩
  refine wpAny_bind (wpAny_holding (wpAny_mono (b9K (X:=X.in1.nox) _ _ σ H ys[i] u (λ c H'=>c=b/\H'=H) ((Inv.in1 I1p).wish _) ru ⟨b,tb,rfl,rfl⟩) (λ c s2 ⟨H',I2,e1,e2⟩=>?_) λ _ _ z=>False.elim z))
  rw [e2] at I2
  subst e1
  have I2':Inv X (pins++a7C [it] h') σ H s2:=Inv.of_in1 I2.unwish
  have I2'':Inv X pins σ H s2:=I2'.unpinned
  have st2:s2.heap.IsListIter it p (i+1):=st'.at λ o e=>(I2'.pin (it,o) (List.mem_append_right _ (List.mem_append_right _ (a3W (List.mem_singleton.mpr rfl) e)))).1
  refine wpAny_bind (wpAny_letGo ?_)
  cases c with
  | true =>
   simp only [if_true]
   exact wpAny_pure ⟨plainId_quiet F.plain_all_loop _,ih (i+1) s2 (by omega) I2'' st2 λ s' I'=>by simpa using hR s' I'⟩
  | false =>
   simp only [Bool.false_eq_true,if_false]
   refine wpAny_bind (wpAny_rule (wpAny_pure ?_))
   simpa using hR s2 I2''
theorem b9Y (hc:X.calm=true):CallR X (.builtin "all") (λ xs H Q=>∃ p ys bs,xs=[.ref p]/\SqL X.K H p ys/\Truths X.K H ys bs/\Q (.bl (bs.all id)) H):=by
 intro pins s σ H xs us Q I r h
 obtain ⟨p,ys,bs,rfl,hq,ht,q⟩:=h
 obtain ⟨u,rfl,rx⟩:=a5G r
 cases rx
 refine call_function_tree F.kind_all F.plain_all F.entry_all (F.args_all1 _) ?_
 unfold Builtin.«all»
 refine wpAny_bind (m:=oneArg "all" _) (wpAny_pure ?_)
 obtain ⟨its,rv,pl,hz⟩:=I.list hq
 refine wpAny_bind (wpAny_pyIter_list pl.isList ?_)
 have I1:Inv X pins σ H { s with heap:=s.heap.push { cls:=.type "list_iterator", data:=.fields #[.ref p,.int 0 0] } }:=I.kept (t':=s.toks) λ b o e=>Heap.get?_push_of_some _ e
 refine wpAny_pure ⟨plainId_quiet F.plain_all_loop _,c4I hc hq ht (I.fpOk (Nat.le_refl _) (I.hok.fresh (Nat.le_refl _))) ys.length 0 _ (Nat.sub_zero _) I1 ⟨_,Heap.get?_push_size _ rfl,rfl,rfl⟩ λ s' I'=>?_⟩
 exact ⟨.bl _,H,I',rfl,by simpa using q⟩
end
end L2
namespace L2
open PySem PySem.Spec PyProof.Rows
structure Dn (K:Φρ) (mg:Str->Option Value) (x:Str) (st:Stmt) (ps:List Str) where
 f:Addr
 fd:FuncData
 F:Fun K x x st f fd
 b:Binds K fd ps []
 m:mg x=some (.ref f)
 bd:∀ (s:Shared) (us:List Value),us.length=ps.length->BindsTo s fd ⟨us,[]⟩ (ps.zip us)
structure Bl (mg:Str->Option Value):Prop where
 get:∀ x:Str,x∈(["len", "range", "list", "isinstance", "int", "bool", "str", "all", "any", "sorted", "set", "min", "max", "tuple", "enumerate", "dict", "ValueError"]:List Str)->mg x=none
theorem Bl.len {mg:Str->Option Value} (B:Bl mg):mg "len" = none:=B.get _ (by decide +kernel)
theorem Bl.range {mg:Str->Option Value} (B:Bl mg):mg "range" = none:=B.get _ (by decide +kernel)
theorem Bl.list {mg:Str->Option Value} (B:Bl mg):mg "list" = none:=B.get _ (by decide +kernel)
theorem Bl.isinstance {mg:Str->Option Value} (B:Bl mg):mg "isinstance" = none:=B.get _ (by decide +kernel)
theorem Bl.int {mg:Str->Option Value} (B:Bl mg):mg "int" = none:=B.get _ (by decide +kernel)
theorem Bl.bool {mg:Str->Option Value} (B:Bl mg):mg "bool" = none:=B.get _ (by decide +kernel)
theorem Bl.all {mg:Str->Option Value} (B:Bl mg):mg "all" = none:=B.get _ (by decide +kernel)
theorem Bl.sorted {mg:Str->Option Value} (B:Bl mg):mg "sorted" = none:=B.get _ (by decide +kernel)
theorem Bl.set {mg:Str->Option Value} (B:Bl mg):mg "set" = none:=B.get _ (by decide +kernel)
theorem Bl.min {mg:Str->Option Value} (B:Bl mg):mg "min" = none:=B.get _ (by decide +kernel)
theorem Bl.max {mg:Str->Option Value} (B:Bl mg):mg "max" = none:=B.get _ (by decide +kernel)
theorem Bl.tuple {mg:Str->Option Value} (B:Bl mg):mg "tuple" = none:=B.get _ (by decide +kernel)
theorem Bl.enumerate {mg:Str->Option Value} (B:Bl mg):mg "enumerate" = none:=B.get _ (by decide +kernel)
theorem b4U {K:Φρ}:PySem.W.kitOne K (.type "int") (.type "int")=some true:=by rfl
theorem b2P {K:Φρ}:PySem.W.kitOne K (.type "int") (.type "bool")=some false:=by rfl
theorem b4V {K:Φρ}:PySem.W.kitOne K (.type "NoneType") (.type "int")=some false:=by rfl
theorem b2Q {K:Φρ}:PySem.W.kitOne K (.type "NoneType") (.type "bool")=some false:=by rfl
end L2
namespace L2
open PySem PySem.Spec PyProof.Rows
section
variable {X:Cx} {K:Φρ}
theorem a0L (e:X.K=K):IxR X (rIxL K):=by subst e; exact c7Y
theorem a0Z (e:X.K=K):IxR X (rIxT K):=by subst e; exact d1E
theorem c8C (e:X.K=K) (hu:X.A.units+64 < cLine):OpR X (compareOp .Eq) (rEqD K false):=by subst e; exact d1I hu
theorem b9Z (e:X.K=K) (hu:X.A.units+64 < cLine):OpR X (compareOp .NotEq) (rEqD K true):=by subst e; exact d1J hu
theorem c0A (e:X.K=K) (hu:X.A.units+65 < cLine):OpR X (compareOp .In) (rInD K false):=by subst e; exact d1K hu
theorem a9Y (e:X.K=K) (hu:X.A.units+65 < cLine):OpR X (compareOp .NotIn) (rInD K true):=by subst e; exact b9X hu
def rLen (K:Φρ):List V->Hp->VK->Prop:=λ xs H Q=>∃ p ys,xs=[.ref p]/\(SqL K H p ys\/SqT K H p ys)/\Q (.int ys.length) H
theorem a0T (e:X.K=K):CallR X (.builtin "len") (rLen K):=by subst e; exact b2K
def c8D (K:Φρ):List V->Hp->VK->Prop:=λ xs H Q=>∃ p ys,xs=[.ref p]/\(SqL K H p ys\/SqT K H p ys)/\∀ l,H l=none->Q (.ref l) (upd H l (.lst ys))
theorem b8A (e:X.K=K):CallR X (.type "list") (c8D K):=by subst e; exact b2L
def d3Y (K:Φρ):List V->Hp->VK->Prop:=λ xs H Q=>∃ x c cv t b,xs=[x,c]/\clsV c=some cv/\TyOf K H x t/\PySem.W.kitOne K t cv=some b/\Q (.bl b) H
theorem a1C (e:X.K=K):CallR X (.builtin "isinstance") (d3Y K):=by subst e; exact b4T
def rAll (K:Φρ):List V->Hp->VK->Prop:=λ xs H Q=>∃ p ys bs,xs=[.ref p]/\SqL K H p ys/\Truths K H ys bs/\Q (.bl (bs.all id)) H
theorem b2R (e:X.K=K) (hc:X.calm=true):CallR X (.builtin "all") (rAll K):=by subst e; exact b9Y hc
theorem a0O {tg l:Expr} {tl:TE} (e:X.K=K) (hl:PE X l tl):PI X tg l (d0Y K tl):=by subst e; exact c7P hl
def tTru (K:Φρ) (ta:TE):TT:=λ σ H Q=>ta σ H λ x H'=>∃ k,TruV K x H' k/\Q k H'
theorem a0R {a:Expr} {ta:TE} (e:X.K=K) (ha:PE X a ta) (he:∀ whole,isTrue a X.env whole=(do let v <- whole; standAt a.pos; holding [v] (truthy v))):PT X a (tTru K ta):=by subst e; exact c4B ha he
theorem a2N {es:List Expr} {k:Nat} {t:TGs} {n:Nat} {pos:Pos} (e:X.K=K) (hc:X.calm=true) (h:PGs X es t)
  (hn:(assignEach es X.env).length=n:=by rfl) (hst:(assignEach es X.env).findIdx? (·.1)=none:=by rfl):PG X (.Tuple es k pos) (gTup K n t):=by subst e; exact d0V hc h hn hst
theorem b4W {o:Expr} {to:TE} {name:Str} {apos cpos:Pos} {T id:String} {r:V->List V->Hp->VK->Prop} (e:X.K=K) (pa:PlainAttrs T) (slot:Slot T name id) (hty:typeOf (.builtin id)=pure (.type "method_descriptor")) (hm:MtR X id r) (ho:PE X o to)
  (hbase:attributeBase o name X.env (eval o X.env)=eval o X.env:=by rfl) (hline:(apos.endLine == cpos.line)=true:=by rfl):PE X (.Call (.Attribute o name apos) [] [] cpos) (tBM0 K T r to):=by subst e; exact d1F pa slot hty hm ho hbase hline
theorem a3F {o e:Expr} {es:List Expr} {to:TE} {t:TA} {name:Str} {apos cpos:Pos} {T id:String} {r:V->List V->Hp->VK->Prop} (e0:X.K=K) (pa:PlainAttrs T) (slot:Slot T name id) (hty:typeOf (.builtin id)=pure (.type "method_descriptor")) (hm:MtR X id r) (ho:PE X o to) (ha:PA X (e::es) t)
  (hbase:attributeBase o name X.env (eval o X.env)=eval o X.env:=by rfl)
  (hfew:((backTo cpos (starEach (e::es) X.env)).all (λ x=>!x.1) && (backToKw cpos (keywordEach [] X.env)).all (λ x=>x.1.isSome)
   && decide ((e::es).length+([]:List Keyword).length+(if ([]:List Keyword).isEmpty then 0 else 1) < 30))=true:=by rfl)
  (hline:(apos.endLine == cpos.line)=true:=by rfl) (hs:starEach (e::es) X.env=(false,eval e X.env)::starEach es X.env:=by rfl) (hplain:(backTo cpos (starEach es X.env)).any (·.1)=false:=by rfl) :
  PE X (.Call (.Attribute o name apos) (e::es) [] cpos) (tBM K T r to t):=by subst e0; exact d3W pa slot hty hm ho ha hbase hfew hline hs hplain
def c8E:V->List V->Hp->VK->Prop:=λ x vs H Q=>∃ l xs i y,x = .ref l/\vs=[.int i,y]/\H l=some (.lst xs)/\xs.length < 1000/\0<=i/\i<=(xs.length:Int)/\Q .non (upd H l (.lst (xs.take i.toNat++y::xs.drop i.toNat)))
theorem mt_insert:MtM X "list.insert" c8E:=by
 intro pins s σ H x vs v us Q I rx rv h
 obtain ⟨l,xs,i,y,rfl,rfl,hH,hz,h0,h1,q⟩:=h
 cases rx
 obtain ⟨u1,u2,rfl,ru1,ru2⟩:=rv.two
 obtain ⟨t,rfl⟩:=ru1
 obtain ⟨z,its,n,r,hl,e⟩:=I.lstM hH
 have hlen:=r.length
 have hs:sizeLine=16777216:=sizeLine_eq
 have hfit:¬(!Builtin.List.listFitsIndex i)=true:=by
  unfold Builtin.List.listFitsIndex
  simp
  omega
 refine call_meets F.slot_list_insert ⟨_,e,rfl⟩ F.entry_list_insert (F.args_list_insert_3 _ _ _) (AutoSeq1.list_insert_list_int_val_1 l its.toArray n i t u2 hfit (by rw [List.size_toArray]; omega)) ⟨e,?_⟩
 refine ⟨.non,_,I.lset (its':=its.take i.toNat++u2::its.drop i.toNat) hH e ?_ ((r.take i.toNat).append (.cons ru2 (r.drop i.toNat))) ?_,rfl,q⟩
 ·have hk:min i.toNat its.length=i.toNat:=by omega
  simp [show ¬ i < 0 by omega,hk]
  exact List.take_of_length_le (by simp)
 ·rw [List.length_append,List.length_cons,List.length_take,List.length_drop]
  omega
end
end L2
namespace L2
open PySem PySem.Spec PyProof.Rows
def tCut (t u:TS):TS:=λ D σ H=>∃ J:St->Hp->Prop,t { D with nx:=J } σ H/\∀ σ' H',J σ' H'->u D σ' H'
theorem a5N {X:Cx} {st:Stmt} {rest:List Stmt} {t u:TS} (h1:PS X st t) (h2:PSs X rest u):PSs X (st::rest) (tCut t u):=by
 intro pins s σ H D I h
 obtain ⟨J,q1,q2⟩:=h
 refine wpAny_execs_cons (thn (h1 pins s σ H { D with nx:=J } I q1) λ f s1 q=>?_)
 cases f with
 | next =>
  obtain ⟨σ',H',I',q⟩:=q
  exact h2 pins s1 σ' H' D I' (q2 σ' H' q)
 | ret v=>exact q
 | brk=>exact q
 | cont=>exact q
end L2
namespace L2
open PySem PySem.Spec PyProof.Rows
structure New (H:Hp) (p:Addr) (o:HO) (H':Hp):Prop where
 fresh:H p=none
 here:H' p=some o
 rest:∀ b,b≠p->H' b=H b
theorem New.mk0 {H:Hp} {p:Addr} {o:HO} (h:H p=none):New H p o (upd H p o):=⟨h,a5V,λ _ hb=>a1K hb⟩
theorem New.same {H H':Hp} {p:Addr} {o:HO} (n:New H p o H'):Same H H':=λ b u e=>(n.rest b (a1G e n.fresh)).trans e
theorem New.ne {H H':Hp} {p b:Addr} {o u:HO} (n:New H p o H') (h:H b=some u):b≠p:=a1G h n.fresh
structure Chg (H:Hp) (l:Addr) (o:HO) (H':Hp):Prop where
 here:H' l=some o
 rest:∀ b,b≠l->H' b=H b
theorem Chg.mk0 {H:Hp} {l:Addr} {o:HO}:Chg H l o (upd H l o):=⟨a5V,λ _ hb=>a1K hb⟩
section
variable {X:Cx} {K:Φρ} {es:List Expr} {t:TA} {pos:Pos}
def d3Z (t:TA):TE:=λ σ H Q=>t σ H λ xs H1=>xs.length<=1000/\∀ p H',New H1 p (.tup xs) H'->Q (.ref p) H'
def d4A (t:TA):TE:=λ σ H Q=>t σ H λ xs H1=>xs.length<=1000/\∀ p H',New H1 p (.lst xs) H'->Q (.ref p) H'
theorem a2H {x1} (h:PA X es t):PE X (.Tuple es x1 pos) (d3Z t):=by
 intro pins s σ H Q I hq
 refine wpAny_Tuple_spliced (thn (h pos pins s σ H _ I hq) λ us s1 ⟨xs,H1,I1,r,z,q⟩=>?_)
 have z':xs.length<=sizeLine:=Nat.le_of_lt (a1E z)
 refine ⟨by rw [<- r.length]; exact z',?_⟩
 have hf:H1 s1.heap.objs.size=none:=I1.hok.fresh (Nat.le_refl _)
 refine ⟨.ref s1.heap.objs.size,upd H1 s1.heap.objs.size (.tup xs),I1.laid (t':=s1.toks) (λ b u e=>Heap.get?_push_of_some _ e) (Nat.le_refl _) ?_,rfl,q _ _ (New.mk0 hf)⟩
 exact ⟨z',us,r,⟨_,Heap.get?_push_size _ rfl,rfl,_,rfl⟩⟩
theorem a1M (h:PA X es t):PE X (.List es pos) (d4A t):=by
 intro pins s σ H Q I hq
 refine wpAny_List_spliced (thn (h pos pins s σ H _ I hq) λ us s1 ⟨xs,H1,I1,r,z,q⟩=>?_)
 have z':xs.length<=sizeLine:=Nat.le_of_lt (a1E z)
 refine ⟨by rw [<- r.length]; exact z',?_⟩
 have hf:H1 s1.heap.objs.size=none:=I1.hok.fresh (Nat.le_refl _)
 refine ⟨.ref s1.heap.objs.size,upd H1 s1.heap.objs.size (.lst xs),I1.laid (t':=s1.toks) (λ b u e=>Heap.get?_push_of_some _ e) (Nat.le_refl _) ?_,rfl,q _ _ (New.mk0 hf)⟩
 exact ⟨z',us,0,r,Heap.get?_push_size _ rfl⟩
theorem OpR.weak {f:Value->Value->Sem Value} {r r':R2} (h:OpR X f r) (m:∀ x y H Q,r' x y H Q->r x y H Q):OpR X f r':=λ pins s σ H x y v u Q I rx ry q=>h pins s σ H x y v u Q I rx ry (m x y H Q q)
theorem CallR.weak {f:Value} {r r':List V->Hp->VK->Prop} (h:CallR X f r) (m:∀ xs H Q,r' xs H Q->r xs H Q):CallR X f r':=λ pins s σ H xs us Q I rs q=>h pins s σ H xs us Q I rs (m xs H Q q)
def d4B:R2:=λ x y H Q=>∃ l b xs zs,x = .ref l/\y = .ref b/\H l=some (.lst xs)/\H b=some (.lst zs)/\xs.length+zs.length<=1000/\∀ p H',New H p (.lst (xs++zs)) H'->Q (.ref p) H'
theorem b0Y:OpR X (binaryOp .Add) d4B:=op_cat.weak λ x y H Q ⟨l,b,xs,zs,e1,e2,h1,h2,z,q⟩=>⟨l,b,xs,zs,e1,e2,h1,h2,Nat.le_of_lt (a1E z),λ p hp=>q p _ (New.mk0 hp)⟩
def rSlN (K:Φρ):V->Option Int->Option Int->Hp->VK->Prop:=λ x lo hi H Q=>∃ a xs,x = .ref a/\SqL K H a xs/\∀ p H',New H p (.lst (cutV xs lo hi)) H'->Q (.ref p) H'
theorem c4J (e:X.K=K):SlR X (rSlN K):=by
 subst e
 exact λ pins s σ H x v vl vu lo hi sl Q I rx hs pl pu ⟨a,xs,e,h,q⟩=>c7Z pins s σ H x v vl vu lo hi sl Q I rx hs pl pu ⟨a,xs,e,h,λ p hp=>q p _ (New.mk0 hp)⟩
def d1L (K:Φρ):List V->Hp->VK->Prop:=λ xs H Q=>∃ p ys,xs=[.ref p]/\(SqL K H p ys\/SqT K H p ys)/\∀ l H',New H l (.lst ys) H'->Q (.ref l) H'
theorem a3Y (e:X.K=K):CallR X (.type "list") (d1L K):=(b8A e).weak λ xs H Q ⟨p,ys,e,h,q⟩=>⟨p,ys,e,h,λ l hl=>q l _ (New.mk0 hl)⟩
theorem MtM.weak {id:String} {r r':V->List V->Hp->VK->Prop} (h:MtM X id r) (m:∀ x xs H Q,r' x xs H Q->r x xs H Q):MtM X id r':=λ pins s σ H x xs v us Q I rx rs q=>h pins s σ H x xs v us Q I rx rs (m x xs H Q q)
def d4C:V->List V->Hp->VK->Prop:=λ x vs H Q=>∃ l xs y,x = .ref l/\vs=[y]/\H l=some (.lst xs)/\xs.length < 1000/\∀ H',Chg H l (.lst (xs++[y])) H'->Q .non H'
theorem a1V:MtM X "list.append" d4C:=mt_append.weak λ x vs H Q ⟨l,xs,y,e1,e2,h,z,q⟩=>⟨l,xs,y,e1,e2,h,a1E (Nat.le_of_lt z),q _ Chg.mk0⟩
def d4D:V->List V->Hp->VK->Prop:=λ x vs H Q=>∃ l xs i y,x = .ref l/\vs=[.int i,y]/\H l=some (.lst xs)/\xs.length < 1000/\0<=i/\i<=(xs.length:Int)/\∀ H',Chg H l (.lst (xs.take i.toNat++y::xs.drop i.toNat)) H'->Q .non H'
theorem b8B:MtM X "list.insert" d4D:=mt_insert.weak λ x vs H Q ⟨l,xs,i,y,e1,e2,h,z,h0,h1,q⟩=>⟨l,xs,i,y,e1,e2,h,z,h0,h1,q _ Chg.mk0⟩
def d4E:V->List V->Hp->VK->Prop:=λ x vs H Q=>∃ l xs,x = .ref l/\vs=[]/\H l=some (.lst xs)/\∀ H',Chg H l (.lst []) H'->Q .non H'
theorem c0B:MtM X "list.clear" d4E:=mt_clear.weak λ x vs H Q ⟨l,xs,e1,e2,h,q⟩=>⟨l,xs,e1,e2,h,q _ Chg.mk0⟩
end
theorem a4T {K:Φρ} {a:Addr} {xs:List V} {ix:List (Option Nat)} {g:TG} {tt:TT} {te:TE} {σ:St} {H1:Hp} {Q:VK} (f:V->Option V) (hx:SqL K H1 a xs) (hz:xs.length<=1000)
  (hs:∀ x H (N:Option V->Hp->Prop),x∈xs->Same H1 H->(∀ H',Same H1 H'->N (f x) H')->g x (capt ix σ) H λ σ2 H2=>tt σ2 H2 λ b H3=>if b=true then te σ2 H3 λ v H4=>N (some v) H4 else N none H3)
  (hd:∀ H p H',Same H1 H->New H p (.lst (xs.filterMap f)) H'->Q (.ref p) H'):a5I ix g tt te σ H1 Q (Itl K a) :=
 c4G f hx (Nat.le_of_lt (a1E hz)) hs λ H p s hp=>hd H p _ s (New.mk0 hp)
theorem b4X {lo:Int} {n:Nat} {ix:List (Option Nat)} {g:TG} {tt:TT} {te:TE} {σ:St} {H1:Hp} {Q:VK} (f:Nat->Option V) (hz:n<=1000)
  (hs:∀ i H (N:Option V->Hp->Prop),i < n->Same H1 H->(∀ H',Same H1 H'->N (f i) H')->g (.int (lo+i)) (capt ix σ) H λ σ2 H2=>tt σ2 H2 λ b H3=>if b=true then te σ2 H3 λ v H4=>N (some v) H4 else N none H3)
  (hd:∀ H p H',Same H1 H->New H p (.lst ((List.range n).filterMap f)) H'->Q (.ref p) H'):a5I ix g tt te σ H1 Q (Itr lo n) :=
 b9W f (Nat.le_of_lt (a1E hz)) hs λ H p s hp=>hd H p _ s (New.mk0 hp)
end L2
namespace Lw
open PySem L2
theorem a3R {α β:Type} {f:α->Option β} {g:α->β}:∀ {l:List α},(∀ x∈l,f x=some (g x))->l.filterMap f=l.map g
 | [],_=>rfl
 | x::r,h=>by
  rw [List.filterMap_cons_some (h x List.mem_cons_self),List.map_cons,a3R λ y hy=>h y (List.mem_cons_of_mem _ hy)]
theorem c0C {f:V->Option V} {g:Int->V} {ns:List Int} (h:∀ v∈ns,f (.int v)=some (g v)):(ns.map V.int).filterMap f=ns.map g:=by
 rw [List.filterMap_map]
 exact a3R h
def a4H (ns:List Int) (k:Int):Int :=
 if k < (ns.length:Int) then ns.getD k.toNat 0
 else
  let z:Int:=if (ns.length:Int) > 0 then (ns.getD (k*7 % (ns.length:Int)).toNat 0) % 2147483647*48271+k*7919 else k*7919+5
  z*z % 2147483629
def mixF (c m:Int):Int:=c % 2 ^ 64*11400714819323198485 % 2 ^ 64 / 2 ^ 11 % m
theorem b0Z {ns:List Int} {k:Int} (h0:0<=k) (h:k < (ns.length:Int)):atI (ns.map V.int) k=some (.int (ns.getD k.toNat 0)):=by
 have hk:k.toNat < ns.length:=by omega
 have ek:k=((k.toNat:Nat):Int):=by omega
 have q:atI (ns.map V.int) ((k.toNat:Nat):Int)=some (.int (ns.getD k.toNat 0)):=a1L (by
  rw [List.getElem?_map,List.getElem?_eq_getElem hk,τα,List.getElem?_eq_getElem hk]; rfl)
 rw [<- ek] at q
 exact q
def Scr (K:Φρ) (H:Hp) (a:Addr) (ns:List Int):Prop:=(∃ o,H a=some (.frz o (.lst (ns.map V.int)))) \/
 ∃ (o:Obj) (its:Array Value) (n:Nat),K.lookup a=some o/\o.cls = .type "list" /\ o.dict=none/\o.data = .seq its n/\its.size<=sizeLine/\Vals (ns.map V.int) its.toList
theorem Scr.seq {K:Φρ} {H:Hp} {a:Addr} {ns:List Int} (h:Scr K H a ns):SqL K H a (ns.map V.int):=by
 rcases h with ⟨o,h⟩ | h
 ·exact .inl (.inr ⟨o,h⟩)
 ·exact .inr h
theorem Scr.of {K:Φρ} {H:Hp} {a:Addr} {ns:List Int} (hO:Only H) (h:SqL K H a (ns.map V.int)):Scr K H a ns:=by
 rcases h with (h | ⟨o,h⟩) | h
 ·rcases hO a with z | ⟨ob,xs,z⟩
  ·rw [z] at h; cases h
  ·rw [z] at h; cases h
 ·exact .inl ⟨o,h⟩
 ·exact .inr h
def d1M (K:Φρ):Sp:=λ vs H Q _=>∃ (a:Addr) (ns:List Int) (k:Int),vs=[.ref a,.int k]/\SqL K H a (ns.map V.int)/\ns.length<=63/\0<=k/\k<=1000/\Q (.int (a4H ns k)) H
def d4F:Sp:=λ vs H Q _=>∃ (c m:Int),vs=[.int c,.int m]/\0 < m/\Q (.int (mixF c m)) H
def spLaw (K:Φρ):Sp:=λ vs H Q _=>∃ (a:Addr) (ns:List Int),vs=[.ref a]/\Scr K H a ns/\ns.length<=63/\∀ H',Q (.bl true) H'
theorem b8C (c k:Int) (h0:0<=k) (h1:k<=1000) : -(2 ^ 64) < c % 2147483647*48271+k*7919/\c % 2147483647*48271+k*7919 < 2 ^ 64:=by
 have a1:=Int.emod_nonneg c (show (2147483647:Int)≠0 by decide)
 have a2:=Int.emod_lt_of_pos c (show (0:Int) < 2147483647 by decide)
 omega
end Lw
namespace L2
open PySem PySem.Spec PyProof.Rows
theorem c4K {K:Φρ} {h:Heap} {mg:Str->Option Value} {x:Str} {st:Stmt} {ps:List Str} {f:Addr} {oc:Value} {od an:Option Addr} {osl:Array (Option Value)} {kV doc pm cdv ct:Value} (X:K.In h) (G:h.Ns mainGlobals mg)
  (a:PySem.W.nsIn K mainGlobals x=some (some (.ref f))) (l:K.lookup f=some ⟨oc,od,.func (PySem.W.fnOf x x (a1Y st) (a1S st) (a0F st) .none kV doc pm an cdv ct),osl⟩) (c:PySem.W.codeIn K cdv x=true) (k:PySem.W.keepIn K (.ref f)=true)
  (hb:∀ (kV doc pm:Value) (an:Option Addr) (cdv ct:Value) (us:List Value),us.length=ps.length->bindArgs (PySem.W.fnOf x x (a1Y st) (a1S st) (a0F st) .none kV doc pm an cdv ct) ⟨us,[]⟩=pure (ps.zip us)) :
  Nonempty (Dn K mg x st ps) :=
 have F:=d1H (st:=st) l c k
 ⟨⟨f,_,F,F.binds hb,PySem.W.mg_of X G a,λ s us hl=>.of_eq (hb _ _ _ _ _ _ us hl)⟩⟩
theorem bl_mk {K:Φρ} {h:Heap} {mg:Str->Option Value} (X:K.In h) (G:h.Ns mainGlobals mg)
  (z1:PySem.W.nsIn K mainGlobals "len" = some none) (z2:PySem.W.nsIn K mainGlobals "range" = some none) (z3:PySem.W.nsIn K mainGlobals "list" = some none) (z4:PySem.W.nsIn K mainGlobals "isinstance" = some none) (z5:PySem.W.nsIn K mainGlobals "int" = some none)
  (z6:PySem.W.nsIn K mainGlobals "bool" = some none) (z7:PySem.W.nsIn K mainGlobals "str" = some none) (z8:PySem.W.nsIn K mainGlobals "all" = some none) (z9:PySem.W.nsIn K mainGlobals "any" = some none) (z10:PySem.W.nsIn K mainGlobals "sorted" = some none)
  (z11:PySem.W.nsIn K mainGlobals "set" = some none) (z12:PySem.W.nsIn K mainGlobals "min" = some none) (z13:PySem.W.nsIn K mainGlobals "max" = some none) (z14:PySem.W.nsIn K mainGlobals "tuple" = some none) (z15:PySem.W.nsIn K mainGlobals "enumerate" = some none)
  (z16:PySem.W.nsIn K mainGlobals "dict" = some none) (z17:PySem.W.nsIn K mainGlobals "ValueError" = some none):Bl mg:=by
 refine ⟨λ x hx=>?_⟩
 simp only [List.mem_cons,List.not_mem_nil,or_false] at hx
 rcases hx with rfl | rfl | rfl | rfl | rfl | rfl | rfl | rfl | rfl | rfl | rfl | rfl | rfl | rfl | rfl | rfl | rfl
 ·exact PySem.W.mg_none_of X G z1
 ·exact PySem.W.mg_none_of X G z2
 ·exact PySem.W.mg_none_of X G z3
 ·exact PySem.W.mg_none_of X G z4
 ·exact PySem.W.mg_none_of X G z5
 ·exact PySem.W.mg_none_of X G z6
 ·exact PySem.W.mg_none_of X G z7
 ·exact PySem.W.mg_none_of X G z8
 ·exact PySem.W.mg_none_of X G z9
 ·exact PySem.W.mg_none_of X G z10
 ·exact PySem.W.mg_none_of X G z11
 ·exact PySem.W.mg_none_of X G z12
 ·exact PySem.W.mg_none_of X G z13
 ·exact PySem.W.mg_none_of X G z14
 ·exact PySem.W.mg_none_of X G z15
 ·exact PySem.W.mg_none_of X G z16
 ·exact PySem.W.mg_none_of X G z17
theorem law_at {P:Program} {w:World} {K:Φρ} {mg:Str->Option Value} {fa:Addr} {st:Stmt} {k:Nat} {sp:Sp} {x:Str} (hfa:mg "law" = some (.ref fa)) (d:Dn K mg "law" st [x]) (F:∀ base:Heap,FnOk P w K mg base CX0 k d.f d.fd [x] sp) :
  ∃ fd:FuncData,(∀ (s:Shared) (u:Value),BindsTo s fd ⟨[u],[]⟩ [(x,u)])/\∀ base:Heap,K.In base->base.Ns mainGlobals mg->FnOk P w K mg base CX0 k fa fd [x] sp:=by
 have e:fa=d.f:=by
  have:=hfa.symm.trans d.m
  have:=Option.some.inj this
  cases this
  rfl
 subst e
 exact ⟨d.fd,λ s u=>d.bd s [u] rfl,λ base _ _=>F base⟩
end L2
namespace L2
open PySem PySem.Spec PyProof.Rows
def Ite (K:Φρ) (a:Addr):It :=
 ⟨λ i H=>∃ xs x,SqL K H a xs/\xs[i]?=some x,λ i H x H'=>∃ p y,x = .ref p/\New H p (.tup [.int i,y]) H'/\∀ xs,SqL K H a xs->xs[i]?=some y,λ i H=>∃ xs,SqL K H a xs/\xs.length<=i⟩
theorem c0D {P:Program} {w:World} {K:Φρ} {elts:List Expr} {k:Nat} {pos:Pos} (a it e:Addr) (hei:e≠it):Turn P w K (.Tuple elts k pos) (Ite K a) [e,it] e (λ i h=>(∃ old,IsEnum h e it i old)/\h.IsListIter it a i) where
 mem:=by simp
 obj:=λ i h st b hb=>by
  obtain ⟨⟨old,he⟩,hit⟩:=st
  rcases List.mem_cons.mp hb with rfl | hb
  ·exact ⟨_,he,λ v z=>by
    have z':Data.fields _=Data.cell v:=z
    cases z'⟩
  ·rw [List.mem_singleton.mp hb]
   obtain ⟨o,e1,c,d⟩:=hit
   exact ⟨o,e1,λ v z=>by rw [d] at z; cases z⟩
 keep:=λ i h h' st kk=>by
  obtain ⟨⟨old,he⟩,hit⟩:=st
  exact ⟨⟨old,kk e (by simp) _ he⟩,hit.at λ o q=>kk it (by simp) o q⟩
 item:=by
  intro X hP hw hK hc i pins s σ H E I hf st hg
  subst hP hw hK
  obtain ⟨xs,x,hq,hx⟩:=hg
  obtain ⟨its,rv,pl,hz⟩:=I.list hq
  obtain ⟨u,hu,ru⟩:=rv.get hx
  obtain ⟨⟨old,he⟩,hit⟩:=st
  obtain ⟨f0,f1,f2,f3,f4,f5⟩:=hf e (by simp)
  obtain ⟨g0,g1,g2,g3,g4,g5⟩:=hf it (by simp)
  refine wpAny_pyNext_enum_item he hit pl.isList (x:=u) (by simpa using hu) hei λ h' ho hit' hT hsz hk=>?_
  refine ⟨_,rfl,wpAny_letOwnedTupleGo_enum ho λ h2 he2 hs2=>?_⟩
  have eT:s.heap.objs.size≠e:=Nat.ne_of_gt (Heap.lt_size he)
  have iT:s.heap.objs.size≠it:=by
   obtain ⟨o,e1,_⟩:=hit
   exact Nat.ne_of_gt (Heap.lt_size e1)
  have hT2:h2.get? s.heap.objs.size=some { cls:=.type "tuple", data:=.seq #[.int i s.toks,u] }:=(hs2.2 _ eT).trans hT
  have kp:∀ b o,b≠e->b≠it->s.heap.get? b=some o->h2.get? b=some o:=λ b o h1 h2' q=>(hs2.2 b h1).trans (hk b o h1 h2' q)
  have I1:Inv X pins σ H { s with heap:=h2,toks:=s.toks+1 }:=by
   refine I.step (g':=s.gens) (d':=s.drawn) (H':=H) (ch:=[e,it]) (λ b hb=>?_) (λ b o _ _ hc q _=>kp b o (λ z=>hc (by simp [z])) (λ z=>hc (by simp [z])) q) (λ b o _ _ hc q _=>⟨o.slots,kp b o (λ z=>hc (by simp [z])) (λ z=>hc (by simp [z])) q⟩) (λ _ _ _ _ n=>n)
    (λ b o hc q=>⟨o,kp b o (λ z=>hc (by simp [z])) (λ z=>hc (by simp [z])) q⟩) (λ _ _ q=>q) (λ _ _ _ q=>q) (λ b ps q=>⟨#[],by rw [q]; simp⟩) (λ m hm=>?_) (λ b o q=>?_) I.bare
   ·rcases List.mem_cons.mp hb with rfl | hb
    ·exact ⟨f3,f1,f4,f5⟩
    ·rw [List.mem_singleton.mp hb]; exact ⟨g3,g1,g4,g5⟩
   ·obtain ⟨o,es,ep,q,r⟩:=hm
    exact ⟨o,es,ep,kp _ o (Ne.symm f1) (Ne.symm g1) q,r⟩
   ·have nb:∀ c v,H c=some v->c≠e/\c≠it:=λ c v q=>⟨a1G q f0,a1G q g0⟩
    refine (I.hok b o q).stay (λ c v hcc r=>kp c v ?_ ?_ r) (λ _ q=>q) λ _ _ q=>q
    ·rcases hcc with z | z
     ·rw [z]; exact (nb b o q).1
     ·exact (nb c _ z).1
    ·rcases hcc with z | z
     ·rw [z]; exact (nb b o q).2
     ·exact (nb c _ z).2
  have hfree:H s.heap.objs.size=none:=I.hok.fresh (Nat.le_refl _)
  have I2:Inv X pins σ (upd H s.heap.objs.size (.tup [.int i,x])) { s with heap:=h2,toks:=s.toks+1 }:=by
   refine Inv.track I1 hfree I.sz (Nat.ne_of_gt I.lt) (λ y c q=>?_) (λ p hp=>Nat.ne_of_lt (Heap.lt_size (I.pin p hp).1)) ?_
   ·obtain ⟨v,oc,q1,_⟩:=I.cell y c q
    exact Nat.ne_of_lt (Heap.lt_size q1)
   ·exact ⟨(by show 2<=sizeLine; decide),[.int i s.toks,u],.cons ⟨_,rfl⟩ (.cons ru .nil),⟨_,hT2,rfl,_,rfl⟩⟩
  refine ⟨.ref s.heap.objs.size,_,I2,rfl,⟨_,x,rfl,New.mk0 hfree,λ ys hy=>by rw [I.list_inj hy hq]; exact hx⟩,⟨⟨u,?_⟩,hit'.at λ o q=>(hs2.2 it (Ne.symm hei)).trans q⟩,λ b hb=>?_⟩
  ·have e1:((i+1:Nat):Int)=(i:Int)+1:=by omega
   show IsEnum h2 e it ((i+1:Nat):Int) u
   rw [e1]; exact he2
  ·rcases List.mem_cons.mp hb with rfl | hb
   ·rw [a1K (Ne.symm eT)]; exact f0
   ·rw [List.mem_singleton.mp hb,a1K (Ne.symm iT)]; exact g0
 done:=by
  intro X hP hw hK hc i pins s σ H E I hf st hg
  subst hP hw hK
  obtain ⟨xs,hq,hx⟩:=hg
  obtain ⟨its,rv,pl,hz⟩:=I.list hq
  obtain ⟨⟨old,he⟩,hit⟩:=st
  obtain ⟨g0,g1,g2,g3,g4,g5⟩:=hf it (by simp)
  have hl:=rv.length
  exact wpAny_pyNext_enum_end (I.ok.hd hc) he hit pl.isList (by simp; omega) λ h' eb=>⟨rfl,I.turned (t':=s.toks) (λ b o hb q=>eb b o hb q) g0 g1 g3 g4 g5⟩
 self:=λ _ _ _ _ _ st h=>by
  obtain ⟨⟨old,he⟩,_⟩:=st
  exact wpAny_pyIter_enum he h
section
variable {X:Cx} {K:Φρ}
def d1N (K:Φρ) (ta:TA):TI:=λ σ H R=>ta σ H λ vs H1=>∃ a,vs=[.ref a]/\(∃ xs,SqL K H1 a xs)/\R (Ite K a) H1
theorem a4X {elts:List Expr} {k:Nat} {tpos:Pos} {l:Expr} {ta:TA} {p pos:Pos} (e0:X.K=K) (hg:Gl X "enumerate") (hm:X.mg "enumerate" = none) (ha:PA X [l] ta) (hs:starEach [l] X.env=[(false,eval l X.env)]:=by rfl) :
  PI X (.Tuple elts k tpos) (.Call (.Name "enumerate" p) [l] [] pos) (d1N K ta):=by
 subst e0
 intro pins s σ H R I h
 refine wpAny_Call_Name_kw (a5W I hg hm boot_enumerate ?_)
 refine PyProof.Rows.callWith_type1 (thn (ha pos pins s σ H _ I h) λ us s1 ⟨vs,H1,I1,r1,q1⟩=>?_) hs (by rfl)
 obtain ⟨a,e,⟨xs,hq⟩,q⟩:=q1
 subst e
 obtain ⟨u,rfl,ru⟩:=a5G r1
 cases ru
 obtain ⟨its,rv,pl,hz⟩:=I1.list hq
 refine call_enumerate_list pl.isList λ h' he hit hsz hk=>?_
 refine wpAny_pyIter_enum he ?_
 have I2:Inv X pins σ H1 { s1 with heap:=h' }:=I1.kept (t':=s1.toks) hk
 refine ⟨s1.heap.objs.size+1,[s1.heap.objs.size+1,s1.heap.objs.size],_,_,H1,rfl,I2,c0D a s1.heap.objs.size (s1.heap.objs.size+1) (Nat.ne_of_gt (Nat.lt_succ_self _)),⟨⟨_,he⟩,hit⟩,λ b hb=>?_,q⟩
 have hb':s1.heap.objs.size<=b:=by
  rcases List.mem_cons.mp hb with rfl | hb
  ·exact Nat.le_succ _
  ·rw [List.mem_singleton.mp hb]; exact Nat.le_refl _
 exact I1.fpOk hb' (I1.hok.fresh hb')
end
theorem a4I {K:Φρ} {a:Addr} {xs:List V} {g:TG} {tb:TS} {D:Ends} {σ:St} {H:Hp} (Pv:Nat->St->Hp->Prop) (h0:Pv 0 σ H) (hl:∀ i σ H,i<=xs.length->Pv i σ H->SqL K H a xs)
  (hs:∀ (i:Nat) x σ H p H',xs[i]?=some x->Pv i σ H->New H p (.tup [.int i,x]) H'->g (.ref p) σ H' λ σ2 H2=>tb { D with nx:=Pv (i+1),ct:=Pv (i+1),bk:=D.nx } σ2 H2) (hd:∀ σ H,Pv xs.length σ H->D.nx σ H) :
  ∃ W:Nat->Nat->St->Hp->Prop,(∃ m,W 0 m σ H)/\∀ i m σ H,W i m σ H ->
   ((Ite K a).stop i H/\D.nx σ H)\/((Ite K a).go i H/\∃ N:St->Hp->Prop,(∀ σ' H',N σ' H'->∃ m',m' < m/\W (i+1) m' σ' H')/\∀ x H',(Ite K a).yld i H x H'->g x σ H' λ σ2 H2=>tb { D with nx:=N,ct:=N,bk:=D.nx } σ2 H2):=by
 refine ⟨λ i m σ H=>m=xs.length - i/\i<=xs.length/\Pv i σ H,⟨xs.length,by simp,Nat.zero_le _,h0⟩,?_⟩
 rintro i m σ H ⟨rfl,hi,p⟩
 have q:=hl i σ H hi p
 by_cases hlt:i < xs.length
 ·refine .inr ⟨⟨xs,xs[i],q,by simp [hlt]⟩,Pv (i+1),λ σ' H' p'=>⟨xs.length - (i+1),by omega,rfl,hlt,p'⟩,λ x H' y=>?_⟩
  obtain ⟨pp,y0,rfl,nw,ex⟩:=y
  exact hs i y0 σ H pp H' (ex xs q) p nw
 ·have e:i=xs.length:=by omega
  subst e
  exact .inl ⟨⟨xs,q,Nat.le_refl _⟩,hd σ H p⟩
theorem b2S {K:Φρ} {a:Addr} {xs:List V} {ix:List (Option Nat)} {g:TG} {tt:TT} {te:TE} {σ:St} {H1:Hp} {Q:VK} (f:Nat->Option V) (hx:SqL K H1 a xs) (hz:xs.length<=1000)
  (hs:∀ (i:Nat) x H (N:Option V->Hp->Prop),xs[i]?=some x->Same H1 H->(∀ H',Same H1 H'->N (f i) H')->g x (capt ix σ) H λ σ2 H2=>tt σ2 H2 λ b H3=>if b=true then te σ2 H3 λ v H4=>N (some v) H4 else N none H3)
  (hd:∀ H p H',Same H1 H->New H p (.lst ((List.range xs.length).filterMap f)) H'->Q (.ref p) H'):a5I ix g tt te σ H1 Q (Itl K a):=by
 refine a4G (K:=K) (a:=a) (xs:=xs) (λ i ys H=>ys=(List.range i).filterMap f/\Same H1 H) ⟨rfl,Same.refl _⟩ (λ i ys H hi ⟨e,s⟩=>⟨s.seq hx,?_⟩) (λ i x ys H hi ⟨e,s⟩=>?_) λ ys H ⟨e,s⟩ p hp=>?_
 ·subst e
  refine Nat.le_trans (List.length_filterMap_le _ _) ?_
  rw [List.length_range]; exact Nat.le_trans hi (Nat.le_of_lt (a1E hz))
 ·refine hs i x H (λ o H'=>match o with | some v=>(ys++[v]=(List.range (i+1)).filterMap f/\Same H1 H') | none=>(ys=(List.range (i+1)).filterMap f/\Same H1 H')) hi s λ H' s'=>?_
  cases ef:f i with
  | some v =>
   refine ⟨?_,s'⟩
   rw [e,List.range_succ,List.filterMap_append]
   simp [ef]
  | none =>
   refine ⟨?_,s'⟩
   rw [e,List.range_succ,List.filterMap_append]
   simp [ef]
 ·subst e
  exact hd H p _ s (New.mk0 hp)
end L2
namespace Bg
open PySem L2 Lw
abbrev Row:=Option Int × List Int
def b2T (ns:List Int):Bool:=(List.range (ns.length - 1)).all λ i=>decide (ns.getD i 0 < ns.getD (i+1) 0)
def setF (n:Int) (ns:List Int):Bool:=(ns.all λ v=>decide (0<=v/\v < n)) && b2T ns
def a5Z (n:Int):Option Int->Bool
 | none=>false
 | some i=>decide (0<=i/\i < n)
def upOk (k:Nat) (u:Option Int):Bool:=if k=0 then u.isNone else a5Z k u
def a0K (rs:List Row) (k:Nat):Row:=rs.getD k (none,[])
def a7U (n:Int) (rs:List Row) (k:Nat):Bool:=upOk k (a0K rs k).1 && setF n (a0K rs k).2
def has (v:Int) (r:Row):Bool:=decide (v∈r.2)
def b1A (rs:List Row) (u:Option Int) (v:Int):Bool:=match u with
 | none=>false
 | some i=>has v (a0K rs i.toNat)
def a4Y (rs:List Row) (v:Int) (k:Nat):Bool:=has v (a0K rs k) && !b1A rs (a0K rs k).1 v
def a5H (rs:List Row) (v:Int):List Nat:=(List.range rs.length).filter (a4Y rs v)
inductive Flt where
 | ok | row (k:Nat) | place (v:Nat) | tie (a b:Int) | apart (v j k:Nat)
 deriving DecidableEq
def upV:Option Int->V
 | none=>.non
 | some i=>.int i
def RowV (K:Φρ) (H:Hp) (v:V) (r:Row):Prop:=∃ p b,v = .ref p/\SqT K H p [upV r.1,.ref b]/\SqL K H b (r.2.map V.int)/\r.2.length<=1000
def c7C (K:Φρ) (H:Hp) (a:Addr) (rs:List Row):Prop:=∃ xs,SqL K H a xs/\Paired (RowV K H) xs rs/\rs.length<=1000
def TieV (K:Φρ) (H:Hp) (v:V) (t:Int × Int):Prop:=∃ p,v = .ref p/\SqT K H p [.int t.1,.int t.2]
def TiesAt (K:Φρ) (H:Hp) (a:Addr) (ts:List ζζ):Prop:=∃ xs,SqL K H a xs/\Paired (TieV K H) xs ts/\ts.length<=1000
def GraphV (K:Φρ) (H:Hp) (v:V) (n:Int) (ts:List ζζ):Prop:=∃ p a,v = .ref p/\SqT K H p [.int n,.ref a]/\TiesAt K H a ts
theorem TiesAt.same {K:Φρ} {H H':Hp} {a:Addr} {ts:List ζζ} (e:Same H H') (h:TiesAt K H a ts):TiesAt K H' a ts:=by
 obtain ⟨xs,h1,h2,h3⟩:=h
 exact ⟨xs,e.seq h1,Paired.mapP h2 λ _ _ ⟨p,q1,q2⟩=>⟨p,q1,e.tupq q2⟩,h3⟩
theorem GraphV.same {K:Φρ} {H H':Hp} {v:V} {n:Int} {ts:List ζζ} (e:Same H H') (h:GraphV K H v n ts):GraphV K H' v n ts:=by
 obtain ⟨p,a,h1,h2,h3⟩:=h
 exact ⟨p,a,h1,e.tupq h2,h3.same e⟩
theorem a1A {α β:Type} {F:α->β->Prop}:∀ {xs:List α} {ys:List β} {i:Nat} {x:α},Paired F xs ys->xs[i]?=some x->∃ y,ys[i]?=some y/\F x y
 | _,_,_,_,.nil,h=>by simp at h
 | _,_,0,_,.cons h r,e=>by
  simp at e; subst e
  exact ⟨_,rfl,h⟩
 | _,_,i+1,_,.cons h r,e=>by
  obtain ⟨d,e1,q⟩:=a1A (i:=i) r (by simpa using e)
  exact ⟨d,by simpa using e1,q⟩
theorem a8L {α β:Type} {F:α->β->Prop}:∀ {xs:List α} {ys:List β} {i:Nat} {y:β},Paired F xs ys->ys[i]?=some y->∃ x,xs[i]?=some x/\F x y
 | _,_,_,_,.nil,h=>by simp at h
 | _,_,0,_,.cons h r,e=>by
  simp at e; subst e
  exact ⟨_,rfl,h⟩
 | _,_,i+1,_,.cons h r,e=>by
  obtain ⟨d,e1,q⟩:=a8L (i:=i) r (by simpa using e)
  exact ⟨d,by simpa using e1,q⟩
theorem c0E {rs:List Row} {i:Nat} {r:Row} (h:rs[i]?=some r):a0K rs i=r:=by
 unfold a0K; rw [τα,h]; rfl
theorem a7Z {rs:List Row} {i:Nat} (h:i < rs.length):rs[i]?=some (a0K rs i):=by
 unfold a0K; rw [τα,List.getElem?_eq_getElem h]; rfl
theorem c0F (ns:List Int) (v:Int):(ns.map PyData.int).any (λ e=>PyData.eqv e (.int v))=decide (v∈ns):=by
 induction ns with
 | nil=>rfl
 | cons a r ih =>
  rw [List.map_cons,List.any_cons,ih,PyData.eqv]
  by_cases h:a=v
  ·subst h; simp
  ·have h':¬ v=a:=λ z=>h z.symm
   simp [h,h']
theorem b8D (ns:List Int):PyData.depthAll (ns.map PyData.int)=0:=by
 induction ns with
 | nil=>rfl
 | cons a r ih=>rw [List.map_cons,PyData.depthAll,ih]; rfl
theorem c4L (ns:List Int):PyData.canLayAll0 (ns.map PyData.int)=true:=by
 induction ns with
 | nil=>rfl
 | cons a r ih=>rw [List.map_cons,PyData.canLayAll0,ih]; rfl
theorem a3G (ns:List Int):SeqAt.shaped (.list (ns.map PyData.int))=true:=by
 unfold SeqAt.shaped
 rw [PyData.canLay0,c4L,PyData.depth,b8D]
 decide
theorem c7D {K:Φρ} {H:Hp} {b:Addr} {ns:List Int} {v:Int} {Q:VK} (hS:SqL K H b (ns.map V.int)) (q:Q (.bl (decide (v∈ns))) H):rInD K false (.int v) (.ref b) H Q :=
 ⟨_,_,.int v,.lst hS (IsDs.ints ns),rfl,a3G ns,by rw [c0F]; exact q⟩
theorem b2U {K:Φρ} {H:Hp} {b:Addr} {ns:List Int} {v:Int} {Q:VK} (hS:SqL K H b (ns.map V.int)) (q:Q (.bl (!decide (v∈ns))) H):rInD K true (.int v) (.ref b) H Q :=
 ⟨_,_,.int v,.lst hS (IsDs.ints ns),rfl,a3G ns,by rw [c0F]; exact q⟩
end Bg
namespace L2
open PySem PySem.Spec PyProof.Rows
def d1O:V->V->V->Hp->(Hp->Prop)->Prop:=λ o i v H Q=>∃ p xs k j,o = .ref p/\i = .int k/\H p=some (.lst xs)/\ixN xs.length k=some j/\∀ H',Chg H p (.lst (xs.set j v)) H'->Q H'
theorem a3H {X:Cx}:PSet X d1O:=λ pins s σ H o i v ov iv u Q I ro ri rv ⟨p,xs,k,j,e1,e2,h1,h2,q⟩=>c4E pins s σ H o i v ov iv u Q I ro ri rv ⟨p,xs,k,j,e1,e2,h1,h2,q _ Chg.mk0⟩
theorem a5O {n j:Nat} (h:j < n):ixN n (j:Int)=some j:=by
 unfold ixN
 rw [if_pos (by omega),if_pos (by omega)]; simp
theorem Same.chg {H H':Hp} {l:Addr} {o:HO} {H0:Hp} (s:Same H0 H) (h0:H0 l=none) (c:Chg H l o H'):Same H0 H':=λ b u e=>(c.rest b (a1G e h0)).trans (s b u e)
end L2
namespace Bg
open PySem L2 Lw
theorem c0G (a b:Int) (r:List Int):b2T (a::b::r)=(decide (a < b) && b2T (b::r)):=by
 unfold b2T
 have e:(a::b::r).length - 1=(b::r).length - 1+1:=by simp
 rw [e,List.range_succ_eq_map,List.all_cons,List.all_map]
 rfl
theorem b6E:∀ ls:List Int,b2T ls=true↔ls.Pairwise (· < ·)
 | []=>by simp [b2T]
 | [a]=>by simp [b2T]
 | a::b::r=>by
  rw [c0G,Bool.and_eq_true,b6E (b::r),decide_eq_true_iff,List.pairwise_cons (a:=a)]
  constructor
  ·rintro ⟨h1,h2⟩
   refine ⟨λ c hc=>?_,h2⟩
   rcases List.mem_cons.mp hc with rfl | hc
   ·exact h1
   ·exact Int.lt_trans h1 ((List.pairwise_cons.mp h2).1 c hc)
  ·rintro ⟨h1,h2⟩
   exact ⟨h1 b List.mem_cons_self,h2⟩
theorem a4J (n:Int) (ls:List Int):setF n ls=true↔(∀ v∈ls,0<=v/\v < n)/\ls.Pairwise (· < ·):=by
 unfold setF
 rw [Bool.and_eq_true,b6E,List.all_eq_true]
 constructor
 ·rintro ⟨h1,h2⟩
  exact ⟨λ v hv=>of_decide_eq_true (h1 v hv),h2⟩
 ·rintro ⟨h1,h2⟩
  exact ⟨λ v hv=>decide_eq_true (h1 v hv),h2⟩
def TieL (H:Hp) (v:V) (t:Int × Int):Prop:=∃ p,v = .ref p/\H p=some (.tup [.int t.1,.int t.2])
theorem TieL.v {K:Φρ} {H:Hp} {v:V} {t:Int × Int} (h:TieL H v t):TieV K H v t:=by
 obtain ⟨p,e,q⟩:=h
 exact ⟨p,e,SqT.of q⟩
theorem TieL.same {H H':Hp} {v:V} {t:Int × Int} (s:Same H H') (h:TieL H v t):TieL H' v t:=by
 obtain ⟨p,e,q⟩:=h
 exact ⟨p,e,s _ _ q⟩
theorem TieL.chg {H H':Hp} {l:Addr} {xs ys:List V} {v:V} {t:Int × Int} (hl:H l=some (.lst xs)) (c:Chg H l (.lst ys) H') (h:TieL H v t):TieL H' v t:=by
 obtain ⟨p,e,q⟩:=h
 exact ⟨p,e,(c.rest p (c3X q hl (by intro z; cases z))).trans q⟩
theorem a1T {α β:Type} {F:α->β->Prop}:∀ {xs:List α} {ys:List β} {x:α} {y:β},Paired F xs ys->F x y->Paired F (xs++[x]) (ys++[y])
 | _,_,_,_,.nil,h=>.cons h .nil
 | _,_,_,_,.cons h r,q=>.cons h (a1T r q)
def tieD (t:Int × Int):PyData:=.tuple [.int t.1,.int t.2]
theorem TieV.isD {K:Φρ} {H:Hp} {v:V} {t:Int × Int} (h:TieV K H v t):IsD K H v (tieD t):=by
 obtain ⟨p,rfl,q1⟩:=h
 exact .tup q1 (.cons (.int _) (.cons (.int _) .nil))
theorem c0H {K:Φρ} {H:Hp} {α:Type} {F:V->α->Prop} {f:α->PyData} (hf:∀ v x,F v x->IsD K H v (f x)):∀ {xs:List V} {ys:List α},Paired F xs ys->IsDs K H xs (ys.map f)
 | _,_,.nil=>.nil
 | _,_,.cons h r=>.cons (hf _ _ h) (c0H hf r)
def b8E (ts:List ζζ):PyData:=.list (ts.map tieD)
theorem TiesAt.isD {K:Φρ} {H:Hp} {a:Addr} {ts:List ζζ} (h:TiesAt K H a ts):IsD K H (.ref a) (b8E ts):=by
 obtain ⟨xs,h1,h2,_⟩:=h
 exact .lst h1 (c0H (λ v x q=>q.isD) h2)
def webD (n:Int) (ts:List ζζ):PyData:=.tuple [.int n,b8E ts]
theorem GraphV.isD {K:Φρ} {H:Hp} {v:V} {n:Int} {ts:List ζζ} (h:GraphV K H v n ts):IsD K H v (webD n ts):=by
 obtain ⟨p,a,rfl,q1,q2⟩:=h
 exact .tup q1 (.cons (.int _) (.cons q2.isD .nil))
theorem c0I {α:Type} {f:α->PyData} (h:∀ x,(f x).canLay0=true):∀ l:List α,PyData.canLayAll0 (l.map f)=true
 | []=>rfl
 | x::r=>by rw [List.map_cons,PyData.canLayAll0,h x,c0I h r]; rfl
theorem a8M {α:Type} {f:α->PyData} {k:Nat} (h:∀ x,(f x).depth<=k):∀ l:List α,PyData.depthAll (l.map f)<=k
 | []=>Nat.zero_le _
 | x::r=>by
  rw [List.map_cons,PyData.depthAll]
  exact Nat.max_le.mpr ⟨h x,a8M h r⟩
theorem c8F (t:Int × Int):(tieD t).canLay0=true:=rfl
theorem b2V (t:Int × Int):(tieD t).depth<=1:=by
 unfold tieD
 simp [PyData.depth,PyData.depthAll]
theorem b4Y (ts:List ζζ):SeqAt.shaped (b8E ts)=true:=by
 unfold SeqAt.shaped b8E
 rw [PyData.canLay0,c0I c8F,PyData.depth,Bool.true_and]
 exact decide_eq_true (by have:=a8M b2V ts; omega)
theorem a3C (n:Int) (ts:List ζζ):SeqAt.shaped (webD n ts)=true:=by
 have h:=b4Y ts
 unfold SeqAt.shaped at h ⊢
 rw [Bool.and_eq_true] at h
 have h2:(b8E ts).depth<=2:=by
  unfold b8E
  rw [PyData.depth]
  have:=a8M b2V ts; omega
 unfold webD
 rw [PyData.canLay0,PyData.canLayAll0,PyData.canLayAll0,h.1,PyData.depth,PyData.depthAll,PyData.depthAll,PyData.depthAll,PyData.depth]
 simp only [PyData.canLay0,PyData.canLayAll0,Bool.and_true,Bool.true_and]
 refine decide_eq_true ?_
 omega
theorem b1B {d:PyData} (h:SeqAt.shaped d=true):PyData.eqv d d=true:=SeqAt.eqv_refl d (SeqAt.canLay_of_shaped h)
end Bg
namespace L2
open PySem PySem.Spec PyProof.Rows
theorem a4K:∀ (names:List (Str × NameKind)) (n:Nat) (l acc:List (Str × Addr)),cellsFrom n names (l++acc)=cellsFrom n names l++acc
 | [],_,_,_=>rfl
 | (x,k)::r,n,l,acc=>by
  unfold cellsFrom
  split
  ·exact a4K r (n+1) ((x,n)::l) acc
  ·exact a4K r n l acc
theorem a2O:∀ (names:List (Str × NameKind)) (n:Nat) (acc:List (Str × Addr)) {x:Str} {c:Addr},(x,c)∈cellsFrom n names acc->(x,c)∈acc\/(x,NameKind.cell)∈names
 | [],_,_,_,_,h=>.inl h
 | (y,k)::r,n,acc,x,c,h=>by
  unfold cellsFrom at h
  split at h
  ·rename_i hk
   rcases a2O r (n+1) _ h with h | h
   ·rcases List.mem_cons.mp h with e | h
    ·cases e
     have e:k = .cell:=by simpa using hk
     rw [e]
     exact .inr List.mem_cons_self
    ·exact .inl h
   ·exact .inr (List.mem_cons_of_mem _ h)
  ·rcases a2O r n _ h with h | h
   ·exact .inl h
   ·exact .inr (List.mem_cons_of_mem _ h)
def a5P (X:Cx) (scope:Scope) (C:Addr):List (Str × Addr):=cellsFrom (C+1) scope.names []++clOf X.env.cells scope.names []
def b2W (X:Cx) (N':List Str) (scope:Scope) (C:Addr) (s:Shared) (H:Hp) (fp:List Addr) (xe:Value->Shared->Prop):Cx :=
 { X with N:=N',s₀:=s,H₀:=H,env:=compEnvC scope (a5P X scope C) C X.env,outer:=X.stack,ex:=fp,fn:=λ x=>scope.names.lookup x == some .cell,xe:=xe }
structure OwnOk (X:Cx) (N':List Str) (ix:List (Option Nat)) (scope:Scope):Prop where
 kind:scope.kind = .function
 own:∀ y∈scope.names,y.2 = .cell->scope.names.lookup y.1=some .cell
 locs:∀ y∈scope.names,y.2 = .local->scope.names.lookup y.1=some .local
 free:∀ y∈scope.names,y.2 = .free->X.env.kindOf y.1=some .cell\/X.env.kindOf y.1=some .free
 len:ix.length=N'.length
 cap:∀ (i j:Nat),ix[i]?=some (some j)->∃ x,N'[i]?=some x/\X.N[j]?=some x/\scope.names.lookup x=some .free
theorem a7F {env:Env} {x:Str}:∀ {names:List (Str × NameKind)},((names.map λ (n,k)=>if (k == NameKind.free && env.scope.kind == .function && env.kindOf n == some .cell) then (n,NameKind.cell) else (n,k)).lookup x=some .cell\/(names.map λ (n,k)=>if (k == NameKind.free && env.scope.kind == .function && env.kindOf n == some .cell) then (n,NameKind.cell) else (n,k)).lookup x=some .free)->(x,NameKind.free)∈names\/(x,NameKind.cell)∈names
 | [],h=>by simp at h
 | (n,k)::r,h=>by
  have ih:=@a7F env x r
  simp only [List.map_cons] at h
  cases hx:x == n with
  | true =>
   have e:x=n:=by simpa using hx
   subst e
   by_cases hc:(k == NameKind.free && env.scope.kind == .function && env.kindOf x == some .cell)=true
   ·have hf:k = .free:=by
     simp only [Bool.and_eq_true,beq_iff_eq] at hc
     exact hc.1.1
    subst hf
    exact .inl List.mem_cons_self
   ·rw [if_neg hc] at h
    simp only [List.lookup_cons,hx] at h
    rcases h with h | h
    ·have hf:k = .cell:=Option.some.inj h
     subst hf
     exact .inr List.mem_cons_self
    ·have hf:k = .free:=Option.some.inj h
     subst hf
     exact .inl List.mem_cons_self
  | false =>
   have:(x,NameKind.free)∈r\/(x,NameKind.cell)∈r:=ih (by
    by_cases hc:(k == NameKind.free && env.scope.kind == .function && env.kindOf n == some .cell)=true
    ·rw [if_pos hc] at h; simpa only [List.lookup_cons,hx] using h
    ·rw [if_neg hc] at h; simpa only [List.lookup_cons,hx] using h)
   exact this.imp (List.mem_cons_of_mem _) (List.mem_cons_of_mem _)
section
variable {X:Cx} {N':List Str} {ix:List (Option Nat)} {scope:Scope} {C:Addr}
theorem a4Z {x:Str} {c:Addr} (h:(a5P X scope C).lookup x=some c):((x,c)∈cellsFrom (C+1) scope.names []/\(x,NameKind.cell)∈scope.names)\/(clOf X.env.cells scope.names []).lookup x=some c:=by
 unfold a5P at h
 rw [List.lookup_append] at h
 cases e:(cellsFrom (C+1) scope.names []).lookup x with
 | none=>rw [e] at h; exact .inr h
 | some d =>
  rw [e] at h
  have hd:d=c:=Option.some.inj h
  subst hd
  have hm:=PySem.mem_of_lookup e
  rcases a2O _ _ _ hm with z | z
  ·cases z
  ·exact .inl ⟨hm,z⟩
theorem b1C (B:OwnOk X N' ix scope) {x:Str} {c:Addr} (hx:scope.names.lookup x=some .free) (h:(clOf X.env.cells scope.names []).lookup x=some c):(a5P X scope C).lookup x=some c:=by
 unfold a5P
 rw [List.lookup_append]
 cases e:(cellsFrom (C+1) scope.names []).lookup x with
 | none=>exact h
 | some d =>
  rcases a2O _ _ _ (PySem.mem_of_lookup e) with z | z
  ·cases z
  ·have:=B.own _ z rfl
   rw [hx] at this
   cases this
theorem c0J {x:Str} (h:scope.names.lookup x=some .cell):∃ c,(cellsFrom (C+1) scope.names []).lookup x=some c/\(a5P X scope C).lookup x=some c:=by
 obtain ⟨c,e⟩:=b0V (n:=C+1) (sc:=scope) h
 refine ⟨c,e,?_⟩
 unfold a5P
 rw [List.lookup_append,e]
 rfl
end
theorem b6F {X:Cx} {pins:List (Addr × Obj)} {σ:St} {H:Hp} {s:Shared} {N':List Str} {ix:List (Option Nat)} {scope:Scope} {i:Nat} {x:Str} {v:V} {C:Addr} (B:OwnOk X N' ix scope) (I:Inv X pins σ H s)
  (h1:N'[i]?=some x) (h2:(capt ix σ)[i]?=some (some v)):∃ u c,RelV v u/\(a5P X scope C).lookup x=some c/\X.env.cells.lookup x=some c/\s.heap.IsCell c (some u) /\
   ((relabel scope X.env).names.lookup x=some .cell\/(relabel scope X.env).names.lookup x=some .free):=by
 have clB:∀ x c,(clOf X.env.cells scope.names []).lookup x=some c->X.env.cells.lookup x=some c:=λ x c h=>a4F scope.names [] (λ _ _ z=>by simp at z) h
 obtain ⟨j,hj,hv⟩:∃ j,ix[i]?=some (some j)/\σ[j]?=some (some v):=by
  unfold capt at h2
  rw [List.getElem?_map] at h2
  cases e:ix[i]? with
  | none=>rw [e] at h2; cases h2
  | some o =>
   rw [e] at h2
   cases o with
   | none=>cases h2
   | some j =>
    refine ⟨j,rfl,?_⟩
    have h2':(σ[j]?).join=some v:=Option.some.inj h2
    cases e2:σ[j]? with
    | none=>rw [e2] at h2'; cases h2'
    | some o2=>rw [e2] at h2'; have:o2=some v:=h2'; rw [this]
 obtain ⟨x',hx1,hx2,hx3⟩:=B.cap i j hj
 have exx:x'=x:=by
  have h1':N'[i]?=some x:=h1
  rw [hx1] at h1'; exact Option.some.inj h1'
 subst exx
 have hmem:=PySem.mem_of_lookup hx3
 have hout:=B.free _ hmem rfl
 obtain ⟨m0,_,hl⟩:=I.loc
 obtain ⟨u,r,l⟩:=hl j x' v hx2 hv (by
  rcases hout with e | e
  ·exact .inr (.inl e)
  ·exact .inr (.inr e))
 rcases l with ⟨k,_⟩ | ⟨k,c,e,z⟩
 ·rcases hout with e | e
  ·rw [e] at k; cases k
  ·rw [e] at k; cases k
 ·obtain ⟨c',hc'⟩:=a5Y scope.names [] hmem (I.ok.has x' hout)
  have:=clB x' c' hc'
  rw [e] at this; cases this
  exact ⟨u,c,r,b1C B hx3 hc',e,z,a4W hx3⟩
theorem c8G {X:Cx} {pins:List (Addr × Obj)} {σ:St} {H:Hp} {s s4:Shared} {N':List Str} {ix:List (Option Nat)} {scope:Scope} {C:Addr} {fp:List Addr} {xe:Value->Shared->Prop} {m:Str->Option Value}
  (B:OwnOk X N' ix scope) (I:Inv X pins σ H s) (hf:∀ b∈fp,FpOk X pins H b) (hC:s.heap.objs.size<=C) (hfs:∀ b∈fp,b < s.heap.objs.size)
  (ho:s4.os=s.os) (hg:s4.gens=s.gens) (hk:∀ b o,s.heap.get? b=some o->s4.heap.get? b=some o) (hns:s4.heap.Ns C m) (hcs:CellsOk s4.heap (C+1) (cellsFrom (C+1) scope.names [])) :
  Inv (b2W X N' scope C s H fp xe) pins (capt ix σ) H s4:=by
 have clB:∀ x c,(clOf X.env.cells scope.names []).lookup x=some c->X.env.cells.lookup x=some c:=λ x c h=>a4F scope.names [] (λ _ _ z=>by simp at z) h
 have clS:∀ x c,(a5P X scope C).lookup x=some c->C+1<=c\/X.env.cells.lookup x=some c:=λ x c h=>(a4Z h).elim (λ z=>.inl (hcs.empty x c z.1).2) λ z=>.inr (clB x c z)
 have old:∀ x c,X.env.cells.lookup x=some c->c < s.heap.objs.size:=λ x c e=>by
  obtain ⟨v,oc,h1,_⟩:=I.cell x c e
  exact Heap.lt_size h1
 have hfree:H C=none:=I.hok.fresh hC
 have neC:∀ b o,s.heap.get? b=some o->b≠C:=λ b o e=>Nat.ne_of_lt (Nat.lt_of_lt_of_le (Heap.lt_size e) hC)
 refine ⟨⟨I.ok.mod,B.kind,I.ok.glob,I.ok.blt,hC,λ x y c h1 h2=>?inj,λ x hx=>?_,λ x c h e=>?cab,I.ok.hd,I.ok.frames,.inl rfl,λ b hb=>⟨?_,λ x c e=>?_⟩,I.bs,?_,λ b o e hb=>?_,λ b hb z=>?_,I.stack,I.stkFree⟩,
  ho,?_,Un.kept hk,⟨m,hns,λ i x v h1 h2 h3=>?_⟩,λ x c e=>?_,hfree,λ x c e=>?frc,λ p hp=>?_,I.hok.kept hk,?_⟩
 case inj =>
  rcases a4Z h1 with ⟨a1,_⟩ | a1 <;> rcases a4Z h2 with ⟨a2,_⟩ | a2
  ·exact name_of_addr hcs.apart a1 a2
  ·exact absurd (Nat.lt_of_lt_of_le (Nat.lt_of_lt_of_le (old y c (clB y c a2)) hC) (Nat.le_of_succ_le (hcs.empty x c a1).2)) (Nat.lt_irrefl _)
  ·exact absurd (Nat.lt_of_lt_of_le (Nat.lt_of_lt_of_le (old x c (clB x c a1)) hC) (Nat.le_of_succ_le (hcs.empty y c a2).2)) (Nat.lt_irrefl _)
  ·exact I.ok.inj x y c (clB x c a1) (clB y c a2)
 case cab =>
  have hx:scope.names.lookup x=some .cell:=by
   have:(scope.names.lookup x == some .cell)=true:=h
   simpa using this
  obtain ⟨d,d1,d2⟩:=c0J (X:=X) (C:=C) hx
  have e':(a5P X scope C).lookup x=some c:=e
  rw [d2] at e'
  cases e'
  exact Nat.le_trans hC (Nat.le_of_succ_le (hcs.empty x _ (PySem.mem_of_lookup d1)).2)
 case frc =>
  rcases clS x c e with z | z
  ·exact I.hok.fresh (Nat.le_trans hC (Nat.le_of_succ_le z))
  ·exact I.freeC x c z
 ·have hx':=a7F (env:=X.env) (x:=x) hx
  by_cases oc:(x,NameKind.cell)∈scope.names
  ·obtain ⟨d,_,d2⟩:=c0J (X:=X) (C:=C) (B.own _ oc rfl)
   exact ⟨d,d2⟩
  ·have hf:=hx'.resolve_right oc
   obtain ⟨d,d1⟩:=a5Y scope.names [] hf (I.ok.has x (B.free _ hf rfl))
   refine ⟨d,?_⟩
   show (a5P X scope C).lookup x=some d
   unfold a5P
   rw [List.lookup_append]
   cases e:(cellsFrom (C+1) scope.names []).lookup x with
   | none=>exact d1
   | some d' =>
    rcases a2O _ _ _ (PySem.mem_of_lookup e) with z | z
    ·cases z
    ·exact absurd z oc
 ·exact Nat.ne_of_lt (Nat.lt_of_lt_of_le (hfs b hb) hC)
 ·rcases clS x c e with z | z
  ·exact Nat.ne_of_gt (Nat.lt_of_lt_of_le (hfs b hb) (Nat.le_trans hC (Nat.le_of_succ_le z)))
  ·exact (hf b hb).2.2.2.2.1 x c z
 ·exact Nat.le_trans I.ok.bsz I.sz
 ·obtain ⟨_,_,_,q,_⟩:=hf b hb
  rcases q with q | q
  ·exact I.ok.noex b o e q
  ·exact absurd (Nat.lt_of_lt_of_le (Heap.lt_size (I.ok.bs b o e).1) q) (Nat.lt_irrefl _)
 ·obtain ⟨_,q1,q2,_⟩:=hf b hb
  rcases List.mem_cons.mp (I.stkSub b z) with e | e
  ·exact q1 e
  ·exact q2 e
 ·rw [hg]; exact I.bare
 ·obtain ⟨u,c,r,hc1,_,⟨oc,z1,z2⟩,hk'⟩:=b6F (C:=C) B I h1 h2
  exact ⟨u,r,.inr ⟨hk',c,hc1,oc,hk _ _ z1,z2⟩⟩
 ·rcases a4Z e with ⟨z,_⟩ | z
  ·exact ⟨none,(hcs.empty x c z).1⟩
  ·obtain ⟨v,oc,h1,h2⟩:=I.cell x c (clB x c z)
   exact ⟨v,oc,hk _ _ h1,h2⟩
 ·obtain ⟨e,n,ne,nf,d⟩:=I.pin p hp
  refine ⟨hk _ _ e,n,neC _ _ e,λ z=>?_,d⟩
  rcases List.mem_cons.mp (I.stkSub p.1 z) with e' | e'
  ·exact ne e'
  ·exact nf e'
 ·show (ix.map _).length=N'.length
  rw [List.length_map]; exact B.len
theorem b8F {M:Model} {A:Around} {E:Value->Shared->Prop} {s:Shared} {scope:Scope} {globals:Addr} {closure:List (Str × Addr)} {qual:Str} {env:Env} {Q:Env->Shared->Prop}
  (hQ:∀ h',h'.Ns s.heap.objs.size (λ _=>none)->(∀ b o,s.heap.get? b=some o->h'.get? b=some o)->CellsOk h' (s.heap.objs.size+1) (cellsFrom (s.heap.objs.size+1) scope.names []) ->
   Q (newEnv scope s.heap.objs.size globals (cellsFrom (s.heap.objs.size+1) scope.names []++closure) qual none .none (some env) builtinsNs) { s with heap:=h' }) :
  wpAny M A (newFunctionEnv scope globals closure [] qual none .none (some env)) Q E s:=by
 simp only [newFunctionEnv,Option.isSome_some,if_true]
 refine wpAny_bind (wpAny_alloc ?_)
 refine wpAny_bind (wpAny_layCells _ (λ name kind cells=>by cases hkc:kind == NameKind.cell <;> simp [hkc]) _ _ _ _ ?_)
 have ok:=cellsFrom_ok scope.names (s.heap.push { cls:=.type "dict", data:=.dict #[] }) (s.heap.objs.size+1) [] ⟨λ _ _ hm=>(nomatch hm),List.Pairwise.nil⟩ (by rw [Heap.size_push]; exact Nat.le_refl _)
 rw [Heap.size_push] at ok
 rw [show ({ s with heap:=s.heap.push { cls:=.type "dict", data:=.dict #[] } }:Shared).heap.objs.size=s.heap.objs.size+1 from Heap.size_push ..]
 rw [show cellsFrom (s.heap.objs.size+1) scope.names closure=cellsFrom (s.heap.objs.size+1) scope.names []++closure from a4K scope.names _ [] closure]
 rw [List.forIn_nil]
 refine wpAny_bind (wpAny_pure (wpAny_pure ?_))
 exact hQ _ ((Heap.Ns.new s.heap (.type "dict")).keeps (pushCells_keeps _ _)) (λ b o e=>pushCells_keeps _ _ b o (Heap.get?_push_of_some _ e)) ok
section
variable {X:Cx} {elt tg iter:Expr} {ifs:List Expr} {scope:Scope} {pos:Pos} {N':List Str} {ix:List (Option Nat)} {wi:TI} {g:TG} {tt:TT} {te:TE}
theorem d1P (B:OwnOk X N' ix scope) (hc:X.calm=true)
  (hg:∀ C s H fp xe,PG (b2W X N' scope C s H fp xe) tg g) (ht:∀ C s H fp xe,PTs (b2W X N' scope C s H fp xe) ifs tt) (he:∀ C s H fp xe,PE (b2W X N' scope C s H fp xe) elt te)
  {pins:List (Addr × Obj)} {s2:Shared} {σ:St} {H2:Hp} {Q:VK} {it:Addr} {fp:List Addr} {tn:Nat->Heap->Prop} {J:It} {RR:Value->Addr->Result->Shared->Prop} {E:Value->Shared->Prop}
  (I2:Inv X pins σ H2 s2) (T:Turn X.prog X.w X.K tg J fp it tn) (st2:tn 0 s2.heap) (f2:∀ b∈fp,FpOk X pins H2 b)
  (q:∃ W:Nat->Nat->List V->Hp->Prop,(∃ m,W 0 m [] H2)/\∀ i m ys H,W i m ys H ->
   (J.stop i H/\ys.length<=sizeLine/\∀ p,H p=none->Q (.ref p) (upd H p (.lst ys))) \/
   (J.go i H/\ys.length<=sizeLine/\∃ N:List V->Hp->Prop,(∀ ys' H',N ys' H'->∃ m',m' < m/\W (i+1) m' ys' H')/\∀ x H',J.yld i H x H'->g x (capt ix σ) H' λ σ2 H2=>tt σ2 H2 λ b H3=>if b=true then te σ2 H3 λ v H4=>N (ys++[v]) H4 else N ys H3))
  (hRR:∀ D C s' H' ys,Inv X pins σ (upd H' D (.lst ys)) s'->H' D=none->Q (.ref D) (upd H' D (.lst ys))->(∃ m,s'.heap.Ns C m)->upd H' D (.lst ys) C=none->C≠X.env.locals->X.s₀.heap.objs.size<=C->(∀ x c,X.env.cells.lookup x=some c->c≠C)->(∀ p∈X.pn++pins,p.1≠C)->RR (.ref D) C (.ok .next) s') :
  wpAny (model X.prog X.w) X.A (newList []) (λ acc s₃=>wpAny (model X.prog X.w) X.A (newFunctionEnv scope X.env.globals (clOf X.env.cells scope.names []) [] X.env.qual none .none (some X.env)) (λ cenv s₄ =>
   codeAny (model X.prog X.w) X.A (.compStart (.ListComp elt [⟨tg,iter,ifs,0⟩] scope pos) 0 (.ref it) acc { cenv with scope:=relabel scope X.env }) (RR acc cenv.locals) s₄) E s₃) E s2:=by
 have hfs:∀ b∈fp,b < s2.heap.objs.size:=λ b hb=>by
  obtain ⟨o,e,_⟩:=T.obj _ _ st2 b hb
  exact Heap.lt_size e
 refine wpAny_newObj_type (b8F λ h₁ hns₁ keep₁ hcs₁=>?_)
 dsimp only at hns₁ keep₁ hcs₁ ⊢
 generalize hH3:s2.heap.push { cls:=.type "list", dict:=none,data:=.seq ([]:List Value).toArray }=H3 at hns₁ keep₁ hcs₁ ⊢
 have hC:H3.objs.size=s2.heap.objs.size+1:=by rw [<- hH3,Heap.size_push]
 have hDC:s2.heap.objs.size≠H3.objs.size:=by rw [hC]; exact Nat.ne_of_lt (Nat.lt_succ_self _)
 have below:∀ b,b < s2.heap.objs.size->b≠H3.objs.size/\b≠s2.heap.objs.size:=λ b hb=>⟨by rw [hC]; exact Nat.ne_of_lt (Nat.lt_succ_of_lt hb),Nat.ne_of_lt hb⟩
 have old:∀ b o,s2.heap.get? b=some o->h₁.get? b=some o:=λ b o e=>keep₁ b o (hH3 ▸ Heap.get?_push_of_some _ e)
 have hacc:h₁.get? s2.heap.objs.size=some { cls:=.type "list", data:=.seq ([]:List Value).toArray 0 }:=keep₁ _ _ (hH3 ▸ Heap.get?_push_size _ rfl)
 have hCle:s2.heap.objs.size<=H3.objs.size:=by rw [hC]; exact Nat.le_succ _
 generalize hD:s2.heap.objs.size=D at *
 generalize hCC:H3.objs.size=C at *
 obtain ⟨W,⟨m0,w0⟩,turn⟩:=q
 let xe:Value->Shared->Prop:=notedBy (model X.prog X.w) X.A (compEnvC scope (a5P X scope C) C X.env) λ e s'=>RR (.ref D) C (.error e) s'
 let X':Cx:=b2W X N' scope C s2 H2 fp xe
 have DL:D ∉ frs X.stack:=λ z=>by
  rcases List.mem_cons.mp (I2.stkSub D z) with e | e
  ·exact absurd I2.lt (by rw [<- e,hD]; exact Nat.lt_irrefl _)
  ·exact I2.nofs (by rw [hD]; exact Nat.le_refl _) e
 have cellLt:∀ x c,X.env.cells.lookup x=some c->c < D:=λ x c e=>by
  obtain ⟨v,oc,h,_⟩:=I2.cell x c e
  rw [<- hD]; exact Heap.lt_size h
 have clB:∀ x c,(clOf X.env.cells scope.names []).lookup x=some c->X.env.cells.lookup x=some c:=λ x c h=>a4F scope.names [] (λ _ _ z=>by simp at z) h
 have clS:∀ x c,(a5P X scope C).lookup x=some c->C+1<=c\/X.env.cells.lookup x=some c:=λ x c h=>(a4Z h).elim (λ z=>.inl (hcs₁.empty x c z.1).2) λ z=>.inr (clB x c z)
 have pinLt:∀ p∈X.pn++pins,p.1 < D:=λ p hp=>by rw [<- hD]; exact Heap.lt_size (I2.pin p hp).1
 have fpX:∀ {pl:List (Addr × Obj)} {H':Hp},(∀ b∈fp,H' b=none)->(∀ p∈pl,p∈pins\/p.1=D)->∀ b∈fp,FpOk X' pl H' b:=λ {pl H'} hn hpl b hb=>by
  obtain ⟨_,q1,q2,q3,q4,q5⟩:=f2 b hb
  refine ⟨hn b hb,(below b (hfs b hb)).1,λ z=>?_,.inl hb,λ x c e=>(clS x c e).elim (λ z=>Nat.ne_of_gt (Nat.lt_of_lt_of_le (hfs b hb) (Nat.le_trans hCle (Nat.le_of_succ_le z)))) (q4 x c),λ p hp=>?_⟩
  ·rcases List.mem_cons.mp (I2.stkSub b z) with e | e
   ·exact q1 e
   ·exact q2 e
  ·rcases List.mem_append.mp hp with hp | hp
   ·exact q5 p (List.mem_append_left _ hp)
   ·rcases hpl p hp with z | z
    ·exact q5 p (List.mem_append_right _ z)
    ·rw [z]; exact Ne.symm (below b (hfs b hb)).2
 have loop:∀ s₃:Shared,s₃={ s2 with heap:=h₁ } ->
   codeAny (model X.prog X.w) X.A (.compLoop (.ListComp elt [⟨tg,iter,ifs,0⟩] scope pos) 0 (.ref it) (.ref D) (compEnvC scope (a5P X scope C) C X.env)) (RR (.ref D) C) s₃:=by
  rintro s₃ rfl
  refine a8K (λ n s'=>∃ i H' ys its k,Inv X' pins (capt ix σ) H' s'/\tn i s'.heap/\(∀ b∈fp,H' b=none)/\H' D=none/\s'.heap.get? D=some { cls:=.type "list", data:=.seq (List.toArray its) k }/\Vals ys its/\W i n ys H') ?_ m0
   ⟨0,H2,[],[],0,c8G B I2 f2 (by rw [hD]; exact hCle) (λ b hb=>by rw [hD]; exact hfs b hb) rfl rfl old hns₁ hcs₁,T.keep _ _ _ st2 λ b _ o e=>old b o e,λ b hb=>(f2 b hb).1,I2.hok.fresh (by rw [hD]; exact Nat.le_refl _),hacc,.nil,w0⟩
  rintro n s' ⟨i,H',ys,its,k,I',st',fr',hDn,hDo,rv,w'⟩
  have hDX:∀ v,({ cls:=.type "list", data:=.seq (List.toArray its) k }:Obj).data ≠ .cell v:=λ v z=>by
   have z':Data.seq (List.toArray its) k=Data.cell v:=z
   cases z'
  have pinD:∀ {σ':St} {H'':Hp} {s'':Shared} {its':List Value} {k':Nat},Inv X' pins σ' H'' s''->H'' D=none->s''.heap.get? D=some { cls:=.type "list", data:=.seq (List.toArray its') k' }->Inv X' (pins++[(D,{ cls:=.type "list", data:=.seq (List.toArray its') k' })]) σ' H'' s'':=λ {σ' H'' s'' its' k'} J hn ho =>
   J.pins_of λ p hp=>(List.mem_append.mp hp).elim (λ z=>J.pin p (List.mem_append_right _ z)) λ z=>by
    have e:p=(D,{ cls:=.type "list", data:=.seq (List.toArray its') k' }):=by simpa using z
    subst e
    exact ⟨ho,hn,hDC,DL,λ v z=>by
     have z':Data.seq (List.toArray its') k'=Data.cell v:=z
     cases z'⟩
  have plD:∀ {its':List Value} {k':Nat},∀ p∈pins++[(D,({ cls:=.type "list", data:=.seq (List.toArray its') k' }:Obj))],p∈pins\/p.1=D:=λ {its' k'} p hp=>(List.mem_append.mp hp).elim .inl λ z=>by
   have e:p=(D,{ cls:=.type "list", data:=.seq (List.toArray its') k' }):=by simpa using z
   subst e
   exact .inr rfl
  have unD:∀ {pl:List (Addr × Obj)} {σ':St} {H'':Hp} {s'':Shared},Inv X' (pins++pl) σ' H'' s''->Inv X' pins σ' H'' s'':=λ J=>J.pins_of λ p hp=>J.pin p (List.mem_append_right _ (List.mem_append_left _ hp))
  have I'p:=pinD I' hDn hDo
  rcases turn i n ys H' w' with ⟨stop,hsz,fin⟩ | ⟨go,hsz,N,hN,step⟩
  ·refine wpAny_mono (T.done X' rfl rfl rfl hc i _ s' (capt ix σ) H' X'.xe I'p (fpX fr' plD) st' stop) (λ r s5 ⟨hr,I5⟩=>?_) λ _ _ z=>z
   subst hr
   have hDo5:s5.heap.get? D=some { cls:=.type "list", data:=.seq (List.toArray its) k }:=(I5.pin (D,_) (List.mem_append_right _ (List.mem_append_right _ (List.mem_singleton.mpr rfl)))).1
   have sz0:X.s₀.heap.objs.size<=D:=by rw [<- hD]; exact I2.sz
   have J:Inv X pins σ H' s5:=I2.call' (ch:=fp) I5.os I5.base I5.hok I5.bare λ b hb=>by
    obtain ⟨_,q1,_,q3,q4,q5⟩:=f2 b hb
    exact ⟨q3,q1,q4,q5⟩
   have nL:X.env.locals < D:=by rw [<- hD]; exact I2.lt
   have J2:Inv X pins σ (upd H' D (.lst ys)) s5:=Inv.track J hDn sz0 (Nat.ne_of_gt nL) (λ x c e=>Nat.ne_of_lt (cellLt x c e)) (λ p hp=>Nat.ne_of_lt (pinLt p hp)) ⟨hsz,its,k,rv,hDo5⟩
   obtain ⟨mC,hnC,_⟩:=I5.loc
   have DltC:D < C:=Nat.lt_of_le_of_ne hCle hDC
   refine hRR D C s5 H' ys J2 hDn (fin D hDn) ⟨mC,hnC⟩ ?_ (Nat.ne_of_gt (Nat.lt_trans nL DltC)) (Nat.le_trans sz0 hCle) (λ x c e=>Nat.ne_of_lt (Nat.lt_trans (cellLt x c e) DltC)) λ p hp=>Nat.ne_of_lt (Nat.lt_trans (pinLt p hp) DltC)
   rw [a1K (Ne.symm hDC)]
   exact I5.free
  ·refine wpAny_mono (T.item X' rfl rfl rfl hc i _ s' (capt ix σ) H' X'.xe I'p (fpX fr' plD) st' go) (λ r s5 ⟨u,hr,h5⟩=>?_) λ _ _ z=>z
   subst hr
   refine wpAny_mono h5 (λ _ s6 ⟨x,H6,I6,r6,y6,st6,fr6⟩=>?_) λ _ _ z=>z
   have I6':=I6.pinned (fpX fr6 plD) (T.obj _ _ st6)
   refine wpAny_mono (hg C s2 H2 fp xe _ s6 (capt ix σ) H6 x u _ I6' r6 (step x H6 y6)) (λ _ s7 ⟨σ7,H7,I7,q7⟩=>?_) λ _ _ z=>z
   have after:∀ {σ8:St} {H8:Hp} {s8:Shared},Inv X' ((pins++[(D,{ cls:=.type "list", data:=.seq (List.toArray its) k })])++a7C fp s6.heap) σ8 H8 s8 ->
     Inv X' pins (capt ix σ) H8 s8/\tn (i+1) s8.heap/\(∀ b∈fp,H8 b=none)/\H8 D=none/\s8.heap.get? D=some { cls:=.type "list", data:=.seq (List.toArray its) k }:=λ {σ8 H8 s8} I8=>by
    have pD:=I8.pin (D,{ cls:=.type "list", data:=.seq (List.toArray its) k }) (List.mem_append_right _ (List.mem_append_left _ (List.mem_append_right _ (List.mem_singleton.mpr rfl))))
    have fpP:∀ b∈fp,∀ o,s6.heap.get? b=some o->s8.heap.get? b=some o/\H8 b=none:=λ b hb o e=>by
     have z:=I8.pin (b,o) (List.mem_append_right _ (List.mem_append_right _ (a3W hb e)))
     exact ⟨z.1,z.2.1⟩
    refine ⟨⟨I8.ok,I8.os,I8.bare,I8.base,?_,I8.cell,I8.free,I8.freeC,λ p hp=>?_,I8.hok,?_⟩,T.keep _ _ _ st6 λ b hb o e=>(fpP b hb o e).1,λ b hb=>?_,pD.2.1,pD.1⟩
    ·obtain ⟨m8,hn8,_⟩:=I8.loc
     refine ⟨m8,hn8,λ i x v h1 h2 h3=>?_⟩
     obtain ⟨u,c,r,hc1,hc2,⟨oc,z1,z2⟩,hk'⟩:=b6F (C:=C) B I2 h1 h2
     obtain ⟨sl,e8⟩:=I8.base.any z1 (I2.freeC x c hc2) λ z=>(f2 c z).2.2.2.2.1 x c hc2 rfl
     exact ⟨u,r,.inr ⟨hk',c,hc1,_,e8,z2⟩⟩
    ·rcases List.mem_append.mp hp with hp | hp
     ·exact I8.pin p (List.mem_append_left _ hp)
     ·exact I8.pin p (List.mem_append_right _ (List.mem_append_left _ (List.mem_append_left _ hp)))
    ·show (capt ix σ).length=N'.length
     unfold capt
     rw [List.length_map]; exact B.len
    ·obtain ⟨o,e,_⟩:=T.obj _ _ st6 b hb
     exact (fpP b hb o e).2
   refine wpAny_mono (ht C s2 H2 fp xe _ s7 σ7 H7 _ I7 q7) (λ b s8 ⟨H8,I8,q8⟩=>?_) λ _ _ z=>z
   cases b with
   | false =>
    rw [if_neg Bool.false_ne_true] at q8 ⊢
    obtain ⟨m',hm,w8⟩:=hN _ _ q8
    obtain ⟨J,tn8,f8,d8,o8⟩:=after I8
    exact ⟨m',hm,i+1,H8,ys,its,k,J,tn8,f8,d8,o8,rv,w8⟩
   | true =>
    rw [if_pos rfl] at q8 ⊢
    refine wpAny_mono (he C s2 H2 fp xe _ s8 σ7 H8 _ I8 q8) (λ v s9 ⟨y,H9,I9,r9,q9⟩=>?_) λ _ _ z=>z
    obtain ⟨J,tn9,f9,d9,o9⟩:=after I9
    obtain ⟨m',hm,w9⟩:=hN _ _ q9
    refine append_at (hsz:=by rw [List.size_toArray,<- rv.length]; exact hsz) o9 λ h10 hs10 hD10=>?_
    refine ⟨m',hm,i+1,H9,ys++[y],its++[v],k+1,?_,T.keep _ _ _ tn9 λ b hb o e=>hs10.extBut b o (λ z=>?_) e,f9,d9,by rw [List.push_toArray] at hD10; exact hD10,rv.append (.cons r9 .nil),w9⟩
    ·refine J.turned (t':=s9.toks) (it:=D) (λ b o hb e=>hs10.extBut b o hb e) d9 hDC (.inr (by show s2.heap.objs.size<=D; rw [hD]; exact Nat.le_refl _)) (λ x c e=>(clS x c e).elim (λ z=>Nat.ne_of_gt (Nat.lt_of_le_of_lt hCle (Nat.lt_of_succ_le z))) λ z=>Nat.ne_of_lt (cellLt x c z)) λ p hp=>Nat.ne_of_lt (pinLt p hp)
    ·exact (below b (hfs b hb)).2 z
 exact codeAny_compStart_list (loop _ rfl) (T.self X.A 0 _ _ _ (T.keep _ _ _ st2 λ b _ o e=>old b o e) (loop _ rfl))
end
def b1D (outer:Scope) (N N':List Str) (ix:List (Option Nat)) (scope:Scope):Bool :=
 (scope.kind == .function) && (scope.names.all λ y=>y.2 != .cell || scope.names.lookup y.1 == some .cell) && (scope.names.all λ y=>y.2 != .local || scope.names.lookup y.1 == some .local) &&
 (scope.names.all λ y=>y.2 != .free || outer.names.lookup y.1 == some .cell || outer.names.lookup y.1 == some .free) && (ix.length == N'.length) &&
 (List.range ix.length).all λ i=>match ix[i]? with
  | some (some j)=>(match N'[i]? with | some x=>N[j]? == some x && scope.names.lookup x == some .free | none=>false)
  | _=>true
theorem d1Q {X:Cx} {N':List Str} {ix:List (Option Nat)} {scope:Scope} (h:b1D X.env.scope X.N N' ix scope=true):OwnOk X N' ix scope:=by
 unfold b1D at h
 simp only [Bool.and_eq_true] at h
 obtain ⟨⟨⟨⟨⟨h1,h2⟩,h3⟩,h4⟩,h5⟩,h6⟩:=h
 refine ⟨?_,λ y hy hl=>?_,λ y hy hl=>?_,λ y hy hl=>?_,by simpa using h5,λ i j e=>?_⟩
 ·simpa using h1
 ·have:=List.all_eq_true.mp h2 y hy
  rw [hl] at this
  simpa using this
 ·have:=List.all_eq_true.mp h3 y hy
  rw [hl] at this
  simpa using this
 ·have:=List.all_eq_true.mp h4 y hy
  rw [hl] at this
  simp at this
  exact this
 ·have hi:i < ix.length:=(List.getElem?_eq_some_iff.mp e).1
  have:=List.all_eq_true.mp h6 i (List.mem_range.mpr hi)
  rw [e] at this
  simp only at this
  cases q:N'[i]? with
  | none=>rw [q] at this; simp at this
  | some x =>
   rw [q] at this
   simp at this
   exact ⟨x,rfl,this.1,this.2⟩
section
variable {X:Cx} {elt tg iter:Expr} {ifs:List Expr} {scope:Scope} {pos:Pos} {N':List Str} {ix:List (Option Nat)} {wi:TI} {g:TG} {tt:TT} {te:TE}
theorem d1R (N':List Str) (ix:List (Option Nat)) (hB:b1D X.env.scope X.N N' ix scope=true) (hc:X.calm=true) (hi:PI X tg iter wi)
  (hg:∀ C s H fp xe,PG (b2W X N' scope C s H fp xe) tg g) (ht:∀ C s H fp xe,PTs (b2W X N' scope C s H fp xe) ifs tt) (he:∀ C s H fp xe,PE (b2W X N' scope C s H fp xe) elt te)
  (hs:∀ x,foldedSetIterable iter X.env x=pure x:=by intro _; rfl):PE X (.ListComp elt [⟨tg,iter,ifs,0⟩] scope pos) (tLC ix wi g tt te):=by
 intro pins s σ H Q I h
 have B:=d1Q hB
 rw [eval_ListComp]
 refine wpAny_comprehension_free (use:=none) rfl hs (a6W λ y hy hf=>I.ok.has y.1 (B.free y hy hf)) B.kind B.locs (thn (hi pins s σ H _ I h) λ v s1 h1=>thn h1 λ itv s2 h2=>?_)
 obtain ⟨it,fp,tn,J,H2,e,I2,T,st2,f2,q⟩:=h2
 subst e
 refine d1P B hc hg ht he I2 T st2 f2 q ?_
 intro D C s' H' ys J2 hDn hq ⟨m,hn⟩ hC1 hC2 hC3 hC4 hC5
 refine ⟨m,hn,λ h' hs'=>?_⟩
 exact ⟨.ref D,_,J2.turned (t':=s'.toks) (it:=C) (λ b o hb e=>hs'.extBut b o hb e) hC1 hC2 (.inr hC3) hC4 hC5,rfl,hq⟩
end
end L2
set_option maxHeartbeats 4100000
namespace L2
open PySem PySem.Spec PyProof.Rows
section
variable {X:Cx} {K:Φρ} {a b:Expr} {rest:List Expr} {pos:Pos} {ta tb:TE}
def d1S (K:Φρ):List V->Hp->VK->Prop:=λ xs H Q=>∃ p ys,xs=[.ref p]/\SqL K H p ys/\Q (.bl (!ys.isEmpty)) H
theorem a9J (x:Value):Meets (Builtin.«bool.__new__» ⟨[.type "bool", x],[]⟩) (λ _ R s=>∃ (c:Bool) (tk:Nat),(∀ (prog:Program) (w:World) (A':Around) (E':Value->Shared->Prop) (Q':Bool->Shared->Prop),Q' c { s with toks:=tk }->wpAny (model prog w) A' (truthy x) Q' E' s)/\R (.ok (.ret (.bool c))) { s with toks:=tk }) :=
 Meets.of_wp λ prog w A R s hs=>by
  obtain ⟨c,tk,ht,hr⟩:=hs
  have f1:=F.conv_sub_bool
  obtain ⟨hp,g,d,tk0,os⟩:=s
  repeat (any_goals (first | assumption | (with_reducible refine ht _ _ _ _ _ ?_) | wp_step))
  all_goals first | exact ⟨_,rfl,hr⟩ | exact hr | skip
theorem b8G (e:X.K=K):CallR X (.type "bool") (d1S K):=by
 subst e
 intro pins s σ H xs us Q I r h
 obtain ⟨p,ys,rfl,hL,q⟩:=h
 obtain ⟨u,rfl,rx⟩:=a5G r
 cases rx
 obtain ⟨its,r',pl,hz⟩:=I.list hL
 have hlen:=r'.length
 have hl:=a9X
 refine call_bool_1 (a9J (.ref p)) ⟨!its.toArray.isEmpty,s.toks+1+1,λ prog w A' E' Q' q'=>wpAny_truthy_list pl.isList (by simp only [List.size_toArray]; omega) q',?_⟩
 refine (show wants (λ obj s₁=>s₁.TypeIs obj "bool" /\ EP X pins σ Q obj s₁) _ _ _ from ⟨rfl,.bl (!its.toArray.isEmpty),H,I.tok _,rfl,?_⟩)
 rw [a6V r']
 exact q
end
end L2
set_option maxHeartbeats 4100000
namespace L2
open PySem PySem.Spec PyProof.Rows
section
variable {X:Cx} {K:Φρ} {a b:Expr} {rest:List Expr} {pos:Pos} {ta tb:TE}
def d4G (K:Φρ) (ta tb:TE):TE:=λ σ H Q=>ta σ H λ x H1=>∃ k,TruV K x H1 k/\if k=true then tb σ H1 Q else Q x H1
theorem c8H (e:X.K=K) (ha:PE X a ta) (hb:PE X (.BoolOp .And (b::rest) pos) tb):PE X (.BoolOp .And (a::b::rest) pos) (d4G K ta tb):=by
 subst e
 intro pins s σ H Q I h
 refine BoolOp_and (thn (ha pins s σ H _ I h) λ v s1 ⟨x,H1,I1,r1,q1⟩=>?_)
 obtain ⟨k,tk,q1⟩:=q1
 refine thn (b9K pins s1 σ H1 x v (λ c H2=>c=k/\H2=H1) I1 r1 ⟨k,tk,rfl,rfl⟩) λ c s2 ⟨H2,I2,q2⟩=>?_
 obtain ⟨rfl,rfl⟩:=q2
 cases c with
 | true=>exact hb pins s2 σ H2 Q I2 q1
 | false=>exact ⟨x,H2,I2,r1,q1⟩
end
end L2
set_option maxHeartbeats 4100000
namespace L2
open PySem PySem.Spec PyProof.Rows
section
variable {K:Φρ} {a:Addr} {xs:List V} {ix:List (Option Nat)} {g:TG} {tt:TT} {te:TE} {σ:St} {H1:Hp} {Q:VK}
end
section
variable {X:Cx} {K:Φρ}
end
end L2
namespace Srt
open PySem PySem.W PyProof.Rows
def Ok (n:Nat) (key:Nat->Int) {α:Type}:KasT α->(α->Prop)->Prop
 | .ret a,Q=>Q a
 | .ask i j k,Q=>i < n/\j < n/\Ok n key (k (decide (key i < key j))) Q
section
variable {n:Nat} {key:Nat->Int} {α β:Type}
theorem Ok.mono {Q Q':α->Prop} (h:∀ a,Q a->Q' a):∀ {t:KasT α},Ok n key t Q->Ok n key t Q'
 | .ret _,x=>h _ x
 | .ask _ _ _,⟨a,b,x⟩=>⟨a,b,Ok.mono h x⟩
theorem Ok.bind {f:α->KasT β} {Q:β->Prop}:∀ {t:KasT α},Ok n key t (λ a=>Ok n key (f a) Q)->Ok n key (t.bind f) Q
 | .ret _,x=>x
 | .ask _ _ _,⟨a,b,x⟩=>⟨a,b,Ok.bind x⟩
theorem Ok.wp {cmp:Nat->Nat->(Bool->Shared->Prop)->Shared->Prop} {s:Shared} {Q:α->Prop} {R:α->Shared->Prop} (hc:∀ i j (C:Bool->Shared->Prop),i < n->j < n->C (decide (key i < key j)) s->cmp i j C s) (hq:∀ a,Q a->R a s) :
  ∀ {t:KasT α},Ok n key t Q->t.kasWp cmp R s
 | .ret _,x=>hq _ x
 | .ask i j k,⟨a,b,x⟩=>hc i j _ a b (Ok.wp hc hq x)
structure Pm (n:Nat) (p:Array Nat):Prop where
 perm:p.Perm (List.range n).toArray
theorem Pm.size {p:Array Nat} (h:Pm n p):p.size=n:=by
 have:=h.perm.size_eq
 simpa using this
theorem Pm.lt {p:Array Nat} (h:Pm n p) {i:Nat} (hi:i < n):p.getD i 0 < n:=by
 have hs:=h.size
 have hi':i < p.size:=by omega
 have hm:p[i]∈(List.range n):=by
  have:=(Array.perm_iff_toList_perm.mp h.perm).mem_iff (a:=p[i])
  simpa using this
 have:p.getD i 0=p[i]:=by simp [Array.getD,hi']
 rw [this]; exact List.mem_range.mp hm
theorem Pm.of {p q:Array Nat} (h:Pm n p) (e:q.Perm p):Pm n q:=⟨e.trans h.perm⟩
def KK (key:Nat->Int) (p:Array Nat) (i:Nat):Int:=key (p.getD i 0)
theorem a9Z (p:Array Nat) (i:Nat):p.getD i 0=(p[i]?).getD 0:=by simp [Array.getD_eq_getD_getElem?]
theorem b2X {p:Array Nat} {i j:Nat} (hj:j<=p.size) (k:Nat):KK key (kas_rev p i j) k=if i<=k/\k < j then KK key p (i+j - 1 - k) else KK key p k:=by
 unfold KK kas_rev
 rw [a9Z,getElem?_mirror_all hj]
 split <;> rw [a9Z]
theorem c7E {p:Array Nat} {k d:Nat} (hk:k < p.size) (hd:d<=k) (i:Nat):KK key (bubble p k d) i=if i=k - d then KK key p k else if k - d < i/\i<=k then KK key p (i - 1) else KK key p i:=by
 unfold KK
 rw [a9Z,a9Z p k,a9Z p (i - 1),a9Z p i,getElem?_bubble hk d hd]
 split
 ·rfl
 ·split <;> rfl
def Srtd (key:Nat->Int) (p:Array Nat) (m:Nat):Prop:=∀ i j,i<=j->j < m->KK key p i<=KK key p j
def Down (key:Nat->Int) (p:Array Nat) (m:Nat):Prop:=∀ i j,i<=j->j < m->KK key p j<=KK key p i
theorem Pm.rev {p:Array Nat} (h:Pm n p) (i j:Nat):Pm n (kas_rev p i j):=h.of (mirror_perm _ _ _ _)
theorem c0K {p:Array Nat} (hp:Pm n p):∀ (f m:Nat),1<=m->m+f<=n->Srtd key p m->Ok n key (kas_asc p f m) (λ r=>m<=r/\r<=m+f/\Srtd key p r/\(r=m+f\/KK key p r < KK key p (r - 1)))
 | 0,m,_,_,hs=>⟨Nat.le_refl _,Nat.le_refl _,hs,.inl rfl⟩
 | f+1,m,h1,hm,hs=>by
  refine ⟨hp.lt (by omega),hp.lt (by omega),?_⟩
  by_cases c:key (p.getD m 0) < key (p.getD (m - 1) 0)
  ·rw [decide_eq_true c]; dsimp only; rw [if_pos rfl]
   exact ⟨Nat.le_refl _,by omega,hs,.inr c⟩
  ·rw [decide_eq_false c]; dsimp only; rw [if_neg Bool.false_ne_true]
   refine Ok.mono (λ r ⟨a,b,d,e⟩=>⟨by omega,by omega,d,?_⟩) (c0K hp f (m+1) (by omega) (by omega) ?_)
   ·intro i j hij hj
    by_cases hjm:j < m
    ·exact hs i j hij hjm
    ·have:j=m:=by omega
     subst this
     by_cases hi:i=j
     ·subst hi; exact Int.le_refl _
     ·have q:=hs i (j - 1) (by omega) (by omega)
      have c':KK key p (j - 1)<=KK key p j:=by unfold KK; omega
      omega
   ·rcases e with e | e
    ·exact .inl (by omega)
    ·exact .inr e
theorem b6G {p:Array Nat} (hp:Pm n p) {m:Nat} (h1:1<=m) (hm:m<=n) (hd:Down key p m):Ok n key (kas_tail3 m n p) (λ r=>Pm n r.2/\1<=r.1/\r.1<=n/\Srtd key r.2 r.1):=by
 refine Ok.bind (Ok.mono (λ r ⟨a,b,c,_⟩=>?_) (c0K (hp.rev 0 m) (n - m) m h1 (by omega) ?_))
 ·intro i j hij hj
  have hs:=hp.size
  rw [b2X (by omega),b2X (by omega),if_pos (by omega),if_pos (by omega)]
  exact hd _ _ (by omega) (by omega)
 ·exact ⟨hp.rev 0 m,by show 1<=r; omega,by show r<=n; omega,c⟩
theorem a8N {p:Array Nat} {m q:Nat} (hm:m<=p.size) (he:∀ i,m - (q+1)<=i->i < m->KK key p i=KK key p (m - 1)) (k:Nat):KK key (kas_rev p (m - (q+1)) m) k=KK key p k:=by
 rw [b2X hm]
 by_cases c:m - (q+1)<=k/\k < m
 ·rw [if_pos c,he k c.1 c.2,he _ (by omega) (by omega)]
 ·rw [if_neg c]
theorem b1E:∀ (f:Nat) {p:Array Nat} (m q:Nat),Pm n p->1<=m->m+f<=n->Down key p m->q+1<=m->(∀ i,m - (q+1)<=i->i < m->KK key p i=KK key p (m - 1)) ->
  Ok n key (kas_desc f p m q) (λ r=>Pm n r.1/\1<=r.2.1/\r.2.1<=n/\Down key r.1 r.2.1/\r.2.2+1<=r.2.1/\∀ i,r.2.1 - (r.2.2+1)<=i->i < r.2.1->KK key r.1 i=KK key r.1 (r.2.1 - 1))
 | 0,p,m,q,hp,h1,hm,hd,hq,he=>⟨hp,h1,by show m<=n; omega,hd,hq,he⟩
 | f+1,p,m,q,hp,h1,hm,hd,hq,he=>by
  refine ⟨hp.lt (by omega),hp.lt (by omega),?_⟩
  have hs:=hp.size
  have one:∀ (p':Array Nat),(∀ k,KK key p' k=KK key p k)->KK key p m<=KK key p (m - 1)->Down key p' (m+1):=λ p' hk c i j hij hj=>by
   rw [hk,hk]
   by_cases hjm:j < m
   ·exact hd i j hij hjm
   ·have:j=m:=by omega
    subst this
    by_cases hi:i=j
    ·subst hi; exact Int.le_refl _
    ·have:=hd i (j - 1) (by omega) (by omega); omega
  by_cases c:key (p.getD m 0) < key (p.getD (m - 1) 0)
  ·rw [decide_eq_true c]; dsimp only; rw [if_pos rfl]
   have c1:KK key p m<=KK key p (m - 1):=by unfold KK; omega
   by_cases hq0:q > 0
   ·rw [if_pos hq0]
    exact b1E f (m+1) 0 (hp.rev _ _) (by omega) (by omega) (one _ (a8N (by omega) he) c1) (by omega) λ i a b=>by congr 1; omega
   ·rw [if_neg hq0]
    exact b1E f (m+1) 0 hp (by omega) (by omega) (one _ (λ _=>rfl) c1) (by omega) λ i a b=>by congr 1; omega
  ·rw [decide_eq_false c]; dsimp only; rw [if_neg Bool.false_ne_true]
   refine ⟨hp.lt (by omega),hp.lt (by omega),?_⟩
   by_cases d:key (p.getD (m - 1) 0) < key (p.getD m 0)
   ·rw [decide_eq_true d]; dsimp only; rw [if_pos rfl]
    exact ⟨hp,h1,by show m<=n; omega,hd,hq,he⟩
   ·rw [decide_eq_false d]; dsimp only; rw [if_neg Bool.false_ne_true]
    have e:KK key p m=KK key p (m - 1):=by unfold KK; omega
    refine b1E f (m+1) (q+1) hp (by omega) (by omega) (one _ (λ _=>rfl) (by omega)) (by omega) λ i a b=>?_
    rw [show m+1 - 1=m by omega]
    by_cases hi:i=m
    ·subst hi; rfl
    ·rw [e]; exact he i (by omega) (by omega)
theorem a8O {p:Array Nat} (hp:Pm n p) {m:Nat} (hm:m+1<=n) (hd:Down key p (m+1)):Ok n key (kas_descPart m n p) (λ r=>Pm n r.2/\1<=r.1/\r.1<=n/\Srtd key r.2 r.1):=by
 refine Ok.bind (Ok.mono (λ r ⟨a,b,c,d,e,g⟩=>?_) (b1E (n - (m+1)) (m+1) 0 hp (by omega) (by omega) hd (by omega) λ i x y=>by congr 1; omega))
 have hs:=a.size
 by_cases q:r.2.2 > 0
 ·rw [if_pos q]
  exact b6G (a.rev _ _) b c λ i j x y=>by rw [a8N (by omega) g,a8N (by omega) g]; exact d i j x y
 ·rw [if_neg q]
  exact b6G a b c d
theorem c4M {p:Array Nat} (hp:Pm n p) (h1:1<=n):Ok n key (kas_count n p) (λ r=>Pm n r.2/\1<=r.1/\r.1<=n/\Srtd key r.2 r.1):=by
 refine Ok.bind (Ok.mono (λ m ⟨a,b,c,d⟩=>?_) (c0K hp (n - 1) 1 (Nat.le_refl _) (by omega) λ i j x y=>by have:i=j:=(by omega); subst this; exact Int.le_refl _))
 by_cases e:m=n
 ·rw [if_pos (by simpa using e)]
  exact ⟨hp,a,by omega,c⟩
 ·rw [if_neg (by simpa using e)]
  have lt:KK key p m < KK key p (m - 1):=by
   rcases d with d | d
   ·omega
   ·exact d
  have hs:=hp.size
  by_cases g:m > 1
  ·rw [if_pos g]
   refine ⟨hp.lt (by omega),hp.lt (by omega),?_⟩
   by_cases z:key (p.getD 0 0) < key (p.getD (m - 1) 0)
   ·rw [decide_eq_true z]; dsimp only; rw [if_pos rfl]
    exact ⟨hp,a,by show m<=n; omega,c⟩
   ·rw [decide_eq_false z]; dsimp only; rw [if_neg Bool.false_ne_true]
    refine a8O (hp.rev _ _) (by omega) ?_
    have z':KK key p (m - 1)<=KK key p 0:=by unfold KK; omega
    have all:∀ i,i < m->KK key p i=KK key p 0:=λ i hi=>by
     have q1:=c 0 i (by omega) hi
     have q2:=c i (m - 1) (by omega) (by omega)
     omega
    intro i j hij hj
    rw [b2X (by omega),b2X (by omega)]
    by_cases hjm:j < m
    ·rw [if_pos (by omega),if_pos (by omega)]
     have u1:=all (0+m - 1 - j) (by omega)
     have u2:=all (0+m - 1 - i) (by omega)
     omega
    ·have:j=m:=by omega
     subst this
     rw [if_neg (by omega)]
     by_cases hi:i < j
     ·rw [if_pos (by omega)]
      have u1:=all (j - 1) (by omega)
      have u2:=all (0+j - 1 - i) (by omega)
      omega
     ·rw [if_neg (by omega)]
      have:i=j:=by omega
      subst this; exact Int.le_refl _
  ·rw [if_neg g]
   have m1:m=1:=by omega
   subst m1
   refine a8O hp (by omega) λ i j hij hj=>?_
   by_cases hi:i=j
   ·subst hi; exact Int.le_refl _
   ·have i0:i=0:=by omega
    have j1:j=1:=by omega
    subst i0; subst j1
    exact Int.le_of_lt lt
theorem b1F {p:Array Nat} (hp:Pm n p) {k:Nat} (hk:k < n) (hs:Srtd key p k):∀ (f l r:Nat),l<=r->r<=k->r - l<=f->(∀ i,i < l->KK key p i<=KK key p k)->(∀ i,r<=i->i < k->KK key p k < KK key p i) ->
  Ok n key (kas_place p k f l r) (λ l=>l<=k/\(∀ i,i < l->KK key p i<=KK key p k)/\∀ i,l<=i->i < k->KK key p k < KK key p i)
 | 0,l,r,h1,h2,h3,lo,hi=>⟨by omega,lo,λ i a b=>hi i (by omega) b⟩
 | f+1,l,r,h1,h2,h3,lo,hi=>by
  unfold kas_place
  by_cases c:l ≥ r
  ·rw [if_pos c]
   exact ⟨by omega,lo,λ i a b=>hi i (by omega) b⟩
  ·rw [if_neg c]
   refine ⟨hp.lt hk,hp.lt (by omega),?_⟩
   by_cases d:key (p.getD k 0) < key (p.getD ((l+r) / 2) 0)
   ·rw [decide_eq_true d]; dsimp only; rw [if_pos rfl]
    refine b1F hp hk hs f l ((l+r) / 2) (by omega) (by omega) (by omega) lo λ i a b=>?_
    have:=hs ((l+r) / 2) i a b
    have d':KK key p k < KK key p ((l+r) / 2):=d
    omega
   ·rw [decide_eq_false d]; dsimp only; rw [if_neg Bool.false_ne_true]
    refine b1F hp hk hs f ((l+r) / 2+1) r (by omega) h2 (by omega) (λ i a=>?_) hi
    have:=hs i ((l+r) / 2) (by omega) (by omega)
    have d':KK key p ((l+r) / 2)<=KK key p k:=by unfold KK; omega
    omega
theorem c7F:∀ (f:Nat) {p:Array Nat} (k:Nat),Pm n p->k+f=n->Srtd key p k->Ok n key (kas_bin f p k) (λ p=>Pm n p/\Srtd key p n)
 | 0,p,k,hp,hk,hs=>⟨hp,by have:k=n:=(by omega); rw [<- this]; exact hs⟩
 | f+1,p,k,hp,hk,hs=>by
  refine Ok.bind (Ok.mono (λ l ⟨a,lo,hi⟩=>?_) (b1F hp (by omega) hs k 0 k (by omega) (Nat.le_refl _) (by omega) (λ i h=>by omega) λ i h1 h2=>by omega))
  have hz:=hp.size
  refine c7F f (k+1) (hp.of (bubble_perm _ _ _)) (by omega) λ i j hij hj=>?_
  rw [c7E (by omega) (by omega),c7E (by omega) (by omega)]
  rw [show k - (k - l)=l by omega]
  by_cases i1:i=l
  ·rw [if_pos i1]
   by_cases j1:j=l
   ·rw [if_pos j1]; exact Int.le_refl _
   ·rw [if_neg j1,if_pos (by omega)]
    exact Int.le_of_lt (hi (j - 1) (by omega) (by omega))
  ·rw [if_neg i1]
   by_cases i2:l < i/\i<=k
   ·rw [if_pos i2,if_neg (by omega),if_pos (by omega)]
    exact hs (i - 1) (j - 1) (by omega) (by omega)
   ·rw [if_neg i2]
    by_cases j1:j=l
    ·rw [if_pos j1]; exact lo i (by omega)
    ·rw [if_neg j1]
     by_cases j2:l < j/\j<=k
     ·rw [if_pos j2]; exact hs i (j - 1) (by omega) (by omega)
     ·rw [if_neg j2]; exact hs i j hij (by omega)
theorem c8I (h1:1<=n):Ok n key (kas_sort n) (λ p=>Pm n p/\Srtd key p n):=by
 refine Ok.bind (Ok.mono (λ r ⟨a,b,c,d⟩=>?_) (c4M ⟨Array.Perm.refl _⟩ h1))
 by_cases e:r.1 < n
 ·rw [if_pos e]
  refine c7F _ _ a (by omega) ?_
  rw [show max r.1 1=r.1 by omega]
  exact d
 ·rw [if_neg e]
  exact ⟨a,by have:r.1=n:=(by omega); rw [<- this]; exact d⟩
end
end Srt
set_option maxHeartbeats 4100000
namespace Srt
open PySem PyProof.Rows PySem.Calls PySem.W
section
variable {prog:Program} {wo:World} {A:Around} {E:Value->Shared->Prop} {s:Shared}
def Asks (prog:Program) (wo:World) (A:Around) (κ:SortKind) (zs:List Value) (key:Nat->Int) (s:Shared):Prop :=
 (∀ (E:Value->Shared->Prop) (R:SortKind->Shared->Prop),R κ s->wpAny (model prog wo) A (keyKind' zs.toArray) R E s) /\
 ∀ (i j:Nat) (C:Bool->Shared->Prop),i < zs.length->j < zs.length->C (decide (key i < key j)) s->kas_ask prog wo A κ zs i j C s
abbrev b4Z (zs:List Value) (p:Array Nat):Array Value:=List.toArray (p.toList.map λ i=>zs.getD i Value.none)
theorem d1T (zs:List Value):b4Z zs (List.range zs.length).toArray=zs.toArray:=by
 unfold b4Z
 congr 1
 apply List.ext_getElem?
 intro i
 by_cases h:i < zs.length
 ·simp [h]
 ·simp [h]
theorem b2Y {a:Addr} {zs:List Value} {n:Nat} {κ:SortKind} {key:Nat->Int} {P:PySem.Fin->Shared->Prop} (oa:s.heap.get? a=some (seqObj "list" zs.toArray n)) (h64:zs.length < 64)
  (hk:2<=zs.length->∀ h',(∀ b o,b≠a->s.heap.get? b=some o->h'.get? b=some o)->Asks prog wo A κ zs key { s with heap:=h' })
  (h:∀ p,Pm zs.length p->Srtd key p zs.length->P (.done (.ret .none)) { s with heap:=sortedHeap s.heap a zs (b4Z zs p) }) :
  wpAny (model prog wo) A (Builtin.«list.sort» ⟨[.ref a],[]⟩) P E s:=by
 rw [list_sort_plain]
 have la:a < s.heap.objs.size:=Heap.lt_size oa
 refine wpAny_bind (listItems_at oa rfl ?_)
 refine wpAny_bind (listUpdate_at oa rfl ?_ (by rw [List.size_toArray,sizeLine_eq]; omega) (Nat.zero_le _))
 obtain ⟨ep,oa1⟩:∃ ep,(s.heap.update a (Obj.mapSeq λ _=>#[])).get? a=some (seqObj "list" #[] ep):=⟨_,get?_update_seq oa (λ _=>#[])⟩
 refine wpAny_bind (seqEpoch_at oa1 rfl ?_)
 refine wpAny_bind (wpAny_newTuple ?_ (by show zs.length<=_; rw [sizeLine_eq]; omega))
 refine wpAny_bind (wpAny_newList (wpAny_holding ?_) (Nat.zero_le _))
 have oa6:(((s.heap.update a (Obj.mapSeq λ _=>#[])).push (seqObj "tuple" zs.toArray 0)).push (seqObj "list" #[] 0)).get? a=some (seqObj "list" #[] ep):=by
  rw [Heap.get?_push_ne _ _ _ (by rw [size_push',Heap.size_update]; exact Nat.ne_of_lt (Nat.lt_succ_of_lt la)),Heap.get?_push_ne _ _ _ (by rw [Heap.size_update]; exact Nat.ne_of_lt la)]
  exact oa1
 show wpAny (model prog wo) A _ P E { s with heap:=((s.heap.update a (Obj.mapSeq λ _=>#[])).push (seqObj "tuple" zs.toArray 0)).push (seqObj "list" #[] 0) }
 dsimp only
 have lz:zs.toArray.size=zs.length:=by simp
 by_cases g2:zs.toArray.size < 2
 ·rw [if_pos g2,if_pos g2]
  refine wpAny_bind (wpAny_pure ?_); rw [StateT.run_pure]; refine wpAny_bind (wpAny_pure ?_); dsimp only
  refine wpAny_bind (seqEpoch_at oa6 rfl ?_)
  refine wpAny_bind (listUpdate_at oa6 rfl ?_ (Nat.zero_le _) (by rw [Array.size_map]; show (pairsOf zs).size<=_; rw [pairsOf_size,sizeLine_eq]; omega))
  simp only [if_false,Bool.false_eq_true,bne_self_eq_false]
  have q:=h (List.range zs.length).toArray ⟨Array.Perm.refl _⟩ (λ i j hij hj=>by have:i=j:=(by omega); subst this; exact Int.le_refl _)
  rw [d1T] at q
  refine wpAny_pure ?_
  have e:(arrOf (SortSt.mk' general' (zs.toArray.zip zs.toArray) #[] 7 none)).map (·.2)=zs.toArray:=by
   show (zs.toArray.zip zs.toArray).map (·.2)=zs.toArray
   rw [Array.map_snd_zip]
   exact Nat.le_refl _
  rw [e]
  exact q
 ·rw [if_neg g2,if_neg g2]
  have h2':2<=zs.length:=by omega
  obtain ⟨ak,ac⟩:=hk h2' (((s.heap.update a (Obj.mapSeq λ _=>#[])).push (seqObj "tuple" zs.toArray 0)).push (seqObj "list" #[] 0)) λ b o hb e=>Heap.get?_push_of_some _ (Heap.get?_push_of_some _ (by rw [Heap.get?_update_ne _ _ _ _ hb]; exact e))
  refine wpAny_bind (ak _ _ ?_)
  have ask:(kas_sort zs.length).kasWp (kas_ask prog wo A κ zs) (λ p s'=>s'={ s with heap:=((s.heap.update a (Obj.mapSeq λ _=>#[])).push (seqObj "tuple" zs.toArray 0)).push (seqObj "list" #[] 0) }/\Pm zs.length p/\Srtd key p zs.length)
    { s with heap:=((s.heap.update a (Obj.mapSeq λ _=>#[])).push (seqObj "tuple" zs.toArray 0)).push (seqObj "list" #[] 0) } :=
   Ok.wp (n:=zs.length) (key:=key) ac (λ p hp=>⟨rfl,hp⟩) (c8I (by omega))
  rw [kas_ask_eq] at ask
  have est:SortSt.mk' κ (zs.toArray.zip zs.toArray) #[] 7 none=kas_st κ (pairsOf zs) (List.toArray (List.range zs.length)):=by
   have e:=kas_range (pairsOf zs)
   rw [pairsOf_size] at e
   show SortSt.mk' κ (pairsOf zs) #[] 7 none=SortSt.mk' κ ((List.toArray (List.range zs.length)).map (kas_item (pairsOf zs))) #[] 7 none
   rw [e]
  have rn:=kas_runs (E:=E) (Q:=λ _ st' s'=>∃ p:Array Nat,p.size=zs.length/\arrOf st'=p.map (kas_item (pairsOf zs))/\failedOf st'=none/\(s'={ s with heap:=((s.heap.update a (Obj.mapSeq λ _=>#[])).push (seqObj "tuple" zs.toArray 0)).push (seqObj "list" #[] 0) }/\Pm zs.length p/\Srtd key p zs.length))
   h2' h64 (λ p' st' s' a1 a2 a3 a4=>⟨p',a1,a2,a3,a4⟩) ask
  rw [<- est] at rn
  refine wpAny_bind (wpAny_mono rn ?_ λ _ _ e=>e)
  rintro ⟨⟨⟩,st'⟩ s' ⟨p,hp,ra,hf,rfl,pm,sr⟩
  dsimp only
  have hout:(arrOf st').map (·.2)=b4Z zs p:=by
   apply Array.toList_inj.mp
   rw [ra,Array.map_map,Array.toList_map]
   exact List.map_congr_left λ i _=>by show (kas_item (pairsOf zs) i).2=_; rw [kas_item_eq]
  have hso:(b4Z zs p).size=zs.length:=by rw [List.size_toArray,List.length_map,Array.length_toList,hp]
  rw [hout]
  refine wpAny_bind (seqEpoch_at oa6 rfl ?_)
  refine wpAny_bind (listUpdate_at oa6 rfl ?_ (Nat.zero_le _) (Nat.le_trans (Nat.le_of_eq hso) (by rw [sizeLine_eq]; omega)))
  rw [hf]
  simp only [if_false,Bool.false_eq_true,bne_self_eq_false]
  exact wpAny_pure (h p pm sr)
theorem c0L {l:Addr} {zs:List Value} {κ:SortKind} {key:Nat->Int} {R:Value->Shared->Prop} (il:s.heap.IsList l zs.toArray) (h64:zs.length < 64)
  (hk:2<=zs.length->∀ (A':Around) (h':Heap),(∀ b o,s.heap.get? b=some o->h'.get? b=some o)->Asks prog wo A' κ zs key { s with heap:=h' })
  (h:∀ p,Pm zs.length p->Srtd key p zs.length->R (.ref (s.heap.objs.size+1)) { s with heap:=sortedAll s.heap zs (b4Z zs p) }) :
  wpAny (model prog wo) A (call (.builtin "sorted") [.ref l]) R E s:=by
 apply Calls.call_function_entry kind_sorted plain_sorted entry_sorted (args_sorted1 _)
 unfold Builtin.«sorted»
 refine wpAny_bind (m:=checkCount "sorted" 1 1 _) (wpAny_pure ?_); refine wpAny_bind (collect_list il ?_ (by rw [sizeLine_eq]; omega))
 refine wpAny_bind (wpAny_newList ?_ (by rw [sizeLine_eq]; omega))
 have lz:((s.heap.push (seqObj "list" #[] 0)).update s.heap.objs.size (Obj.mapSeq (· ++ zs.toArray))).objs.size=s.heap.objs.size+1:=by
  rw [Heap.size_update]; exact size_push' _ _
 have oL:(((s.heap.push (seqObj "list" #[] 0)).update s.heap.objs.size (Obj.mapSeq (· ++ zs.toArray))).push (seqObj "list" zs.toArray 0)).get? (s.heap.objs.size+1)=some (seqObj "list" zs.toArray 0):=by
  rw [<- lz]; exact Heap.get?_push_size _ rfl
 show wpAny _ _ _ _ _ { s with heap:=((s.heap.push (seqObj "list" #[] 0)).update s.heap.objs.size (Obj.mapSeq (· ++ zs.toArray))).push (seqObj "list" zs.toArray 0) }
 rw [lz]
 refine wpAny_bind (wpAny_holding (wpAny_call_entry slot_list_sort ⟨_,oL,rfl⟩ entry_list_sort (b2Y (κ:=κ) (key:=key) oL h64 (λ g2 h' kp=>hk g2 _ h' λ b o e=>?_) λ p a1 a2=>⟨_,rfl,?_⟩) (args_list_sort _)))
 ·have lb:b < s.heap.objs.size:=Heap.lt_size e
  refine kp b o (Nat.ne_of_lt (Nat.lt_succ_of_lt lb)) ?_
  rw [Heap.get?_push_ne _ _ _ (by rw [lz]; exact Nat.ne_of_lt (Nat.lt_succ_of_lt lb)),Heap.get?_update_ne _ _ _ _ (Nat.ne_of_lt lb),Heap.get?_push_ne _ _ _ (Nat.ne_of_lt lb)]
  exact e
 ·exact wpAny_pure ⟨_,rfl,h p a1 a2⟩
end
end Srt
set_option maxHeartbeats 4100000
namespace Srt
open PySem PyProof.Rows PySem.Calls PySem.W
theorem countP_le {α:Type} {p q:α->Bool} (h:∀ x,p x=true->q x=true) (l:List α):l.countP p<=l.countP q:=by
 induction l with
 | nil=>exact Nat.le_refl _
 | cons a r ih =>
  rw [List.countP_cons,List.countP_cons]
  by_cases c:p a=true
  ·rw [if_pos c,if_pos (h a c)]; omega
  ·rw [if_neg c]; omega
theorem countP_lt {α:Type} {p q:α->Bool} (h:∀ x,p x=true->q x=true) {x:α}:∀ {l:List α},x∈l->p x=false->q x=true->l.countP p < l.countP q
 | a::r,hx,h1,h2=>by
  rw [List.countP_cons,List.countP_cons]
  have le:=countP_le h r
  rcases List.mem_cons.mp hx with rfl | hx
  ·rw [if_neg (by rw [h1]; exact Bool.false_ne_true),if_pos h2]; omega
  ·have ih:=countP_lt h hx h1 h2
   by_cases c:p a=true
   ·rw [if_pos c,if_pos (h a c)]; omega
   ·rw [if_neg c]; omega
def rank (ls:List (List Int)) (i:Nat):Int:=(ls.countP λ z=>decide (z < ls.getD i []):Nat)
theorem d4H {x y z:List Int} (h:z < y) (h2:¬ x < y):z < x:=by
 by_cases c:z < x
 ·exact c
 ·exact absurd (List.lt_of_le_of_lt (List.not_lt.mp c) h) h2
theorem c0M {ls:List (List Int)} {i j:Nat} (hi:i < ls.length):decide (rank ls i < rank ls j)=decide (ls.getD i [] < ls.getD j []):=by
 have hm:ls.getD i []∈ls:=by
  rw [τα,List.getElem?_eq_getElem hi]; exact List.getElem_mem hi
 unfold rank
 by_cases c:ls.getD i [] < ls.getD j []
 ·rw [decide_eq_true c]
  refine decide_eq_true (Int.ofNat_lt.mpr (countP_lt (λ z hz=>?_) hm ?_ ?_))
  ·exact decide_eq_true (List.lt_trans (of_decide_eq_true hz) c)
  ·exact decide_eq_false (List.lt_irrefl _)
  ·exact decide_eq_true c
 ·rw [decide_eq_false c]
  refine decide_eq_false λ z=>?_
  have:=countP_le (p:=λ z=>decide (z < ls.getD j [])) (q:=λ z=>decide (z < ls.getD i [])) (λ z hz=>decide_eq_true (d4H (of_decide_eq_true hz) c)) ls
  omega
section
variable {prog:Program} {w:World} {A:Around} {E:Value->Shared->Prop} {s:Shared} {Q:Bool->Shared->Prop}
theorem b6H:∀ {xs ys:List Value} {ns ms:List Int} (i:Nat),IntsAre xs ns->IntsAre ys ms->Q (decide (ns < ms)) s->KatLex prog w A true (decide (xs.length < ys.length)) Q (xs.zip ys) i s
 | _,_,_,_,i,.nil,.nil,h=>by
  refine kat_nil ?_
  exact h
 | _,_,_,_,i,.nil,.cons (vs:=ys) (ns:=ms) m u y,h=>by
  refine kat_nil ?_
  have e:decide (([]:List Int) < m::ms)=true:=decide_eq_true (List.Lex.nil)
  rw [e] at h
  have e2:decide (([]:List Value).length < (Value.int m u::ys).length)=true:=by simp
  rw [e2]; exact h
 | _,_,_,_,i,.cons (vs:=xs) (ns:=ns) n t x,.nil,h=>by
  refine kat_nil ?_
  have e:decide (n::ns < ([]:List Int))=false:=decide_eq_false (List.not_lt_nil _)
  rw [e] at h
  have e2:decide ((Value.int n t::xs).length < ([]:List Value).length)=false:=by simp
  rw [e2]; exact h
 | _,_,_,_,i,.cons (vs:=xs) (ns:=ns) n t x,.cons (vs:=ys) (ns:=ms) m u y,h=>by
  have ef:decide ((Value.int n t::xs).length < (Value.int m u::ys).length)=decide (xs.length < ys.length):=by
   simp only [List.length_cons,Nat.add_lt_add_iff_right]
  rw [ef]
  refine kat_cons (wpAny_eqBool_int ?_)
  by_cases c:n=m
  ·subst c
   rw [beq_self_eq_true]
   refine kat_yes (b6H (i+1) x y ?_)
   have e:decide (n::ns < n::ms)=decide (ns < ms):=by
    have:(n::ns < n::ms)↔ns < ms:=by rw [List.cons_lt_cons_iff]; simp
    simp only [this]
   rw [e] at h; exact h
  ·rw [beq_eq_false_iff_ne.mpr c]
   refine kat_no ?_
   have e:decide (n::ns < m::ms)=decide (n < m):=by
    have:(n::ns < m::ms)↔n < m:=by rw [List.cons_lt_cons_iff]; simp [c]
    simp only [this]
   rw [e] at h
   cases z:(true && i == 0) with
   | true=>exact oneLt_int h
   | false=>exact kat_one _ _ (lt_int h)
structure TupI (h:Heap) (v:Value) (ns:List Int):Prop where
 at':∃ a o xs n,v = .ref a/\h.get? a=some o/\o.cls = .type "tuple" /\ o.data = .seq xs n/\IntsAre xs.toList ns
 ne:ns≠[]
inductive TupsI (h:Heap):List Value->List (List Int)->Prop
 | nil:TupsI h [] []
 | cons {v ns vs ls}:TupI h v ns->TupsI h vs ls->TupsI h (v::vs) (ns::ls)
theorem TupsI.keep {h h':Heap} (k:∀ b o,h.get? b=some o->h'.get? b=some o):∀ {vs ls},TupsI h vs ls->TupsI h' vs ls
 | _,_,.nil=>.nil
 | _,_,.cons ⟨⟨a,o,xs,n,e,ho,r⟩,ne⟩ t=>.cons ⟨⟨a,o,xs,n,e,k _ _ ho,r⟩,ne⟩ (TupsI.keep k t)
theorem TupsI.len {h:Heap}:∀ {vs ls},TupsI h vs ls->vs.length=ls.length
 | _,_,.nil=>rfl
 | _,_,.cons _ t=>by rw [List.length_cons,List.length_cons,t.len]
theorem TupsI.get {h:Heap}:∀ {vs ls},TupsI h vs ls->∀ {i},i < vs.length->TupI h (vs.getD i .none) (ls.getD i [])
 | _,_,.cons a t,0,_=>a
 | _,_,.cons a t,i+1,hi=>by
  have:=t.get (i:=i) (by simpa using hi)
  simpa using this
theorem TupsI.kat {h:Heap}:∀ {vs ls},TupsI h vs ls->∃ fs,KatTups h vs fs/\fs.length=vs.length/\∀ v∈fs,∃ n t,v=Value.int n t
 | _,_,.nil=>⟨[],KatTups.nil,rfl,λ v hv=>absurd hv List.not_mem_nil⟩
 | _,_,.cons (ns:=ns) ⟨⟨a,o,xs,n,e,ho,hc,hd,hi⟩,ne⟩ t=>by
  obtain ⟨fs,k,l,q⟩:=t.kat
  subst e
  obtain ⟨xl⟩:=xs
  have hi:IntsAre xl ns:=hi
  cases hi with
  | nil=>exact absurd rfl ne
  | cons m u r =>
   refine ⟨.int m u::fs,KatTups.cons ho hc hd rfl k,by rw [List.length_cons,List.length_cons,l],λ v hv=>?_⟩
   rcases List.mem_cons.mp hv with rfl | hv
   ·exact ⟨m,u,rfl⟩
   ·exact q v hv
theorem c0N {vs:List Value} {ls:List (List Int)} (h:TupsI s.heap vs ls) (h2:2<=vs.length):Asks prog w A (tuples' true) vs (rank ls) s:=by
 refine ⟨λ E Q q=>?_,λ i j C hi hj q=>?_⟩
 ·obtain ⟨fs,k,l,ty⟩:=h.kat
  refine kat_kind (T:=.type "int") k (by omega) (λ v hv=>?_) rfl q
  obtain ⟨n,t,rfl⟩:=ty v hv
  exact Looks.of_pure rfl
 ·obtain ⟨⟨a,o,xs,n,e1,ho,hc,hd,hx⟩,_⟩:=h.get hi
  obtain ⟨⟨a',o',ys,n',e2,ho',hc',hd',hy⟩,_⟩:=h.get hj
  unfold kas_ask
  rw [e1,e2]
  refine kat_lt ho hd ho' hd' ?_
  rw [c0M (by rw [<- h.len]; exact hi)] at q
  exact b6H 0 hx hy q
end
end Srt
set_option maxHeartbeats 4100000
namespace L2
open PySem PySem.Spec PyProof.Rows Bg Srt
def TupV (K:Φρ) (H:Hp) (v:V) (ns:List Int):Prop:=∃ p,v = .ref p/\SqT K H p (ns.map V.int)
def d1U (K:Φρ):List V->Hp->VK->Prop:=λ xs H Q=>∃ l vs,∃ ls:List (List Int),xs=[.ref l]/\SqL K H l vs/\Paired (TupV K H) vs ls/\(∀ ns∈ls,ns≠[])/\vs.length < 64 /\
 ∀ (q:List Nat) p H',q.Perm (List.range vs.length)->(q.map λ i=>ls.getD i []).Pairwise (λ a b=>¬ b < a)->New H p (.lst (q.map λ i=>vs.getD i .non)) H'->Q (.ref p) H'
theorem a4L:∀ {ns:List Int} {us:List Value},Vals (ns.map V.int) us->IntsAre us ns
 | [],_,.nil=>.nil
 | n::ns,_,.cons r t=>by
  obtain ⟨k,rfl⟩:=r
  exact .cons n k (a4L t)
section
variable {X:Cx} {K:Φρ}
theorem c0O {pins:List (Addr × Obj)} {σ:St} {H:Hp} {s:Shared} (I:Inv X pins σ H s):∀ {vs:List V} {us:List Value} {ls:List (List Int)},Vals vs us->Paired (TupV X.K H) vs ls->(∀ ns∈ls,ns≠[])->TupsI s.heap us ls
 | _,_,_,.nil,p,_=>by
  cases p
  exact .nil
 | _,_,_,.cons r t,p,ne=>by
  cases p with
  | cons a b =>
   obtain ⟨pt,rfl,hT⟩:=a
   obtain ⟨its,ri,⟨o,ho,hc,n,hd⟩,_⟩:=I.tuple hT
   cases r
   exact .cons ⟨⟨pt,o,its.toArray,n,rfl,ho,hc,hd,by simpa using a4L ri⟩,ne _ List.mem_cons_self⟩ (c0O I t b λ ns h=>ne ns (List.mem_cons_of_mem _ h))
theorem b2Z:∀ {vs:List V} {us:List Value},Vals vs us->∀ i,i < vs.length->RelV (vs.getD i .non) (us.getD i .none)
 | _,_,.cons r t,0,_=>r
 | _,_,.cons r t,i+1,hi=>by
  have:=b2Z t i (by simpa using hi)
  simpa using this
theorem b6I {vs:List V} {us:List Value} (r:Vals vs us):∀ (q:List Nat),(∀ i∈q,i < vs.length)->Vals (q.map λ i=>vs.getD i .non) (q.map λ i=>us.getD i .none)
 | [],_=>.nil
 | i::q,h=>.cons (b2Z r i (h i List.mem_cons_self)) (b6I r q λ j hj=>h j (List.mem_cons_of_mem _ hj))
theorem b3A (e:X.K=K):CallR X (.builtin "sorted") (d1U K):=by
 subst e
 intro pins s σ H xs us Q I r h
 obtain ⟨l,vs,ls,rfl,hL,hP,ne,h64,q⟩:=h
 obtain ⟨u,rfl,rx⟩:=a5G r
 cases rx
 obtain ⟨its,r',pl,hz⟩:=I.list hL
 have hlen:=r'.length
 have ht:=c0O I r' hP ne
 have hl2:=ht.len
 refine c0L (κ:=tuples' true) (key:=rank ls) pl.isList (by omega) (λ h2 A' h' kp=>c0N (ht.keep kp) h2) λ p pm sr=>?_
 obtain ⟨c,hc⟩:=sortedAll_at s.heap its (b4Z its p)
 have hs:=pm.size
 have mem:∀ i∈p.toList,i < its.length:=λ i hi=>by
  have:=(Array.perm_iff_toList_perm.mp pm.perm).mem_iff (a:=i)
  have h1:=this.mp hi
  simpa using h1
 have z:(p.toList.map λ i=>vs.getD i V.non).length=its.length:=by rw [List.length_map,Array.length_toList]; exact hs
 refine ⟨.ref (s.heap.objs.size+1),_,I.laid (t':=s.toks) (o:=.lst (p.toList.map λ i=>vs.getD i V.non)) (λ b o eo=>sortedAll_old eo) (Nat.le_succ _) ?_,rfl,?_⟩
 ·exact ⟨by rw [z,<- hlen]; exact hz,_,c,b6I r' p.toList (λ i hi=>by rw [hlen]; exact mem i hi),hc⟩
 ·refine q p.toList _ _ ?_ ?_ (New.mk0 (I.hok.fresh (Nat.le_succ _)))
  ·have:=Array.perm_iff_toList_perm.mp pm.perm
   rw [hlen]; exact this
  ·rw [List.pairwise_iff_getElem]
   intro i j hi hj hij
   rw [List.length_map,Array.length_toList,hs] at hi hj
   have q1:=sr i j (Nat.le_of_lt hij) hj
   unfold Srt.KK at q1
   have li:=pm.lt hi
   have lj:=pm.lt hj
   rw [List.getElem_map,List.getElem_map]
   have e1:p.getD i 0=p.toList[i]'(by rw [Array.length_toList,hs]; exact hi):=by simp [Array.getD,hs,hi]
   have e2:p.getD j 0=p.toList[j]'(by rw [Array.length_toList,hs]; exact hj):=by simp [Array.getD,hs,hj]
   rw [<- e1,<- e2]
   intro c
   have z1:=c0M (ls:=ls) (i:=p.getD j 0) (j:=p.getD i 0) (by omega)
   rw [decide_eq_true c] at z1
   have:=of_decide_eq_true z1
   omega
end
end L2
set_option maxHeartbeats 4100000
namespace Srt
open PySem PySem.W PySem.Calls PySem.Spec PyProof.Rows PySem.MeetsSeq
abbrev lsO (z:Array Value) (n:Nat):Obj:={ cls:=.type "list", dict:=none,data:=.seq z n,slots:=#[] }
def d1V (z:Array Value) (x:Value) (eq:Nat->Bool) (A:Around) (h:Heap):Prop:=∀ s':Shared,s'.heap=h->∀ m (hm:m < z.size),SeqAt.EqAt A s' z[m] x (eq m)
theorem d1W {l:Addr} {z:Array Value} {n:Nat} {x:Value} {eq:Nat->Bool} {j:Nat} (hj:j < z.size) (hit:eq j=true) (hz:z.size<=sizeLine) (k:Nat) :
  ∀ i:Nat,j - i=k->i<=j->(∀ m (hm:m < z.size),i<=m->m < j->eq m=false)->Meets (Builtin.«list.remove.loop» ⟨[.ref l,x,rawInt i],[]⟩)
   (λ A R s=>s.heap.get? l=some (lsO z n)/\d1V z x eq A.in1 s.heap/\R (.ok (.ret .none)) { s with heap:=s.heap.update l (Obj.mapSeq λ xs=>xs.eraseIdxIfInBounds j) }):=by
 induction k with
 | zero =>
  intro i hk ij hn prog w A R s h
  obtain ⟨hp,g,d,tq,os⟩:=s
  obtain ⟨ol,he,h⟩:=h
  obtain rfl:i=j:=by omega
  wp_walk using wpAny_loadPart' ol
  have hi:z[((i:Nat):Int).toNat]?=some z[i]:=by simp [hj]
  rw [hi]
  refine wpAny_bind (he _ rfl i hj prog w _ _ ?_)
  rw [hit]
  have hz':(z.eraseIdxIfInBounds i).size<=sizeLine+1:=by
   have:=size_erased z i
   omega
  wp_walk using (wpAny_updateSeq ol rfl (hz:=hz) (_hz':=hz')),wpAny_loadPart' ol
  simpa using h
 | succ k ih =>
  intro i hk ij hn prog w A R s h
  obtain ⟨hp,g,d,tq,os⟩:=s
  obtain ⟨ol,he,h⟩:=h
  have lb:i < z.size:=by omega
  wp_walk using wpAny_loadPart' ol
  have hi:z[((i:Nat):Int).toNat]?=some z[i]:=by simp [lb]
  have ic:((i:Int)+1)=((i+1:Nat):Int):=by push_cast; rfl
  rw [hi]
  refine wpAny_bind (he _ rfl i lb prog w _ _ ?_)
  rw [hn i lb (Nat.le_refl _) (by omega)]
  wp_walk
  rw [ic]
  refine ⟨plainId_quiet plain_remove_loop _,codeAny_builtin entry_remove_loop ?_⟩
  rw [Around.under_plainId plain_remove_loop _]; exact ih (i+1) (by omega) (by omega) (λ m hm h1 h2=>hn m hm (by omega) h2) prog w A R _ ⟨ol,he,h⟩
theorem d1X {l:Addr} {z:Array Value} {n:Nat} {x:Value} {eq:Nat->Bool} {j:Nat} (hj:j < z.size) (hit:eq j=true) (hn:∀ m (hm:m < z.size),m < j->eq m=false) (hz:z.size<=sizeLine) :
  Meets (Builtin.«list.remove» ⟨[.ref l,x],[]⟩) (λ A R s=>s.heap.get? l=some (lsO z n)/\d1V z x eq A.in1 s.heap/\R (.ok (.ret .none)) { s with heap:=s.heap.update l (Obj.mapSeq λ xs=>xs.eraseIdxIfInBounds j) }):=by
 intro prog w A R s h
 obtain ⟨hp,g,d,tq,os⟩:=s
 obtain ⟨ol,he,h⟩:=h
 wp_walk using wpAny_loadPart' ol
 refine ⟨plainId_quiet plain_remove_loop _,codeAny_builtin entry_remove_loop ?_⟩
 rw [Around.under_plainId plain_remove_loop _]; exact d1W hj hit hz _ 0 rfl (Nat.zero_le _) (λ m hm _ h2=>hn m hm h2) prog w A R _ ⟨ol,he,h⟩
end Srt
namespace L2
open PySem PySem.Spec PyProof.Rows Srt
section
variable {X:Cx} {K:Φρ}
def b5A (K:Φρ):V->List V->Hp->VK->Prop:=λ x vs H Q=>∃ l xs y d ds j,x = .ref l/\vs=[y]/\H l=some (.lst xs)/\IsD K H y d/\IsDs K H xs ds/\SeqAt.shaped d=true/\(∀ e∈ds,SeqAt.shaped e=true) /\
 j < xs.length/\PyData.eqv (ds.getD j .none) d=true/\(∀ m < j,PyData.eqv (ds.getD m .none) d=false)/\∀ H',Chg H l (.lst (xs.eraseIdx j)) H'->Q .non H'
theorem b6J {pins:List (Addr × Obj)} {σ:St} {H:Hp} {s:Shared} (I:Inv X pins σ H s):∀ {xs:List V} {us:List Value} {ds:List PyData},Vals xs us->IsDs X.K H xs ds->ds.length=us.length/\∀ i,i < us.length->∃ as,Reads s.heap (us.getD i .none) (ds.getD i .none) as
 | _,_,_,.nil,.nil=>⟨rfl,λ i h=>absurd h (Nat.not_lt_zero _)⟩
 | _,_,_,.cons r t,.cons a b=>by
  obtain ⟨e,q⟩:=b6J I t b
  refine ⟨by rw [List.length_cons,List.length_cons,e],λ i h=>?_⟩
  cases i with
  | zero=>exact a.reads I r
  | succ i =>
   have:=q i (by simpa using h)
   simpa using this
theorem b0A:∀ {xs:List V} {us:List Value} (j:Nat),Vals xs us->Vals (xs.eraseIdx j) (us.eraseIdx j)
 | _,_,_,.nil=>.nil
 | _,_,0,.cons r t=>t
 | _,_,j+1,.cons r t=>.cons r (b0A j t)
theorem c0P (hv:X.A.units+65 < cLine):MtM X "list.remove" (b5A X.K):=by
 intro pins s σ H x vs v us Q I rx rv h
 obtain ⟨l,xs,y,d,ds,j,rfl,rfl,hH,hd,hds,sd,sds,hj,hit,hn,q⟩:=h
 cases rx
 obtain ⟨u,rfl,ru⟩:=a5G rv
 obtain ⟨z,its,n,r,ol,e⟩:=I.lstM hH
 have hlen:=r.length
 obtain ⟨as,ra⟩:=hd.reads I ru
 obtain ⟨el,rs⟩:=b6J I r hds
 have hjz:j < its.toArray.size:=by rw [List.size_toArray]; omega
 refine call_meets F.slot_list_remove ⟨_,e,rfl⟩ F.entry_list_remove (F.args_list_remove_2 _ _) (d1X (z:=its.toArray) (eq:=λ m=>PyData.eqv (ds.getD m .none) d) hjz hit (λ m _ hm=>hn m hm) (by rw [List.size_toArray]; omega)) ⟨e,λ s' es m hm=>?_,?_⟩
 ·have hm':m < its.length:=by simpa using hm
  obtain ⟨bs,rb⟩:=rs m hm'
  have eg:its.getD m .none=its.toArray[m]:=by simp [hm']
  rw [eg] at rb
  have sm:SeqAt.shaped (ds.getD m .none)=true:=sds _ (by rw [τα,List.getElem?_eq_getElem (by omega)]; exact List.getElem_mem _)
  rw [<- es] at rb ra
  refine SeqAt.eqAt_reads _ _ _ _ _ _ _ _ rb ra (SeqAt.canLay_of_shaped sm) (SeqAt.canLay_of_shaped sd) (SeqAt.room_of_shaped sm ?_)
  exact hv
 ·refine ⟨.non,_,I.lset (its':=its.eraseIdx j) hH e ?_ (b0A j r) ?_,rfl,q _ Chg.mk0⟩
  ·simp [Array.eraseIdxIfInBounds]
   omega
  ·have:=List.length_eraseIdx_le xs j
   omega
theorem b8H (e:X.K=K) (hv:X.A.units+65 < cLine):MtM X "list.remove" (b5A K):=by subst e; exact c0P hv
end
end L2
set_option maxHeartbeats 4100000
namespace L2
open PySem PySem.Spec PyProof.Rows
section
variable {X:Cx} {K:Φρ}
def d4I (K:Φρ):List V->Hp->VK->Prop:=λ xs H Q=>∃ p ns,xs=[.ref p]/\SqL K H p (List.map V.int ns)/\0 < ns.length/\∀ M,M∈ns->(∀ a∈ns,a<=M)->Q (.int M) H
theorem c0Q (e:X.K=K) (cm:X.calm=true):CallR X (.builtin "max") (d4I K):=by
 subst e
 intro pins s σ H xs us Q I r h
 obtain ⟨p,ns,rfl,hL,hne,q⟩:=h
 obtain ⟨u,rfl,rx⟩:=a5G r
 cases rx
 obtain ⟨its,r',pl,hz⟩:=I.list hL
 have hi:=a4L r'
 have hlen:=hi.length
 obtain ⟨zs,ez⟩:=hi.allInts.items
 have hsz:0 < zs.size:=by
  have:=congrArg Array.size ez
  rw [List.size_toArray] at this
  have e2:(intItems zs).size=zs.size:=by simp [intItems]
  omega
 have en:zs.toList.map (·.1)=ns:=by
  rw [<- nums_intItems,<- ez]
  exact hi.numsOf
 refine max_intList (xs:=zs) (I.ok.hd cm) (by rw [<- ez]; exact pl.isList) hsz λ v h' tk hv hk=>?_
 obtain ⟨t,rfl⟩:=intItems_at hv
 obtain ⟨h1,h2⟩:=argBest_gt (numAt zs) (zs.size - 1)
 refine ⟨.int _,H,I.kept hk,⟨t,rfl⟩,q _ ?_ λ a ha=>?_⟩
 ·rw [numAt_eq,<- en]; exact getD_mem (by rw [List.length_map,Array.length_toList]; omega)
 ·rw [<- en] at ha
  obtain ⟨j,hj,rfl⟩:=mem_getD ha
  rw [List.length_map,Array.length_toList] at hj
  rw [<- numAt_eq]; exact h2 j (by omega)
end
end L2
namespace L2
open PySem PySem.Spec PyProof.Rows
section
variable {X:Cx} {K:Φρ}
theorem a8P (l:List Int) (f:Nat->Int) (h:∀ i,i < l.length->f i=l.getD i 0):∀ k,k<=l.length->preSum f k=(l.take k).sum
 | 0,_=>rfl
 | k+1,hk=>by
  show preSum f k+f k=_
  rw [a8P l f h k (by omega),h k (by omega),List.take_succ_eq_append_getElem (by omega),List.sum_append,τα,List.getElem?_eq_getElem (by omega)]
  simp
def d4J (K:Φρ):List V->Hp->VK->Prop:=λ xs H Q=>∃ p ns,xs=[.ref p]/\SqL K H p (List.map V.int ns)/\Q (.int ns.sum) H
theorem b3B (e:X.K=K) (cm:X.calm=true):CallR X (.builtin "sum") (d4J K):=by
 subst e
 intro pins s σ H xs us Q I r h
 obtain ⟨p,ns,rfl,hL,q⟩:=h
 obtain ⟨u,rfl,rx⟩:=a5G r
 cases rx
 obtain ⟨its,r',pl,hz⟩:=I.list hL
 have hi:=a4L r'
 have hlen:=hi.length
 obtain ⟨zs,ez⟩:=hi.allInts.items
 have en:zs.toList.map (·.1)=ns:=by
  rw [<- nums_intItems,<- ez]
  exact hi.numsOf
 have e2:(intItems zs).size=zs.size:=by simp [intItems]
 have hsz:zs.size=ns.length:=by rw [<- en,List.length_map,Array.length_toList]
 refine call_sum_walkG (iter_intList (xs:=zs) (by rw [<- ez]; exact pl.isList) λ s₂ es st hfp hlI=>?_)
 subst es
 refine ⟨_,_,_,_,_,_,numAt zs,rfl,Walks.list (A:=X.A.in1) (I.ok.hd cm) s.heap.objs.size p hlI (intItems zs),st,hfp,λ i v hv=>intItems_at hv,λ h' tk t' hk=>?_⟩
 rw [e2,hsz,a8P ns (numAt zs) (λ i hi=>by rw [numAt_eq,<- en]) ns.length (Nat.le_refl _),List.take_length]
 refine ⟨.int _,H,?_,⟨t',rfl⟩,q⟩
 exact I.kept λ b o eb=>hk b o (λ z=>by
  have z':b=s.heap.objs.size:=by simpa using z
  exact absurd (Heap.lt_size eb) (by rw [z']; exact Nat.lt_irrefl _)) (Heap.get?_push_of_some _ eb)
def d4K (K:Φρ):List V->Hp->VK->Prop:=λ xs H Q=>∃ p ns,xs=[.ref p]/\SqL K H p (List.map V.int ns)/\0 < ns.length/\∀ M,M∈ns->(∀ a∈ns,M<=a)->Q (.int M) H
theorem c0R (e:X.K=K) (cm:X.calm=true):CallR X (.builtin "min") (d4K K):=by
 subst e
 intro pins s σ H xs us Q I r h
 obtain ⟨p,ns,rfl,hL,hne,q⟩:=h
 obtain ⟨u,rfl,rx⟩:=a5G r
 cases rx
 obtain ⟨its,r',pl,hz⟩:=I.list hL
 have hi:=a4L r'
 have hlen:=hi.length
 obtain ⟨zs,ez⟩:=hi.allInts.items
 have hsz:0 < zs.size:=by
  have:=congrArg Array.size ez
  rw [List.size_toArray] at this
  have e2:(intItems zs).size=zs.size:=by simp [intItems]
  omega
 have en:zs.toList.map (·.1)=ns:=by
  rw [<- nums_intItems,<- ez]
  exact hi.numsOf
 refine min_intList (xs:=zs) (I.ok.hd cm) (by rw [<- ez]; exact pl.isList) hsz λ v h' tk hv hk=>?_
 obtain ⟨t,rfl⟩:=intItems_at hv
 obtain ⟨h1,h2⟩:=argBest_lt (numAt zs) (zs.size - 1)
 refine ⟨.int _,H,I.kept hk,⟨t,rfl⟩,q _ ?_ λ a ha=>?_⟩
 ·rw [numAt_eq,<- en]; exact getD_mem (by rw [List.length_map,Array.length_toList]; omega)
 ·rw [<- en] at ha
  obtain ⟨j,hj,rfl⟩:=mem_getD ha
  rw [List.length_map,Array.length_toList] at hj
  rw [<- numAt_eq]; exact h2 j (by omega)
end
end L2
set_option maxHeartbeats 4100000
namespace L2
open PySem PySem.Spec PyProof.Rows
section
variable {prog:Program} {w:World} {A:Around} {R:Result->Shared->Prop} {I:Addr} {fp wr:List Addr} {n:Nat} {P:Nat->Value->Prop} {St:Nat->Heap->Prop} {kw:List (Str × Value)}
end
section
variable {prog:Program} {w:World} {A:Around} {E:Value->Shared->Prop} {s:Shared} {xs:Array (Int × Tok)} {l:Addr}
end
section
variable {X:Cx} {K:Φρ}
end
end L2
set_option maxHeartbeats 4100000
namespace L2
open PySem PySem.Spec PyProof.Rows
theorem c0S (a b:Value):argsOk "min" ⟨[a],[("default", b)]⟩:=by unfold argsOk; kernel_rfl
section
variable {prog:Program} {w:World} {A:Around} {R:Result->Shared->Prop} {I:Addr} {fp wr:List Addr} {n:Nat} {P:Nat->Value->Prop} {St:Nat->Heap->Prop} {kw:List (Str × Value)}
theorem c0T (W:Walks prog w A.in1 I fp wr n P St) (bt:Nat->Nat->Bool) (hcmp:CmpOf prog w A.in1 .Lt P bt) (S:Addr) (hSf:S ∉ fp) :
  ∀ (k j:Nat) (s:Shared) (vb:Value) (c:Nat),n - (j+1)=k->j+1<=n->St (j+1) s.heap->P (argBest bt j) vb->s.heap.get? S=some { cls:=.type "list", dict:=none,data:=.seq #[vb,vb] c,slots:=#[] } ->
  (∀ v h' tk,P (argBest bt (n - 1)) v->(∀ b o,b ∉ wr->b≠S->s.heap.get? b=some o->h'.get? b=some o)->R (.ok (.ret v)) { s with heap:=h',toks:=tk }) ->
  codeAny (model prog w) A (.builtin "min.loop" ⟨[.ref I,.none,.ref S],kw⟩) R s:=by
 have hSw:S ∉ wr:=λ h=>hSf (W.sub _ h)
 have hname:(toString "min" ++ toString ".loop" : String) = "min.loop" := by decide
 intro k
 induction k with
 | zero =>
  intro j s vb c hk hj hst hPb hS hR
  have hin:j+1=n:=by omega
  refine codeAny_builtin PySem.F.entry_min_loop ?_
  rw [Around.under_plainId PySem.F.plain_min_loop _]
  refine wpAny_bind (wpAny_seqItems hS rfl ?_)
  show wpAny _ A.in1 (tryCatch (pyNext (.ref I)) _ >>= _) _ _ s
  refine wpAny_bind (wpAny_tryCatch (W.done s _ _ (hin ▸ hst) λ h' tk hk'=>?_))
  have hS':=hk' S _ hSw hS
  show wpAny _ A.in1 (updateSeq S (λ _=>#[]) >>= _) _ _ _
  refine wpAny_bind ?_
  refine wpAny_updateSeq hS' rfl (wpAny_bind (wpAny_letGo (wpAny_pure ?_)))
  exact hR vb _ tk (by rw [<- hin]; exact hPb) λ b o hbw hbS e=>(Heap.get?_update_other _ _ (Ne.symm hbS)).trans (hk' b o hbw e)
 | succ k ih =>
  intro j s vb c hk hj hst hPb hS hR
  have hlt:j+1 < n:=by omega
  refine codeAny_builtin PySem.F.entry_min_loop ?_
  rw [Around.under_plainId PySem.F.plain_min_loop _]
  refine wpAny_bind (wpAny_seqItems hS rfl ?_)
  show wpAny _ A.in1 (tryCatch (pyNext (.ref I)) _ >>= _) _ _ s
  refine wpAny_bind (wpAny_tryCatch (W.item (j+1) s _ _ hlt hst λ v h' tk hP hst' hk'=>?_))
  have hS':=hk' S _ hSw hS
  show wpAny _ A.in1 (tryCatch (holding [v,v] (richCompare .Lt v vb >>= _)) _ >>= _) _ _ _
  refine wpAny_bind (wpAny_tryCatch (wpAny_holding (wpAny_bind (hcmp (j+1) (argBest bt j) v vb _ _ _ hP hPb ?_))))
  refine wpAny_bind (wpAny_holding (wpAny_truthy_bool ?_))
  refine wpAny_bind (wpAny_letGo (wpAny_pure ?_))
  cases hb:bt (j+1) (argBest bt j) with
  | true =>
   simp only [if_true]
   refine wpAny_bind ?_
   refine wpAny_updateSeq hS' rfl (wpAny_bind (wpAny_letGo ?_))
   rw [hname]
   refine wpAny_pure ⟨plainId_quiet PySem.F.plain_min_loop _,ih (j+1) _ v _ (by omega) hlt (W.frame _ _ _ hst' λ b hbf o e=>?_) (by simp only [argBest,hb,if_true]; exact hP) (Heap.get?_update_self _ hS' rfl) λ v' h'' tk'' hP' hk''=>?_⟩
   ·exact (Heap.get?_update_other _ _ (λ h:S=b=>hSf (by rw [h]; exact hbf))).trans e
   ·exact hR v' h'' tk'' hP' λ b o hbw hbS e=>hk'' b o hbw hbS ((Heap.get?_update_other _ _ (Ne.symm hbS)).trans (hk' b o hbw e))
  | false =>
   simp only [Bool.false_eq_true,if_false]
   refine wpAny_bind (wpAny_letGo ?_)
   rw [hname]
   refine wpAny_pure ⟨plainId_quiet PySem.F.plain_min_loop _,ih (j+1) _ vb c (by omega) hlt hst' (by simp only [argBest,hb,Bool.false_eq_true,if_false]; exact hPb) hS' λ v' h'' tk'' hP' hk''=>?_⟩
   exact hR v' h'' tk'' hP' λ b o hbw hbS e=>hk'' b o hbw hbS (hk' b o hbw e)
theorem b8I (W:Walks prog w A.in1 I fp wr n P St) (bt:Nat->Nat->Bool) (hcmp:CmpOf prog w A.in1 .Lt P bt) (S:Addr) (hSf:S ∉ fp) (hn:0 < n) {s:Shared} {c:Nat} (hst:St 0 s.heap)
  (hS:s.heap.get? S=some { cls:=.type "list", dict:=none,data:=.seq #[] c,slots:=#[] })
  (hR:∀ v h' tk,P (argBest bt (n - 1)) v->(∀ b o,b ∉ wr->b≠S->s.heap.get? b=some o->h'.get? b=some o)->R (.ok (.ret v)) { s with heap:=h',toks:=tk }) :
  codeAny (model prog w) A (.builtin "min.loop" ⟨[.ref I,.none,.ref S],kw⟩) R s:=by
 have hSw:S ∉ wr:=λ h=>hSf (W.sub _ h)
 have hname:(toString "min" ++ toString ".loop" : String) = "min.loop" := by decide
 refine codeAny_builtin PySem.F.entry_min_loop ?_
 rw [Around.under_plainId PySem.F.plain_min_loop _]
 refine wpAny_bind (wpAny_seqItems hS rfl ?_)
 show wpAny _ A.in1 (tryCatch (pyNext (.ref I)) _ >>= _) _ _ s
 refine wpAny_bind (wpAny_tryCatch (W.item 0 s _ _ hn hst λ v h' tk hP hst' hk'=>?_))
 have hS':=hk' S _ hSw hS
 show wpAny _ A.in1 (updateSeq S (λ _=>#[v,v]) >>= _) _ _ _
 refine wpAny_bind ?_
 refine wpAny_updateSeq hS' rfl ?_
 rw [hname]
 refine wpAny_pure ⟨plainId_quiet PySem.F.plain_min_loop _,c0T W bt hcmp S hSf _ 0 _ v _ rfl hn (W.frame _ _ _ hst' λ b hbf o e=>?_) hP (Heap.get?_update_self _ hS' rfl) λ v' h'' tk'' hP' hk''=>?_⟩
 ·exact (Heap.get?_update_other _ _ (λ h:S=b=>hSf (by rw [h]; exact hbf))).trans e
 ·exact hR v' h'' tk'' hP' λ b o hbw hbS e=>hk'' b o hbw hbS ((Heap.get?_update_other _ _ (Ne.symm hbS)).trans (hk' b o hbw e))
theorem c0U (W:Walks prog w A.in1 I fp wr n P St) (n0:n=0) (S:Addr) (hSf:S ∉ fp) {s:Shared} {c:Nat} {nm:Str} {d:Value} (hst:St 0 s.heap)
  (hS:s.heap.get? S=some { cls:=.type "list", dict:=none,data:=.seq #[] c,slots:=#[] })
  (hR:∀ h' tk,(∀ b o,b ∉ wr->b≠S->s.heap.get? b=some o->h'.get? b=some o)->R (.ok (.ret d)) { s with heap:=h',toks:=tk }) :
  codeAny (model prog w) A (.builtin "min.loop" ⟨[.ref I,.none,.ref S],[(nm,d)]⟩) R s:=by
 subst n0
 have hSw:S ∉ wr:=λ h=>hSf (W.sub _ h)
 refine codeAny_builtin PySem.F.entry_min_loop ?_
 rw [Around.under_plainId PySem.F.plain_min_loop _]
 refine wpAny_bind (wpAny_seqItems hS rfl ?_)
 show wpAny _ A.in1 (tryCatch (pyNext (.ref I)) _ >>= _) _ _ s
 refine wpAny_bind (wpAny_tryCatch (W.done s _ _ hst λ h' tk hk'=>?_))
 have fin:=hR h' tk λ b o hbw hbS e=>hk' b o hbw e
 repeat (first | exact fin | wp_step)
end
section
variable {prog:Program} {w:World} {A:Around} {E:Value->Shared->Prop} {s:Shared} {xs:Array (Int × Tok)} {l:Addr}
theorem c0V {d:Value} {Q:Value->Shared->Prop} (hh:A.handled=none) (hl:s.heap.IsList l (intItems xs))
  (h:∀ v h' tk,(0 < xs.size->(intItems xs)[argBest (λ i j=>decide (numAt xs i < numAt xs j)) (xs.size - 1)]?=some v)->(xs.size=0->v=d)->(∀ b o,s.heap.get? b=some o->h'.get? b=some o)->Q v { s with heap:=h',toks:=tk }) :
  wpAny (model prog w) A (call (.builtin "min") [.ref l] [("default", d)]) Q E s:=by
 have hname:(toString "min" ++ toString ".loop" : String) = "min.loop" := by decide
 refine wpAny_call (codeAny_call_builtin PySem.F.plain_min PySem.F.entry_min ?_)
 simp only [checkBuiltinCall,PySem.F.kind_min]
 have ha:=c0S (.ref l) d
 have go:wpAny (model prog w) A.in1 (Builtin.«min» ⟨[.ref l],[("default", d)]⟩) (λ fin s'=>match fin with
   | .done f=>(match (Except.ok f:Result) with | .ok (.ret v)=>Q v s' | .ok _=>False | .error e=>E e s')
   | .again c'=>c'.quiet=true/\codeAny (model prog w) A c' (λ r s'=>match r with | .ok (.ret v)=>Q v s' | .ok _=>False | .error e=>E e s') s') E s:=by
  show wpAny _ A.in1 (Builtin.Builtins.bindParams "min" ["key", "default"] 0 ⟨[],[("default", d)]⟩ >>= _) _ _ s
  refine wpAny_bind (wpAny_of_eq (show Builtin.Builtins.bindParams "min" ["key", "default"] 0 ⟨[],[("default", d)]⟩=pure [none,some d] from by kernel_rfl) ?_)
  refine wpAny_bind (wpAny_pure ?_)
  refine wpAny_bind (iter_intList hl λ s₂ e st hfp hlI=>?_)
  subst e
  refine wpAny_bind (wpAny_newObj_type ?_)
  have W:=Walks.list (prog:=prog) (w:=w) (A:=A.in1) hh s.heap.objs.size l hlI (intItems xs)
  have hSf:(s.heap.push { cls:=.type "list_iterator", data:=.fields #[.ref l,.int 0 0] }).objs.size ∉ [s.heap.objs.size,l]:=λ hm=>Nat.lt_irrefl _ (hfp _ hm)
  have esz:(intItems xs).size=xs.size:=by simp [intItems]
  rw [hname]
  refine wpAny_pure ⟨plainId_quiet PySem.F.plain_min_loop _,?_⟩
  have keep2:∀ {h':Heap},(∀ b o,b ∉ [s.heap.objs.size]->b≠(s.heap.push { cls:=.type "list_iterator", data:=.fields #[.ref l,.int 0 0] }).objs.size ->
    ((s.heap.push { cls:=.type "list_iterator", data:=.fields #[.ref l,.int 0 0] }).push { cls:=.type "list", data:=.seq #[] }).get? b=some o->h'.get? b=some o)->∀ b o,s.heap.get? b=some o->h'.get? b=some o:=λ {h'} hk =>
   old_kept (h':=h') λ b o hb e=>hk b o hb (Nat.ne_of_lt (Heap.lt_size e)) (Heap.get?_push_of_some _ e)
  by_cases hz:0 < xs.size
  ·refine b8I W _ (CmpOf.ints_lt (numAt xs) (λ _ _=>intItems_at)) _ hSf (by rw [esz]; exact hz) (W.frame _ _ _ st λ b _ o e=>Heap.get?_push_of_some _ e) (Heap.get?_push_size _ rfl) λ v h' tk hP hk=>?_
   exact h v h' tk (λ _=>by rw [esz] at hP; exact hP) (λ z=>by omega) (keep2 hk)
  ·have z0:xs.size=0:=by omega
   refine c0U W (by rw [esz]; exact z0) _ hSf (W.frame _ _ _ st λ b _ o e=>Heap.get?_push_of_some _ e) (Heap.get?_push_size _ rfl) λ h' tk hk=>?_
   exact h d h' tk (λ c=>absurd c hz) (λ _=>rfl) (keep2 hk)
 cases hsig:Manifest.signature? "min" with
 | none=>exact wpAny_pure go
 | some sig =>
  simp only [argsOk,hsig] at ha
  have h2:Bind.checkArgs "min" sig ⟨[.ref l],[("default", d)]⟩=pure ():=ha
  show wpAny _ A.in1 (Bind.checkArgs "min" sig ⟨[.ref l],[("default", d)]⟩) _ _ s
  rw [h2]; exact wpAny_pure go
end
section
variable {X:Cx} {K:Φρ}
def d4L (K:Φρ) (ta tk:TA):TE:=λ σ H Q=>ta σ H λ vs H1=>tk σ H1 λ ws H2=>∃ p ns d,vs=[.ref p]/\ws=[.int d]/\SqL K H2 p (List.map V.int ns)/\(ns=[]->Q (.int d) H2)/\∀ M,M∈ns->(∀ a∈ns,M<=a)->Q (.int M) H2
theorem c8J {e ed:Expr} {ta tk:TA} {p pos kpos:Pos} (eK:X.K=K) (cm:X.calm=true) (hm:X.mg "min" = none) (ha:PA X [e] ta) (hk:PK X [⟨some "default", ed,kpos⟩] tk) (hg:Gl X "min" := by rfl)
  (he:backTo pos (starEach [e] X.env)=(false,eval e X.env)::backTo pos (starEach [] X.env):=by rfl) (hplain:(backTo pos (starEach [e] X.env)).any (·.1)=false:=by rfl) :
  PE X (.Call (.Name "min" p) [e] [⟨some "default", ed,kpos⟩] pos) (d4L K ta tk):=by
 subst eK
 intro pins s σ H Q I h
 refine wpAny_Call_Name_kw (a5W I hg hm (show bootBuiltins "min" = some (.builtin "min") by decide +kernel) ?_)
 refine PyProof.Rows.callWith_kw (id:="min") (thn (ha pos pins s σ H _ I h) λ us s1 ⟨vs,H1,I1,r,q⟩=>?_) he hplain
 refine thn (hk pos pins s1 σ H1 _ I1 q) λ ws s2 ⟨zs,H2,I2,rz,q2⟩=>?_
 obtain ⟨pl,ns,d,rfl,rfl,hL,q0,q1⟩:=q2
 obtain ⟨u,rfl,rx⟩:=a5G r
 cases rx
 obtain ⟨u2,rfl,ry⟩:=a5G rz
 obtain ⟨td',rfl⟩:=(show ∃ t,u2=Value.int d t from ry)
 obtain ⟨its,r',pl',hz⟩:=I2.list hL
 have hi:=a4L r'
 obtain ⟨zs,ez⟩:=hi.allInts.items
 have esz:zs.size=ns.length:=by
  have:=congrArg Array.size ez
  rw [List.size_toArray] at this
  have e2:(intItems zs).size=zs.size:=by simp [intItems]
  have:=hi.length
  omega
 have en:zs.toList.map (·.1)=ns:=by
  rw [<- nums_intItems,<- ez]
  exact hi.numsOf
 refine c0V (xs:=zs) (I2.ok.hd cm) (by rw [<- ez]; exact pl'.isList) λ v h' tk hv hv0 hk=>?_
 by_cases c:0 < zs.size
 ·obtain ⟨t,rfl⟩:=intItems_at (hv c)
  obtain ⟨h1,h2⟩:=argBest_lt (numAt zs) (zs.size - 1)
  refine ⟨.int _,H2,I2.kept hk,⟨t,rfl⟩,q1 _ ?_ λ a ha=>?_⟩
  ·rw [numAt_eq,<- en]; exact getD_mem (by rw [List.length_map,Array.length_toList]; omega)
  ·rw [<- en] at ha
   obtain ⟨j,hj,rfl⟩:=mem_getD ha
   rw [List.length_map,Array.length_toList] at hj
   rw [<- numAt_eq]; exact h2 j (by omega)
 ·have z0:zs.size=0:=by omega
  rw [hv0 z0]
  refine ⟨.int d,H2,I2.kept hk,⟨_,rfl⟩,q0 ?_⟩
  exact List.eq_nil_of_length_eq_zero (by omega)
end
end L2
namespace L2
open PySem PySem.Spec PySem.Calls PyProof.Rows
section
variable {X:Cx}
def d4M:V->List V->Hp->VK->Prop:=λ x vs H Q=>∃ (l:Addr) (ns:List Int) (v:Int) (j:Nat),x = .ref l/\vs=[.int v]/\H l=some (.lst (List.map V.int ns))/\ns[j]?=some v/\(∀ m:Nat,m < j->ns[m]?≠some v)/\ns.length<=1000/\Q (.int (j:Int)) H
def isV (v:Int):Value->Bool
 | .int a _=>a == v
 | _=>false
theorem c0W:MtM X "list.index" d4M:=by
 intro pins s σ H x vs w us Q I rx rv h
 obtain ⟨l,ns,v,j,rfl,rfl,hH,hj,hno,hz,q⟩:=h
 cases rx
 obtain ⟨u,rfl,ru⟩:=a5G rv
 obtain ⟨t,rfl⟩:=(show ∃ t,u=Value.int v t from ru)
 obtain ⟨z,its,n,r,hl,e⟩:=I.lstM hH
 have hi:=a4L r
 have len:=hi.length
 have at_:∀ m (hm:m < its.length),∃ k tk,its[m]=Value.int k tk/\ns[m]?=some k:=λ m hm=>by
  have hm2:m < ns.length:=by omega
  obtain ⟨tk,e⟩:=hi.get m ns[m] (List.getElem?_eq_getElem hm2)
  rw [List.getElem?_eq_getElem hm] at e
  injection e with e
  exact ⟨ns[m],tk,e,List.getElem?_eq_getElem hm2⟩
 have jl:j < its.length:=by have:=(List.getElem?_eq_some_iff.mp hj).1; omega
 refine call_meets F.slot_list_index ⟨_,e,rfl⟩ F.entry_list_index (F.args_list_index_2 _ _) (MeetsSeq.list_index l its.toArray n (.int v t) (isV v) (λ y hy=>?_) j (by simpa using jl) (by omega) ?_ λ m hm hmj=>?_) ⟨e,?_⟩
 ·obtain ⟨m,hm,em⟩:=List.getElem_of_mem (show y∈its by simpa using hy)
  obtain ⟨k,tk,e1,_⟩:=at_ m hm
  rw [<- em,e1]
  exact MeetsSeq.EqGives.int k v tk t
 ·obtain ⟨k,tk,e1,e2⟩:=at_ j jl
  rw [hj] at e2
  injection e2 with e2
  simp only [List.getElem_toArray]
  rw [e1,<- e2]
  exact beq_self_eq_true v
 ·have hm':m < its.length:=by simpa using hm
  obtain ⟨k,tk,e1,e2⟩:=at_ m hm'
  simp only [List.getElem_toArray]
  rw [e1]
  show (k == v)=false
  have:k≠v:=λ z=>hno m hmj (by rw [e2,z])
  simpa using this
 ·exact ⟨.int j,H,I.tok _,⟨_,rfl⟩,q⟩
end
end L2
namespace L2
open PySem PySem.Spec PyProof.Rows
section
variable {X:Cx}
def d4N:V->List V->Hp->VK->Prop:=λ x vs H Q=>∃ m:Nat,x = .int (m:Int)/\vs=[]/\Q (.int ((Builtin.Int.intBits (m:Int):Nat):Int)) H
theorem c0X:MtR X "int.bit_length" d4N:=by
 intro pins s σ H x xs v us Q I rx rs h
 obtain ⟨m,rfl,rfl,q⟩:=h
 obtain ⟨t,rfl⟩:=(show ∃ t,v=Value.int (m:Int) t from rx)
 cases rs
 exact call_int_bit_length ⟨.int _,H,I.tok _,⟨_,rfl⟩,q⟩
end
theorem b1G (a b:Nat):Builtin.bitAnd (a:Int) (b:Int)=((a &&& b:Nat):Int):=by
 unfold Builtin.bitAnd
 simp
theorem b0B (a b:Nat):Builtin.bitOr (a:Int) (b:Int)=((a ||| b:Nat):Int):=by
 unfold Builtin.bitOr Builtin.bitAnd Builtin.bitNot
 rw [decide_eq_false (show ¬ (0:Int) <= -(a:Int) - 1 by omega),decide_eq_false (show ¬ (0:Int) <= -(b:Int) - 1 by omega)]
 dsimp only
 rw [show (-(-(a:Int) - 1) - 1).toNat=a by omega,show (-(-(b:Int) - 1) - 1).toNat=b by omega]
 omega
theorem b5B {m k:Nat} (h:m < 2 ^ k):Builtin.Int.intBits (m:Int)<=k:=by
 unfold Builtin.Int.intBits
 split
 ·exact Nat.zero_le _
 ·rename_i c
  have hm:m≠0:=λ z=>c (by rw [z]; rfl)
  rw [Int.natAbs_natCast]
  exact (Nat.log2_lt hm).mpr h
theorem b3C {m v:Nat} (h:m.testBit v=true):v < Builtin.Int.intBits (m:Int):=by
 unfold Builtin.Int.intBits
 have hm:m≠0:=λ z=>by rw [z] at h; simp at h
 have hc:¬ (((m:Int) == 0)=true):=by simpa using hm
 rw [if_neg hc,Int.natAbs_natCast]
 have:=Nat.ge_two_pow_of_testBit h
 exact Nat.lt_succ_of_le ((Nat.le_log2 hm).mpr this)
def a0M (m:Nat):List Nat:=(List.range 10).filter (m.testBit ·)
theorem b5C {m:Nat} (h:m < 2 ^ 10):(List.range (Builtin.Int.intBits (m:Int))).filter (m.testBit ·)=a0M m:=by
 unfold a0M
 have hk:=b5B h
 obtain ⟨d,ed⟩:∃ d,10=Builtin.Int.intBits (m:Int)+d:=⟨10 - Builtin.Int.intBits (m:Int),by omega⟩
 rw [ed,List.range_add,List.filter_append]
 have:((List.range d).map (λ x=>Builtin.Int.intBits (m:Int)+x)).filter (m.testBit ·)=[]:=by
  rw [List.filter_eq_nil_iff]
  intro x hx hb
  obtain ⟨y,_,rfl⟩:=List.mem_map.mp hx
  have:=b3C hb
  omega
 rw [this,List.append_nil]
theorem b1H (m v:Nat):(m &&& 2 ^ v=0)↔m.testBit v=false:=by
 constructor
 ·intro h
  have:(m &&& 2 ^ v).testBit v=false:=by rw [h]; simp
  rw [Nat.testBit_and,Nat.testBit_two_pow_self,Bool.and_true] at this
  exact this
 ·intro h
  refine Nat.eq_of_testBit_eq λ i=>?_
  rw [Nat.testBit_and,Nat.zero_testBit,Nat.testBit_two_pow]
  by_cases c:v=i
  ·subst c; rw [h]; rfl
  ·rw [decide_eq_false c,Bool.and_false]
theorem a1W {m v k:Nat} (h:m < 2 ^ k) (hv:k<=v):m.testBit v=false :=
 Nat.testBit_lt_two_pow (Nat.lt_of_lt_of_le h (Nat.pow_le_pow_right (by decide) hv))
theorem a5A {m v:Nat} (h:m.testBit v=true):∀ u,(m - 2 ^ v).testBit u=(m.testBit u && !decide (u=v)):=by
 induction v generalizing m with
 | zero =>
  intro u
  have h1:m % 2=1:=by rw [Nat.testBit_zero] at h; exact of_decide_eq_true h
  cases u with
  | zero =>
   rw [Nat.testBit_zero,Nat.testBit_zero]
   have:(m - 2 ^ 0) % 2=0:=by omega
   rw [this]; simp
  | succ u =>
   rw [Nat.testBit_succ,Nat.testBit_succ]
   have:(m - 2 ^ 0) / 2=m / 2:=by omega
   rw [this]; simp
 | succ v ih =>
  intro u
  rw [Nat.testBit_succ] at h
  have le:2 ^ v<=m / 2:=Nat.ge_two_pow_of_testBit h
  have e2:2 ^ (v+1)=2*2 ^ v:=by rw [Nat.pow_succ,Nat.mul_comm]
  cases u with
  | zero =>
   rw [Nat.testBit_zero,Nat.testBit_zero]
   have:(m - 2 ^ (v+1)) % 2=m % 2:=by omega
   rw [this]; simp
  | succ u =>
   rw [Nat.testBit_succ,Nat.testBit_succ]
   have:(m - 2 ^ (v+1)) / 2=m / 2 - 2 ^ v:=by omega
   rw [this,ih h u]
   simp
structure BagsM (n:Nat) (ms:List Nat) (R:Nat->Nat->Bool):Prop where
 len:ms.length=n
 n10:n<=10
 lt:∀ m∈ms,m < 2 ^ 10
 bit:∀ v < n,∀ u,(ms.getD v 0).testBit u=R v u
 far:∀ v u,R v u=true->v < n/\u < n
theorem BagsM.get {n:Nat} {ms:List Nat} {R:Nat->Nat->Bool} (b:BagsM n ms R) {v:Nat} (h:v < n):ms[v]?=some (ms.getD v 0):=by
 have:v < ms.length:=by rw [b.len]; exact h
 rw [τα,List.getElem?_eq_getElem this]; rfl
theorem BagsM.mlt {n:Nat} {ms:List Nat} {R:Nat->Nat->Bool} (b:BagsM n ms R) {v:Nat} (h:v < n):ms.getD v 0 < 2 ^ 10:=b.lt _ (List.mem_of_getElem? (b.get h))
theorem a2T {m k:Nat} (h:∀ u,m.testBit u=true->u < k):m < 2 ^ k:=Nat.lt_pow_two_of_testBit m λ i hi=>by
 cases e:m.testBit i with
 | false=>rfl
 | true=>have:=h i e; omega
def a7V (v:Nat) (R:Nat->Nat->Bool):Nat->Nat->Bool:=λ x u=>if x=v then false else if R x v=true then (R x u || R v u) && !decide (u=v) else R x u
def b1I (v:Nat) (ms:List Nat):List Nat:=(ms.map λ m=>if m &&& 2 ^ v=0 then m else (m ||| ms.getD v 0) - 2 ^ v).set v 0
theorem c0Y {n:Nat} {ms:List Nat} {R:Nat->Nat->Bool} {v:Nat} (b:BagsM n ms R) (hv:v < n):BagsM n (b1I v ms) (a7V v R):=by
 have far:∀ x u,a7V v R x u=true->x < n/\u < n:=λ x u h=>by
  unfold a7V at h
  split at h
  ·cases h
  ·split at h
   ·rename_i c
    rw [Bool.and_eq_true,Bool.or_eq_true] at h
    rcases h.1 with z | z
    ·exact b.far _ _ z
    ·exact ⟨(b.far _ _ c).1,(b.far _ _ z).2⟩
   ·exact b.far _ _ h
 have bit:∀ x < n,∀ u,((b1I v ms).getD x 0).testBit u=a7V v R x u:=λ x hx u=>by
  unfold b1I a7V
  by_cases c:x=v
  ·subst c
   rw [if_pos rfl,τα,List.getElem?_set_self (by rw [List.length_map,b.len]; exact hx)]
   simp
  ·rw [if_neg c,τα,List.getElem?_set_ne (Ne.symm c),List.getElem?_map,b.get hx]
   simp only [Option.map_some,Option.getD_some]
   have ab:=b1H (ms.getD x 0) v
   rw [b.bit x hx] at ab
   by_cases d:R x v=true
   ·rw [if_pos d,if_neg (λ z=>by rw [ab.mp z] at d; cases d)]
    have ht:(ms.getD x 0 ||| ms.getD v 0).testBit v=true:=by rw [Nat.testBit_or,b.bit x hx,d]; rfl
    rw [a5A ht,Nat.testBit_or,b.bit x hx,b.bit v hv]
   ·rw [if_neg d,if_pos (ab.mpr (by simpa using d)),b.bit x hx]
 refine ⟨by unfold b1I; rw [List.length_set,List.length_map]; exact b.len,b.n10,λ m hm=>?_,bit,far⟩
 obtain ⟨j,hj,ej⟩:=List.getElem_of_mem hm
 have jn:j < n:=by
  unfold b1I at hj
  rw [List.length_set,List.length_map,b.len] at hj
  exact hj
 have e:(b1I v ms).getD j 0=m:=by rw [τα,List.getElem?_eq_getElem hj,ej]; rfl
 refine a2T λ u hu=>?_
 rw [<- e,bit j jn] at hu
 have:=far j u hu
 have:=b.n10
 omega
theorem a8Q {n:Nat} {ms:List Nat} {R:Nat->Nat->Bool} {v:Nat} (b:BagsM n ms R) (hv:v < n):a0M (ms.getD v 0)=(List.range n).filter (R v ·):=by
 unfold a0M
 have hn:=b.n10
 obtain ⟨d,ed⟩:∃ d,10=n+d:=⟨10 - n,by omega⟩
 rw [ed,List.range_add,List.filter_append]
 have e1:((List.range d).map (λ x=>n+x)).filter ((ms.getD v 0).testBit ·)=[]:=by
  rw [List.filter_eq_nil_iff]
  intro x hx hb
  obtain ⟨y,_,rfl⟩:=List.mem_map.mp hx
  rw [b.bit v hv] at hb
  have:=(b.far _ _ hb).2
  omega
 rw [e1,List.append_nil]
 exact List.filter_congr λ u _=>b.bit v hv u
def a2W (n:Nat) (ts:List ζζ):Nat->Nat->Bool:=λ v u=>decide (v < n/\u < n) && (decide (u=v) || decide (((v:Int),(u:Int))∈ts) || decide (((u:Int),(v:Int))∈ts))
end L2
namespace L2
open PySem PySem.Spec PyProof.Rows
end L2
set_option maxHeartbeats 1000000
namespace Sm
open PySem
def c0Z (xs:Array Nat) (j k:Nat):Prop:=k<=xs.size/\∀ i (h:i < xs.size),xs[i] < j↔i < k
theorem c4N {xs:Array Nat} (h:xs.toList.Pairwise (· < ·)) {i k:Nat} (hi:i < xs.size) (hk:k < xs.size) (ik:i < k):xs[i] < xs[k]:=by
 have:=List.pairwise_iff_getElem.mp h i k (by simpa using hi) (by simpa using hk) ik
 simpa using this
theorem d4O {xs:Array Nat} {j:Nat} (h:xs.toList.Pairwise (· < ·)):∀ (fuel lo hi:Nat),hi - lo<=fuel->lo<=hi->hi<=xs.size ->
  (∀ i (z:i < xs.size),i < lo->xs[i] < j)->(∀ i (z:i < xs.size),hi<=i->j<=xs[i])->c0Z xs j (SetTable.below.go xs j fuel lo hi):=by
 intro fuel
 induction fuel with
 | zero =>
  intro lo hi a b c d e
  unfold SetTable.below.go
  have:lo=hi:=by omega
  subst this
  exact ⟨c,λ i z=>⟨λ q=>by
   rcases Nat.lt_or_ge i lo with g | g
   ·exact g
   ·have:=e i z g
    omega,λ q=>d i z q⟩⟩
 | succ f ih =>
  intro lo hi a b c d e
  unfold SetTable.below.go
  by_cases q:lo < hi
  ·rw [if_pos q]
   dsimp only
   have m1:lo<=(lo+hi) / 2:=by omega
   have m2:(lo+hi) / 2 < hi:=by omega
   have m3:(lo+hi) / 2 < xs.size:=by omega
   have ge:xs.getD ((lo+hi) / 2) j=xs[(lo+hi) / 2]:=by simp [Array.getD,m3]
   rw [ge]
   by_cases r:xs[(lo+hi) / 2] < j
   ·rw [if_pos r]
    refine ih _ _ (by omega) (by omega) c (λ i z hi'=>?_) e
    rcases Nat.lt_or_ge i ((lo+hi) / 2) with g | g
    ·have:=c4N h z m3 g
     omega
    ·have:i=(lo+hi) / 2:=by omega
     subst this
     exact r
   ·rw [if_neg r]
    refine ih _ _ (by omega) (by omega) (by omega) d (λ i z hi'=>?_)
    rcases Nat.lt_or_ge ((lo+hi) / 2) i with g | g
    ·have:=c4N h m3 z g
     omega
    ·have:i=(lo+hi) / 2:=by omega
     subst this
     omega
  ·rw [if_neg q]
   have:lo=hi:=by omega
   subst this
   exact ⟨c,λ i z=>⟨λ q=>by
    rcases Nat.lt_or_ge i lo with g | g
    ·exact g
    ·have:=e i z g
     omega,λ q=>d i z q⟩⟩
theorem a8A {xs:Array Nat} (h:xs.toList.Pairwise (· < ·)) (j:Nat):c0Z xs j (SetTable.below xs j) :=
 d4O h _ _ _ (by omega) (Nat.zero_le _) (Nat.le_refl _) (λ i z q=>absurd q (Nat.not_lt_zero _)) (λ i z q=>absurd z (by omega))
theorem c4O {xs:Array Nat} (h:xs.toList.Pairwise (· < ·)) {k:Nat} (hk:k < xs.size):SetTable.below xs (xs[k])=k:=by
 obtain ⟨a,b⟩:=a8A h xs[k]
 rcases Nat.lt_trichotomy (SetTable.below xs xs[k]) k with g | g | g
 ·have c:=(b (SetTable.below xs xs[k]) (by omega)).mp (c4N h (by omega) hk g)
  omega
 ·exact g
 ·have c:=(b k hk).mpr g
  omega
theorem b8J {xs:Array Nat} (h:xs.toList.Pairwise (· < ·)):SetTable.below xs 0=0:=by
 obtain ⟨a,b⟩:=a8A h 0
 rcases Nat.eq_zero_or_pos (SetTable.below xs 0) with g | g
 ·exact g
 ·have:=(b 0 (by omega)).mpr g
  omega
theorem b8K {xs:Array Nat} (h:xs.toList.Pairwise (· < ·)) {k:Nat} (hk:k < xs.size):SetTable.below xs (xs[k]+1)=k+1:=by
 obtain ⟨a,b⟩:=a8A h (xs[k]+1)
 have c:=(b k hk).mp (by omega)
 rcases Nat.lt_or_ge (k+1) (SetTable.below xs (xs[k]+1)) with g | g
 ·have e:=(b (k+1) (by omega)).mpr g
  have:=c4N h hk (show k+1 < xs.size by omega) (Nat.lt_succ_self _)
  omega
 ·omega
theorem c1A (j:Nat):SetTable.has #[] j=false:=by
 unfold SetTable.has
 simp
theorem a6X {t:SetTable} (dm:t.dummies = #[]) {j:Nat} (h:j ∉ t.place.toList):t.slot j = .empty:=by
 unfold SetTable.slot
 have e:(t.place[SetTable.below t.place j]? == some j)=false:=by
  rw [beq_eq_false_iff_ne]
  intro c
  exact h (by simpa using Array.mem_of_getElem? c)
 dsimp only
 rw [e,dm,c1A]
 rfl
theorem c1B {t:SetTable} (up:t.place.toList.Pairwise (· < ·)) {j:Nat} (h:j∈t.place.toList):∃ i,t.slot j = .live i:=by
 obtain ⟨k,hk,e⟩:=List.getElem_of_mem h
 have hk':k < t.place.size:=by simpa using hk
 have e':t.place[k]=j:=by simpa using e
 unfold SetTable.slot
 have q:SetTable.below t.place j=k:=by rw [<- e']; exact c4O up hk'
 dsimp only
 rw [q]
 have:(t.place[k]? == some j)=true:=by simp [hk',e']
 rw [this]
 exact ⟨k,rfl⟩
def adv (mask:Nat) (p:SetTable.Probe):SetTable.Probe :=
 if 0 < p.more then { p with more:=p.more - 1,j:=p.j+1 } else
 { p with j:=(SetTable.leap mask p.i p.perturb).1,more:=SetTable.runEnd mask (SetTable.leap mask p.i p.perturb).1 - (SetTable.leap mask p.i p.perturb).1,i:=(SetTable.leap mask p.i p.perturb).1,perturb:=(SetTable.leap mask p.i p.perturb).2 }
theorem d1Y (t:SetTable) (p:SetTable.Probe):t.advance p=adv t.mask p:=by
 unfold SetTable.advance adv
 rfl
def nth (mask:Nat) (p:SetTable.Probe):Nat->SetTable.Probe
 | 0=>p
 | k+1=>nth mask (adv mask p) k
theorem c1C (m:Nat) (p:SetTable.Probe):(adv m p).dummy=p.dummy:=by
 unfold adv
 split <;> rfl
theorem c4P {t:SetTable} (dm:t.dummies = #[]) (up:t.place.toList.Pairwise (· < ·)) (h:Int):∀ (k fuel:Nat) (p:SetTable.Probe),k < fuel->p.dummy=none->(nth t.mask p k).j ∉ t.place.toList ->
  ∃ j,j ∉ t.place.toList/\SetTable.probe.go t (λ _=>h+1) h fuel p=some (.empty j none):=by
 intro k
 induction k with
 | zero =>
  intro fuel p hf hd hn
  obtain ⟨f,rfl⟩:∃ f,fuel=f+1:=⟨fuel - 1,by omega⟩
  unfold SetTable.probe.go
  have hn':p.j ∉ t.place.toList:=hn
  refine ⟨p.j,hn',?_⟩
  rw [a6X dm hn',hd]
 | succ k ih =>
  intro fuel p hf hd hn
  obtain ⟨f,rfl⟩:∃ f,fuel=f+1:=⟨fuel - 1,by omega⟩
  unfold SetTable.probe.go
  by_cases c:p.j∈t.place.toList
  ·obtain ⟨i,e⟩:=c1B up c
   rw [e]
   dsimp only
   have:(h+1 == h)=false:=by rw [beq_eq_false_iff_ne]; omega
   rw [this]
   rw [d1Y]
   exact ih f (adv t.mask p) (by omega) (by rw [c1C]; exact hd) hn
  ·rw [a6X dm c,hd]
   exact ⟨p.j,c,rfl⟩
def c1D (v:Nat):SetTable.Probe:={ j:=v % 8,more:=0,i:=v % 8,perturb:=v,dummy:=none }
theorem d4P:∀ v,v < 16->∀ j,j < 8->∃ k,k < 16/\(nth 7 (c1D v) k).j=j:=by decide +kernel
theorem b5D {v:Nat} (h:v < 16):SetTable.bits (v:Int)=v:=by
 unfold SetTable.bits
 omega
theorem c8K {t:SetTable} (dm:t.dummies = #[]) (up:t.place.toList.Pairwise (· < ·)) {v k:Nat} (hk:k < 10*SetTable.turns t.mask) (hn:(nth t.mask (t.probeStart (v:Int)) k).j ∉ t.place.toList) :
  ∃ j,j ∉ t.place.toList/\t.freeSlot (v:Int)=some (j,false):=by
 obtain ⟨j,hj,e⟩:=c4P dm up (v:Int) k (10*SetTable.turns t.mask) (t.probeStart (v:Int)) hk rfl hn
 refine ⟨j,hj,?_⟩
 unfold SetTable.freeSlot SetTable.probe
 rw [e]
 rfl
theorem c1E:∀ (l m:List Nat),l.Nodup->(∀ x∈l,x∈m)->l.length<=m.length
 | [],_,_,_=>Nat.zero_le _
 | a::r,m,nd,h=>by
  have am:a∈m:=h a List.mem_cons_self
  obtain ⟨n1,n2⟩:=List.nodup_cons.mp nd
  have q:=c1E r (m.erase a) n2 λ x hx=>(List.mem_erase_of_ne (λ e=>n1 (by rw [<- e]; exact hx))).mpr (h x (List.mem_cons_of_mem _ hx))
  rw [List.length_erase_of_mem am] at q
  have:=List.length_pos_of_mem am
  rw [List.length_cons]
  omega
theorem d1Z {l:List Nat} (h:l.length<=4):∃ j,j < 8/\j ∉ l:=by
 apply Classical.byContradiction
 intro c
 have q:∀ j,j < 8->j∈l:=λ j hj=>Classical.byContradiction λ d=>c ⟨j,hj,d⟩
 have:=c1E (List.range 8) l List.nodup_range (λ j hj=>q j (List.mem_range.mp hj))
 rw [List.length_range] at this
 omega
theorem b1C {t:SetTable} (dm:t.dummies = #[]) {v:Nat} (hv:v < 16) (hm:15<=t.mask) (hn:v ∉ t.place.toList):t.freeSlot (v:Int)=some (v,false):=by
 unfold SetTable.freeSlot SetTable.probe
 have e:(t.probeStart (v:Int)).j=v:=by
  unfold SetTable.probeStart
  dsimp only
  rw [b5D hv]
  exact Nat.mod_eq_of_lt (by omega)
 obtain ⟨f,hf⟩:∃ f,10*SetTable.turns t.mask=f+1:=⟨10*SetTable.turns t.mask - 1,by unfold SetTable.turns; omega⟩
 rw [hf]
 unfold SetTable.probe.go
 rw [e,a6X dm hn]
 rfl
def Es (es:Array (Int × Value)) (L:List Nat):Prop:=Paired (λ e v=>e.1=((v:Nat):Int)/\∃ tk,e.2=Value.int ((v:Nat):Int) tk) es.toList L
structure Tb (B:Bool) (t:SetTable) (L:List Nat):Prop where
 dm:t.dummies = #[]
 pl:t.plain=true
 led:t.led = !B
 up:t.place.toList.Pairwise (· < ·)
 sz:t.place.size=L.length
 nd:L.Nodup
 lt:∀ v∈L,v < 16
 sh:(t.mask=7/\L.length<=4)\/(15<=t.mask/\t.place.toList=L/\L.length*5 < t.mask*3)
theorem d2A {xs:Array Nat} (up:xs.toList.Pairwise (· < ·)) {j:Nat} (h:j ∉ xs.toList):(SetTable.insertAt xs (SetTable.below xs j) j).toList.Pairwise (· < ·):=by
 obtain ⟨a,b⟩:=a8A up j
 rw [SetTable.toList_insertAt]
 have z:∀ i (hi:i < xs.toList.length),xs.toList[i] < j↔i < SetTable.below xs j:=λ i hi=>by
  have:=b i (by simpa using hi)
  simpa using this
 rw [List.pairwise_append]
 refine ⟨up.sublist (List.take_sublist _ _),?_,?_⟩
 ·rw [List.pairwise_cons]
  refine ⟨λ y hy=>?_,up.sublist (List.drop_sublist _ _)⟩
  obtain ⟨i,hi,e⟩:=List.getElem_of_mem hy
  rw [List.getElem_drop] at e
  have hl:SetTable.below xs j+i < xs.toList.length:=by rw [List.length_drop] at hi; omega
  have q:=z _ hl
  rw [e] at q
  have ne:y≠j:=λ c=>h (by rw [<- c,<- e]; exact List.getElem_mem hl)
  rcases Nat.lt_or_ge y j with g | g
  ·have:=q.mp g
   omega
  ·omega
 ·intro x hx y hy
  obtain ⟨i,hi,e⟩:=List.getElem_of_mem hx
  rw [List.getElem_take] at e
  have hl:i < xs.toList.length:=by rw [List.length_take] at hi; omega
  have hb:i < SetTable.below xs j:=by rw [List.length_take] at hi; omega
  have x1:x < j:=by rw [<- e]; exact (z i hl).mpr hb
  rcases List.mem_cons.mp hy with rfl | hy
  ·exact x1
  ·obtain ⟨k,hk,e2⟩:=List.getElem_of_mem hy
   rw [List.getElem_drop] at e2
   have hl2:SetTable.below xs j+k < xs.toList.length:=by rw [List.length_drop] at hk; omega
   have q:=z _ hl2
   rw [e2] at q
   rcases Nat.lt_or_ge y j with g | g
   ·have:=q.mp g
    omega
   ·omega
theorem Es.len {es:Array (Int × Value)} {L:List Nat} (h:Es es L):es.size=L.length:=by
 have:=Paired.length h
 simpa using this
theorem a8R {α β:Type} {R:α->β->Prop}:∀ {xs:List α} {ys:List β} (n:Nat),Paired R xs ys->Paired R (xs.take n) (ys.take n)
 | _,_,0,_=>.nil
 | _,_,_+1,.nil=>.nil
 | _,_,n+1,.cons r t=>.cons r (a8R n t)
theorem a8S {α β:Type} {R:α->β->Prop}:∀ {xs:List α} {ys:List β} (n:Nat),Paired R xs ys->Paired R (xs.drop n) (ys.drop n)
 | _,_,0,r=>r
 | _,_,_+1,.nil=>.nil
 | _,_,n+1,.cons _ t=>a8S n t
theorem b0C {α β:Type} {R:α->β->Prop}:∀ {xs xs':List α} {ys ys':List β},Paired R xs ys->Paired R xs' ys'->Paired R (xs++xs') (ys++ys')
 | _,_,_,_,.nil,s=>s
 | _,_,_,_,.cons r t,s=>.cons r (b0C t s)
theorem a1A {α β:Type} {R:α->β->Prop}:∀ {xs:List α} {ys:List β},Paired R xs ys->∀ (i:Nat) (h:i < ys.length),∃ x,xs[i]?=some x/\R x ys[i]
 | _,_,.nil,i,h=>by simp at h
 | _,_,.cons r t,0,h=>⟨_,rfl,r⟩
 | _,_,.cons r t,i+1,h=>by
  obtain ⟨x,e,q⟩:=a1A t i (by simpa using h)
  exact ⟨x,by simpa using e,by simpa using q⟩
theorem d2B {B:Bool} {t:SetTable} {L:List Nat} {es:Array (Int × Value)} {v:Nat} {x:Value} (T:Tb B t L) (hE:Es es L) (hv:v < 16) (hn:v ∉ L) (hx:∃ tk,x=Value.int ((v:Nat):Int) tk) :
  ∃ t1 es1 p,layNew t es ((v:Nat):Int) x=(es1,t1,false,false)/\Es es1 (L.take p++v::L.drop p)/\t1.dummies = #[]/\t1.plain=true/\(t1.led = !B)/\t1.mask=t.mask/\t1.finger=t.finger/\t1.moves=t.moves /\
   t1.place.toList.Pairwise (· < ·)/\t1.place.size=L.length+1/\(15<=t.mask->t1.place.toList=L.take p++v::L.drop p):=by
 have main:∃ j,j ∉ t.place.toList/\t.freeSlot ((v:Nat):Int)=some (j,false)/\(15<=t.mask->j=v):=by
  rcases T.sh with ⟨m7,l4⟩ | ⟨m15,pe,fl⟩
  ·have lp:t.place.toList.length<=4:=by rw [Array.length_toList,T.sz]; exact l4
   obtain ⟨j,hj,nj⟩:=d1Z lp
   obtain ⟨k,hk,e⟩:=d4P v hv j hj
   have st:t.probeStart ((v:Nat):Int)=c1D v:=by
    unfold SetTable.probeStart c1D
    rw [b5D hv,m7]
    unfold SetTable.runEnd
    have:¬ v % (7+1)+9<=7:=by omega
    simp only [if_neg this]
    simp
   obtain ⟨j',hj',e'⟩:=c8K (v:=v) (k:=k) T.dm T.up (by unfold SetTable.turns; omega) (by rw [st,m7,e]; exact nj)
   exact ⟨j',hj',e',λ c=>by omega⟩
  ·have nv:v ∉ t.place.toList:=by rw [pe]; exact hn
   exact ⟨v,nv,b1C T.dm hv m15 nv,λ _=>rfl⟩
 obtain ⟨j,nj,ef,ej⟩:=main
 have sz1:(SetTable.insertAt t.place (SetTable.below t.place j) j).size=L.length+1:=by
  have:=congrArg List.length (SetTable.toList_insertAt t.place (SetTable.below t.place j) j)
  rw [Array.length_toList] at this
  rw [this,List.length_append,List.length_cons,List.length_take,List.length_drop,Array.length_toList,T.sz]
  omega
 have es1:(SetTable.insertAt es (SetTable.below t.place j) (((v:Nat):Int),x)).size=L.length+1:=by
  have:=congrArg List.length (SetTable.toList_insertAt es (SetTable.below t.place j) (((v:Nat):Int),x))
  rw [Array.length_toList] at this
  rw [this,List.length_append,List.length_cons,List.length_take,List.length_drop,Array.length_toList,hE.len]
  omega
 have mk:L.length+1<=t.mask:=by
  rcases T.sh with ⟨m7,l4⟩ | ⟨m15,pe,fl⟩ <;> omega
 refine ⟨{ t with place:=SetTable.insertAt t.place (SetTable.below t.place j) j },SetTable.insertAt es (SetTable.below t.place j) (((v:Nat):Int),x),SetTable.below t.place j,?_,?_,T.dm,T.pl,T.led,rfl,rfl,rfl,d2A T.up nj,sz1,?_⟩
 ·unfold layNew
  rw [ef]
  dsimp only
  unfold SetTable.put
  have hd:SetTable.has t.dummies j=false:=by rw [T.dm]; exact c1A j
  dsimp only
  rw [hd]
  have ft:SetTable.fits { t with place:=SetTable.insertAt t.place (SetTable.below t.place j) j } (SetTable.insertAt es (SetTable.below t.place j) (((v:Nat):Int),x)).size=true:=by
   unfold SetTable.fits SetTable.fill
   dsimp only
   rw [sz1,es1,T.dm]
   simp
   omega
  unfold SetTable.orStandIn
  simp only [if_false,Bool.false_eq_true]
  rw [if_pos ft,ft]
  rfl
 ·unfold Es
  rw [SetTable.toList_insertAt]
  exact b0C (a8R _ hE) (.cons ⟨rfl,hx⟩ (a8S _ hE))
 ·intro hm
  dsimp only
  have:=ej hm
  subst this
  rcases T.sh with ⟨m7,l4⟩ | ⟨m15,pe,fl⟩
  ·omega
  ·rw [SetTable.toList_insertAt,pe]
end Sm
set_option maxHeartbeats 1000000
namespace Sm
open PySem
def Owns (m:Nat) (owner:Array (Option Nat)) (L:List Nat):Prop:=owner.size=m+1/\∀ j,j<=m->owner.getD j none=if j∈L then some (L.idxOf j) else none
theorem c4Q {m:Nat} {owner:Array (Option Nat)} {L:List Nat} (O:Owns m owner L) {v f:Nat} (hv:v<=m) (hn:v ∉ L):SetTable.layClean.free m owner (f+1) v v=some v:=by
 unfold SetTable.layClean.free
 obtain ⟨k,hk⟩:∃ k,SetTable.runEnd m v+1 - v=k+1:=⟨SetTable.runEnd m v - v,by unfold SetTable.runEnd; split <;> omega⟩
 rw [hk,List.range_succ_eq_map]
 have g:owner.getD (v+0) (some 0)=none:=by
  have a:=O.2 v hv
  rw [if_neg hn] at a
  have hs:v < owner.size:=by rw [O.1]; omega
  simp [Array.getD,hs] at a ⊢
  exact a
 rw [List.find?_cons_of_pos (by rw [g]; rfl)]
 rfl
theorem c4R {m:Nat} (hm:15<=m):∀ (R L:List Nat) (owner:Array (Option Nat)),Owns m owner L->(L++R).Nodup->(∀ v∈R,v < 16) ->
  ∃ owner',Owns m owner' (L++R)/\(R.map λ v=>((v:Nat):Int)).foldl (λ (acc:Option (Array (Option Nat) × Nat)) h=>do
   let (owner,k) <- acc
   let j <- SetTable.layClean.free m owner (SetTable.turns m) (SetTable.bits h % (m+1)) (SetTable.bits h)
   pure (owner.setIfInBounds j (some k),k+1)) (some (owner,L.length))=some (owner',(L++R).length):=by
 intro R
 induction R with
 | nil=>intro L owner O _ _; exact ⟨owner,by simpa using O,by simp⟩
 | cons v R ih =>
  intro L owner O nd hlt
  have hv:v < 16:=hlt v List.mem_cons_self
  have hn:v ∉ L:=λ c=>by
   have:=List.nodup_append.mp nd
   exact this.2.2 v c v List.mem_cons_self rfl
  have O':Owns m (owner.setIfInBounds v (some L.length)) (L++[v]):=by
   refine ⟨by rw [Array.size_setIfInBounds]; exact O.1,λ j hj=>?_⟩
   have hs:v < owner.size:=by rw [O.1]; omega
   have hs':j < owner.size:=by rw [O.1]; omega
   have a:=O.2 j hj
   by_cases e:j=v
   ·subst e
    rw [if_pos (List.mem_append_right _ (List.mem_singleton.mpr rfl)),List.idxOf_append,if_neg hn]
    simp [Array.getD,hs]
   ·have e1:(owner.setIfInBounds v (some L.length)).getD j none=owner.getD j none:=by
     simp only [Array.getD,Array.size_setIfInBounds,hs']
     simp [Array.getElem_setIfInBounds,hs',Ne.symm e]
    rw [e1,a]
    by_cases c:j∈L
    ·rw [if_pos c,if_pos (List.mem_append_left _ c),List.idxOf_append,if_pos c]
    ·rw [if_neg c,if_neg]
     intro d
     rcases List.mem_append.mp d with d | d
     ·exact c d
     ·exact e (List.mem_singleton.mp d)
  obtain ⟨o2,O2,e2⟩:=ih (L++[v]) _ O' (by simpa using nd) (λ u hu=>hlt u (List.mem_cons_of_mem _ hu))
  refine ⟨o2,by simpa using O2,?_⟩
  rw [List.map_cons,List.foldl_cons]
  have st:(do
   let (owner,k) <- some (owner,L.length)
   let j <- SetTable.layClean.free m owner (SetTable.turns m) (SetTable.bits ((v:Nat):Int) % (m+1)) (SetTable.bits ((v:Nat):Int))
   pure (owner.setIfInBounds j (some k),k+1):Option (Array (Option Nat) × Nat))=some (owner.setIfInBounds v (some L.length),(L++[v]).length):=by
   rw [b5D hv,Nat.mod_eq_of_lt (by omega)]
   have:SetTable.turns m=(m+14)+1:=rfl
   rw [this]
   show (SetTable.layClean.free m owner (m+14+1) v v).bind _=_
   rw [c4Q O (by omega) hn]
   simp
  rw [st]
  have e3:(L++v::R)=L++[v]++R:=by simp
  rw [e3]
  exact e2
def upTo (m:Nat) (L:List Nat):List Nat:=(List.range (m+1)).filter λ j=>decide (j∈L)
theorem b5E (m:Nat) (L:List Nat):(upTo m L).Pairwise (· < ·):=List.Pairwise.filter _ List.pairwise_lt_range
theorem a8B {m:Nat} {L:List Nat} (h:∀ v∈L,v<=m) {j:Nat}:j∈upTo m L↔j∈L:=by
 unfold upTo
 rw [List.mem_filter,List.mem_range]
 constructor
 ·rintro ⟨_,b⟩; exact of_decide_eq_true b
 ·intro b; exact ⟨Nat.lt_succ_of_le (h j b),decide_eq_true b⟩
theorem a8T {L:List Nat} (h:L.Pairwise (· < ·)):L.Nodup:=h.imp λ h=>Nat.ne_of_lt h
theorem a6A {m:Nat} {L:List Nat} (h:∀ v∈L,v<=m) (nd:L.Nodup):(upTo m L).Perm L :=
 (List.perm_ext_iff_of_nodup (a8T (b5E m L)) nd).mpr λ j=>a8B h
theorem c8L {L:List Nat} (nd:L.Nodup):L.map (λ v=>L.idxOf v)=List.range L.length:=by
 apply List.ext_getElem
 ·simp
 ·intro i h1 h2
  rw [List.getElem_map,List.getElem_range]
  exact List.Nodup.idxOf_getElem nd i _
theorem c8M {α β:Type} (p:α->Bool) (f:α->β):∀ l:List α,l.filterMap (λ a=>if p a=true then some (f a) else none)=(l.filter p).map f
 | []=>rfl
 | a::r=>by
  rw [List.filter_cons]
  cases e:p a with
  | true=>rw [List.filterMap_cons_some (b:=f a) (by rw [e]; rfl),c8M p f r]; simp
  | false=>rw [List.filterMap_cons_none (by rw [e]; rfl),c8M p f r]; simp
theorem b6K {α β:Type} {f g:α->Option β}:∀ {l:List α},(∀ a∈l,f a=g a)->l.filterMap f=l.filterMap g
 | [],_=>rfl
 | a::r,h=>by
  have e:=h a List.mem_cons_self
  have q:=b6K (l:=r) λ b hb=>h b (List.mem_cons_of_mem _ hb)
  cases c:f a with
  | none=>rw [List.filterMap_cons_none c,List.filterMap_cons_none (by rw [<- e]; exact c),q]
  | some b=>rw [List.filterMap_cons_some c,List.filterMap_cons_some (by rw [<- e]; exact c),q]
theorem Es.hashes {es:Array (Int × Value)} {L:List Nat} (h:Es es L):(es.map (·.1)).toList=L.map λ v=>((v:Nat):Int):=by
 rw [Array.toList_map]
 unfold Es at h
 generalize es.toList=l at h
 induction h with
 | nil=>rfl
 | cons r _ ih=>rw [List.map_cons,List.map_cons,ih,r.1]
theorem Es.at {es:Array (Int × Value)} {L:List Nat} (h:Es es L) {v:Nat} (hv:v∈L):∃ e,es[L.idxOf v]?=some e/\e.1=((v:Nat):Int)/\∃ tk,e.2=Value.int ((v:Nat):Int) tk:=by
 have hi:=List.idxOf_lt_length_of_mem hv
 obtain ⟨x,e,q⟩:=a1A h (L.idxOf v) hi
 rw [List.getElem_idxOf hi] at q
 exact ⟨x,by simpa using e,q⟩
theorem d2C {es:Array (Int × Value)} {L:List Nat} (h:Es es L):∀ S:List Nat,(∀ v∈S,v∈L)->Paired (λ e v=>e.1=((v:Nat):Int)/\∃ tk,e.2=Value.int ((v:Nat):Int) tk) ((S.map λ v=>L.idxOf v).filterMap λ i=>es[i]?) S
 | [],_=>.nil
 | v::S,hs=>by
  obtain ⟨e,a,b⟩:=h.at (hs v List.mem_cons_self)
  rw [List.map_cons,List.filterMap_cons_some a]
  exact .cons b (d2C h S λ u hu=>hs u (List.mem_cons_of_mem _ hu))
theorem b5F {es:Array (Int × Value)} {L:List Nat} {m f mv:Nat} {led plain:Bool} (hm:15<=m) (hE:Es es L) (nd:L.Nodup) (hlt:∀ v∈L,v < 16) :
  ∃ order:Array Nat,SetTable.laid m f mv led plain (es.map (·.1))=some ({ mask:=m,place:=(upTo m L).toArray,dummies:=#[],finger:=f,led:=led,moves:=mv,plain:=plain },order) /\
   Es (order.filterMap (es[·]?)) (upTo m L)/\coversAll order es.size=true:=by
 have hle:∀ v∈L,v<=m:=λ v hv=>by have:=hlt v hv; omega
 have O0:Owns m (Array.replicate (m+1) none) []:=⟨by simp,λ j hj=>by simp [Array.getD]⟩
 obtain ⟨ow,O,e⟩:=c4R hm L [] _ O0 (by simpa using nd) hlt
 rw [List.nil_append] at O e
 have ec:SetTable.layClean m (es.map (·.1))=some ow:=by
  unfold SetTable.layClean
  rw [<- Array.foldl_toList,hE.hashes]
  have e':=e
  rw [List.length_nil] at e'
  show Option.map _ (List.foldl _ _ _)=_
  refine Eq.trans (congrArg (Option.map (·.1)) (Eq.trans ?_ e')) rfl
  rfl
 have lv:(List.range (m+1)).filterMap (λ j=>(ow.getD j none).map (λ k=>(j,k)))=(upTo m L).map λ j=>(j,L.idxOf j):=by
  unfold upTo
  rw [<- c8M]
  apply b6K
  intro j hj
  rw [O.2 j (by have:=List.mem_range.mp hj; omega)]
  by_cases c:j∈L
  ·simp [c]
  ·simp [c]
 refine ⟨((upTo m L).map λ j=>L.idxOf j).toArray,?_,?_,?_⟩
 ·unfold SetTable.laid
  rw [ec]
  show some _=some _
  have:(List.range (m+1)).filterMap (λ j=>(ow.getD j none).map (j,·))=(upTo m L).map λ j=>(j,L.idxOf j):=lv
  rw [this,List.map_map,List.map_map]
  have i1:((λ (x:Nat × Nat)=>x.1) ∘ λ j=>(j,L.idxOf j))=λ j=>j:=rfl
  have i2:((λ (x:Nat × Nat)=>x.2) ∘ λ j=>(j,L.idxOf j))=λ j=>L.idxOf j:=rfl
  rw [i1,i2,List.map_id']
 ·unfold Es
  rw [Array.toList_filterMap]
  exact d2C hE (upTo m L) λ v hv=>(a8B hle).mp hv
 ·unfold coversAll
  rw [List.isPerm_iff,hE.len]
  have p:=(a6A hle nd).map λ v=>L.idxOf v
  rw [c8L nd] at p
  exact p
theorem c1F {m:Nat} {L:List Nat} (h:∀ v∈L,v < 16) (hm:15<=m) (nd:L.Nodup):(upTo m L).length=L.length:=(a6A (λ v hv=>by have:=h v hv; omega) nd).length_eq
theorem a7G {n:Nat} (h:n < 2 ^ 40):n < SetTable.sizeAbove n:=by
 have go:∀ fuel size,n < size*2 ^ fuel->n < SetTable.sizeAbove.go n fuel size:=by
  intro fuel
  induction fuel with
  | zero=>intro size h; unfold SetTable.sizeAbove.go; simpa using h
  | succ f ih =>
   intro size h
   unfold SetTable.sizeAbove.go
   split
   ·exact ih _ (by rw [Nat.pow_succ] at h; rw [Nat.mul_assoc,Nat.mul_comm 2]; exact h)
   ·omega
 exact go 64 8 (by omega)
theorem a7H {n:Nat} (h:8<=n):16<=SetTable.sizeAbove n:=by
 have go:∀ fuel size,16<=size->16<=SetTable.sizeAbove.go n fuel size:=by
  intro fuel
  induction fuel with
  | zero=>intro size h; unfold SetTable.sizeAbove.go; exact h
  | succ f ih =>
   intro size h
   unfold SetTable.sizeAbove.go
   split
   ·exact ih _ (by omega)
   ·exact h
 unfold SetTable.sizeAbove
 unfold SetTable.sizeAbove.go
 rw [if_pos h]
 exact go 63 _ (by omega)
theorem Tb.fits {B:Bool} {t:SetTable} {L:List Nat} (T:Tb B t L):t.fits L.length=true:=by
 unfold SetTable.fits SetTable.fill
 have:=T.sz
 rw [T.dm]
 rcases T.sh with ⟨a,b⟩ | ⟨a,b,c⟩ <;> simp [this] <;> omega
theorem b5G {B:Bool} {L:List Nat} {m f mv:Nat} (hm:15<=m) (nd:L.Nodup) (hlt:∀ v∈L,v < 16) (hr:L.length*5 < m*3) :
  Tb B { mask:=m,place:=(upTo m L).toArray,dummies:=#[],finger:=f,led:=!B,moves:=mv,plain:=true } (upTo m L) where
 dm:=rfl
 pl:=rfl
 led:=rfl
 up:=by simpa using b5E m L
 sz:=by simp
 nd:=a8T (b5E m L)
 lt:=λ v hv=>hlt v ((a8B (λ v hv=>by have:=hlt v hv; omega)).mp hv)
 sh:=.inr ⟨hm,by simp,by rw [c1F hlt hm nd]; exact hr⟩
theorem c4S {B:Bool} {t:SetTable} {es:Array (Int × Value)} {L:List Nat} {n:Nat} (hp:t.plain=true) (hl:t.led = !B) (hE:Es es L) (nd:L.Nodup) (hlt:∀ v∈L,v < 16) (hn:8<=n) (h2:2*L.length<=n) (hb:n < 2 ^ 40) :
  ∃ es' t' L',relayAll t es n=(es',t',false)/\Es es' L'/\Tb B t' L'/\L'.Perm L:=by
 have a1:=a7G hb
 have a2:=a7H hn
 have hm:15<=SetTable.sizeAbove n - 1:=by omega
 obtain ⟨order,e,hE',hc⟩:=b5F (f:=t.finger) (mv:=t.movedTo (SetTable.sizeAbove n - 1)) (led:=!B) (plain:=true) hm hE nd hlt
 have T:=b5G (B:=B) (f:=t.finger) (mv:=t.movedTo (SetTable.sizeAbove n - 1)) hm nd hlt (by omega)
 refine ⟨_,_,_,?_,hE',T,a6A (λ v hv=>by have:=hlt v hv; omega) nd⟩
 unfold relayAll SetTable.relaid
 rw [hp,hl,e]
 dsimp only
 have z:=hE'.len
 rw [hc,z,T.fits]
 rfl
end Sm
set_option maxHeartbeats 1000000
namespace Sm
open PySem
abbrev setO (es:Array (Int × Value)) (ep:Nat) (t:SetTable):Obj:={ cls:=.type "set", dict:=none,data:=.set es ep t,slots:=#[] }
def SetAt (B:Bool) (h:Heap) (a:Addr) (L:List Nat):Prop:=∃ es ep t,h.get? a=some (setO es ep t)/\Es es L/\Tb B t L
def Dense (h:Heap) (a:Addr):Prop:=∃ es ep t,h.get? a=some (setO es ep t)/\(t.mask=7\/5<=es.size)
theorem Dense.keep {h h':Heap} {a:Addr} (S:Dense h a) (k:∀ o,h.get? a=some o->h'.get? a=some o):Dense h' a :=
 let ⟨es,ep,t,ho,r⟩:=S; ⟨es,ep,t,k _ ho,r⟩
theorem SetAt.keep {B:Bool} {h h':Heap} {a:Addr} {L:List Nat} (S:SetAt B h a L) (k:∀ o,h.get? a=some o->h'.get? a=some o):SetAt B h' a L :=
 let ⟨es,ep,t,ho,r⟩:=S; ⟨es,ep,t,k _ ho,r⟩
theorem Tb.len {B:Bool} {t:SetTable} {L:List Nat} (T:Tb B t L):L.length<=16:=by
 have:=c1E L (List.range 16) T.nd λ x hx=>List.mem_range.mpr (T.lt x hx)
 simpa using this
theorem c1G:∀ v:Nat,v < 16->hashInt ((v:Nat):Int)=((v:Nat):Int):=by decide +kernel
theorem Es.elems {prog:Program} {w:World} {es:Array (Int × Value)} {L:List Nat} (h:Es es L) (lt:∀ v∈L,v < 16):ElemsOf (intKind prog w) es.toList:=by
 unfold Es at h
 generalize es.toList=l at h
 induction h with
 | nil=>intro e he; simp at he
 | @cons x y xs ys r _ ih =>
  intro e he
  rcases List.mem_cons.mp he with rfl | he
  ·obtain ⟨tk,e2⟩:=r.2
   refine ⟨⟨((y:Nat):Int),?_,?_⟩,?_⟩
   ·show Value.isInt _ _=true
    rw [e2]; simp [Value.isInt]
   ·rw [r.1]; exact (c1G y (lt y List.mem_cons_self)).symm
   ·rw [e2]; rfl
  ·exact ih (λ v hv=>lt v (List.mem_cons_of_mem _ hv)) e he
theorem Es.find {es:Array (Int × Value)} {L:List Nat} (h:Es es L) (v:Nat):(es.toList.findIdx? λ e=>Value.isInt ((v:Nat):Int) e.2).isSome=decide (v∈L):=by
 unfold Es at h
 generalize es.toList=l at h
 induction h with
 | nil=>simp
 | @cons x y xs ys r _ ih =>
  obtain ⟨tk,e2⟩:=r.2
  rw [List.findIdx?_cons,e2]
  by_cases c:v=y
  ·subst c; simp [Value.isInt]
  ·have:Value.isInt ((v:Nat):Int) (.int ((y:Nat):Int) tk)=false:=by simp [Value.isInt]; omega
   rw [this]
   simp only [Bool.false_eq_true,if_false,Option.isSome_map]
   rw [ih]
   simp [c]
section
variable {prog:Program} {w:World} {A:Around} {E:Value->Shared->Prop} {s:Shared} {B:Bool} {a:Addr} {L:List Nat}
theorem c8N {es:Array (Int × Value)} {ep:Nat} {t:SetTable} {v tk:Nat} {ad:Bool} {Q:ScanMet->Shared->Prop} (ho:s.heap.get? a=some (setO es ep t)) (hE:Es es L) (T:Tb B t L) (hv:v < 16)
  (h1:v∈L->∀ j,Q (.found j) s) (h2:v ∉ L->Q .absent s):wpAny (model prog w) A (setScan a (.int ((v:Nat):Int) tk) ((v:Nat):Int) ad es) Q E s:=by
 have hf:t.fits es.size=true:=by rw [hE.len]; exact T.fits
 have sc:=wpAny_setScan_of (prog:=prog) (w:=w) (A:=A) (E:=E) (s:=s) (knd:=intKind prog w) (k:=((v:Nat):Int)) (x:=.int ((v:Nat):Int) tk) (adding:=ad) (Q:=Q) (by simp [intKind,Value.isInt]) ho rfl hf (hE.elems T.lt) (by
  have q:=hE.find v
  have e:(λ e:Int × Value=>(intKind prog w).is ((v:Nat):Int) e.2)=λ e=>Value.isInt ((v:Nat):Int) e.2:=rfl
  rw [e]
  cases c:es.toList.findIdx? (λ e=>Value.isInt ((v:Nat):Int) e.2) with
  | none=>rw [c] at q; exact h2 (of_decide_eq_false q.symm)
  | some j=>rw [c] at q; exact h1 (of_decide_eq_true q.symm) _)
 have e:(intKind prog w).hash ((v:Nat):Int)=((v:Nat):Int):=c1G v hv
 rw [e] at sc
 exact sc
theorem a6Y {h:Heap} {es es':Array (Int × Value)} {ep:Nat} {t t':SetTable} (ho:h.get? a=some (setO es ep t)):(h.update a (Obj.putSet es' t')).get? a=some (setO es' (ep+1) t'):=by
 have:=Heap.get?_update_self (Obj.putSet es' t') ho (by rw [putSet_of es' t' rfl]; rfl)
 rw [putSet_of es' t' rfl] at this
 exact this
theorem c8O (prog:Program) (w:World) {es:Array (Int × Value)} {t:SetTable} {v tk:Nat} (hE:Es es L) (T:Tb B t L):byScan (.int ((v:Nat):Int) tk) es=true :=
 byScan_of (knd:=intKind prog w) rfl (by rw [hE.len]; have:=T.len; unfold scanBound; omega) (hE.elems T.lt)
theorem c7G {v tk:Nat} {Q:Bool->Shared->Prop} (S:SetAt B s.heap a L) (hv:v < 16)
  (h:∀ b h' L',Heap.SameBut a s.heap h'->SetAt B h' a L'->(∀ u,u∈L'↔u=v\/u∈L)->(Dense s.heap a->Dense h' a)->Q b { s with heap:=h' }) :
  wpAny (model prog w) A (setAddHashed a (.int ((v:Nat):Int) tk) ((v:Nat):Int)) Q E s:=by
 obtain ⟨es,ep,t,ho,hE,T⟩:=S
 have hf:t.fits es.size=true:=by rw [hE.len]; exact T.fits
 unfold setAddHashed setAddHashedIn
 refine wpAny_holding (wpAny_bind (wpAny_setState_of ho rfl hf ?_))
 dsimp only
 rw [c8O prog w hE T]
 simp only [↓reduceIte]
 unfold setAddByScan
 refine wpAny_bind ?_
 refine wpAny_bind (wpAny_rule ?_)
 refine wpAny_bind (c8N ho hE T hv (λ hm j=>?_) λ hm=>?_)
 ·dsimp only
  refine wpAny_pure (wpAny_pure ?_)
  have q:=h false s.heap L (Heap.SameBut.refl a s.heap) ⟨es,ep,t,ho,hE,T⟩ (λ u=>⟨.inr,λ c=>c.elim (λ e=>e ▸ hm) id⟩) id
  exact q
 ·dsimp only
  obtain ⟨t1,es1,p,e1,hE1,dm,pl,ld,mk,_,_,up,sz,own⟩:=d2B (x:=.int ((v:Nat):Int) tk) T hE hv hm ⟨tk,rfl⟩
  rw [e1]
  dsimp only
  refine wpAny_bind (wpAny_pure ?_)
  rw [pl]
  refine wpAny_bind (wpAny_pure ?_)
  simp only [↓reduceIte]
  have mem:∀ u,u∈L.take p++v::L.drop p↔u=v\/u∈L:=λ u=>by
   rw [List.mem_append,List.mem_cons]
   have e:u∈L↔u∈L.take p\/u∈L.drop p:=by rw [<- List.mem_append,List.take_append_drop]
   rw [e]
   constructor
   ·rintro (c | c | c)
    ·exact .inr (.inl c)
    ·exact .inl c
    ·exact .inr (.inr c)
   ·rintro (c | c | c)
    ·exact .inr (.inl c)
    ·exact .inl c
    ·exact .inr (.inr c)
  have nd1:(L.take p++v::L.drop p).Nodup:=by
   have pm:(L.take p++v::L.drop p).Perm (v::L):=by
    have:L.take p++L.drop p=L:=List.take_append_drop p L
    exact List.perm_middle.trans (by rw [this])
   exact pm.nodup_iff.mpr (List.nodup_cons.mpr ⟨hm,T.nd⟩)
  have lt1:∀ u∈L.take p++v::L.drop p,u < 16:=λ u hu=>((mem u).mp hu).elim (λ e=>e ▸ hv) (T.lt u)
  have ln1:(L.take p++v::L.drop p).length=L.length+1:=by
   rw [List.length_append,List.length_cons,List.length_take,List.length_drop]; omega
  have fl:t1.fill=L.length+1:=by unfold SetTable.fill; rw [dm,sz]; rfl
  have l16:=T.len
  have z1:es1.size=L.length+1:=by rw [hE1.len,ln1]
  refine wpAny_bind (wpAny_storeSet_of ho rfl ?_ (by rw [z1,sizeLine_eq]; omega))
  have ho1:=a6Y (es':=es1) (t':=t1) ho
  cases tf:t1.tooFull with
  | false =>
   simp only [Bool.not_false,Bool.and_false,Bool.false_eq_true,if_false]
   refine wpAny_pure (wpAny_pure ?_)
   refine h true _ _ (Heap.SameBut.update ..) ⟨es1,ep+1,t1,ho1,hE1,⟨dm,pl,ld,up,by rw [ln1,sz],nd1,lt1,?_⟩⟩ mem (λ ⟨es0,ep0,t0,ho0,d⟩=>⟨es1,ep+1,t1,ho1,by
    rw [ho] at ho0; cases ho0
    rw [mk,z1]; have:=hE.len; omega⟩)
   unfold SetTable.tooFull at tf
   have tf':=of_decide_eq_false tf
   rw [fl,mk] at tf'
   rw [ln1,mk]
   rcases T.sh with ⟨m7,l4⟩ | ⟨m15,pe,_⟩
   ·refine .inl ⟨m7,by omega⟩
   ·exact .inr ⟨m15,own m15,by omega⟩
  | true =>
   simp only [Bool.not_false,Bool.and_self,if_true]
   unfold SetTable.tooFull at tf
   have tf':=of_decide_eq_true tf
   rw [fl,mk] at tf'
   have five:5<=L.length+1:=by
    rcases T.sh with ⟨m7,l4⟩ | ⟨m15,pe,_⟩ <;> omega
   have gr:SetTable.grown es1.size=(L.length+1)*4:=by
    unfold SetTable.grown
    rw [z1,if_neg (by omega)]
   obtain ⟨es2,t2,L2,e2,hE2,T2,pm⟩:=c4S (t:=t1) (n:=SetTable.grown es1.size) pl ld hE1 nd1 lt1 (by rw [gr]; omega) (by rw [gr,ln1]; omega) (by rw [gr]; omega)
   rw [e2]
   dsimp only
   refine wpAny_bind (wpAny_pure ?_)
   refine wpAny_bind (wpAny_storeSet_of ho1 rfl ?_ (by rw [hE2.len,pm.length_eq,ln1,sizeLine_eq]; omega))
   refine wpAny_pure (wpAny_pure ?_)
   exact h true _ L2 ((Heap.SameBut.update ..).trans (Heap.SameBut.update ..)) ⟨es2,_,t2,a6Y ho1,hE2,T2⟩ (λ u=>(pm.mem_iff).trans (mem u)) λ _=>⟨es2,_,t2,a6Y ho1,.inr (by rw [hE2.len,pm.length_eq,ln1]; exact five)⟩
end
end Sm
set_option maxHeartbeats 2000000
namespace Sm
open PySem
abbrev byT (w:World):Bool:=w.params.followText "set-order"
theorem b0D {α:Type}:∀ (l:List α) (i:Nat) (h:i < l.length),(l[i]::l.eraseIdx i).Perm l
 | _::r,0,_=>.refl _
 | x::r,i+1,h=>by
  have q:=b0D r i (by simpa using h)
  rw [List.getElem_cons_succ,List.eraseIdx_cons_succ]
  exact (List.Perm.swap x (r[i]'(by simpa using h)) (r.eraseIdx i)).trans (q.cons x)
theorem c8P {α:Type} (nx:Nat->Nat):∀ (fuel k:Nat) (left:List α) (out:Array α),left.length<=fuel->(pickOrder.go nx fuel k left out).toList.Perm (out.toList++left):=by
 intro fuel
 induction fuel with
 | zero =>
  intro k left out h
  have:left=[]:=List.length_eq_zero_iff.mp (by omega)
  subst this
  unfold pickOrder.go
  simp
 | succ f ih =>
  intro k left out h
  unfold pickOrder.go
  by_cases c:left=[]
  ·subst c; simp
  ·have pos:0 < left.length:=List.length_pos_iff.mpr c
   have lt:=Nat.mod_lt (nx k) pos
   rw [List.getElem?_eq_getElem lt]
   dsimp only
   refine (ih (k+1) _ _ (by rw [List.length_eraseIdx]; split <;> omega)).trans ?_
   rw [Array.toList_push,List.append_assoc]
   exact List.Perm.append_left _ (b0D left _ lt)
theorem b3D {α:Type} (nx:Nat->Nat) (xs:Array α):(pickOrder nx xs).toList.Perm xs.toList:=by
 have:=c8P nx xs.size 0 xs.toList #[] (by simp)
 unfold pickOrder
 simpa using this
theorem c1H (a:Addr):setWalk a=(do
 let (xs,c,tb) <- setState a
 if <- setsByText then
  let q <- ask
  return pickOrder (q.params.setOrder a c) xs
 if !tb.plain && xs.size > 1 then return (<- drawOrder xs.size xs.toList).toArray
 (do if !tb.led && xs.size > 1 then unsupported "set:maker-not-led" : Sem Unit)
 return xs):=rfl
theorem Es.perm {es:Array (Int × Value)} {L:List Nat} (h:Es es L) {es':List (Int × Value)} (p:es'.Perm es.toList):∃ L',Paired (λ e v=>e.1=((v:Nat):Int)/\∃ tk,e.2=Value.int ((v:Nat):Int) tk) es' L'/\L'.Perm L:=by
 refine ⟨es'.map λ e=>e.1.toNat,?_,?_⟩
 ·have all:∀ e∈es.toList,∃ v:Nat,e.1=((v:Nat):Int)/\∃ tk,e.2=Value.int ((v:Nat):Int) tk:=by
   unfold Es at h
   generalize es.toList=l at h
   clear p
   induction h with
   | nil=>intro e he; simp at he
   | cons r _ ih =>
    intro e he
    rcases List.mem_cons.mp he with rfl | he
    ·exact ⟨_,r⟩
    ·exact ih e he
  have all':∀ e∈es',∃ v:Nat,e.1=((v:Nat):Int)/\∃ tk,e.2=Value.int ((v:Nat):Int) tk:=λ e he=>all e (p.mem_iff.mp he)
  clear p
  induction es' with
  | nil=>exact .nil
  | cons e r ih =>
   obtain ⟨v,e1,e2⟩:=all' e List.mem_cons_self
   rw [List.map_cons]
   refine .cons ?_ (ih λ x hx=>all' x (List.mem_cons_of_mem _ hx))
   rw [e1]
   exact ⟨rfl,e2⟩
 ·refine (p.map λ e=>e.1.toNat).trans ?_
  unfold Es at h
  generalize es.toList=l at h
  have:l.map (λ e=>e.1.toNat)=L:=by
   induction h with
   | nil=>rfl
   | cons r _ ih=>rw [List.map_cons,ih,r.1]; rfl
  rw [this]
section
variable {prog:Program} {w:World} {A:Around} {E:Value->Shared->Prop} {s:Shared} {a:Addr} {L:List Nat}
theorem a2A {es:Array (Int × Value)} {ep:Nat} {t:SetTable} {B:Bool} {Q:(Array (Int × Value) × Nat × SetTable)->Shared->Prop} (ho:s.heap.get? a=some (setO es ep t)) (hE:Es es L) (T:Tb B t L) (h:Q (es,ep,t) s) :
  wpAny (model prog w) A (setState a) Q E s:=wpAny_setState_of ho rfl (by rw [hE.len]; exact T.fits) h
theorem a3Z {Q:Bool->Shared->Prop} (h:Q (byT w) s):wpAny (model prog w) A setsByText Q E s:=by
 unfold setsByText
 exact wpAny_bind (wpAny_askSetting (wpAny_pure h))
theorem c8Q {es:Array (Int × Value)} {ep:Nat} {t:SetTable} {Q:Array (Int × Value)->Shared->Prop} (ho:s.heap.get? a=some (setO es ep t)) (hE:Es es L) (T:Tb (byT w) t L)
  (h:∀ es',es'.toList.Perm es.toList->Q es' s):wpAny (model prog w) A (setWalk a) Q E s:=by
 rw [c1H]
 refine wpAny_bind (a2A ho hE T ?_)
 refine wpAny_bind (a3Z ?_)
 have pl:=T.pl
 have ld:=T.led
 cases c:byT w with
 | true =>
  simp only [if_true]
  exact wpAny_bind (wpAny_askSetting (wpAny_pure (h _ (b3D _ _))))
 | false =>
  rw [c] at ld
  simp only [pl,ld,Bool.not_true,Bool.not_false,Bool.false_and,Bool.false_eq_true,if_false]
  first | exact wpAny_bind (wpAny_pure (wpAny_pure (h _ .rfl))) | exact wpAny_pure (h _ .rfl)
theorem c1I {es:Array (Int × Value)} {ep:Nat} {t:SetTable} {others:List Addr} {f:Option Addr} {Q:Array (Int × Value)->Shared->Prop} (ho:s.heap.get? a=some (setO es ep t)) (hE:Es es L) (T:Tb (byT w) t L)
  (h:∀ es',es'.toList.Perm es.toList->Q es' s):wpAny (model prog w) A (setWalkUnseen a others f) Q E s:=by
 unfold setWalkUnseen
 refine wpAny_bind (a2A ho hE T ?_)
 refine wpAny_bind (a3Z ?_)
 have e:(byT w || (t.led && t.plain) || decide (es.size<=1))=true:=by rw [T.led,T.pl]; cases byT w <;> rfl
 dsimp only
 rw [if_pos e]
 exact c8Q ho hE T h
def c4T (es:Array (Int × Value)) (laid:Option (SetTable × Array Nat)):Sem (Array (Int × Value) × SetTable):=do
 let some (t,order):=laid
  | unsupported "internal:set-table-without-room"
 if (order.filterMap (es[·]?)).size != es.size then unsupported "internal:set-table-lost-an-element"
 pure (order.filterMap (es[·]?),t)
theorem c4U (a:Addr) (n:Nat):setRelay a n=(do
 let (es,_,t) <- setState a
 if SetTable.sizeAbove n > sizeLine then unsupported "set:memory"
 let (es,t) <- c4T es (t.relaid (es.map (·.1)) n)
 storeSet a es t):=rfl
theorem b6L {es:Array (Int × Value)} {t:SetTable} {order:Array Nat} {S:List Nat} {Q:Array (Int × Value) × SetTable->Shared->Prop} (hE':Es (order.filterMap (es[·]?)) S) (hz:es.size=S.length) (h:Q (order.filterMap (es[·]?),t) s) :
  wpAny (model prog w) A (c4T es (some (t,order))) Q E s:=by
 unfold c4T
 dsimp only
 have e:((order.filterMap (es[·]?)).size != es.size)=false:=by rw [hE'.len,hz]; simp
 simp only [e,Bool.false_eq_true,if_false]
 first | exact wpAny_bind (wpAny_pure (wpAny_pure h)) | exact wpAny_pure h
theorem c4V {n:Nat} (h:n<=64):SetTable.sizeAbove n<=128:=by
 have:∀ n,n<=64->SetTable.sizeAbove n<=128:=by decide +kernel
 exact this n h
theorem c8R {more:Nat} {Q:Unit->Shared->Prop} {B:Bool} (S:SetAt B s.heap a L) (hm:more<=16)
  (h:∀ h' es ep t L',Heap.SameBut a s.heap h'->h'.get? a=some (setO es ep t)->Es es L'->Tb B t L'->L'.Perm L->(L.length+more)*5 < t.mask*3->Q () { s with heap:=h' }):wpAny (model prog w) A (setRoomFor a more) Q E s:=by
 obtain ⟨es,ep,t,ho,hE,T⟩:=S
 unfold setRoomFor
 refine wpAny_bind (a2A ho hE T ?_)
 have fl:t.fill=L.length:=by unfold SetTable.fill; rw [T.dm,T.sz]; rfl
 have l16:=T.len
 unfold SetTable.roomFor
 dsimp only
 rw [fl,T.sz]
 by_cases c:(L.length+more)*5 ≥ t.mask*3
 ·rw [if_pos c]
  dsimp only
  rw [c4U]
  refine wpAny_bind (a2A ho hE T ?_)
  have five:5<=L.length+more:=by
   rcases T.sh with ⟨m7,_⟩ | ⟨m15,_,_⟩ <;> omega
  have b1:=a7G (n:=(L.length+more)*2) (by omega)
  have b2:=a7H (n:=(L.length+more)*2) (by omega)
  have b3:=c4V (n:=(L.length+more)*2) (by omega)
  dsimp only
  rw [if_neg (by rw [sizeLine_eq]; omega)]
  have hm':15<=SetTable.sizeAbove ((L.length+more)*2) - 1:=by omega
  obtain ⟨order,e,hE',hc⟩:=b5F (f:=t.finger) (mv:=t.movedTo (SetTable.sizeAbove ((L.length+more)*2) - 1)) (led:=t.led) (plain:=t.plain) hm' hE T.nd T.lt
  unfold SetTable.relaid
  rw [e]
  have lz:=c1F T.lt hm' T.nd
  refine wpAny_bind (b6L hE' (by rw [hE.len,lz]) ?_)
  refine wpAny_storeSet_of ho rfl ?_ (by rw [hE'.len,lz,sizeLine_eq]; omega)
  have T':=b5G (B:=B) (f:=t.finger) (mv:=t.movedTo (SetTable.sizeAbove ((L.length+more)*2) - 1)) hm' T.nd T.lt (by omega)
  rw [<- T.led,<- T.pl] at T'
  exact h _ _ _ _ _ (Heap.SameBut.update ..) (a6Y ho) hE' T' (a6A (λ v hv=>by have:=T.lt v hv; omega) T.nd) (by show _ < (SetTable.sizeAbove ((L.length+more)*2) - 1)*3; omega)
 ·rw [if_neg c]
  refine wpAny_pure ?_
  exact h s.heap es ep t L (Heap.SameBut.refl a s.heap) ho hE T .rfl (by omega)
end
end Sm
set_option maxHeartbeats 2000000
namespace Sm
open PySem
theorem c4W (sA oA:Addr) (each:Sem Unit):setMerge sA oA each=(do
 if sA == oA then return
 let (eo,epoch,to) <- setState oA
 if eo.isEmpty then return
 setRoomFor sA eo.size
 let (_,_,ts) <- setState sA
 match ts.road to with
 | .slotForSlot =>
  storeSet sA eo { to with finger:=ts.finger,led:=ts.led && to.led,moves:=ts.moves,plain:=ts.plain && to.plain }
 | .clean =>
  let (es,t) <- c4T eo (SetTable.laid ts.mask ts.finger ts.moves (ts.led && to.led) (ts.plain && to.plain) (eo.map (·.1)))
  storeSet sA es t
 | .oneByOne =>
  for (h,x) in <- setWalkUnseen oA [sA] (some sA) do
   let _ <- holding [x] (setAddHashed sA x h)
   each
   if (<- setState oA).2.1 != epoch then unsupported "set.changed-during-merge"):=rfl
section
variable {prog:Program} {w:World} {A:Around} {E:Value->Shared->Prop} {s:Shared} {sA oA:Addr} {L1 L2:List Nat}
theorem b6M {each:Sem Unit} {Q:Unit->Shared->Prop} (ne:sA≠oA) (S1:SetAt (byT w) s.heap sA L1) (S2:SetAt (byT w) s.heap oA L2) (D:Dense s.heap oA)
  (he:∀ (s':Shared) (Q':Unit->Shared->Prop),(∀ o,s.heap.get? oA=some o->s'.heap.get? oA=some o)->Q' () s'->wpAny (model prog w) A each Q' E s')
  (h:∀ h' L,Heap.SameBut sA s.heap h'->SetAt (byT w) h' sA L->(∀ u,u∈L↔u∈L1\/u∈L2)->Q () { s with heap:=h' }):wpAny (model prog w) A (setMerge sA oA each) Q E s:=by
 obtain ⟨eo,ep,to,ho,hE,T⟩:=S2
 rw [c4W]
 have nb:(sA == oA)=false:=beq_eq_false_iff_ne.mpr ne
 rw [nb]
 simp only [Bool.false_eq_true,if_false]
 refine wpAny_bind (a2A ho hE T ?_)
 dsimp only
 have hz:=hE.len
 have l16:=T.len
 by_cases c:eo.isEmpty=true
 ·rw [if_pos c]
  have l0:L2.length=0:=by rw [<- hz]; simpa using c
  have:L2=[]:=List.length_eq_zero_iff.mp l0
  subst this
  exact wpAny_pure (h s.heap L1 (Heap.SameBut.refl _ _) S1 λ u=>by simp)
 rw [if_neg c]
 refine wpAny_bind (c8R S1 (by omega) λ h1 es1 ep1 t1 L1' sb1 ho1 hE1 T1 pm hr=>?_)
 have ho':h1.get? oA=some (setO eo ep to):=by rw [sb1.2 oA (Ne.symm ne)]; exact ho
 refine wpAny_bind (a2A (s:={ s with heap:=h1 }) ho1 hE1 T1 ?_)
 dsimp only
 have fl:t1.fill=L1'.length:=by unfold SetTable.fill; rw [T1.dm,T1.sz]; rfl
 unfold SetTable.road
 rw [fl,pm.length_eq]
 have ld:(t1.led && to.led) = !byT w:=by rw [T1.led,T.led]; simp
 have pl:(t1.plain && to.plain)=true:=by rw [T1.pl,T.pl]; rfl
 by_cases e0:L1.length=0
 ·have n1:L1=[]:=List.length_eq_zero_iff.mp e0
  have nb:(L1.length != 0)=false:=by rw [e0]; rfl
  rw [nb]
  simp only [Bool.false_eq_true,if_false]
  have dmt:to.dummies.isEmpty=true:=by rw [T.dm]; rfl
  by_cases em:t1.mask=to.mask
  ·have:(t1.mask == to.mask && to.dummies.isEmpty)=true:=by rw [em,dmt]; simp
   rw [this]
   simp only [if_true]
   refine wpAny_storeSet_of (s:={ s with heap:=h1 }) ho1 rfl ?_ (by rw [hz,sizeLine_eq]; omega)
   refine h _ L2 (sb1.trans (Heap.SameBut.update ..)) ⟨eo,_,_,a6Y ho1,hE,⟨T.dm,pl,ld,T.up,T.sz,T.nd,T.lt,T.sh⟩⟩ λ u=>by rw [n1]; simp
  ·have:(t1.mask == to.mask && to.dummies.isEmpty)=false:=by rw [beq_eq_false_iff_ne.mpr em]; rfl
   rw [this]
   simp only [Bool.false_eq_true,if_false]
   have m15:15<=t1.mask:=by
    obtain ⟨es0,ep0,t0,ho0,d⟩:=D
    rw [ho] at ho0
    cases ho0
    rcases T1.sh with ⟨m7,_⟩ | ⟨m15,_⟩
    ·rw [m7] at hr
     rcases d with d | d
     ·exact absurd (m7.trans d.symm) em
     ·rw [hz] at hr; omega
    ·exact m15
   obtain ⟨order,e,hE',hc⟩:=b5F (f:=t1.finger) (mv:=t1.moves) (led:=t1.led && to.led) (plain:=t1.plain && to.plain) m15 hE T.nd T.lt
   rw [e]
   have lz:=c1F T.lt m15 T.nd
   refine wpAny_bind (b6L hE' (by rw [hz,lz]) ?_)
   refine wpAny_storeSet_of (s:={ s with heap:=h1 }) ho1 rfl ?_ (by rw [hE'.len,lz,sizeLine_eq]; omega)
   have T':=b5G (B:=byT w) (f:=t1.finger) (mv:=t1.moves) m15 T.nd T.lt (by rw [hz] at hr; omega)
   rw [<- ld,<- pl] at T'
   refine h _ _ (sb1.trans (Heap.SameBut.update ..)) ⟨_,_,_,a6Y ho1,hE',?_⟩ λ u=>?_
   ·rw [ld] at T' ⊢
    exact T'
   ·rw [n1,a8B (λ v hv=>by have:=T.lt v hv; omega)]; simp
 ·have nb:(L1.length != 0)=true:=by simp [e0]
  rw [nb]
  simp only [if_true]
  refine wpAny_bind (c1I (s:={ s with heap:=h1 }) ho' hE T λ es' pe=>?_)
  obtain ⟨R,hR,pR⟩:=hE.perm pe
  refine wpAny_bind ?_
  rw [<- Array.forIn_toList]
  refine wpAny_forIn_list _ (λ rest _ s'=>∃ h' L R,s'={ s with heap:=h' }/\Heap.SameBut sA s.heap h'/\SetAt (byT w) h' sA L/\Paired (λ (e:Int × Value) (v:Nat)=>e.1=((v:Nat):Int)/\∃ tk,e.2=Value.int ((v:Nat):Int) tk) rest R /\
   (∀ v∈R,v < 16)/\∀ u,(u∈L\/u∈R)↔(u∈L1\/u∈L2)) _ ?_ ?_ _ _ ⟨h1,L1',R,rfl,sb1,⟨es1,ep1,t1,ho1,hE1,T1⟩,hR,λ v hv=>T.lt v (pR.mem_iff.mp hv),λ u=>by rw [pm.mem_iff,pR.mem_iff]⟩
  ·rintro ⟨hh,x⟩ rest b s' ⟨h',L,R',rfl,sb,S,hP,lt,mem⟩
   cases hP with
   | @cons _ v _ R'' r t =>
    obtain ⟨e1,tk,e2⟩:=r
    dsimp only at e1 e2
    subst e1; subst e2
    dsimp only
    refine wpAny_bind (wpAny_holding (c7G (s:={ s with heap:=h' }) S (lt v List.mem_cons_self) λ b2 h2 L' sb2 S' mem' _=>?_))
    have sb3:=sb.trans sb2
    have oo:h2.get? oA=some (setO eo ep to):=by rw [sb3.2 oA (Ne.symm ne)]; exact ho
    refine wpAny_bind (he _ _ (λ o q=>by rw [ho] at q; cases q; exact oo) ?_)
    refine wpAny_bind (a2A (s:={ s with heap:=h2 }) oo hE T ?_)
    simp only [bne_self_eq_false,Bool.false_eq_true,if_false]
    refine wpAny_pure ⟨h2,L',R'',rfl,sb3,S',t,λ u hu=>lt u (List.mem_cons_of_mem _ hu),λ u=>?_⟩
    rw [mem' u,<- mem u,List.mem_cons]
    constructor
    ·rintro ((q | q) | q)
     ·exact .inr (.inl q)
     ·exact .inl q
     ·exact .inr (.inr q)
    ·rintro (q | q | q)
     ·exact .inl (.inr q)
     ·exact .inl (.inl q)
     ·exact .inr q
  ·rintro b s' ⟨h',L,R',rfl,sb,S,hP,lt,mem⟩
   cases hP
   exact wpAny_pure (h h' L sb S λ u=>by rw [<- mem u]; simp)
end
end Sm
set_option maxHeartbeats 2000000
namespace Sm
open PySem PySem.Builtin.Frozenset
theorem c1J:isSubtype (.type "set") (.type "set")=pure true:=by rw [isSubtype_type]; kernel_rfl
theorem c4X:entryFor table "set.__or__" = some Builtin.«frozenset.__or__» := entryFor_alias (id':="frozenset.__or__") (by kernel_rfl) rfl (by decide +kernel) (by kernel_rfl)
theorem b8L:entryFor table "set.__iter__" = some Builtin.«frozenset.__iter__» := entryFor_alias (id':="frozenset.__iter__") (by kernel_rfl) rfl (by decide +kernel) (by kernel_rfl)
def b6N (id:String) (l:Addr) (r:Value):Sem Value:=do
 let result <- copyOf l
 if r != .ref l then
  let q <- addrOf result
  holding [result] (updateFrom id q r)
 return result
theorem d4Q (x y:Value):Builtin.«frozenset.__or__» ⟨[x,y],[]⟩=(do
 let (self,other) <- slot1 "__or__" ⟨[x,y],[]⟩
 if !(<- isAnySet self <&&> isAnySet other) then
  rule s!"frozenset.{"__or__"}.declined"
  return <- ret .notImplemented
 ret (<- b6N s!"frozenset.{"__or__"}" (<- addrOf self) other)):=rfl
section
variable {prog:Program} {w:World} {A:Around} {E:Value->Shared->Prop} {s:Shared} {a b:Addr} {L1 L2:List Nat}
theorem b6O (B:Bool):Tb B (.fresh 0 0 (!B)) []:=⟨rfl,rfl,rfl,.nil,rfl,.nil,λ v h=>by simp at h,.inl ⟨rfl,by simp⟩⟩
theorem d2D {Q:Value->Shared->Prop} (h:Q (.ref s.heap.objs.size) { s with heap:=s.heap.push (setO #[] 0 (.fresh 0 0 (!byT w))) }):wpAny (model prog w) A (newSet (.type "set")) Q E s:=by
 unfold newSet
 refine wpAny_bind (a3Z ?_)
 dsimp only
 simp only [newObj]
 exact wpAny_bind (wpAny_alloc (wpAny_pure h))
theorem SetAt.type {B:Bool} (S:SetAt B s.heap a L1):s.TypeIs (.ref a) "set" := let ⟨_,_,_,ho,_⟩:=S; ⟨_,ho,rfl⟩
theorem c1K {B:Bool} {Q:Bool->Shared->Prop} (S:SetAt B s.heap a L1) (h:Q true s):wpAny (model prog w) A (isAnySet (.ref a)) Q E s:=by
 unfold isAnySet orM
 refine wpAny_bind (wpAny_isInstance S.type c1J ?_)
 exact wpAny_pure h
theorem c8S {Q:Value->Shared->Prop} (S:SetAt (byT w) s.heap a L1) (D:Dense s.heap a)
  (h:∀ h' L,(∀ b o,s.heap.get? b=some o->h'.get? b=some o)->SetAt (byT w) h' s.heap.objs.size L->(∀ u,u∈L↔u∈L1)->Q (.ref s.heap.objs.size) { s with heap:=h' }):wpAny (model prog w) A (copyOf a) Q E s:=by
 unfold copyOf baseOf
 refine wpAny_bind (wpAny_bind (wpAny_isInstance S.type c1J (wpAny_pure ?_)))
 simp only [if_true]
 refine wpAny_bind (d2D ?_)
 show wpAny _ _ (do setMerge s.heap.objs.size a; pure (Value.ref s.heap.objs.size)) _ _ _
 have lt:a < s.heap.objs.size:=by
  obtain ⟨_,_,_,ho,_⟩:=S
  exact Heap.lt_size ho
 have k:∀ b o,s.heap.get? b=some o->(s.heap.push (setO #[] 0 (.fresh 0 0 (!byT w)))).get? b=some o:=λ b o e=>Heap.get?_push_of_some _ e
 refine wpAny_bind (b6M (s:={ s with heap:=s.heap.push (setO #[] 0 (.fresh 0 0 (!byT w))) }) (L1:=[]) (Nat.ne_of_gt lt) ⟨#[],0,_,Heap.get?_push_size _ rfl,.nil,b6O _⟩ (S.keep (k a)) (D.keep (k a)) (λ s' Q' _ q=>wpAny_pure q) λ h' L sb S' mem=>?_)
 refine wpAny_pure (h h' L (λ b o e=>?_) S' λ u=>by rw [mem u]; simp)
 have lb:=Heap.lt_size e
 rw [sb.2 b (Nat.ne_of_lt lb)]
 exact k b o e
theorem b1J {es:Array (Int × Value)} {ep:Nat} {t:SetTable} {B:Bool} {Q:Nat->Shared->Prop} (ho:s.heap.get? a=some (setO es ep t)) (hE:Es es L1) (T:Tb B t L1) (h:Q ep s):wpAny (model prog w) A (setEpoch a) Q E s :=
 wpAny_setEpoch_of ho rfl (by rw [hE.len]; exact T.fits) h
theorem c4Y {id:String} {Q:Value->Shared->Prop} (ne:a≠b) (S1:SetAt (byT w) s.heap a L1) (D1:Dense s.heap a) (S2:SetAt (byT w) s.heap b L2) (D2:Dense s.heap b)
  (h:∀ h' L,(∀ b o,s.heap.get? b=some o->h'.get? b=some o)->SetAt (byT w) h' s.heap.objs.size L->(∀ u,u∈L↔u∈L1\/u∈L2)->Q (.ref s.heap.objs.size) { s with heap:=h' }) :
  wpAny (model prog w) A (b6N id a (.ref b)) Q E s:=by
 unfold b6N
 refine wpAny_bind (c8S S1 D1 λ h1 L k S mem=>?_)
 have nb:(Value.ref b != Value.ref a)=true:=by simp [Ne.symm ne]
 rw [nb]
 simp only [if_true]
 have S2':=S2.keep (k b)
 have D2':=D2.keep (k b)
 have lt:b < s.heap.objs.size:=by
  obtain ⟨_,_,_,ho,_⟩:=S2
  exact Heap.lt_size ho
 have S2c:=S2'
 obtain ⟨es,ep,t,ho,hE,T⟩:=S2c
 show wpAny _ _ (holding [Value.ref s.heap.objs.size] (updateFrom id s.heap.objs.size (.ref b)) >>= λ _=>pure (Value.ref s.heap.objs.size)) _ _ _
 refine wpAny_bind (wpAny_holding ?_)
 unfold updateFrom
 refine wpAny_bind (c1K (s:={ s with heap:=h1 }) S2' ?_)
 simp only [if_true]
 show wpAny _ _ (merge id s.heap.objs.size b) _ _ _
 unfold merge
 refine wpAny_bind (b1J (s:={ s with heap:=h1 }) ho hE T ?_)
 refine b6M (s:={ s with heap:=h1 }) (Nat.ne_of_gt lt) S S2' D2' (λ s' Q' ks q=>?_) λ h' L' sb S' mem'=>?_
 ·unfold unchanged
  refine wpAny_bind (b1J (s:=s') (ks _ ho) hE T ?_)
  simp only [bne_self_eq_false,Bool.false_eq_true,if_false]
  exact wpAny_pure q
 ·refine wpAny_pure (h h' L' (λ c o e=>?_) S' λ u=>by rw [mem' u,mem u])
  rw [sb.2 c (Nat.ne_of_lt (Heap.lt_size e))]
  exact k c o e
theorem d4R {Q:Value->Shared->Prop} (ne:a≠b) (S1:SetAt (byT w) s.heap a L1) (D1:Dense s.heap a) (S2:SetAt (byT w) s.heap b L2) (D2:Dense s.heap b)
  (h:∀ h' L,(∀ b o,s.heap.get? b=some o->h'.get? b=some o)->SetAt (byT w) h' s.heap.objs.size L->(∀ u,u∈L↔u∈L1\/u∈L2)->Q (.ref s.heap.objs.size) { s with heap:=h' }) :
  wpAny (model prog w) A (binaryOp .BitOr (.ref a) (.ref b)) Q E s:=by
 refine wpAny_binaryOp_same S1.type S2.type F.fills_set_or F.slot_set_or (wpAny_call_entry F.slot_set_or S1.type c4X ?_ (F.args_set_or_2 _ _))
 rw [d4Q]
 refine wpAny_bind (m:=slot1 "__or__" _) (wpAny_pure ?_)
 dsimp only
 unfold andM
 refine wpAny_bind (wpAny_bind (c1K S1 ?_))
 refine c1K S2 ?_
 simp only [Bool.not_true,Bool.false_eq_true,if_false]
 show wpAny _ _ (b6N _ a (.ref b) >>= λ v=>ret v) _ _ _
 refine wpAny_bind (c4Y ne S1 D1 S2 D2 λ h' L k S mem=>?_)
 exact wpAny_pure ⟨_,rfl,by simp,h h' L k S mem⟩
end
end Sm
set_option maxHeartbeats 4000000
namespace Sm
open PySem
theorem slot_si_next:Slot "set_iterator" "__next__" "set_iterator.__next__" := .of (owner:="set_iterator") (n:="__next__") (by rw [typeLookup_type,builtinLookup_eq_fast]; kernel_rfl) (by decide +kernel) (by decide +kernel) (by decide +kernel) (by first | exact .inl (by decide +kernel) | exact .inr (by decide +kernel)) (by rw [isSubtype_type]; kernel_rfl)
theorem a6B:entryFor table "set_iterator.__next__" = some Builtin.«set_iterator.__next__» := entryFor_of_fast (by kernel_rfl)
theorem a7I (a:Value):argsOk "set_iterator.__next__" ⟨[a],[]⟩:=by unfold argsOk; kernel_rfl
theorem a7J:Slot "set_iterator" "__iter__" "set_iterator.__iter__" := .of (owner:="set_iterator") (n:="__iter__") (by rw [typeLookup_type,builtinLookup_eq_fast]; kernel_rfl) (by decide +kernel) (by decide +kernel) (by decide +kernel) (by first | exact .inl (by decide +kernel) | exact .inr (by decide +kernel)) (by rw [isSubtype_type]; kernel_rfl)
theorem b3E (a:Value):argsOk "set_iterator.__iter__" ⟨[a],[]⟩:=by unfold argsOk; kernel_rfl
end Sm
set_option maxHeartbeats 4000000
namespace Sm
open PySem
theorem b1K:entryFor table "set_iterator.__iter__" = some Builtin.«dict_keyiterator.__iter__» := entryFor_alias (id':="dict_keyiterator.__iter__") (by kernel_rfl) rfl (by decide +kernel) (by kernel_rfl)
def a2J (w:World) (a:Addr) (ep:Nat) (es:Array (Int × Value)):Array (Int × Value):=if byT w=true then pickOrder (w.params.setOrder a ep) es else es
theorem a8U (w:World) (a:Addr) (ep:Nat) (es:Array (Int × Value)):(a2J w a ep es).toList.Perm es.toList:=by
 unfold a2J
 split
 ·exact b3D _ _
 ·exact .rfl
theorem a3I (w:World) (a:Addr) (ep:Nat) (es:Array (Int × Value)):(a2J w a ep es).size=es.size:=by
 have:=(a8U w a ep es).length_eq
 simpa using this
theorem c8T (a:Addr) (slot given epochThen:Nat):setNext a slot given epochThen=(do
 let (xs,c,tb) <- setState a
 if <- setsByText then
  if c != epochThen then
   unsupported "set_iterator.__next__:elements-changed"
  let zs <- setWalk a
  return (zs[given]?).map λ z=>(z.2,slot)
 if !tb.plain && xs.size > 1 then
  unsupported "set_iterator.__next__:the-table-is-plain-no-more"
 (do if !tb.led && !xs.isEmpty then unsupported "set:maker-not-led" : Sem Unit)
 return match xs[SetTable.below tb.place slot]?,tb.place[SetTable.below tb.place slot]? with
  | some (_,z),some m=>some (z,m+1)
  | _,_=>none):=rfl
def a3O (B:Bool) (t:SetTable) (i:Nat):Nat:=if B=true then 0 else if i=0 then 0 else t.place.getD (i - 1) 0+1
theorem b8M {B:Bool} {t:SetTable} {L:List Nat} (T:Tb B t L) (hB:B=false):∀ i,i<=L.length->SetTable.below t.place (a3O B t i)=i
 | 0,_=>by
  unfold a3O
  rw [hB]
  exact b8J T.up
 | k+1,h=>by
  unfold a3O
  rw [hB]
  have hk:k < t.place.size:=by rw [T.sz]; omega
  simp only [Bool.false_eq_true,if_false,Nat.add_sub_cancel]
  rw [if_neg (by omega)]
  have:t.place.getD k 0=t.place[k]:=by simp [Array.getD,hk]
  rw [this]
  exact b8K T.up hk
section
variable {prog:Program} {w:World} {A:Around} {E:Value->Shared->Prop} {s:Shared} {a:Addr} {L:List Nat}
theorem c8U {es:Array (Int × Value)} {ep:Nat} {t:SetTable} {Q:Array (Int × Value)->Shared->Prop} (ho:s.heap.get? a=some (setO es ep t)) (hE:Es es L) (T:Tb (byT w) t L)
  (h:Q (a2J w a ep es) s):wpAny (model prog w) A (setWalk a) Q E s:=by
 rw [c1H]
 refine wpAny_bind (a2A ho hE T ?_)
 refine wpAny_bind (a3Z ?_)
 have pl:=T.pl
 have ld:=T.led
 unfold a2J at h
 cases c:byT w with
 | true =>
  rw [c] at h
  simp only [if_true] at h ⊢
  exact wpAny_bind (wpAny_askSetting (wpAny_pure h))
 | false =>
  rw [c] at ld h
  simp only [pl,ld,Bool.not_true,Bool.not_false,Bool.false_and,Bool.false_eq_true,if_false] at h ⊢
  first | exact wpAny_bind (wpAny_pure (wpAny_pure h)) | exact wpAny_pure h
theorem b6P {es:Array (Int × Value)} {ep i:Nat} {t:SetTable} {Q:Option (Value × Nat)->Shared->Prop} (ho:s.heap.get? a=some (setO es ep t)) (hE:Es es L) (T:Tb (byT w) t L) (hi:i<=L.length)
  (h:Q (((a2J w a ep es)[i]?).map λ e=>(e.2,a3O (byT w) t (i+1))) s):wpAny (model prog w) A (setNext a (a3O (byT w) t i) i ep) Q E s:=by
 rw [c8T]
 refine wpAny_bind (a2A ho hE T ?_)
 refine wpAny_bind (a3Z ?_)
 have pl:=T.pl
 have ld:=T.led
 cases c:byT w with
 | true =>
  simp only [if_true,bne_self_eq_false,Bool.false_eq_true,if_false]
  refine wpAny_bind (c8U ho hE T (wpAny_pure ?_))
  rw [c] at h
  unfold a3O at h ⊢
  simp only [if_true] at h ⊢
  exact h
 | false =>
  rw [c] at ld h
  simp only [pl,ld,Bool.not_true,Bool.not_false,Bool.false_and,Bool.false_eq_true,if_false]
  have bs:=b8M T c i hi
  rw [c] at bs
  rw [bs]
  have wk:a2J w a ep es=es:=by unfold a2J; rw [c]; rfl
  rw [wk] at h
  have e:(match es[i]?,t.place[i]? with
   | some (_,z),some m=>some (z,m+1)
   | _,_=>none)=(es[i]?).map λ e=>(e.2,a3O false t (i+1)):=by
   by_cases q:i < L.length
   ·have h1:i < es.size:=by rw [hE.len]; exact q
    have h2:i < t.place.size:=by rw [T.sz]; exact q
    rw [Array.getElem?_eq_getElem h1,Array.getElem?_eq_getElem h2]
    unfold a3O
    simp [Array.getD,h2]
   ·have h1:es[i]?=none:=Array.getElem?_eq_none (by rw [hE.len]; omega)
    rw [h1]
    rfl
  first
  | exact wpAny_bind (wpAny_pure (wpAny_pure (by rw [e]; exact h)))
  | exact wpAny_pure (by rw [e]; exact h)
abbrev itO (sl i:Nat) (a:Addr) (n ep:Nat):Obj:={ cls:=.type "set_iterator", dict:=none,data:=.fields #[.int (sl:Nat) 0,.int (i:Nat) 0,.ref a,.int (n:Nat) 0,.int (ep:Nat) 0],slots:=#[] }
theorem c8V {I:Addr} {es:Array (Int × Value)} {ep i:Nat} {t:SetTable} {e:Int × Value} {Q:Option Value->Shared->Prop} (ne:a≠I) (ho:s.heap.get? a=some (setO es ep t)) (hE:Es es L) (T:Tb (byT w) t L)
  (hI:s.heap.get? I=some (itO (a3O (byT w) t i) i a L.length ep)) (hw:(a2J w a ep es)[i]?=some e)
  (h:∀ h',h'.get? I=some (itO (a3O (byT w) t (i+1)) (i+1) a L.length ep)->Heap.SameBut I s.heap h'->Q (some e.2) { s with heap:=h' }):wpAny (model prog w) A (pyNext (.ref I)) Q E s:=by
 have hi:i < L.length:=by
  rcases Nat.lt_or_ge i (a2J w a ep es).size with q | q
  ·rw [a3I,hE.len] at q; exact q
  ·rw [Array.getElem?_eq_none q] at hw; cases hw
 have hT:s.TypeIs (.ref I) "set_iterator" := ⟨_,hI,rfl⟩
 unfold pyNext
 refine wpAny_bind (wpAny_attempt (wpAny_callSpecial?_slot (name:=Str.ofString "__next__") hT slot_si_next (wpAny_call_entry slot_si_next hT a6B ?_ (a7I _))))
 unfold Builtin.«set_iterator.__next__»
 refine wpAny_bind (m:=slotArgs "__next__" 0 _) (wpAny_pure ?_)
 dsimp only
 refine wpAny_bind (wpAny_fieldsOf hI rfl ?_)
 dsimp only
 unfold setEntries
 refine wpAny_bind (wpAny_bind (a2A ho hE T (wpAny_pure ?_)))
 have z:(((es.size:Nat):Int) != ((L.length:Nat):Int))=false:=by rw [hE.len]; simp
 dsimp only
 rw [z]
 simp only [Bool.false_eq_true,if_false,Int.toNat_natCast]
 refine wpAny_bind (b6P ho hE T (by omega) ?_)
 rw [hw]
 dsimp only [Option.map]
 refine wpAny_bind (wpAny_setField_rec hI (by simp) λ h1 hI1 sb1=>?_)
 refine wpAny_bind (wpAny_setField_rec (s:={ s with heap:=h1 }) hI1 (by simp) λ h2 hI2 sb2=>?_)
 refine wpAny_pure ⟨_,rfl,wpAny_pure (h h2 ?_ (sb1.trans sb2))⟩
 rw [hI2]
 simp [rawInt]
theorem d2E {I:Addr} {es:Array (Int × Value)} {ep:Nat} {t:SetTable} {Q:Option Value->Shared->Prop} (hh:A.handled=none) (ne:a≠I) (ho:s.heap.get? a=some (setO es ep t)) (hE:Es es L) (T:Tb (byT w) t L)
  (hI:s.heap.get? I=some (itO (a3O (byT w) t L.length) L.length a L.length ep))
  (h:∀ h',Heap.ExtBut I s.heap h'->Q none { s with heap:=h' }):wpAny (model prog w) A (pyNext (.ref I)) Q E s:=by
 have hT:s.TypeIs (.ref I) "set_iterator" := ⟨_,hI,rfl⟩
 unfold pyNext
 refine wpAny_bind (wpAny_attempt (wpAny_callSpecial?_slot (name:=Str.ofString "__next__") hT slot_si_next (wpAny_call_entry slot_si_next hT a6B ?_ (a7I _))))
 unfold Builtin.«set_iterator.__next__»
 refine wpAny_bind (m:=slotArgs "__next__" 0 _) (wpAny_pure ?_)
 dsimp only
 refine wpAny_bind (wpAny_fieldsOf hI rfl ?_)
 dsimp only
 unfold setEntries
 refine wpAny_bind (wpAny_bind (a2A ho hE T (wpAny_pure ?_)))
 have z:(((es.size:Nat):Int) != ((L.length:Nat):Int))=false:=by rw [hE.len]; simp
 dsimp only
 rw [z]
 simp only [Bool.false_eq_true,if_false,Int.toNat_natCast]
 refine wpAny_bind (b6P ho hE T (by omega) ?_)
 rw [Array.getElem?_eq_none (by rw [a3I,hE.len]; exact Nat.le_refl _)]
 dsimp only [Option.map]
 refine wpAny_bind (wpAny_setField_rec hI (by simp) λ h1 hI1 sb1=>?_)
 refine wpAny_bind ?_
 simp only [newExc,newTuple]
 refine wpAny_bind (wpAny_newObj_type ?_ (by size_fits))
 refine wpAny_bind (m:=firstArgMember _ _) (wpAny_of_eq (a:=Value.none) (by first | rfl | (simp only [firstArgMember]; rfl)) ?_); refine wpAny_newObj_type ?_ (by size_fits)
 simp only [raiseNew]
 refine wpAny_bind (wpAny_handled ?_)
 rw [show A.in1.handled=none from hh]; refine wpAny_bind (wpAny_pure (wpAny_throw ?_))
 refine wpAny_bind (wpAny_isInstance (U:="StopIteration") (T:="StopIteration") (b:=true) ⟨_,Heap.get?_push_size _ rfl,rfl⟩ isSubtype_stop ?_)
 exact wpAny_pure (h _ ((sb1.extBut.push _).push _))
end
end Sm
set_option maxHeartbeats 4000000
namespace Sm
open PySem PyProof.Rows
section
variable {prog:Program} {w:World} {A:Around} {E:Value->Shared->Prop} {s:Shared} {a:Addr} {L:List Nat}
theorem d2F {I:Addr} {es:Array (Int × Value)} {ep:Nat} {t:SetTable} (hh:A.handled=none) (ne:a≠I) (hE:Es es L) (T:Tb (byT w) t L) :
  Walks prog w A I [I,a] [I] L.length (λ i v=>∃ e,(a2J w a ep es)[i]?=some e/\v=e.2)
   (λ i h=>h.get? I=some (itO (a3O (byT w) t i) i a L.length ep)/\h.get? a=some (setO es ep t)) where
 sub:=λ b hb=>by simp at hb; simp [hb]
 frame:=λ _ _ _ st hk=>⟨hk I (by simp) _ st.1,hk a (by simp) _ st.2⟩
 item:=λ i s Q E hi st hQ=>by
  obtain ⟨e,he⟩:∃ e,(a2J w a ep es)[i]?=some e:=⟨_,Array.getElem?_eq_getElem (by rw [a3I,hE.len]; exact hi)⟩
  refine c8V ne st.2 hE T st.1 he λ h' hI sb=>?_
  exact hQ _ h' s.toks ⟨e,he,rfl⟩ ⟨hI,by rw [sb.2 a ne]; exact st.2⟩ λ b o hb q=>by rw [sb.2 b (λ c=>hb (by simp [c]))]; exact q
 done:=λ s Q E st hQ=>d2E hh ne st.2 hE T st.1 λ h' xb=>hQ h' s.toks λ b o hb q=>xb b o (λ c=>hb (by simp [c])) q
 self:=λ i s Q E st hQ=>by
  have hT:s.TypeIs (.ref I) "set_iterator" := ⟨_,st.1,rfl⟩
  refine wpAny_pyIter_slot hT a7J (wpAny_call_entry a7J hT b1K ?_ (b3E _))
  show wpAny _ _ (ret (Value.ref I)) _ _ s; exact wpAny_pure ⟨_,rfl, "set_iterator", _,hT,slot_si_next.lookup,hQ⟩
theorem c4Z (a:Addr):setDrawn a=(do
 let (es,_,t) <- setState a
 let byText <- setsByText
 return !byText && (!t.plain && es.size > 1)):=rfl
theorem c8W {es:Array (Int × Value)} {ep:Nat} {t:SetTable} {Q:Value->Shared->Prop} (ho:s.heap.get? a=some (setO es ep t)) (hE:Es es L) (T:Tb (byT w) t L)
  (h:Q (.ref s.heap.objs.size) { s with heap:=s.heap.push (itO 0 0 a L.length ep) }):wpAny (model prog w) A (pyIter (.ref a)) Q E s:=by
 have hT:s.TypeIs (.ref a) "set" := ⟨_,ho,rfl⟩
 refine wpAny_pyIter_slot hT F.slot_set_iter (wpAny_call_entry F.slot_set_iter hT b8L ?_ (F.args_set_iter_1 _))
 unfold Builtin.«frozenset.__iter__»
 refine wpAny_bind (m:=Builtin.Frozenset.slot0 _ _) (wpAny_pure ?_)
 unfold Builtin.Frozenset.sizeOf setEntries
 refine wpAny_bind (wpAny_bind (wpAny_bind (a2A ho hE T (wpAny_pure (wpAny_pure ?_)))))
 rw [c4Z]
 refine wpAny_bind (wpAny_bind (a2A ho hE T ?_))
 refine wpAny_bind (a3Z (wpAny_pure ?_))
 rw [T.pl]
 simp only [Bool.not_true,Bool.false_and,Bool.and_false,Bool.false_eq_true,if_false]
 refine wpAny_bind (wpAny_pure ?_)
 refine wpAny_bind (b1J ho hE T ?_)
 refine wpAny_bind ?_
 unfold newFields
 refine wpAny_newObj_type ?_
 refine wpAny_pure ⟨_,rfl, "set_iterator", _,⟨_,Heap.get?_push_size _ rfl,rfl⟩,slot_si_next.lookup,?_⟩
 rw [hE.len]
 exact h
theorem c8X:(Value.type "set" == Value.type "list")=false:=by decide
theorem d2G:(Value.type "set" == Value.type "tuple")=false:=by decide
theorem c5A:typeLookup (.type "set") "__len__" = pure (some (.builtin "set.__len__")):=F.slot_set_len.lookup
theorem c1L:splitId "set.__len__" = some ("set", "__len__"):=by decide +kernel
theorem b5H {es:Array (Int × Value)} {ep:Nat} {t:SetTable} {Q:List Value->Shared->Prop} (hh:A.handled=none) (ho:s.heap.get? a=some (setO es ep t)) (hE:Es es L) (T:Tb (byT w) t L)
  (h:∀ (h':Heap) (tk:Nat),(∀ b o,s.heap.get? b=some o->h'.get? b=some o)->s.heap.objs.size < h'.objs.size->Q ((a2J w a ep es).toList.map (·.2)) { s with heap:=h',toks:=tk }):wpAny (model prog w) A (collect (.ref a)) Q E s:=by
 have lt:a < s.heap.objs.size:=Heap.lt_size ho
 unfold collect
 refine wpAny_bind (wpAny_runValue (codeAny_builtin F.entry_proto_collect ?_))
 rw [Around.under_plainId F.plain_proto_collect _]
 show wpAny _ A.in1 (newList [] >>= λ l=>again (.builtin "list.__iadd__" ⟨[l,.ref a],[]⟩)) _ _ s
 refine wpAny_bind (wpAny_newObj_type (wpAny_pure ⟨plainId_quiet F.plain_list_iadd _,codeAny_builtin F.entry_list_iadd ?_⟩))
 rw [Around.under_plainId F.plain_list_iadd _]
 have S0:(s.heap.push { cls:=.type "list", data:=.seq ([]:List Value).toArray }).get? s.heap.objs.size=some { cls:=.type "list", data:=.seq ([]:List Value).toArray }:=Heap.get?_push_size _ rfl
 have ho1:(s.heap.push { cls:=.type "list", data:=.seq ([]:List Value).toArray }).get? a=some (setO es ep t):=Heap.get?_push_of_some _ ho
 have hT1:Shared.TypeIs { s with heap:=s.heap.push { cls:=.type "list", data:=.seq ([]:List Value).toArray } } (.ref a) "set" := ⟨_,ho1,rfl⟩
 show wpAny _ A.in1 (Builtin.List.listExtendWith (.ref s.heap.objs.size) (.ref a) (.ref s.heap.objs.size)) _ _ { s with heap:=s.heap.push { cls:=.type "list", data:=.seq ([]:List Value).toArray } }
 unfold Builtin.List.listExtendWith
 refine wpAny_bind (wpAny_typeOf hT1 ?_)
 have n1:Builtin.List.listSameRef (.ref s.heap.objs.size) (.ref a)=false:=by simp [Builtin.List.listSameRef,Nat.ne_of_gt lt]
 simp only [n1,c8X,d2G,Bool.or_false,Bool.false_eq_true,if_false]
 refine wpAny_bind (c8W ho1 hE T ?_)
 refine wpAny_bind (wpAny_holding ?_)
 have ho2:((s.heap.push { cls:=.type "list", data:=.seq ([]:List Value).toArray }).push (itO 0 0 a L.length ep)).get? a=some (setO es ep t):=Heap.get?_push_of_some _ ho1
 have hT2:Shared.TypeIs { s with heap:=(s.heap.push { cls:=.type "list", data:=.seq ([]:List Value).toArray }).push (itO 0 0 a L.length ep) } (.ref a) "set" := ⟨_,ho2,rfl⟩
 unfold Builtin.List.listLengthHint
 refine wpAny_bind (wpAny_specialOf hT2 c5A ?_)
 dsimp only
 rw [c1L]
 dsimp only
 refine wpAny_bind (wpAny_isInstance hT2 c1J ?_)
 rw [if_neg (by decide)]
 rw [if_pos (by decide +kernel)]
 refine wpAny_bind (wpAny_typeOf hT2 ?_)
 dsimp only
 refine wpAny_pure ?_
 rw [if_pos (by decide +kernel)]
 refine wpAny_bind (wpAny_rule ?_)
 have lsz:(s.heap.push { cls:=.type "list", data:=.seq ([]:List Value).toArray }).objs.size=s.heap.objs.size+1:=size_push' _ _
 have S1:((s.heap.push { cls:=.type "list", data:=.seq ([]:List Value).toArray }).push (itO 0 0 a L.length ep)).get? s.heap.objs.size=some { cls:=.type "list", data:=.seq ([]:List Value).toArray }:=Heap.get?_push_of_some _ S0
 refine wpAny_bind ?_
 show wpAny _ A.in1 (updateSeq s.heap.objs.size (·.push .none) >>= λ _=>updateSeq s.heap.objs.size (·.pop)) _ _ _
 refine wpAny_bind (wpAny_updateSeq S1 rfl ?_)
 have S2:=Heap.get?_update_self (Obj.mapSeq (·.push Value.none)) S1 rfl
 refine wpAny_updateSeq S2 rfl ?_
 have S3:=Heap.get?_update_self (Obj.mapSeq (·.pop)) S2 rfl
 have oth:∀ b o,b≠s.heap.objs.size->((s.heap.push { cls:=.type "list", data:=.seq ([]:List Value).toArray }).push (itO 0 0 a L.length ep)).get? b=some o ->
   ((((s.heap.push { cls:=.type "list", data:=.seq ([]:List Value).toArray }).push (itO 0 0 a L.length ep)).update s.heap.objs.size (Obj.mapSeq (·.push Value.none))).update s.heap.objs.size (Obj.mapSeq (·.pop))).get? b=some o :=
  λ b o hb e=>(Heap.get?_update_other _ _ (Ne.symm hb)).trans ((Heap.get?_update_other _ _ (Ne.symm hb)).trans e)
 have neI:a≠(s.heap.push { cls:=.type "list", data:=.seq ([]:List Value).toArray }).objs.size:=by rw [lsz]; exact Nat.ne_of_lt (Nat.lt_succ_of_lt lt)
 have W:=(d2F (prog:=prog) (w:=w) (A:=A.in1) (I:=(s.heap.push { cls:=.type "list", data:=.seq ([]:List Value).toArray }).objs.size) (ep:=ep) (by simpa using hh) neI hE T).toS
 have l16:=T.len
 have sl0:a3O (byT w) t 0=0:=by unfold a3O; split <;> rfl
 refine wpAny_pure ⟨plainId_quiet F.plain_extend_loop _,codeAny_extend_loopS W (by rw [sizeLine_eq]; omega) _ (by
   rw [lsz]; simp only [List.mem_cons,List.not_mem_nil,or_false,not_or]; exact ⟨Nat.ne_of_lt (Nat.lt_succ_self _),Nat.ne_of_gt lt⟩) _ _ 0 _ #[] _ rfl (Nat.zero_le _) ⟨?_,?_⟩ S3 (ItemsOf.nil _) λ s' acc' c' hm hS' hacc=>?_⟩
 ·refine oth _ _ (by rw [lsz]; exact Nat.ne_of_gt (Nat.lt_succ_self _)) ?_
  rw [sl0]
  exact Heap.get?_push_size _ rfl
 ·exact oth _ _ (Nat.ne_of_lt lt) ho2
 ·obtain ⟨h',g',d',tk',os'⟩:=s'
  have eg:g'=s.gens:=hm.gens
  have ed:d'=s.drawn:=hm.drawn
  have eo:os'=s.os:=hm.os
  subst eg; subst ed; subst eo
  show wpAny _ A (load s.heap.objs.size >>= _) _ _ _
  refine wpAny_bind (wpAny_load hS' ?_)
  dsimp only
  have el:acc'.toList=(a2J w a ep es).toList.map (·.2):=by
   apply List.ext_getElem?
   intro i
   rw [Array.getElem?_toList,List.getElem?_map,Array.getElem?_toList]
   rcases Nat.lt_or_ge i acc'.size with q | q
   ·obtain ⟨e,he,hv⟩:=hacc.2 i acc'[i] (Array.getElem?_eq_getElem q)
    rw [Array.getElem?_eq_getElem q,he,hv]
    rfl
   ·rw [Array.getElem?_eq_none q,Array.getElem?_eq_none (by rw [a3I,hE.len,<- hacc.1]; exact q)]
    rfl
  rw [el]
  refine wpAny_pure (h h' tk' (λ b o e=>?_) (Heap.lt_size hS'))
  have lb:b < s.heap.objs.size:=Heap.lt_size e
  refine hm.heap b o (by rw [lsz]; simp only [List.mem_cons,List.not_mem_nil,or_false,not_or]; exact ⟨Nat.ne_of_lt lb,Nat.ne_of_lt (Nat.lt_succ_of_lt lb)⟩) (oth b o (Nat.ne_of_lt lb) (Heap.get?_push_of_some _ (Heap.get?_push_of_some _ e)))
theorem d2H {h:Heap} {a b:Addr} {vs:List Value} {out:Array Value} {o:Obj} (lb:b < h.objs.size) (ne:b≠a) (e:h.get? b=some o):(sortedHeap h a vs out).get? b=some o:=by
 unfold sortedHeap
 rw [Heap.get?_update_ne _ _ _ _ ne]
 exact Heap.get?_push_of_some _ (Heap.get?_push_of_some _ (by rw [Heap.get?_update_ne _ _ _ _ ne]; exact e))
theorem d4S {h:Heap} {a:Addr} {vs:List Value} {xs out:Array Value} {n:Nat} (e:h.get? a=some (seqObj "list" xs n)):∃ n',(sortedHeap h a vs out).get? a=some (seqObj "list" out n'):=by
 unfold sortedHeap
 exact ⟨_,get?_update_seq (Heap.get?_push_of_some _ (Heap.get?_push_of_some _ (get?_update_seq e λ _=>#[]))) λ _=>out⟩
theorem b8N {Q:Value->Shared->Prop} (hh:A.handled=none) (S:SetAt (byT w) s.heap a L)
  (h:∀ (h':Heap) (tk:Nat) (p:Addr) (vs:List Value) (n:Nat) (ns:List Int),(∀ b o,s.heap.get? b=some o->h'.get? b=some o)->s.heap.objs.size<=p->h'.get? p=some (seqObj "list" vs.toArray n)->IntsAre vs ns ->
   ns.Perm (L.map λ v=>((v:Nat):Int))->ns.Pairwise (· <= ·)->Q (.ref p) { s with heap:=h',toks:=tk }):wpAny (model prog w) A (call (.builtin "sorted") [.ref a]) Q E s:=by
 obtain ⟨es,ep,t,ho,hE,T⟩:=S
 have l16:=T.len
 apply Calls.call_function_entry kind_sorted plain_sorted entry_sorted (args_sorted1 _)
 unfold Builtin.«sorted»
 refine wpAny_bind (m:=checkCount "sorted" 1 1 _) (wpAny_pure ?_); refine wpAny_bind (b5H (by simpa using hh) ho hE T λ h1 tk k lz=>?_)
 obtain ⟨L',hP,pm⟩:=hE.perm (a8U w a ep es)
 have hl:L'.length=L.length:=pm.length_eq
 have hI:IntsAre ((a2J w a ep es).toList.map (·.2)) (L'.map λ v=>((v:Nat):Int)):=by
  generalize (a2J w a ep es).toList=l at hP
  clear pm hl
  induction hP with
  | nil=>exact .nil
  | cons r _ ih =>
   obtain ⟨q,e⟩:=r.2
   rw [List.map_cons,List.map_cons,e]
   exact .cons _ q ih
 have hn:((a2J w a ep es).toList.map (·.2)).length=L.length:=by rw [List.length_map,Array.length_toList,a3I,hE.len]
 refine wpAny_bind (wpAny_newList ?_ (by rw [hn,sizeLine_eq]; omega))
 have o1:(h1.push (seqObj "list" ((a2J w a ep es).toList.map (·.2)).toArray 0)).get? h1.objs.size=some (seqObj "list" ((a2J w a ep es).toList.map (·.2)).toArray 0):=Heap.get?_push_size _ rfl
 refine wpAny_bind (wpAny_holding (wpAny_call_entry slot_list_sort ⟨_,o1,rfl⟩ entry_list_sort (list_sort_tree o1 hI (by rw [hn]; omega) λ out ns a1 a2 a3=>⟨_,rfl,?_⟩) (args_list_sort _)))
 obtain ⟨n',o2⟩:=d4S (vs:=(a2J w a ep es).toList.map (·.2)) (out:=out) o1
 refine wpAny_pure ⟨_,rfl,h _ _ _ out.toList n' ns (λ b o e=>?_) (Nat.le_of_lt lz) (by simpa using o2) a1 (a2.trans (pm.map _)) a3⟩
 have lb:b < h1.objs.size:=Nat.lt_trans (Heap.lt_size e) lz
 exact d2H (by rw [size_push']; exact Nat.lt_succ_of_lt lb) (Nat.ne_of_lt lb) (Heap.get?_push_of_some _ (k b o e))
end
end Sm
set_option maxHeartbeats 4000000
namespace Sm
open PySem PyProof.Rows
section
variable {prog:Program} {w:World} {A:Around} {R:Result->Shared->Prop} {I:Addr} {fp wr:List Addr} {G:Array GenState->Array GenState->Prop} {n:Nat} {P:Nat->Value->Prop} {St:Nat->Shared->Prop}
theorem c8Y (W:WalksS prog w A.in1 I fp wr G n P St) (S:Addr) (nf:S ∉ fp) (val:Nat->Nat) (hv:∀ i v,i < n->P i v->∃ t,v = .int ((val i:Nat):Int) t) (lt:∀ i,i < n->val i < 16) :
  ∀ (k i:Nat) (s:Shared) (L:List Nat),n - i=k->i<=n->St i s->SetAt (byT w) s.heap S L->Dense s.heap S->(∀ u,u∈L↔∃ j,j < i/\val j=u) ->
   (∀ s' L',Moved (S::wr) G s s'->SetAt (byT w) s'.heap S L'->Dense s'.heap S->(∀ u,u∈L'↔∃ j,j < n/\val j=u)->R (.ok (.ret .none)) s') ->
   codeAny (model prog w) A (.builtin "set.update.loop" ⟨[.ref S,.ref I],[]⟩) R s:=by
 have nw:S ∉ wr:=λ h=>nf (W.sub _ h)
 have up:∀ b∈wr,b∈S::wr:=λ b hb=>List.mem_cons_of_mem _ hb
 intro k
 induction k with
 | zero =>
  intro i s L hk hi st hS hD mem hR
  obtain rfl:i=n:=by omega
  refine codeAny_builtin F.entry_set_update_loop ?_
  rw [Around.under_plainId F.plain_set_update_loop _]; show wpAny _ A.in1 (pyNext (.ref I) >>= _) _ _ s; refine wpAny_bind (W.done s _ _ st λ s' hm=>?_)
  exact wpAny_pure (hR s' L (hm.mono up) (hS.keep λ o e=>hm.heap S o nw e) (hD.keep λ o e=>hm.heap S o nw e) mem)
 | succ k ih =>
  intro i s L hk hi st hS hD mem hR
  have li:i < n:=by omega
  refine codeAny_builtin F.entry_set_update_loop ?_
  rw [Around.under_plainId F.plain_set_update_loop _]; show wpAny _ A.in1 (pyNext (.ref I) >>= _) _ _ s; refine wpAny_bind (W.item i s _ _ li st λ v s' hP st' hm=>?_)
  obtain ⟨t,rfl⟩:=hv i v li hP
  have hS':=hS.keep λ o e=>hm.heap S o nw e
  have hD':=hD.keep λ o e=>hm.heap S o nw e
  show wpAny _ A.in1 (holding [Value.int ((val i:Nat):Int) t] (setAdd S (.int ((val i:Nat):Int) t)) >>= _) _ _ s'
  refine wpAny_bind (wpAny_holding ?_)
  unfold setAdd
  refine wpAny_holding (wpAny_bind ((intKind prog w).pyHash (k:=((val i:Nat):Int)) (intKind_is _ _ _ _) ?_))
  have eh:(intKind prog w).hash ((val i:Nat):Int)=((val i:Nat):Int):=c1G _ (lt i li)
  rw [eh]
  refine c7G (s:={ s' with toks:=s'.toks+1 }) hS' (lt i li) λ b h' L' sb S2 mem2 dn=>?_
  refine wpAny_pure ⟨plainId_quiet F.plain_set_update_loop _,ih (i+1) _ L' (by omega) li (W.frame _ s' _ _ st' (Nat.le_succ _) λ c hc o e=>?_) S2 (dn hD') (λ u=>?_) λ s2 L2 hm2 h2 h3 h4=>hR s2 L2 (Moved.trans W.gtrans ((hm.mono up).then_heap (Nat.le_succ _) λ c o hc e=>?_) hm2) h2 h3 h4⟩
  ·rw [sb.2 c (λ q:c=S=>nf (by rw [<- q]; exact hc))]; exact e
  ·rw [mem2 u,mem u]
   constructor
   ·rintro (rfl | ⟨j,hj,e⟩)
    ·exact ⟨i,Nat.lt_succ_self _,rfl⟩
    ·exact ⟨j,Nat.lt_succ_of_lt hj,e⟩
   ·rintro ⟨j,hj,e⟩
    rcases Nat.lt_or_ge j i with q | q
    ·exact .inr ⟨j,q,e⟩
    ·obtain rfl:j=i:=by omega
     exact .inl e.symm
  ·rw [sb.2 c (λ q:c=S=>hc (by rw [q]; exact List.mem_cons_self))]; exact e
end
section
variable {prog:Program} {w:World} {A:Around} {E:Value->Shared->Prop} {s:Shared}
theorem c8Z (a:Value) {Q:Value->Shared->Prop} (h:Q (.ref s.heap.objs.size) { s with heap:=s.heap.push (setO #[] 0 (.fresh 0 0 (!byT w))) }) :
  codeAny (model prog w) A (.call (.builtin "set.__new__") ⟨[.type "set", a],[]⟩) (wants Q E) s:=by
 refine codeAny_of_tree ?_
 show wpAny _ A.in1 (do checkBuiltinCall "set.__new__" ⟨[.type "set", a],[]⟩; again (.builtin "set.__new__" ⟨[.type "set", a],[]⟩)) _ _ s; refine wpAny_bind (wpAny_of_eq (F.newCall_set_1 a) (wpAny_pure ⟨plainId_quiet F.plain_set_new _,codeAny_builtin F.entry_set_new ?_⟩))
 rw [Around.under_plainId F.plain_set_new _]
 unfold Builtin.«set.__new__» Builtin.Frozenset.newClass
 have hsub:=sub_set_self
 obtain ⟨hp,g,d,tk,os⟩:=s
 dsimp only at h ⊢
 wp_walk
 refine wpAny_askSetting (wpAny_pure ?_)
 dsimp only
 simp only [newObj]
 exact wpAny_bind (wpAny_alloc (wpAny_pure (wpAny_pure h)))
set_option maxHeartbeats 8000000 in
theorem d2I {l:Addr} {items:Array Value} {vals:List Nat} {Q:Value->Shared->Prop} (hh:A.handled=none) (hl:s.heap.IsList l items) (hi:IntsAre items.toList (vals.map λ v=>((v:Nat):Int))) (lt:∀ v∈vals,v < 16)
  (h:∀ (h':Heap) (tk:Nat) (L:List Nat),SetAt (byT w) h' s.heap.objs.size L->Dense h' s.heap.objs.size->(∀ u,u∈L↔u∈vals)->(∀ b o,b < s.heap.objs.size->s.heap.get? b=some o->h'.get? b=some o)->Q (.ref s.heap.objs.size) { s with heap:=h',toks:=tk }) :
  wpAny (model prog w) A (call (.type "set") [.ref l]) Q E s:=by
 obtain ⟨c,tl,hmro⟩:=F.called_set.mro
 have hmade:=F.called_set.made
 have hsub:=F.called_set.sub
 have hlen:items.size=vals.length:=by
  have:=hi.length
  simpa using this
 refine wpAny_call (codeAny_of_tree ?_)
 show wpAny _ _ (callAny (.type "set") _) _ _ _; refine wpAny_pure ⟨Code.quiet_builtin _ (by decide +kernel),codeAny_builtin F.entry_type_call ?_⟩
 rw [Around.under_plain (weight_type_call_type "set" [.ref l] []) rfl]; have h1:=F.called_set.notType
 have h2:=F.called_set.canCreate
 have hct:=F.typeCall_set_1 (.ref l)
 repeat (any_goals (first | assumption | wp_step))
 refine codeAny_mono (c8Z (.ref l) (E:=E) (Q:=λ obj s₁=>obj = .ref s.heap.objs.size/\s₁={ s with heap:=s.heap.push (setO #[] 0 (.fresh 0 0 (!byT w))) }) ⟨rfl,rfl⟩) λ r s₁ hr=>?_
 cases r with
 | error e=>exact hr
 | ok fl =>
  cases fl with
  | ret obj =>
   obtain ⟨rfl,rfl⟩:=hr
   have gS:(s.heap.push (setO #[] 0 (.fresh 0 0 (!byT w)))).get? s.heap.objs.size=some (setO #[] 0 (.fresh 0 0 (!byT w))):=Heap.get?_push_size _ rfl
   have hT:Shared.TypeIs { s with heap:=s.heap.push (setO #[] 0 (.fresh 0 0 (!byT w))) } (.ref s.heap.objs.size) "set" := ⟨_,gS,rfl⟩
   have hli:=F.called_set.init.lookup
   have hbi:=F.called_set.init.bind (.ref s.heap.objs.size)
   repeat (any_goals (first | assumption | wp_step))
   refine codeAny_mono (codeAny_call_builtin (R:=wants (λ r s₂=>r = .none/\∃ h' tk L,s₂={ s with heap:=h',toks:=tk }/\SetAt (byT w) h' s.heap.objs.size L/\Dense h' s.heap.objs.size/\(∀ u,u∈L↔u∈vals) /\
     (∀ b o,b < s.heap.objs.size->s.heap.get? b=some o->h'.get? b=some o)) E) F.called_set.init.plain F.entry_set_init (check_set_init_1 hT ?_)) λ r₂ s₂ hr₂=>?_
   ·obtain ⟨ol,hol,hcl,nl,hdl⟩:=hl
    obtain ⟨ocls,odict,odata,oslots⟩:=ol
    simp only at hcl hdl
    subst hcl; subst hdl
    have hol':(s.heap.push (setO #[] 0 (.fresh 0 0 (!byT w)))).get? l=some { cls:=.type "list", dict:=odict,data:=.seq items nl,slots:=oslots }:=Heap.get?_push_of_some _ hol
    have hsls:=F.sub_list_set
    have hslf:=F.sub_list_frozenset
    have hne:(Value.type "list" == Value.type "dict")=false:=by decide
    have hl1:(s.heap.push (setO #[] 0 (.fresh 0 0 (!byT w)))).IsList l items:=⟨_,hol',rfl,nl,rfl⟩
    unfold Builtin.«set.__init__» noKeywords Builtin.Frozenset.updateFrom
    generalize hPI:pyIter=PI
    wp_walk
    subst hPI
    refine wpAny_pyIter_list hl1 (wpAny_bind (wpAny_runValue ?_))
    have ll:l < s.heap.objs.size:=Heap.lt_size hol
    have hh3:A.in1.in1.in1.handled=none:=by simp [hh]
    have ni:l≠(s.heap.push (setO #[] 0 (.fresh 0 0 (!byT w)))).objs.size:=by rw [Heap.size_push]; exact Nat.ne_of_lt (Nat.lt_succ_of_lt ll)
    have nf:s.heap.objs.size ∉ [(s.heap.push (setO #[] 0 (.fresh 0 0 (!byT w)))).objs.size,l]:=by
     rw [Heap.size_push]; simp only [List.mem_cons,List.not_mem_nil,or_false,not_or]
     exact ⟨Nat.ne_of_lt (Nat.lt_succ_self _),Nat.ne_of_gt ll⟩
    have hval:∀ (i:Nat) (v:Value),i < items.size->items[i]?=some v->∃ t,v = .int (((λ i=>vals.getD i 0) i:Nat):Int) t:=λ i v li hv=>by
     obtain ⟨t,e⟩:=PyProof.Rows.IntsAre.int_at hi i v (by rw [Array.getElem?_toList]; exact hv)
     have lv:i < vals.length:=by omega
     refine ⟨t,?_⟩
     rw [e]
     simp [List.getD,lv]
    refine c8Y ((Walks.list hh3 _ l ni items).toS) s.heap.objs.size nf (λ i=>vals.getD i 0) hval (λ i li=>?_) (items.size - 0) 0 _ [] (by omega) (Nat.zero_le _) ⟨⟨_,Heap.get?_push_size _ rfl,rfl,rfl⟩,(hl1.push _)⟩ ?hS0 ?hD0 (λ u=>by simp) ?hR
    ·have lv:i < vals.length:=by omega
     refine lt _ ?_
     simp [List.getD,lv]
    case hS0=>exact ⟨#[],0,_,Heap.get?_push_of_some _ gS,.nil,b6O _⟩
    case hD0=>exact ⟨#[],0,_,Heap.get?_push_of_some _ gS,.inl rfl⟩
    case hR =>
     intro s' L' hm hS' hD' mem
     obtain ⟨h',g',d',tk',os'⟩:=s'
     have eg:g'=s.gens:=hm.gens
     have ed:d'=s.drawn:=hm.drawn
     have eo:os'=s.os:=hm.os
     subst eg; subst ed; subst eo
     show wpAny _ _ _ _ _ _
     refine wpAny_pure ?_
     show wpAny _ _ (ret Value.none) _ _ _; refine wpAny_pure ⟨rfl,h',tk',L',rfl,hS',hD',λ u=>?_,λ b o hb e=>?_⟩
     ·rw [mem u]
      constructor
      ·rintro ⟨j,hj,rfl⟩
       have lv:j < vals.length:=by omega
       simp [List.getD,lv]
      ·intro hu
       obtain ⟨j,hj,e⟩:=List.getElem_of_mem hu
       exact ⟨j,by omega,by simp [List.getD,hj,e]⟩
     ·have b1:b≠s.heap.objs.size:=Nat.ne_of_lt hb
      have b2:b≠(s.heap.push (setO #[] 0 (.fresh 0 0 (!byT w)))).objs.size:=by rw [Heap.size_push]; exact Nat.ne_of_lt (Nat.lt_succ_of_lt hb)
      exact hm.heap b o (by simp only [List.mem_cons,List.not_mem_nil,or_false,not_or]; exact ⟨b1,b2⟩) (Heap.get?_push_of_some _ (Heap.get?_push_of_some _ e))
   ·cases r₂ with
    | error e=>exact hr₂
    | ok fl₂ =>
     cases fl₂ with
     | ret r =>
      obtain ⟨rfl,h',tk,L,rfl,q1,q2,q3,q4⟩:=hr₂
      repeat (any_goals (first | assumption | wp_step))
      exact h _ _ L q1 q2 q3 q4
     | _=>exact hr₂.elim
  | _=>exact hr.elim
end
end Sm
set_option maxHeartbeats 4100000
namespace L2
open PySem PySem.Spec PyProof.Rows Sm
def SetV (w:World) (a:Addr) (d:Bool) (L:List Nat):HO:=.ext λ h=>SetAt (byT w) h a L/\(d=true->Dense h a)
def b1L (ns:List Int):Prop:=∀ n∈ns,0<=n/\n < 16
def upF (p:Int->Bool):List Int:=((List.range 16).map λ i=>((i:Nat):Int)).filter p
theorem b3F (p:Int->Bool):(upF p).Pairwise (· < ·):=by
 unfold upF
 refine List.Pairwise.filter _ ?_
 rw [List.pairwise_map]
 exact List.pairwise_lt_range.imp λ h=>by omega
theorem mem_upF {p:Int->Bool} {v:Int}:v∈upF p↔0<=v/\v < 16/\p v=true:=by
 unfold upF
 rw [List.mem_filter,List.mem_map]
 constructor
 ·rintro ⟨⟨i,hi,rfl⟩,h⟩
  have:=List.mem_range.mp hi
  exact ⟨by omega,by omega,h⟩
 ·rintro ⟨h0,h1,h⟩
  exact ⟨⟨v.toNat,List.mem_range.mpr (by omega),by omega⟩,h⟩
theorem c9A:∀ {xs ys:List Int},xs.Pairwise (· < ·)->ys.Pairwise (· < ·)->(∀ v,v∈xs↔v∈ys)->xs=ys
 | [],[],_,_,_=>rfl
 | [],y::ys,_,_,h=>absurd ((h y).mpr List.mem_cons_self) List.not_mem_nil
 | x::xs,[],_,_,h=>absurd ((h x).mp List.mem_cons_self) List.not_mem_nil
 | x::xs,y::ys,hx,hy,h=>by
  obtain ⟨x1,x2⟩:=List.pairwise_cons.mp hx
  obtain ⟨y1,y2⟩:=List.pairwise_cons.mp hy
  have e:x=y:=by
   rcases List.mem_cons.mp ((h x).mp List.mem_cons_self) with e | e
   ·exact e
   ·rcases List.mem_cons.mp ((h y).mpr List.mem_cons_self) with f | f
    ·exact f.symm
    ·have a:=y1 x e
     have b:=x1 y f
     omega
  subst e
  congr 1
  refine c9A x2 y2 λ v=>?_
  constructor
  ·intro q
   rcases List.mem_cons.mp ((h v).mp (List.mem_cons_of_mem _ q)) with e | e
   ·subst e; have:=x1 v q; omega
   ·exact e
  ·intro q
   rcases List.mem_cons.mp ((h v).mpr (List.mem_cons_of_mem _ q)) with e | e
   ·subst e; have:=y1 v q; omega
   ·exact e
def d4T (w:World) (K:Φρ):List V->Hp->VK->Prop:=λ xs H Q=>∃ l ns,xs=[.ref l]/\SqL K H l (List.map V.int ns)/\b1L ns/\∀ p L H',New H p (SetV w p true L) H'->(∀ u:Nat,u∈L↔(u:Int)∈ns)->Q (.ref p) H'
def rOrS (w:World):R2:=λ x y H Q=>∃ a b L1 L2,x = .ref a/\y = .ref b/\a≠b/\H a=some (SetV w a true L1)/\H b=some (SetV w b true L2)/\∀ p L H',New H p (SetV w p false L) H'->(∀ u:Nat,u∈L↔u∈L1\/u∈L2)->Q (.ref p) H'
def d2J (w:World):List V->Hp->VK->Prop:=λ xs H Q=>∃ a d L,xs=[.ref a]/\H a=some (SetV w a d L)/\∀ p H',New H p (.lst ((upF λ v=>decide (v.toNat∈L)).map V.int)) H'->Q (.ref p) H'
def d2K (K:Φρ):List V->Hp->VK->Prop:=λ xs H Q=>∃ l ns,xs=[.ref l]/\SqL K H l (List.map V.int ns)/\ns.length < 64/\∀ p H' zs,New H p (.lst (List.map V.int zs)) H'->zs.Perm ns->zs.Pairwise (· <= ·)->Q (.ref p) H'
theorem a8V:∀ {vs:List Value} {ns:List Int},IntsAre vs ns->Vals (ns.map V.int) vs
 | _,_,.nil=>.nil
 | _,_,.cons n t r=>.cons ⟨t,rfl⟩ (a8V r)
theorem c5B {xs:List Int} {L:List Nat} (pm:xs.Perm (L.map λ v=>((v:Nat):Int))) (nd:L.Nodup) (lt:∀ v∈L,v < 16) (le:xs.Pairwise (· <= ·)):xs=upF λ v=>decide (v.toNat∈L):=by
 have nd2:xs.Nodup:=pm.nodup_iff.mpr (by
  unfold List.Nodup
  rw [List.pairwise_map]
  exact nd.imp λ h e=>h (by omega))
 have lt2:xs.Pairwise (· < ·):=by
  unfold List.Nodup at nd2
  exact (le.and nd2).imp λ h=>by omega
 refine c9A lt2 (b3F _) λ v=>?_
 rw [pm.mem_iff,mem_upF,List.mem_map]
 constructor
 ·rintro ⟨u,hu,rfl⟩
  have:=lt u hu
  exact ⟨by omega,by omega,decide_eq_true (by rw [Int.toNat_natCast]; exact hu)⟩
 ·rintro ⟨h0,h1,h⟩
  exact ⟨v.toNat,of_decide_eq_true h,by omega⟩
section
variable {X:Cx} {K:Φρ} {w:World}
theorem c1M {H:Hp} {h:Heap} {a:Addr} {d:Bool} {L:List Nat} {P:Program} {w':World} (S:SetAt (byT w) h a L) (D:d=true->Dense h a):ObjOk P w' H h a (SetV w a d L):=by
 refine ⟨⟨S,D⟩,?_,?_⟩
 ·obtain ⟨_,_,_,ho,_⟩:=S
  exact ⟨_,ho⟩
 ·rintro h1 h2 ⟨s1,d1⟩ k
  exact ⟨s1.keep k,λ e=>(d1 e).keep k⟩
theorem a8W (ek:X.K=K) (ew:X.w=w) (cm:X.calm=true):CallR X (.type "set") (d4T w K):=by
 subst ek; subst ew
 intro pins s σ H xs us Q I r h
 obtain ⟨l,ns,rfl,hL,sm,q⟩:=h
 obtain ⟨u,rfl,rx⟩:=a5G r
 cases rx
 obtain ⟨its,r',pl,hz⟩:=I.list hL
 have hi:=a4L r'
 have e:(ns.map Int.toNat).map (λ v=>((v:Nat):Int))=ns:=by
  rw [List.map_map]
  have:∀ n∈ns,((λ v=>((v:Nat):Int)) ∘ Int.toNat) n=id n:=λ n hn=>by
   have:=(sm n hn).1
   show ((n.toNat:Nat):Int)=n
   omega
  rw [List.map_congr_left this,List.map_id]
 refine d2I (vals:=ns.map Int.toNat) (I.ok.hd cm) pl.isList (by rw [e]; simpa using hi) (λ v hv=>?_) λ h' tk L S D mem k=>?_
 ·obtain ⟨n,hn,rfl⟩:=List.mem_map.mp hv
  have:=sm n hn
  omega
 ·have hf:H s.heap.objs.size=none:=I.hok.fresh (Nat.le_refl _)
  refine ⟨.ref s.heap.objs.size,_,I.laid (t':=tk) (o:=SetV X.w s.heap.objs.size true L) (λ b o eo=>k b o (Heap.lt_size eo) eo) (Nat.le_refl _) (c1M S λ _=>D),rfl,q _ L _ (New.mk0 hf) λ u=>?_⟩
  rw [mem u,List.mem_map]
  constructor
  ·rintro ⟨n,hn,rfl⟩
   have:=(sm n hn).1
   have e2:((n.toNat:Nat):Int)=n:=by omega
   rw [e2]; exact hn
  ·intro hn
   exact ⟨_,hn,by omega⟩
theorem d2L (ew:X.w=w):OpR X (binaryOp .BitOr) (rOrS w):=by
 subst ew
 intro pins s σ H x y v u Q I rx ry h
 obtain ⟨a,b,L1,L2,rfl,rfl,ne,hA,hB,q⟩:=h
 cases rx
 cases ry
 obtain ⟨⟨S1,D1⟩,_⟩:=I.hok a _ hA
 obtain ⟨⟨S2,D2⟩,_⟩:=I.hok b _ hB
 refine d4R ne S1 (D1 rfl) S2 (D2 rfl) λ h' L k S mem=>?_
 have hf:H s.heap.objs.size=none:=I.hok.fresh (Nat.le_refl _)
 exact ⟨.ref s.heap.objs.size,_,I.laid (t':=s.toks) (o:=SetV X.w s.heap.objs.size false L) (λ b o eo=>k b o eo) (Nat.le_refl _) (c1M S λ e=>by cases e),rfl,q _ L _ (New.mk0 hf) mem⟩
theorem a7K (ew:X.w=w) (cm:X.calm=true):CallR X (.builtin "sorted") (d2J w):=by
 subst ew
 intro pins s σ H xs us Q I r h
 obtain ⟨a,d,L,rfl,hA,q⟩:=h
 obtain ⟨u,rfl,rx⟩:=a5G r
 cases rx
 obtain ⟨⟨S,_⟩,_⟩:=I.hok a _ hA
 obtain ⟨_,_,t,_,_,T⟩:=id S
 refine b8N (I.ok.hd cm) S λ h' tk p vs n ns k hp ho hi pm le=>?_
 have e:=c5B pm T.nd T.lt le
 subst e
 have l16:(upF λ v=>decide (v.toNat∈L)).length<=16:=by rw [pm.length_eq,List.length_map]; exact T.len
 have hf:H p=none:=I.hok.fresh hp
 refine ⟨.ref p,_,I.laid (t':=tk) (o:=.lst ((upF λ v=>decide (v.toNat∈L)).map V.int)) k hp ⟨?_,vs,n,a8V hi,ho⟩,rfl,q p _ (New.mk0 hf)⟩
 rw [List.length_map,sizeLine_eq]
 omega
theorem b3G (e:X.K=K):CallR X (.builtin "sorted") (d2K K):=by
 subst e
 intro pins s σ H xs us Q I r h
 obtain ⟨l,ns,rfl,hL,h64,q⟩:=h
 obtain ⟨u,rfl,rx⟩:=a5G r
 cases rx
 obtain ⟨its,r',pl,hz⟩:=I.list hL
 have hlen:=r'.length
 rw [List.length_map] at hlen
 refine sorted_ints (ns:=ns) pl.isList (a4L r') (by omega) λ out zs hi pm le=>?_
 obtain ⟨c,hc⟩:=sortedAll_at s.heap its out
 refine ⟨.ref (s.heap.objs.size+1),_,I.laid (t':=s.toks) (o:=.lst (zs.map V.int)) (λ b o eo=>sortedAll_old eo) (Nat.le_succ _) ⟨?_,out.toList,c,a8V hi,by simpa using hc⟩,rfl,q _ _ zs (New.mk0 (I.hok.fresh (Nat.le_succ _))) pm le⟩
 rw [List.length_map,pm.length_eq,sizeLine_eq]
 omega
end
end L2
namespace L2
open PySem PySem.Spec PySem.Calls PyProof.Rows
section
variable {X:Cx}
theorem b0E:∀ (n:Nat) (acc:List Value),(∀ i:Nat,i < n->∃ t,acc[i]?=some (Value.int ((i:Nat):Int) t))->acc.length=n->Vals ((List.range n).map λ i=>V.int ((i:Nat):Int)) acc
 | 0,acc,_,hl=>by rw [List.eq_nil_of_length_eq_zero hl]; exact .nil
 | n+1,acc,h,hl=>by
  have hne:acc≠[]:=λ z=>by rw [z] at hl; cases hl
  have e:=(List.dropLast_concat_getLast hne).symm
  have ld:acc.dropLast.length=n:=by rw [List.length_dropLast]; omega
  rw [List.range_succ,List.map_append,e]
  refine Vals.append (b0E n acc.dropLast (λ i hi=>?_) ld) ?_
  ·obtain ⟨t,et⟩:=h i (by omega)
   rw [e,List.getElem?_append_left (by omega)] at et
   exact ⟨t,et⟩
  ·obtain ⟨t,et⟩:=h n (by omega)
   rw [e,List.getElem?_append_right (by omega),ld] at et
   simp at et
   rw [et]
   exact .cons ⟨t,rfl⟩ .nil
theorem b8O {pins:List (Addr × Obj)} {σ:St} {H:Hp} {s:Shared} {Q:VK} {E:Value->Shared->Prop} {n:Nat} {t u v:Tok} {tk:Nat} (I:Inv X pins σ H s) (cm:X.calm=true) (hn:n<=1000)
  (q:∀ p H',New H p (.lst ((List.range n).map λ i=>V.int ((i:Nat):Int))) H'->Q (.ref p) H') :
  wpAny (model X.prog X.w) X.A (call (.type "list") [.ref s.heap.objs.size]) (EP X pins σ Q) E { s with heap:=s.heap.push { cls:=.type "range", data:=.fields #[.int 0 t,.int n u,.int 1 v] },toks:=tk }:=by
 have I2:Inv X pins σ H { s with heap:=s.heap.push { cls:=.type "range", data:=.fields #[.int 0 t,.int n u,.int 1 v] },toks:=tk }:=I.kept λ b o e=>Heap.get?_push_of_some _ e
 refine call_list_range (I2.ok.hd cm) (IsRange.new ..) (small_one (by omega) (by omega) (by omega) (by omega)) (n:=n) (by rw [rangeSize_one]; split <;> omega) (by omega) λ h' tk' acc' c' hk hS hacc=>?_
 refine ⟨.ref _,_,I2.laid (t':=tk') hk (Nat.le_refl _) (show ObjOk X.prog X.w _ h' _ (.lst ((List.range n).map λ i=>V.int ((i:Nat):Int))) from ⟨?_,acc'.toList,c',?_,?_⟩),rfl,q _ _ (New.mk0 (I2.hok.fresh (Nat.le_refl _)))⟩
 ·rw [List.length_map,List.length_range]; exact Nat.le_of_lt (a1E hn)
 ·refine b0E n _ (λ i hi=>?_) ?_
  ·have hlt:i < acc'.size:=by have:=hacc.1; omega
   obtain ⟨t,e⟩:=hacc.2 i acc'[i] (Array.getElem?_eq_getElem hlt)
   refine ⟨t,?_⟩
   rw [Array.getElem?_toList,Array.getElem?_eq_getElem hlt,e]
   congr 2
   omega
  ·rw [Array.length_toList]; exact hacc.1
 ·simpa using hS
def d2M (ta:TA):TE:=λ σ H Q=>ta σ H λ vs H1=>∃ n:Nat,vs=[.int (n:Int)]/\n<=1000/\∀ p H',New H1 p (.lst ((List.range n).map λ i=>V.int ((i:Nat):Int))) H'->Q (.ref p) H'
theorem b6Q {a:Expr} {ta:TA} {p p2 pos pos2:Pos} (cm:X.calm=true) (hm:X.mg "list" = none) (hm2:X.mg "range" = none) (ha:PA X [a] ta) (hg:Gl X "list" := by rfl) (hg2:Gl X "range" := by rfl)
  (hs:starEach [a] X.env=[(false,eval a X.env)]:=by rfl)
  (he:starEach [Expr.Call (.Name "range" p2) [a] [] pos2] X.env=[(false,eval (Expr.Call (.Name "range" p2) [a] [] pos2) X.env)]:=by rfl) :
  PE X (.Call (.Name "list" p) [.Call (.Name "range" p2) [a] [] pos2] [] pos) (d2M ta):=by
 intro pins s σ H Q I h
 refine wpAny_Call_Name_kw (a5W I hg hm (show bootBuiltins "list" = some (.type "list") by decide +kernel) ?_)
 refine PyProof.Rows.callWith_type1 ?_ he rfl
 rw [he]
 refine Calls.spliced_cons ?_
 refine Call_ (a5W I hg2 hm2 boot_range (PyProof.Rows.callWith_type1 (thn (ha pos2 pins s σ H _ I h) λ us s1 ⟨vs,H1,I1,r1,q1⟩=>?_) hs rfl))
 obtain ⟨n,e,hn,q⟩:=q1
 subst e
 cases r1 with
 | cons r rr =>
  cases rr
  obtain ⟨t,rfl⟩:=r
  refine call_range_1 ?_
  refine Calls.spliced_nil ?_
  exact b8O I1 cm hn q
end
end L2
namespace L2
open PySem PySem.Spec PyProof.Rows
theorem c5C {K:Φρ} {a:Addr} {xs:List V} {ix:List (Option Nat)} {g:TG} {tt:TT} {te:TE} {σ:St} {H1:Hp} {Q:VK} (Pv:Nat->List V->Hp->Prop) (h0:Pv 0 [] H1) (hl:∀ i ys H,i<=xs.length->Pv i ys H->SqL K H a xs/\ys.length<=sizeLine)
  (hs:∀ (i:Nat) x ys H p H0,xs[i]?=some x->Pv i ys H->New H p (.tup [.int i,x]) H0->g (.ref p) (capt ix σ) H0 λ σ2 H2=>tt σ2 H2 λ b H3=>if b=true then te σ2 H3 λ v H4=>Pv (i+1) (ys++[v]) H4 else Pv (i+1) ys H3)
  (hd:∀ ys H,Pv xs.length ys H->∀ p,H p=none->Q (.ref p) (upd H p (.lst ys))):a5I ix g tt te σ H1 Q (Ite K a):=by
 refine ⟨λ i m ys H=>m=xs.length - i/\i<=xs.length/\Pv i ys H,⟨xs.length,by simp,Nat.zero_le _,h0⟩,?_⟩
 rintro i m ys H ⟨rfl,hi,p⟩
 obtain ⟨q,z⟩:=hl i ys H hi p
 by_cases hlt:i < xs.length
 ·refine .inr ⟨⟨xs,xs[i],q,by simp [hlt]⟩,z,Pv (i+1),λ ys' H' p'=>⟨xs.length - (i+1),by omega,rfl,hlt,p'⟩,λ x H' y=>?_⟩
  obtain ⟨pp,y0,rfl,nw,ex⟩:=y
  exact hs i y0 ys H pp H' (ex xs q) p nw
 ·have e:i=xs.length:=by omega
  subst e
  exact .inl ⟨⟨xs,q,Nat.le_refl _⟩,z,hd ys H p⟩
end L2
namespace L2
open PySem PySem.Spec PyProof.Rows
section
variable {X:Cx}
end
end L2
namespace L2
open PySem PySem.Spec PyProof.Rows
section
variable {X:Cx}
def d4U:V->List V->Hp->VK->Prop:=λ x vs H Q=>∃ l xs y,x = .ref l/\vs=[y]/\H l=some (.lst xs)/\xs.length < 5000/\∀ H',Chg H l (.lst (xs++[y])) H'->Q .non H'
theorem b0F:MtM X "list.append" d4U:=mt_append.weak λ x vs H Q ⟨l,xs,y,e1,e2,h,z,q⟩=>⟨l,xs,y,e1,e2,h,Nat.lt_trans z (by decide),q _ Chg.mk0⟩
def d4V:R2:=λ x y H Q=>∃ l b xs zs,x = .ref l/\y = .ref b/\H l=some (.lst xs)/\H b=some (.lst zs)/\xs.length+zs.length<=5000/\∀ p H',New H p (.lst (xs++zs)) H'->Q (.ref p) H'
theorem c9B:OpR X (binaryOp .Add) d4V:=op_cat.weak λ x y H Q ⟨l,b,xs,zs,e1,e2,h1,h2,z,q⟩=>⟨l,b,xs,zs,e1,e2,h1,h2,Nat.le_trans z (by decide),λ p hp=>q p _ (New.mk0 hp)⟩
end
end L2
namespace L2
open PySem PySem.Spec PyProof.Rows
theorem us1 {A:Type} {us:List A} {P:List A->Prop} (h:us.length=1) (f:∀ a,P [a]):P us:=by
 match us,h with
 | [a],_=>exact f a
theorem us2 {A:Type} {us:List A} {P:List A->Prop} (h:us.length=2) (f:∀ a b,P [a,b]):P us:=by
 match us,h with
 | [a,b],_=>exact f a b
theorem us3 {A:Type} {us:List A} {P:List A->Prop} (h:us.length=3) (f:∀ a b c,P [a,b,c]):P us:=by
 match us,h with
 | [a,b,c],_=>exact f a b c
theorem us4 {A:Type} {us:List A} {P:List A->Prop} (h:us.length=4) (f:∀ a b c d,P [a,b,c,d]):P us:=by
 match us,h with
 | [a,b,c,d],_=>exact f a b c d
theorem dn_mk1 {K:Φρ} {h:Heap} {mg:Str->Option Value} {x:Str} {st:Stmt} {ps:List Str} {f:Addr} {oc:Value} {od an:Option Addr} {osl:Array (Option Value)} {kV doc pm cdv ct:Value} (X:K.In h) (G:h.Ns mainGlobals mg)
  (a:PySem.W.nsIn K mainGlobals x=some (some (.ref f))) (l:K.lookup f=some ⟨oc,od,.func (PySem.W.fnOf x x (a1Y st) (a1S st) (a0F st) .none kV doc pm an cdv ct),osl⟩) (c:PySem.W.codeIn K cdv x=true) (k:PySem.W.keepIn K (.ref f)=true)
  (hp:ps.length=1)
  (hb:∀ (kV doc pm:Value) (an:Option Addr) (cdv ct:Value) (u0:Value),bindArgs (PySem.W.fnOf x x (a1Y st) (a1S st) (a0F st) .none kV doc pm an cdv ct) ⟨[u0],[]⟩=pure (ps.zip [u0])) :
  Nonempty (Dn K mg x st ps) :=
 c4K X G a l c k λ kV doc pm an cdv ct us hl=>us1 (P:=λ us=>bindArgs (PySem.W.fnOf x x (a1Y st) (a1S st) (a0F st) .none kV doc pm an cdv ct) ⟨us,[]⟩=pure (ps.zip us)) (hl.trans hp) λ u0=>hb kV doc pm an cdv ct u0
theorem dn_mk2 {K:Φρ} {h:Heap} {mg:Str->Option Value} {x:Str} {st:Stmt} {ps:List Str} {f:Addr} {oc:Value} {od an:Option Addr} {osl:Array (Option Value)} {kV doc pm cdv ct:Value} (X:K.In h) (G:h.Ns mainGlobals mg)
  (a:PySem.W.nsIn K mainGlobals x=some (some (.ref f))) (l:K.lookup f=some ⟨oc,od,.func (PySem.W.fnOf x x (a1Y st) (a1S st) (a0F st) .none kV doc pm an cdv ct),osl⟩) (c:PySem.W.codeIn K cdv x=true) (k:PySem.W.keepIn K (.ref f)=true)
  (hp:ps.length=2)
  (hb:∀ (kV doc pm:Value) (an:Option Addr) (cdv ct:Value) (u0 u1:Value),bindArgs (PySem.W.fnOf x x (a1Y st) (a1S st) (a0F st) .none kV doc pm an cdv ct) ⟨[u0,u1],[]⟩=pure (ps.zip [u0,u1])) :
  Nonempty (Dn K mg x st ps) :=
 c4K X G a l c k λ kV doc pm an cdv ct us hl=>us2 (P:=λ us=>bindArgs (PySem.W.fnOf x x (a1Y st) (a1S st) (a0F st) .none kV doc pm an cdv ct) ⟨us,[]⟩=pure (ps.zip us)) (hl.trans hp) λ u0 u1=>hb kV doc pm an cdv ct u0 u1
theorem dn_mk3 {K:Φρ} {h:Heap} {mg:Str->Option Value} {x:Str} {st:Stmt} {ps:List Str} {f:Addr} {oc:Value} {od an:Option Addr} {osl:Array (Option Value)} {kV doc pm cdv ct:Value} (X:K.In h) (G:h.Ns mainGlobals mg)
  (a:PySem.W.nsIn K mainGlobals x=some (some (.ref f))) (l:K.lookup f=some ⟨oc,od,.func (PySem.W.fnOf x x (a1Y st) (a1S st) (a0F st) .none kV doc pm an cdv ct),osl⟩) (c:PySem.W.codeIn K cdv x=true) (k:PySem.W.keepIn K (.ref f)=true)
  (hp:ps.length=3)
  (hb:∀ (kV doc pm:Value) (an:Option Addr) (cdv ct:Value) (u0 u1 u2:Value),bindArgs (PySem.W.fnOf x x (a1Y st) (a1S st) (a0F st) .none kV doc pm an cdv ct) ⟨[u0,u1,u2],[]⟩=pure (ps.zip [u0,u1,u2])) :
  Nonempty (Dn K mg x st ps) :=
 c4K X G a l c k λ kV doc pm an cdv ct us hl=>us3 (P:=λ us=>bindArgs (PySem.W.fnOf x x (a1Y st) (a1S st) (a0F st) .none kV doc pm an cdv ct) ⟨us,[]⟩=pure (ps.zip us)) (hl.trans hp) λ u0 u1 u2=>hb kV doc pm an cdv ct u0 u1 u2
theorem dn_mk4 {K:Φρ} {h:Heap} {mg:Str->Option Value} {x:Str} {st:Stmt} {ps:List Str} {f:Addr} {oc:Value} {od an:Option Addr} {osl:Array (Option Value)} {kV doc pm cdv ct:Value} (X:K.In h) (G:h.Ns mainGlobals mg)
  (a:PySem.W.nsIn K mainGlobals x=some (some (.ref f))) (l:K.lookup f=some ⟨oc,od,.func (PySem.W.fnOf x x (a1Y st) (a1S st) (a0F st) .none kV doc pm an cdv ct),osl⟩) (c:PySem.W.codeIn K cdv x=true) (k:PySem.W.keepIn K (.ref f)=true)
  (hp:ps.length=4)
  (hb:∀ (kV doc pm:Value) (an:Option Addr) (cdv ct:Value) (u0 u1 u2 u3:Value),bindArgs (PySem.W.fnOf x x (a1Y st) (a1S st) (a0F st) .none kV doc pm an cdv ct) ⟨[u0,u1,u2,u3],[]⟩=pure (ps.zip [u0,u1,u2,u3])) :
  Nonempty (Dn K mg x st ps) :=
 c4K X G a l c k λ kV doc pm an cdv ct us hl=>us4 (P:=λ us=>bindArgs (PySem.W.fnOf x x (a1Y st) (a1S st) (a0F st) .none kV doc pm an cdv ct) ⟨us,[]⟩=pure (ps.zip us)) (hl.trans hp) λ u0 u1 u2 u3=>hb kV doc pm an cdv ct u0 u1 u2 u3
end L2
namespace L2
open PySem PySem.Spec PyProof.Rows
section
variable {κ:Type} [DecidableEq κ]
end
section
variable {P:Program} {w:World} {H:Hp} {h:Heap} {a:Addr}
end
section
variable {X:Cx} {pins:List (Addr × Obj)} {σ:St} {H:Hp} {s:Shared} {a:Addr} {y v:V} {u r:Value} {o:Option V} {A:Around} {E:Value->Shared->Prop}
end
section
variable {X:Cx} {pins:List (Addr × Obj)} {σ:St} {H:Hp} {s:Shared} {a:Addr} {kvs:List (Key × V)} {k:Key} {u:Value} {A:Around} {E:Value->Shared->Prop}
end
section
variable {X:Cx} {o i e value:Expr} {pos pos' tpos:Pos} {td ty tv:TE}
end
section
variable {X:Cx} {pos:Pos}
end
end L2
namespace L2
open PySem PySem.Spec PyProof.Rows
section
variable {X:Cx}
end
end L2
namespace L2
open PySem PySem.Spec PyProof.Rows
section
variable {X:Cx} {pins:List (Addr × Obj)} {σ:St} {H:Hp} {s:Shared} {d:Addr} {kvs:List (Key × V)}
end
section
variable {X:Cx} {tg:Expr}
end
end L2
namespace L2
open PySem PySem.Spec PyProof.Rows
end L2
namespace L2
open PySem PySem.Spec PyProof.Rows
section
variable {X:Cx}
end
end L2
namespace K
open PySem L2 Lw Bg
def top (i:Nat):Stmt:=PySem.Challenge.pw_bagwood_k91_whole_no_tree_is_narrower.main.body.getD i (.Pass ⟨0,0,0,0⟩)
abbrev b0G:Stmt:=top 6
theorem b5I:FnScope ["thing"] ["thing"] (a0F b0G):=⟨rfl,rfl,rfl,by decide +kernel,rfl,by decide +kernel,by decide +kernel⟩
abbrev b0H:Stmt:=top 7
theorem b5J:FnScope ["n", "thing"] ["n", "thing"] (a0F b0H):=⟨rfl,rfl,rfl,by decide +kernel,rfl,by decide +kernel,by decide +kernel⟩
abbrev b6R:Stmt:=top 8
theorem c1N:FnScope ["n", "places"] ["n", "places"] (a0F b6R):=⟨rfl,rfl,rfl,by decide +kernel,rfl,by decide +kernel,by decide +kernel⟩
def c9C (K:Φρ):Sp:=λ vs H Q _=>∃ (x:V) (t:Value) (bi bb:Bool),vs=[x]/\TyOf K H x t/\PySem.W.kitOne K t (.type "int")=some bi/\PySem.W.kitOne K t (.type "bool")=some bb/\Q (.bl (bi && !bb)) H
def c9D:Sp:=λ vs H Q _=>∃ (n:Int) (o:Option Int),vs=[.int n,upV o]/\Q (.bl (a5Z n o)) H
def d4W (K:Φρ):Sp:=λ vs H Q _=>∃ (n:Int) (a:Addr) (ns:List Int),vs=[.int n,.ref a]/\SqL K H a (ns.map V.int)/\ns.length<=1000/\∀ H',Same H H'->Q (.bl (setF n ns)) H'
section
variable {P:Program} {w:World} {K:Φρ} {mg:Str->Option Value} {base:Heap}
abbrev DZ24 (K:PySem.W.Frag) (mg:Str->Option Value):=Dn K mg "is_whole" b0G ["thing"]
set_option maxHeartbeats 4000000 in
theorem b5K (B:Bl mg) (dZ24:DZ24 K mg):FnOk P w K mg base CX0 1 dZ24.f dZ24.fd ["thing"] (c9C K):=by
 refine dZ24.F.ok b5I (λ vs H Q E h=>?_) (λ cdv A outer s H vs Q E hr h=>?_)
 ·obtain ⟨x,t,bi,bb,rfl,_⟩:=h
  rfl
 obtain ⟨x,t,bi,bb,rfl,ty,h1,h2,q⟩:=h
 refine ⟨_,(a0D (a0N (a9W (a0I (a1C (K:=K) rfl) rfl B.isinstance (by decide +kernel) (a0A (pv 0) (a0A (a2Z (v:=.ty "int") (u:=.type "int") rfl B.int (by decide +kernel) rfl) a0B))) (a9V (d0S (a0I (a1C (K:=K) rfl) rfl B.isinstance (by decide +kernel) (a0A (pv 0) (a0A (a2Z (v:=.ty "bool") (u:=.type "bool") rfl B.bool (by decide +kernel) rfl) a0B)))))))),?_⟩
 refine ⟨_,rfl,_,_,_,_,_,rfl,rfl,ty,h1,_,rfl,?_⟩
 cases bi with
 | true =>
  refine iteT ?_
  exact ⟨_,rfl,_,_,_,_,_,rfl,rfl,ty,h2,_,rfl,q⟩
 | false=>exact iteF q
abbrev DZ21 (K:PySem.W.Frag) (mg:Str->Option Value):=Dn K mg "is_below" b0H ["n", "thing"]
set_option maxHeartbeats 4000000 in
theorem a8X (B:Bl mg) (dZ24:DZ24 K mg) (dZ21:DZ21 K mg):FnOk P w K mg base CX0 2 dZ21.f dZ21.fd ["n", "thing"] c9D:=by
 have gZ24:FnOk P w K mg base CX0 1 _ _ _ _:=b5K B dZ24
 refine dZ21.F.ok b5J (λ vs H Q E h=>?_) (λ cdv A outer s H vs Q E hr h=>?_)
 ·obtain ⟨n,i,rfl,_⟩:=h
  rfl
 obtain ⟨n,o,rfl,q⟩:=h
 refine ⟨_,(a0D (a0N (a9W (a0G gZ24 hr rfl dZ24.m dZ24.F.kp dZ24.b .nil a0S (a0A (pv 1) a0B)) (a9V (c4A d1A b7X a0E (pv 1) (pv 0)))))),?_⟩
 cases o with
 | none=>exact ⟨_,rfl,_,_,_,_,rfl,TyOf.non,b4V,b2Q,_,rfl,iteF q⟩
 | some i =>
  refine ⟨_,rfl,_,_,_,_,rfl,TyOf.int i,b4U,b2P,_,rfl,?_⟩
  refine iteT ?_
  refine ⟨_,rfl,_,_,rfl,rfl,_,rfl,?_⟩
  refine ite2 (λ c=>?_) (λ c=>?_)
  ·have c':0<=i:=of_decide_eq_true c
   refine ⟨_,rfl,_,_,rfl,rfl,?_⟩
   have e:a5Z n (some i)=decide (i < n):=by unfold a5Z; simp [c']
   rw [e] at q; exact q
  ·have c':¬ 0<=i:=of_decide_eq_false (Bool.eq_false_iff.mpr c)
   have e:a5Z n (some i)=false:=by unfold a5Z; simp [c']
   rw [e] at q; exact q
abbrev DZ23 (K:PySem.W.Frag) (mg:Str->Option Value):=Dn K mg "is_set" b6R ["n", "places"]
set_option maxHeartbeats 4000000 in
theorem b3H (B:Bl mg) (dZ24:DZ24 K mg) (dZ21:DZ21 K mg) (dZ23:DZ23 K mg):FnOk P w K mg base CX0 3 dZ23.f dZ23.fd ["n", "places"] (d4W K):=by
 have gZ21:FnOk P w K mg base CX0 2 _ _ _ _:=a8X B dZ24 dZ21
 refine dZ23.F.ok c1N (λ vs H Q E h=>?_) (λ cdv A outer s H vs Q E hr h=>?_)
 ·obtain ⟨n,a,ns,rfl,_⟩:=h
  rfl
 obtain ⟨n,a,ns,rfl,hS,hz,q⟩:=h
 refine ⟨_,(a0C (a1X (a3A (a0R (K:=K) rfl (a0I (b2R (K:=K) rfl rfl) rfl B.all (by decide +kernel) (a0A (a2V ["v", "n"] [none,some 0]  (by kernel_rfl) rfl (a0O (K:=K) rfl (pv 1)) (λ _ _ _ _ _=>(a0H (i:=0) (show (["v", "n"]:List Str).Nodup by decide +kernel) rfl (Or.inl rfl))) (λ _ _ _ _ _=>a1H) (λ _ _ _ _ _=>(a0G gZ21 hr rfl dZ21.m dZ21.F.kp dZ21.b .nil a0S (a0A (pv 1) (a0A (pv 0) a0B))))) a0B)) (λ _=>rfl)))
   (a0D (a0N a6U))
   a0Y)
   (a0D (a0N (a0I (b2R (K:=K) rfl rfl) rfl B.all (by decide +kernel) (a0A (a2V ["k", "places"] [none,some 1]  (by kernel_rfl) rfl (a3V rfl B.range (a0A a0E (a0A (a0I (a0T (K:=K) rfl) rfl B.len (by decide +kernel) (a0A (pv 1) a0B)) a0B))) (λ _ _ _ _ _=>(a0H (i:=0) (show (["k", "places"]:List Str).Nodup by decide +kernel) rfl (Or.inl rfl))) (λ _ _ _ _ _=>a1H) (λ _ _ _ _ _=>(a4E b7X (a0V (a0L (K:=K) rfl) (pv 1) (a0Q a3E (pv 0) a0E) (λ _ _=>rfl)) (a0V (a0L (K:=K) rfl) (pv 1) (pv 0) (λ _ _=>rfl)) (a0U _)))) a0B))))),?_⟩
 refine ⟨_,rfl,a,rfl,⟨_,hS⟩,?_⟩
 refine a4T (λ x=>match x with | .int v=>some (.bl (decide (0<=v/\v < n))) | _=>none) hS (by rw [List.length_map]; exact hz) (λ x H1 N hx sm hN=>?_) (λ H1 p H1' sm hp=>?_)
 ·obtain ⟨v,hv,rfl⟩:=List.mem_map.mp hx
  exact ⟨_,rfl,_,rfl,n,some v,rfl,hN H1 sm⟩
 have e1:(ns.map V.int).filterMap (λ x=>match x with | .int v=>some (V.bl (decide (0<=v/\v < n))) | _=>none)=(ns.map λ v=>decide (0<=v/\v < n)).map V.bl:=by
  rw [List.map_map]
  exact c0C λ v _=>rfl
 rw [e1] at hp
 refine ⟨p,_,_,rfl,SqL.of hp.here,Truths.bls _,_,rfl,?_⟩
 have s1:Same H H1':=sm.trans hp.same
 have e2:((ns.map λ v=>decide (0<=v/\v < n)).all id)=ns.all λ v=>decide (0<=v/\v < n):=by rw [List.all_map]; rfl
 rw [e2]
 cases c:ns.all λ v=>decide (0<=v/\v < n) with
 | false =>
  refine iteT ?_
  have e:setF n ns=false:=by unfold setF; rw [c]; rfl
  rw [e] at q
  exact q _ s1
 | true =>
  refine iteF ?_
  have hl:((ns.map V.int).length:Int)=ns.length:=by rw [List.length_map]
  refine ⟨_,rfl,a,_,rfl,.inl (s1.seq hS),1,_,rfl,⟨by decide,by decide,by omega,by omega⟩,?_⟩
  have en:((((ns.map V.int).length:Nat):Int) - 1).toNat=ns.length - 1:=by rw [List.length_map]; omega
  rw [en]
  refine b4X (λ i=>some (.bl (decide (ns.getD i 0 < ns.getD (i+1) 0)))) (by omega) (λ i H2 N hi sm2 hN=>?_) (λ H2 p2 H2' sm2 hp2=>?_)
  ·refine ⟨_,rfl,_,rfl,_,_,rfl,rfl,a,_,_,_,rfl,rfl,sm2.seq (s1.seq hS),b0Z (by omega) (by omega),_,rfl,_,rfl,a,_,_,_,rfl,rfl,sm2.seq (s1.seq hS),b0Z (by omega) (by omega),_,_,rfl,rfl,?_⟩
   have z1:(1+(i:Int) - 1).toNat=i:=by omega
   have z2:(1+(i:Int)).toNat=i+1:=by omega
   rw [z1,z2]
   exact hN H2 sm2
  ·have e3:(List.range (ns.length - 1)).filterMap (λ i=>some (V.bl (decide (ns.getD i 0 < ns.getD (i+1) 0))))=((List.range (ns.length - 1)).map λ i=>decide (ns.getD i 0 < ns.getD (i+1) 0)).map V.bl:=by
    rw [List.map_map]
    exact a3R λ _ _=>rfl
   rw [e3] at hp2
   refine ⟨p2,_,_,rfl,SqL.of hp2.here,Truths.bls _,?_⟩
   have e:setF n ns=((List.range (ns.length - 1)).map λ i=>decide (ns.getD i 0 < ns.getD (i+1) 0)).all id:=by
    unfold setF b2T; rw [c,List.all_map]; rfl
   rw [e] at q
   exact q _ (s1.trans (sm2.trans hp2.same))
end
def a3S (xs ys:List Int):List Int:=xs.filter λ v=>!decide (v∈ys)
def b5L (xs ys:List Int):List Int:=xs.filter λ v=>decide (v∈ys)
def a4M (ts:List ζζ) (v:Int):List Int :=
 (ts.filterMap λ t=>if t.2=v then some t.1 else none)++ts.filterMap λ t=>if t.1=v then some t.2 else none
def d2N (K:Φρ):Sp:=λ vs H Q _=>∃ (a b:Addr) (xs ys:List Int),vs=[.ref a,.ref b]/\SqL K H a (xs.map V.int)/\SqL K H b (ys.map V.int)/\xs.length<=1000 /\
 ∀ H0 p H',Same H H0->New H0 p (.lst ((a3S xs ys).map V.int)) H'->Q (.ref p) H'
def c5D (K:Φρ):Sp:=λ vs H Q _=>∃ (a b:Addr) (xs ys:List Int),vs=[.ref a,.ref b]/\SqL K H a (xs.map V.int)/\SqL K H b (ys.map V.int)/\xs.length<=1000 /\
 ∀ H0 p H',Same H H0->New H0 p (.lst ((b5L xs ys).map V.int)) H'->Q (.ref p) H'
def c5E (K:Φρ):Sp:=λ vs H Q _=>∃ (g:V) (n:Int) (ts:List ζζ) (v:Int),vs=[g,.int v]/\GraphV K H g n ts/\0<=v/\v < n/\ts.length<=400 /\
 ∀ H0 p H',Same H H0->New H0 p (.lst ((a4M ts v).map V.int)) H'->Q (.ref p) H'
theorem b0I (xs:List Int) (c:Int->Bool):(xs.map V.int).filterMap (λ x=>match x with | .int v=>if c v then some (.int v) else none | _=>none)=(xs.filter c).map V.int:=by
 induction xs with
 | nil=>rfl
 | cons x r ih =>
  rw [List.map_cons,List.filter_cons]
  cases e:c x with
  | true=>rw [List.filterMap_cons_some (by simp only [e]; rfl),ih]; simp
  | false=>rw [List.filterMap_cons_none (by simp only [e]; rfl),ih]; simp
theorem a6C {α β:Type} (f:α->Option β):∀ ts:List α,(List.range ts.length).filterMap (λ j=>(ts[j]?).bind f)=ts.filterMap f
 | []=>rfl
 | t::r=>by
  rw [List.length_cons,List.range_succ_eq_map]
  have ih:=a6C f r
  have e2:(List.map Nat.succ (List.range r.length)).filterMap (λ j=>((t::r)[j]?).bind f)=r.filterMap f:=by
   rw [List.filterMap_map,<- ih]
   rfl
  cases e:f t with
  | none=>rw [List.filterMap_cons_none (by simpa using e),List.filterMap_cons_none e,e2]
  | some b=>rw [List.filterMap_cons_some (b:=b) (by simpa using e),List.filterMap_cons_some e,e2]
theorem c1O {α:Type} (f:α->Option Int) (g:α->Option V) (h:∀ a,g a=(f a).map V.int) (ts:List α):ts.filterMap g=(ts.filterMap f).map V.int:=by
 rw [List.map_filterMap]
 congr 1
 exact funext h
abbrev c1P:Stmt:=top 11
theorem c9E:FnScope ["one", "other"] ["one", "other"] (a0F c1P):=⟨rfl,rfl,rfl,by decide +kernel,rfl,by decide +kernel,by decide +kernel⟩
section
variable {P:Program} {w:World} {K:Φρ} {mg:Str->Option Value} {base:Heap}
abbrev DZ31 (K:PySem.W.Frag) (mg:Str->Option Value):=Dn K mg "less" c1P ["one", "other"]
set_option maxHeartbeats 4000000 in
theorem a8Y (B:Bl mg) (dZ31:DZ31 K mg):FnOk P w K mg base CX0 1 dZ31.f dZ31.fd ["one", "other"] (d2N K):=by
 refine dZ31.F.ok c9E (λ vs H Q E h=>?_) (λ cdv A outer s H vs Q E hr h=>?_)
 ·obtain ⟨a,b,xs,ys,rfl,_⟩:=h
  rfl
 obtain ⟨a,b,xs,ys,rfl,hA,hB,hz,q⟩:=h
 have hv:(A.deeper (PyProof.Rows.envOfC "less" (a0F c1P) s.heap.objs.size dZ31.f cdv)).units+65 < cLine:=by have:=hr.un; omega
 refine ⟨_,(a0D (a0N (a2V ["v", "other"] [none,some 1]  (by kernel_rfl) rfl (a0O (K:=K) rfl (pv 0)) (λ _ _ _ _ _=>(a0H (i:=0) (show (["v", "other"]:List Str).Nodup by decide +kernel) rfl (Or.inl rfl))) (λ _ _ _ _ _=>(a2S (a0P (a9Y (K:=K) rfl hv) (pv 0) (pv 1) (by with_unfolding_all rfl)))) (λ _ _ _ _ _=>(pv 0))))),?_⟩
 refine ⟨_,rfl,a,rfl,⟨_,hA⟩,?_⟩
 refine a4T (λ x=>match x with | .int v=>if !decide (v∈ys) then some (.int v) else none | _=>none) hA (by rw [List.length_map]; exact hz) (λ x H1 N hx sm hN=>?_) (λ H1 p H1' sm hp=>?_)
 ·obtain ⟨v,hv,rfl⟩:=List.mem_map.mp hx
  have hN':=hN H1 sm
  refine ⟨_,rfl,_,rfl,b2U (sm.seq hB) ⟨_,rfl,?_⟩⟩
  dsimp only at hN'
  cases c:decide (v∈ys) with
  | true=>rw [c] at hN'; exact iteF hN'
  | false=>rw [c] at hN'; exact iteT ⟨_,rfl,hN'⟩
 ·rw [b0I] at hp
  exact q _ _ _ sm hp
end
abbrev b1M:Stmt:=top 9
theorem c1Q:FnScope ["one", "other"] ["one", "other"] (a0F b1M):=⟨rfl,rfl,rfl,by decide +kernel,rfl,by decide +kernel,by decide +kernel⟩
section
variable {P:Program} {w:World} {K:Φρ} {mg:Str->Option Value} {base:Heap}
abbrev DZ12 (K:PySem.W.Frag) (mg:Str->Option Value):=Dn K mg "common" b1M ["one", "other"]
set_option maxHeartbeats 4000000 in
theorem c1R (B:Bl mg) (dZ12:DZ12 K mg):FnOk P w K mg base CX0 1 dZ12.f dZ12.fd ["one", "other"] (c5D K):=by
 refine dZ12.F.ok c1Q (λ vs H Q E h=>?_) (λ cdv A outer s H vs Q E hr h=>?_)
 ·obtain ⟨a,b,xs,ys,rfl,_⟩:=h
  rfl
 obtain ⟨a,b,xs,ys,rfl,hA,hB,hz,q⟩:=h
 have hv:(A.deeper (PyProof.Rows.envOfC "common" (a0F b1M) s.heap.objs.size dZ12.f cdv)).units+65 < cLine:=by have:=hr.un; omega
 refine ⟨_,(a0D (a0N (a2V ["v", "other"] [none,some 1]  (by kernel_rfl) rfl (a0O (K:=K) rfl (pv 0)) (λ _ _ _ _ _=>(a0H (i:=0) (show (["v", "other"]:List Str).Nodup by decide +kernel) rfl (Or.inl rfl))) (λ _ _ _ _ _=>(a2S (a0P (c0A (K:=K) rfl hv) (pv 0) (pv 1) (by with_unfolding_all rfl)))) (λ _ _ _ _ _=>(pv 0))))),?_⟩
 refine ⟨_,rfl,a,rfl,⟨_,hA⟩,?_⟩
 refine a4T (λ x=>match x with | .int v=>if decide (v∈ys) then some (.int v) else none | _=>none) hA (by rw [List.length_map]; exact hz) (λ x H1 N hx sm hN=>?_) (λ H1 p H1' sm hp=>?_)
 ·obtain ⟨v,hv,rfl⟩:=List.mem_map.mp hx
  have hN':=hN H1 sm
  refine ⟨_,rfl,_,rfl,c7D (sm.seq hB) ⟨_,rfl,?_⟩⟩
  dsimp only at hN'
  cases c:decide (v∈ys) with
  | true=>rw [c] at hN'; exact iteT ⟨_,rfl,hN'⟩
  | false=>rw [c] at hN'; exact iteF hN'
 ·rw [b0I] at hp
  exact q _ _ _ sm hp
end
abbrev c1S:Stmt:=top 10
theorem c5F:FnScope ["one", "other"] ["one", "other"] (a0F c1S):=⟨rfl,rfl,rfl,by decide +kernel,rfl,by decide +kernel,by decide +kernel⟩
theorem b3I {p q:Int->Bool} (h:∀ v,0<=v->v < 16->p v=q v):upF p=upF q:=by
 unfold upF
 refine List.filter_congr λ v hv=>?_
 obtain ⟨i,hi,rfl⟩:=List.mem_map.mp hv
 have:=List.mem_range.mp hi
 exact h _ (by omega) (by omega)
def a2C (xs ys:List Int):List Int:=upF λ v=>decide (v∈xs\/v∈ys)
def c9F (K:Φρ):Sp:=λ vs H Q _=>∃ (a b:Addr) (xs ys:List Int),vs=[.ref a,.ref b]/\SqL K H a (xs.map V.int)/\SqL K H b (ys.map V.int)/\b1L xs/\b1L ys /\
 ∀ H0 p H',Same H H0->New H0 p (.lst ((a2C xs ys).map V.int)) H'->Q (.ref p) H'
section
variable {P:Program} {w:World} {K:Φρ} {mg:Str->Option Value} {base:Heap}
abbrev DZ25 (K:PySem.W.Frag) (mg:Str->Option Value):=Dn K mg "joint" c1S ["one", "other"]
set_option maxHeartbeats 4000000 in
theorem b1N (B:Bl mg) (dZ25:DZ25 K mg):FnOk P w K mg base CX0 1 dZ25.f dZ25.fd ["one", "other"] (c9F K):=by
 refine dZ25.F.ok c5F (λ vs H Q E h=>?_) (λ cdv A outer s H vs Q E hr h=>?_)
 ·obtain ⟨a,b,xs,ys,rfl,_⟩:=h
  rfl
 obtain ⟨a,b,xs,ys,rfl,hA,hB,sA,sB,q⟩:=h
 refine ⟨_,(a0D (a0N (a0I (a7K (w:=w) rfl rfl) rfl B.sorted (by decide +kernel) (a0A (a0Q (d2L (w:=w) rfl) (a2M (a8W (K:=K) (w:=w) rfl rfl rfl) rfl B.set (by decide +kernel) (a0A (pv 0) a0B)) (a2M (a8W (K:=K) (w:=w) rfl rfl rfl) rfl B.set (by decide +kernel) (a0A (pv 1) a0B))) a0B)))),?_⟩
 refine ⟨_,rfl,a,xs,rfl,hA,sA,λ p1 L1 H1 n1 m1=>?_⟩
 refine ⟨_,rfl,b,ys,rfl,n1.same.seq hB,sB,λ p2 L2 H2 n2 m2=>?_⟩
 refine ⟨p1,p2,L1,L2,rfl,rfl,n2.ne n1.here,n2.same _ _ n1.here,n2.here,λ p3 L H3 n3 m3=>?_⟩
 refine ⟨p3,false,L,rfl,n3.here,λ p4 H4 n4=>?_⟩
 have e:(upF λ v=>decide (v.toNat∈L))=a2C xs ys:=b3I λ v h0 h1=>by
  have ev:((v.toNat:Nat):Int)=v:=by omega
  rw [decide_eq_decide,m3 v.toNat,m1 v.toNat,m2 v.toNat,ev]
 rw [e] at n4
 exact q H3 p4 H4 (n1.same.trans (n2.same.trans n3.same)) n4
end
abbrev b6S:Stmt:=top 13
theorem sc_around:FnScope ["graph", "v", "lesser", "greater"] ["graph", "v"] (a0F b6S):=⟨rfl,rfl,rfl,by decide +kernel,rfl,by decide +kernel,by decide +kernel⟩
section
variable {P:Program} {w:World} {K:Φρ} {mg:Str->Option Value} {base:Heap}
abbrev DZ10 (K:PySem.W.Frag) (mg:Str->Option Value):=Dn K mg "around" b6S ["graph", "v"]
set_option maxHeartbeats 4000000 in
theorem b3J (B:Bl mg) (dZ24:DZ24 K mg) (dZ21:DZ21 K mg) (dZ10:DZ10 K mg):FnOk P w K mg base CX0 3 dZ10.f dZ10.fd ["graph", "v"] (c5E K):=by
 have gZ21:FnOk P w K mg base CX0 2 _ _ _ _:=a8X B dZ24 dZ21
 refine dZ10.F.ok sc_around (λ vs H Q E h=>?_) (λ cdv A outer s H vs Q E hr h=>?_)
 ·obtain ⟨g,n,ts,v,rfl,_⟩:=h
  rfl
 obtain ⟨g,n,ts,v,rfl,hG,v0,v1,hz,q⟩:=h
 obtain ⟨pg,ta,rfl,hP,hT⟩:=hG
 obtain ⟨ys,hy,hq,hzt⟩:=id hT
 have hlt:ys.length=ts.length:=Paired.length hq
 refine ⟨_,(a0C (a1X (a3A (a0R (K:=K) rfl (a0G gZ21 hr rfl dZ21.m dZ21.F.kp dZ21.b .nil a0S (a0A (a0V (a0Z (K:=K) rfl) (pv 0) a0E (λ _ _=>rfl)) (a0A (pv 1) a0B))) (λ _=>rfl)))
   (a0D b0U)
   a0Y)
   (a0C (a3B (i:=2) ["a", "b", "v"] [none,none,some 1] sc_around.nd rfl rfl (by kernel_rfl) rfl (a0O (K:=K) rfl (a0V (a0Z (K:=K) rfl) (pv 0) a0E (λ _ _=>rfl))) (λ _ _ _ _ _=>(a2N (K:=K) (n:=2) rfl rfl (a0X (a0H (i:=0) (show (["a", "b", "v"]:List Str).Nodup by decide +kernel) rfl (Or.inl rfl)) (a0X (a0H (i:=1) (show (["a", "b", "v"]:List Str).Nodup by decide +kernel) rfl (Or.inl rfl)) a2L)))) (λ _ _ _ _ _=>(a2S (a0P a3Q (pv 1) (pv 2) (a0U _)))) (λ _ _ _ _ _=>(pv 0)) (by rfl))
   (a0C (a3B (i:=3) ["a", "b", "v"] [none,none,some 1] sc_around.nd rfl rfl (by kernel_rfl) rfl (a0O (K:=K) rfl (a0V (a0Z (K:=K) rfl) (pv 0) a0E (λ _ _=>rfl))) (λ _ _ _ _ _=>(a2N (K:=K) (n:=2) rfl rfl (a0X (a0H (i:=0) (show (["a", "b", "v"]:List Str).Nodup by decide +kernel) rfl (Or.inl rfl)) (a0X (a0H (i:=1) (show (["a", "b", "v"]:List Str).Nodup by decide +kernel) rfl (Or.inl rfl)) a2L)))) (λ _ _ _ _ _=>(a2S (a0P a3Q (pv 0) (pv 2) (a0U _)))) (λ _ _ _ _ _=>(pv 1)) (by rfl))
   (a0D (a0N (a0Q b0Y (pv 2) (pv 3))))))),?_⟩
 have hb:a5Z n (some v)=true:=by unfold a5Z; simp [v0,v1]
 refine ⟨_,rfl,pg,_,_,_,rfl,rfl,hP,rfl,_,rfl,n,some v,rfl,_,rfl,?_⟩
 rw [hb]
 refine iteF ?_
 refine ⟨_,rfl,pg,_,_,_,rfl,rfl,hP,rfl,ta,rfl,⟨_,hy⟩,?_⟩
 refine b2S (λ j=>(ts[j]?).bind λ t=>if t.2=v then some (V.int t.1) else none) hy (by omega) (λ j x H3 N hj s3 hN=>?_) (λ H3 p1 H4 s3 nw=>?_)
 ·obtain ⟨t,ht,⟨pt,rfl,hTt⟩⟩:=a1A hq hj
  have hN':=hN H3 s3
  rw [ht] at hN'
  refine ⟨pt,_,rfl,s3.tupq hTt,rfl,_,_,rfl,_,_,rfl,rfl,_,rfl,_,rfl,rfl,_,rfl,?_⟩
  refine ite2 (λ c=>?_) (λ c=>?_)
  ·have c':V.int t.2=V.int v:=of_decide_eq_true c
   have c2:t.2=v:=by injection c'
   dsimp only [Option.bind] at hN'
   rw [if_pos c2] at hN'
   exact ⟨_,rfl,hN'⟩
  ·have c':¬ V.int t.2=V.int v:=of_decide_eq_false (Bool.eq_false_iff.mpr c)
   have c2:¬ t.2=v:=λ z=>c' (by rw [z])
   dsimp only [Option.bind] at hN'
   rw [if_neg c2] at hN'
   exact hN'
 rw [hlt,a6C,c1O (λ t=>if t.2=v then some t.1 else none) _ (λ t=>by split <;> rfl)] at nw
 have s4:=s3.trans nw.same
 refine ⟨_,rfl,pg,_,_,_,rfl,rfl,s4.tupq hP,rfl,ta,rfl,⟨_,s4.seq hy⟩,?_⟩
 refine b2S (λ j=>(ts[j]?).bind λ t=>if t.1=v then some (V.int t.2) else none) (s4.seq hy) (by omega) (λ j x H5 N hj s5 hN=>?_) (λ H5 p2 H6 s5 nw2=>?_)
 ·obtain ⟨t,ht,⟨pt,rfl,hTt⟩⟩:=a1A hq hj
  have hN':=hN H5 s5
  rw [ht] at hN'
  refine ⟨pt,_,rfl,(s4.trans s5).tupq hTt,rfl,_,_,rfl,_,_,rfl,rfl,_,rfl,_,rfl,rfl,_,rfl,?_⟩
  refine ite2 (λ c=>?_) (λ c=>?_)
  ·have c':V.int t.1=V.int v:=of_decide_eq_true c
   have c2:t.1=v:=by injection c'
   dsimp only [Option.bind] at hN'
   rw [if_pos c2] at hN'
   exact ⟨_,rfl,hN'⟩
  ·have c':¬ V.int t.1=V.int v:=of_decide_eq_false (Bool.eq_false_iff.mpr c)
   have c2:¬ t.1=v:=λ z=>c' (by rw [z])
   dsimp only [Option.bind] at hN'
   rw [if_neg c2] at hN'
   exact hN'
 rw [hlt,a6C,c1O (λ t=>if t.1=v then some t.2 else none) _ (λ t=>by split <;> rfl)] at nw2
 refine ⟨_,rfl,_,rfl,p1,p2,_,_,rfl,rfl,(s5.trans nw2.same) _ _ nw.here,nw2.here,?_,λ p3 H7 nw3=>?_⟩
 ·rw [List.length_map,List.length_map]
  have h1:=List.length_filterMap_le (λ t:Int × Int=>if t.2=v then some t.1 else none) ts
  have h2:=List.length_filterMap_le (λ t:Int × Int=>if t.1=v then some t.2 else none) ts
  omega
 ·rw [<- List.map_append] at nw3
  exact q _ _ _ (s4.trans (s5.trans nw2.same)) nw3
end
abbrev d2O:Stmt:=top 17
theorem sc_rim:FnScope ["graph", "places", "tied", "v"] ["graph", "places"] (a0F d2O):=⟨rfl,rfl,rfl,by decide +kernel,rfl,by decide +kernel,by decide +kernel⟩
theorem tied_mem {ts:List ζζ} {u v:Int}:u∈a4M ts v↔(u,v)∈ts\/(v,u)∈ts:=by
 unfold a4M
 rw [List.mem_append,List.mem_filterMap,List.mem_filterMap]
 constructor
 ·rintro (⟨t,ht,e⟩ | ⟨t,ht,e⟩)
  ·split at e
   ·rename_i c
    injection e with e
    subst e; subst c
    exact .inl ht
   ·cases e
  ·split at e
   ·rename_i c
    injection e with e
    subst e; subst c
    exact .inr ht
   ·cases e
 ·rintro (h | h)
  ·exact .inl ⟨_,h,by simp⟩
  ·exact .inr ⟨_,h,by simp⟩
def b3K (ts:List ζζ) (ps:List Int) (u:Int):Bool:=ps.any λ v=>decide (u∈a4M ts v)
def rimF (ts:List ζζ) (ps:List Int):List Int:=a3S (upF (b3K ts ps)) ps
theorem c1T (p:Int->Bool):b1L (upF p):=λ n hn=>by
 obtain ⟨a,b,_⟩:=mem_upF.mp hn
 exact ⟨a,b⟩
theorem c1U (p:Int->Bool):(upF p).length<=16:=by
 unfold upF
 refine Nat.le_trans (List.length_filter_le _ _) ?_
 simp
theorem b3L {ts:List ζζ} {v:Int} (h:∀ t∈ts,0<=t.1/\t.1 < 16/\0<=t.2/\t.2 < 16):b1L (a4M ts v):=λ u hu=>by
 rcases tied_mem.mp hu with c | c
 ·have:=h _ c; exact ⟨this.1,this.2.1⟩
 ·have:=h _ c; exact this.2.2
def d4X (K:Φρ):Sp:=λ vs H Q _=>∃ (g:V) (n:Int) (ts:List ζζ) (b:Addr) (ps:List Int),vs=[g,.ref b]/\GraphV K H g n ts/\n<=16/\ts.length<=400/\(∀ t∈ts,0<=t.1/\t.1 < 16/\0<=t.2/\t.2 < 16)/\SqL K H b (ps.map V.int)/\(∀ v∈ps,0<=v/\v < n) /\
 ∀ H0 p H',Same H H0->New H0 p (.lst ((rimF ts ps).map V.int)) H'->Q (.ref p) H'
section
variable {P:Program} {w:World} {K:Φρ} {mg:Str->Option Value} {base:Heap}
abbrev DZ40 (K:PySem.W.Frag) (mg:Str->Option Value):=Dn K mg "rim" d2O ["graph", "places"]
set_option maxHeartbeats 4000000 in
theorem d2P (B:Bl mg) (dZ24:DZ24 K mg) (dZ21:DZ21 K mg) (dZ31:DZ31 K mg) (dZ25:DZ25 K mg) (dZ10:DZ10 K mg) (dZ40:DZ40 K mg):FnOk P w K mg base CX0 4 dZ40.f dZ40.fd ["graph", "places"] (d4X K):=by
 have gZ25:FnOk P w K mg base CX0 3 _ _ _ _:=(b1N B dZ25).mono (by decide)
 have gZ31:FnOk P w K mg base CX0 3 _ _ _ _:=(a8Y B dZ31).mono (by decide)
 have gZ10:FnOk P w K mg base CX0 3 _ _ _ _:=b3J B dZ24 dZ21 dZ10
 refine dZ40.F.ok sc_rim (λ vs H Q E h=>?_) (λ cdv A outer s H vs Q E hr h=>?_)
 ·obtain ⟨g,n,ts,b,ps,rfl,_⟩:=h
  rfl
 obtain ⟨g,n,ts,b,ps,rfl,hG,hn,hz,ht,hB,hin,q⟩:=h
 refine ⟨_,(a0C (a0J (i:=2) sc_rim.nd rfl (Or.inl rfl) (a1M a0B))
   (a0C (a1Q PassesOwn.never rfl (a0O (K:=K) rfl (pv 1)) (a0H (i:=3) sc_rim.nd rfl (Or.inl rfl))
   (a0D (a0J (i:=2) sc_rim.nd rfl (Or.inl rfl) (a0G gZ25 hr rfl dZ25.m dZ25.F.kp dZ25.b .nil a0S (a0A (pv 2) (a0A (a0G gZ10 hr rfl dZ10.m dZ10.F.kp dZ10.b .nil a0S (a0A (pv 0) (a0A (pv 3) a0B))) a0B))))))
   (a0D (a0N (a0G gZ31 hr rfl dZ31.m dZ31.F.kp dZ31.b .nil a0S (a0A (pv 2) (a0A (pv 1) a0B))))))),?_⟩
 refine ⟨(by show 0<=1000; decide),λ p0 H0 n0=>?_⟩
 refine ⟨_,rfl,b,rfl,⟨_,n0.same.seq hB⟩,?_⟩
 refine a2G (xs:=ps.map V.int) (λ i σ H'=>∃ (p:Addr) (pl:Option V),σ=[some g,some (.ref b),some (.ref p),pl]/\Same H H'/\H' p=some (.lst ((upF (b3K ts (ps.take i))).map V.int))) ⟨p0,none,rfl,n0.same,?_⟩ (λ i σ H' _ ⟨p,pl,_,s,_⟩=>s.seq hB) ?_ ?_
 ·rw [n0.here,List.take_zero]
  have e:upF (b3K ts [])=[]:=by
   unfold upF b3K
   simp
  rw [e]
  rfl
 ·rintro i x σ H' hx ⟨p,pl,rfl,s,hp⟩
  rw [List.getElem?_map] at hx
  obtain ⟨v,hv,rfl⟩:=Option.map_eq_some_iff.mp hx
  have vm:v∈ps:=List.mem_of_getElem? hv
  have vi:=hin v vm
  have et:ps.take (i+1)=ps.take i++[v]:=by rw [List.take_succ,hv]; rfl
  refine ⟨_,rfl,_,rfl,_,rfl,g,n,ts,v,rfl,hG.same s,vi.1,vi.2,hz,λ H1 p1 H2 s1 n1=>?_⟩
  have s2:Same H' H2:=s1.trans n1.same
  refine ⟨p,p1,_,_,rfl,SqL.of (s2 _ _ hp),SqL.of n1.here,c1T _,b3L ht,λ H3 p2 H4 s3 n3=>?_⟩
  refine ⟨p2,_,rfl,s.trans (s2.trans (s3.trans n3.same)),?_⟩
  rw [n3.here,et]
  have e:a2C (upF (b3K ts (ps.take i))) (a4M ts v)=upF (b3K ts (ps.take i++[v])):=b3I λ u h0 h1=>by
   unfold b3K
   rw [List.any_append,Bool.eq_iff_iff,decide_eq_true_iff,Bool.or_eq_true,mem_upF]
   simp [h0,h1]
  rw [e]
 ·rintro σ H' ⟨p,pl,rfl,s,hp⟩
  rw [List.length_map,List.take_length] at hp
  refine ⟨_,rfl,_,rfl,p,b,_,ps,rfl,SqL.of hp,s.seq hB,Nat.le_trans (c1U _) (by decide),λ H1 p1 H2 s1 n1=>?_⟩
  exact q H1 p1 H2 (s.trans s1) n1
end
abbrev natV (l:List Nat):List V:=l.map λ (x:Nat)=>V.int (x:Int)
theorem a3P:∀ {m:Nat} {l:List Nat},l.Nodup->(∀ x∈l,x < m)->l.length<=m
 | 0,l,_,lt=>by
  cases l with
  | nil=>exact Nat.le_refl _
  | cons x r=>exact absurd (lt x List.mem_cons_self) (Nat.not_lt_zero _)
 | m+1,l,nd,lt=>by
  have ih:=a3P (m:=m) (nd.erase m) λ x hx=>by
   obtain ⟨h1,h2⟩:=nd.mem_erase_iff.mp hx
   have:=lt x h2
   omega
  rw [List.length_erase] at ih
  split at ih <;> omega
theorem a1D (l:List Nat):natV l=(l.map λ (x:Nat)=>(x:Int)).map V.int:=by
 unfold natV
 rw [List.map_map]
 rfl
theorem a5Q {l:List Nat} {j:Nat} (h:j < l.length):atI (natV l) (j:Int)=some (.int ((l.getD j 0:Nat):Int)):=a1L (by
 unfold natV
 rw [List.getElem?_map,List.getElem?_eq_getElem h,τα,List.getElem?_eq_getElem h]; rfl)
abbrev a8Z:Stmt:=top 20
theorem b3M:FnScope ["mask"] ["mask"] (a0F a8Z):=⟨rfl,rfl,rfl,by decide +kernel,rfl,by decide +kernel,by decide +kernel⟩
abbrev a7L:Stmt:=top 22
theorem sc_first_bags:FnScope ["graph", "bags", "a", "b"] ["graph"] (a0F a7L):=⟨rfl,rfl,rfl,by decide +kernel,rfl,by decide +kernel,by decide +kernel⟩
abbrev a9A:Stmt:=top 23
theorem sc_taken_out:FnScope ["bags", "v", "bit", "left"] ["bags", "v"] (a0F a9A):=⟨rfl,rfl,rfl,by decide +kernel,rfl,by decide +kernel,by decide +kernel⟩
theorem a1J (l:List Nat):(natV l).length=l.length:=List.length_map _
def b8P:Sp:=λ vs H Q _=>∃ (m:Nat),vs=[.int (m:Int)]/\m < 2 ^ 10/\∀ H0 p H',Same H H0->New H0 p (.lst (natV (a0M m))) H'->Q (.ref p) H'
def c9G (K:Φρ):Sp:=λ vs H Q _=>∃ (g:V) (n:Nat) (ts:List ζζ),vs=[g]/\GraphV K H g n ts/\(∀ t∈ts,0<=t.1/\t.1 < t.2/\t.2 < (n:Int))/\n<=10 /\
 ∀ p ms H',Same H H'->H p=none->H' p=some (.lst (natV ms))->BagsM n ms (a2W n ts)->Q (.ref p) H'
def c5G (K:Φρ):Sp:=λ vs H Q _=>∃ (a:Addr) (n:Nat) (ms:List Nat) (R:Nat->Nat->Bool) (v:Nat),vs=[.ref a,.int (v:Int)]/\SqL K H a (natV ms)/\BagsM n ms R/\v < n /\
 ∀ p H',Same H H'->H p=none->H' p=some (.lst (natV (b1I v ms)))->Q (.ref p) H'
theorem shl1 (v:Nat):((1:Int)*2 ^ ((v:Nat):Int).toNat)=((2 ^ v:Nat):Int):=by
 rw [Int.toNat_natCast,Int.one_mul]
 exact (Int.natCast_pow 2 v).symm
theorem c1V (n:Nat) (hn:n<=10):BagsM n ((List.range n).map λ v=>2 ^ v) (a2W n []):=by
 refine ⟨by simp,hn,λ m hm=>?_,λ v hv u=>?_,λ v u h=>?_⟩
 ·obtain ⟨v,hv,rfl⟩:=List.mem_map.mp hm
  have:=List.mem_range.mp hv
  exact Nat.pow_lt_pow_right (by decide) (by omega)
 ·rw [τα,List.getElem?_map,List.getElem?_range hv]
  simp only [Option.map_some,Option.getD_some]
  rw [Nat.testBit_two_pow]
  unfold a2W
  by_cases c:v=u
  ·subst c; simp [hv]
  ·rw [decide_eq_false c]
   have:¬ u=v:=λ z=>c z.symm
   simp [this]
 ·unfold a2W at h
  rw [Bool.and_eq_true] at h
  exact of_decide_eq_true h.1
theorem c1W {n:Nat} {ms:List Nat} {ts:List ζζ} {a b:Nat} (B:BagsM n ms (a2W n ts)) (ha:a < n) (hb:b < n) (ab:a≠b) :
  BagsM n ((ms.set a (ms.getD a 0 ||| 2 ^ b)).set b ((ms.set a (ms.getD a 0 ||| 2 ^ b)).getD b 0 ||| 2 ^ a)) (a2W n (ts++[((a:Int),(b:Int))])):=by
 have la:a < ms.length:=by rw [B.len]; exact ha
 have lb:b < ms.length:=by rw [B.len]; exact hb
 have gb:(ms.set a (ms.getD a 0 ||| 2 ^ b)).getD b 0=ms.getD b 0:=by
  rw [τα,List.getElem?_set_ne ab,<- τα]
 rw [gb]
 have far:∀ v u,a2W n (ts++[((a:Int),(b:Int))]) v u=true->v < n/\u < n:=λ v u h=>by
  unfold a2W at h
  rw [Bool.and_eq_true] at h
  exact of_decide_eq_true h.1
 have bit:∀ v < n,∀ u,(((ms.set a (ms.getD a 0 ||| 2 ^ b)).set b (ms.getD b 0 ||| 2 ^ a)).getD v 0).testBit u=a2W n (ts++[((a:Int),(b:Int))]) v u:=λ v hv u=>by
  have old:=B.bit v hv u
  unfold a2W at old ⊢
  by_cases cb:v=b
  ·subst cb
   rw [τα,List.getElem?_set_self (by rw [List.length_set]; exact lb)]
   simp only [Option.getD_some]
   rw [Nat.testBit_or,old,Nat.testBit_two_pow]
   by_cases cu:u < n
   ·by_cases c:a=u
    ·subst c; simp [hv,cu]
    ·have c1:¬ u=a:=λ z=>c z.symm
     have c2:¬ ((u:Int)=(a:Int)):=by omega
     have c3:¬ ((v:Int)=(a:Int)/\(u:Int)=(v:Int)):=by omega
     have c4:¬ ((v:Int)=(a:Int)):=by omega
     simp [hv,cu,c,c2,c4]
   ·have:¬ a=u:=by omega
    simp [cu,this]
  ·rw [τα,List.getElem?_set_ne (Ne.symm cb)]
   by_cases ca:v=a
   ·subst ca
    rw [List.getElem?_set_self la]
    simp only [Option.getD_some]
    rw [Nat.testBit_or,old,Nat.testBit_two_pow]
    by_cases cu:u < n
    ·by_cases c:b=u
     ·subst c; simp [hv,cu]
     ·have c2:¬ ((u:Int)=(b:Int)):=by omega
      have c4:¬ ((v:Int)=(b:Int)):=by omega
      simp [hv,cu,c,c2,c4]
    ·have:¬ b=u:=by omega
     simp [cu,this]
   ·rw [List.getElem?_set_ne (Ne.symm ca),<- τα,old]
    have c1:¬ ((v:Int)=(a:Int)):=by omega
    have c2:¬ ((v:Int)=(b:Int)):=by omega
    simp [c1,c2]
 refine ⟨by rw [List.length_set,List.length_set]; exact B.len,B.n10,λ m hm=>?_,bit,far⟩
 obtain ⟨j,hj,ej⟩:=List.getElem_of_mem hm
 have jn:j < n:=by
  rw [List.length_set,List.length_set,B.len] at hj
  exact hj
 have e:((ms.set a (ms.getD a 0 ||| 2 ^ b)).set b (ms.getD b 0 ||| 2 ^ a)).getD j 0=m:=by rw [τα,List.getElem?_eq_getElem hj,ej]; rfl
 refine a2T λ u hu=>?_
 rw [<- e,bit j jn] at hu
 have:=far j u hu
 have:=B.n10
 omega
theorem b1O (l:List Nat) (i x:Nat):(natV l).set i (.int (x:Int))=natV (l.set i x):=by
 unfold natV
 rw [List.map_set]
section
variable {P:Program} {w:World} {K:Φρ} {mg:Str->Option Value} {base:Heap}
abbrev DZ38 (K:PySem.W.Frag) (mg:Str->Option Value):=Dn K mg "places_of" a8Z ["mask"]
set_option maxHeartbeats 4000000 in
theorem a5B (B:Bl mg) (dZ38:DZ38 K mg):FnOk P w K mg base CX0 1 dZ38.f dZ38.fd ["mask"] b8P:=by
 refine dZ38.F.ok b3M (λ vs H Q E h=>?_) (λ cdv A outer s H vs Q E hr h=>?_)
 ·obtain ⟨m,rfl,_⟩:=h
  rfl
 obtain ⟨m,rfl,hm,q⟩:=h
 refine ⟨_,(a0D (a0N (a2V ["v", "mask"] [none,some 0]  (by kernel_rfl) rfl (a2U rfl B.range (a0A (b4W (K:=K) rfl PySem.F.plainAttrs_int PySem.F.slot_int_bit_length PySem.F.type_int_bit_length c0X (pv 0)) a0B)) (λ _ _ _ _ _=>(a0H (i:=0) (show (["v", "mask"]:List Str).Nodup by decide +kernel) rfl (Or.inl rfl))) (λ _ _ _ _ _=>(a2S (a0R (K:=K) rfl (a0Q b2E (pv 1) (a0Q a3X a0E (pv 0))) (λ _=>rfl)))) (λ _ _ _ _ _=>(pv 0))))),?_⟩
 have hb:=b5B hm
 refine ⟨_,rfl,rfl,m,rfl,rfl,_,rfl,by omega,by omega,?_⟩
 rw [Int.toNat_natCast]
 refine b4X (lo:=0) (n:=Builtin.Int.intBits (m:Int)) (λ j=>if m.testBit j=true then some (.int ((j:Nat):Int)) else none) (by omega) (λ j H7 N hj s7 hN=>?_) (λ H7 pd H8 s7 n8=>?_)
 ·have hN':=hN H7 s7
  have ej:(0+(j:Int))=((j:Nat):Int):=by omega
  rw [ej]
  refine ⟨_,rfl,_,rfl,_,_,rfl,rfl,⟨by omega,by omega,by decide⟩,_,_,rfl,rfl,_,rfl,?_⟩
  dsimp only
  rw [shl1,b1G]
  cases c:m.testBit j with
  | true =>
   rw [if_pos c] at hN'
   have:m &&& 2 ^ j≠0:=λ z=>by rw [(b1H m j).mp z] at c; cases c
   rw [show (((m &&& 2 ^ j:Nat):Int) != 0)=true by simpa using this]
   exact iteT ⟨_,rfl,hN'⟩
  | false =>
   rw [if_neg (by rw [c]; decide)] at hN'
   rw [(b1H m j).mpr c]
   exact iteF hN'
 ·have e:(List.range (Builtin.Int.intBits (m:Int))).filterMap (λ j=>if m.testBit j=true then some (V.int ((j:Nat):Int)) else none)=natV (a0M m):=by
   rw [<- b5C hm]
   unfold natV
   rw [<- List.filterMap_eq_filter,List.map_filterMap]
   congr 1
   funext j
   by_cases c:m.testBit j=true
   ·rw [if_pos c]; simp [Option.guard,c]
   ·rw [if_neg c]; simp [Option.guard,c]
  rw [e] at n8
  exact q _ _ _ s7 n8
abbrev DZ17 (K:PySem.W.Frag) (mg:Str->Option Value):=Dn K mg "first_bags" a7L ["graph"]
set_option maxHeartbeats 4000000 in
theorem a4N (B:Bl mg) (dZ17:DZ17 K mg):FnOk P w K mg base CX0 1 dZ17.f dZ17.fd ["graph"] (c9G K):=by
 refine dZ17.F.ok sc_first_bags (λ vs H Q E h=>?_) (λ cdv A outer s H vs Q E hr h=>?_)
 ·obtain ⟨g,n,ts,rfl,_⟩:=h
  rfl
 obtain ⟨g,n,ts,rfl,hG,okt,n10,q⟩:=h
 obtain ⟨pg,ta,rfl,hP,hT⟩:=hG
 obtain ⟨ys,hy,hq,hzt⟩:=id hT
 have hlt:ys.length=ts.length:=Paired.length hq
 refine ⟨_,(a0C (a3B (i:=1) ["v"] [none] sc_first_bags.nd rfl rfl (by kernel_rfl) rfl (a2U rfl B.range (a0A (a0V (a0Z (K:=K) rfl) (pv 0) a0E (λ _ _=>rfl)) a0B)) (λ _ _ _ _ _=>(a0H (i:=0) (show (["v"]:List Str).Nodup by decide +kernel) rfl (Or.inl rfl))) (λ _ _ _ _ _=>a1H) (λ _ _ _ _ _=>(a0Q a3X a0E (pv 0))) (by rfl))
   (a0C (a1Q PassesOwn.never rfl (a0O (K:=K) rfl (a0V (a0Z (K:=K) rfl) (pv 0) a0E (λ _ _=>rfl))) (a2N (K:=K) (n:=2) rfl rfl (a0X (a0H (i:=2) sc_first_bags.nd rfl (Or.inl rfl)) (a0X (a0H (i:=3) sc_first_bags.nd rfl (Or.inl rfl)) a2L)))
   (a0C (a8G (a0Q b4Q (a0V (a0L (K:=K) rfl) (pv 1) (pv 2) (λ _ _=>rfl)) (a0Q a3X a0E (pv 3))) (a8F (pv 1) (pv 2) a3H))
   (a0D (a8G (a0Q b4Q (a0V (a0L (K:=K) rfl) (pv 1) (pv 3) (λ _ _=>rfl)) (a0Q a3X a0E (pv 2))) (a8F (pv 1) (pv 3) a3H)))))
   (a0D (a0N (pv 1))))),?_⟩
 refine ⟨_,rfl,pg,_,_,_,rfl,rfl,hP,rfl,_,rfl,by omega,by omega,?_⟩
 rw [Int.toNat_natCast]
 refine b4X (lo:=0) (n:=n) (λ j=>some (.int ((2 ^ j:Nat):Int))) (by omega) (λ j H7 N hj s7 hN=>?_) (λ H7 pb H8 s7 n8=>?_)
 ·have ej:(0+(j:Int))=((j:Nat):Int):=by omega
  rw [ej]
  refine ⟨_,rfl,_,_,rfl,rfl,⟨by omega,by omega,by decide⟩,?_⟩
  dsimp only
  rw [shl1]
  exact hN H7 s7
 have e8:(List.range n).filterMap (λ (j:Nat)=>some (V.int ((2 ^ j:Nat):Int)))=natV ((List.range n).map λ v=>2 ^ v):=by
  unfold natV
  rw [List.map_map]
  exact a3R λ _ _=>rfl
 rw [e8] at n8
 have s8:Same H H8:=s7.trans n8.same
 refine ⟨_,rfl,pg,_,_,_,rfl,rfl,s8.tupq hP,rfl,ta,rfl,⟨_,s8.seq hy⟩,?_⟩
 have fb:H pb=none:=s7.free n8.fresh
 refine a2G (xs:=ys) (λ i σ H'=>∃ (aa bb:Option V) (ms:List Nat),σ=[some (.ref pg),some (.ref pb),aa,bb]/\Same H H'/\H' pb=some (.lst (natV ms))/\BagsM n ms (a2W n (ts.take i))) ⟨none,none,_,rfl,s8,n8.here,by rw [List.take_zero]; exact c1V n n10⟩ (λ i σ H' _ ⟨_,_,_,_,s,_⟩=>s.seq hy) ?_ ?_
 ·rintro i x σ H4 hx ⟨aa,bb,ms,rfl,s4,hb4,BM⟩
  obtain ⟨t,ht,⟨pt,rfl,hTt⟩⟩:=a1A hq hx
  have tok:=okt t (List.mem_of_getElem? ht)
  obtain ⟨a,ea⟩:∃ a:Nat,t.1=(a:Int):=⟨t.1.toNat,by omega⟩
  obtain ⟨b,eb⟩:∃ b:Nat,t.2=(b:Int):=⟨t.2.toNat,by omega⟩
  rw [ea,eb] at hTt
  have an:a < n:=by omega
  have bn:b < n:=by omega
  have la:a < ms.length:=by rw [BM.len]; exact an
  have lb:b < ms.length:=by rw [BM.len]; exact bn
  refine ⟨pt,_,rfl,s4.tupq hTt,rfl,_,_,rfl,_,_,rfl,rfl,?_⟩
  refine ⟨_,rfl,_,rfl,pb,_,_,_,rfl,rfl,SqL.of hb4,a5Q la,_,rfl,_,_,rfl,rfl,⟨by omega,by omega,by decide⟩,_,_,rfl,rfl,?_⟩
  dsimp only
  rw [shl1,b0B]
  refine ⟨_,rfl,_,rfl,pb,_,_,a,rfl,rfl,hb4,a5O (by rw [List.length_map]; exact la),λ H5 c5=>?_⟩
  rw [b1O] at c5
  have s5:Same H H5:=s4.chg fb c5
  have lb':b < (ms.set a (ms.getD a 0 ||| 2 ^ b)).length:=by rw [List.length_set]; exact lb
  refine ⟨_,rfl,_,rfl,pb,_,_,_,rfl,rfl,SqL.of c5.here,a5Q lb',_,rfl,_,_,rfl,rfl,⟨by omega,by omega,by decide⟩,_,_,rfl,rfl,?_⟩
  dsimp only
  rw [shl1,b0B]
  refine ⟨_,rfl,_,rfl,pb,_,_,b,rfl,rfl,c5.here,a5O (by rw [List.length_map]; exact lb'),λ H6 c6=>?_⟩
  rw [b1O] at c6
  refine ⟨_,_,_,rfl,s5.chg fb c6,c6.here,?_⟩
  have et:ts.take (i+1)=ts.take i++[((a:Int),(b:Int))]:=by
   rw [List.take_succ,ht]
   simp [<- ea,<- eb]
  rw [et]
  exact c1W BM an bn (by omega)
 ·rintro σ H4 ⟨aa,bb,ms,rfl,s4,hb4,BM⟩
  rw [hlt,List.take_length] at BM
  exact ⟨_,rfl,q pb ms H4 s4 fb hb4 BM⟩
abbrev DZ44 (K:PySem.W.Frag) (mg:Str->Option Value):=Dn K mg "taken_out" a9A ["bags", "v"]
set_option maxHeartbeats 4000000 in
theorem a7M (B:Bl mg) (dZ44:DZ44 K mg):FnOk P w K mg base CX0 1 dZ44.f dZ44.fd ["bags", "v"] (c5G K):=by
 refine dZ44.F.ok sc_taken_out (λ vs H Q E h=>?_) (λ cdv A outer s H vs Q E hr h=>?_)
 ·obtain ⟨a,n,ms,R,v,rfl,_⟩:=h
  rfl
 obtain ⟨a,n,ms,R,v,rfl,hA,BM,hv,q⟩:=h
 have lv:v < ms.length:=by rw [BM.len]; exact hv
 have n10:=BM.n10
 refine ⟨_,(a0C (a0J (i:=2) sc_taken_out.nd rfl (Or.inr rfl) (a0Q a3X a0E (pv 1)))
   (a0C (a3B (i:=3) ["bag", "bit", "bags", "v"] [none,some 2,some 0,some 1] sc_taken_out.nd rfl rfl (by kernel_rfl) rfl (a0O (K:=K) rfl (pv 0)) (λ _ _ _ _ _=>(a0H (i:=0) (show (["bag", "bit", "bags", "v"]:List Str).Nodup by decide +kernel) rfl (Or.inl rfl))) (λ _ _ _ _ _=>a1H) (λ _ _ _ _ _=>(a7X (a0R (K:=K) rfl (a0Q b2E (pv 0) (pv 1)) (λ _=>rfl)) (a0Q a3E (a0Q b4Q (pv 0) (a0V (a0L (K:=K) rfl) (pv 2) (pv 3) (λ _ _=>rfl))) (pv 1)) (pv 0))) (by rfl))
   (a0C (a8G a0E (a8F (pv 3) (pv 1) a3H))
   (a0D (a0N (pv 3)))))),?_⟩
 refine ⟨_,rfl,_,_,rfl,rfl,⟨by omega,by omega,by decide⟩,?_⟩
 dsimp only
 rw [shl1]
 refine ⟨_,rfl,a,rfl,⟨_,hA⟩,?_⟩
 refine a4T (λ x=>match x with | .int z=>some (.int ((if z.toNat &&& 2 ^ v=0 then z.toNat else (z.toNat ||| ms.getD v 0) - 2 ^ v:Nat):Int)) | _=>none) hA (by rw [List.length_map,BM.len]; omega) (λ x H1 N hx s1 hN=>?_) (λ H1 p H2 s1 n2=>?_)
 ·obtain ⟨m,hm,rfl⟩:=List.mem_map.mp hx
  have hN':=hN H1 s1
  dsimp only at hN'
  rw [Int.toNat_natCast] at hN'
  refine ⟨_,rfl,_,rfl,_,_,rfl,rfl,_,rfl,?_⟩
  rw [b1G]
  by_cases c:m &&& 2 ^ v=0
  ·rw [if_pos c] at hN'
   rw [c]
   exact iteF ⟨_,rfl,hN'⟩
  ·rw [if_neg c] at hN'
   rw [show (((m &&& 2 ^ v:Nat):Int) != 0)=true by simpa using c]
   refine iteT ⟨_,rfl,_,rfl,_,rfl,a,_,_,_,rfl,rfl,s1.seq hA,a5Q lv,_,_,rfl,rfl,_,rfl,_,_,rfl,rfl,?_⟩
   rw [b0B]
   have tb:(m ||| ms.getD v 0).testBit v=true:=by
    rw [Nat.testBit_or]
    have:m.testBit v=true:=by
     cases e:m.testBit v with
     | true=>rfl
     | false=>exact absurd ((b1H m v).mpr e) c
    rw [this]; rfl
   have ge:=Nat.ge_two_pow_of_testBit tb
   have e:(((m ||| ms.getD v 0:Nat):Int) - ((2 ^ v:Nat):Int))=(((m ||| ms.getD v 0) - 2 ^ v:Nat):Int):=by omega
   dsimp only
   rw [e]
   exact hN'
 have ez:(natV ms).filterMap (λ x=>match x with | .int z=>some (V.int ((if z.toNat &&& 2 ^ v=0 then z.toNat else (z.toNat ||| ms.getD v 0) - 2 ^ v:Nat):Int)) | _=>none)=natV (ms.map λ m=>if m &&& 2 ^ v=0 then m else (m ||| ms.getD v 0) - 2 ^ v):=by
  unfold natV
  rw [List.filterMap_map,List.map_map]
  refine a3R λ m _=>?_
  simp only [Function.comp_apply,Int.toNat_natCast]
 rw [ez] at n2
 have lz:v < (ms.map λ m=>if m &&& 2 ^ v=0 then m else (m ||| ms.getD v 0) - 2 ^ v).length:=by rw [List.length_map]; exact lv
 refine ⟨_,rfl,_,rfl,p,_,_,v,rfl,rfl,n2.here,a5O (by rw [List.length_map]; exact lz),λ H3 c3=>?_⟩
 have c3':=c3.here
 rw [show (V.int 0)=V.int ((0:Nat):Int) from rfl,b1O] at c3'
 exact ⟨_,rfl,q p H3 ((s1.trans n2.same).chg (s1.free n2.fresh) c3) (s1.free n2.fresh) c3'⟩
end
abbrev a7N:Stmt:=top 21
theorem sc_mask_sizes:FnScope ["n", "sizes", "mask"] ["n"] (a0F a7N):=⟨rfl,rfl,rfl,by decide +kernel,rfl,by decide +kernel,by decide +kernel⟩
def popF (m:Nat):Nat:=(a0M m).length
theorem c1X:popF 0=0:=by decide
theorem c1Y {m:Nat} (h:m < 2 ^ 10):popF m=popF (m / 2)+m % 2:=by
 have c:∀ k:Nat,popF k=(List.range 10).countP k.testBit:=λ k=>by
  unfold popF a0M
  rw [List.countP_eq_length_filter]
 rw [c m,c (m / 2)]
 have e1:(List.range 10).countP m.testBit=(if m.testBit 0=true then 1 else 0)+(List.range 9).countP (m / 2).testBit:=by
  rw [show List.range 10=0::(List.range 9).map Nat.succ from by decide,List.countP_cons,List.countP_map]
  rw [Nat.add_comm]
  congr 1
 have e2:(List.range 10).countP (m / 2).testBit=(List.range 9).countP (m / 2).testBit:=by
  rw [show List.range 10=List.range 9++[9] from by decide,List.countP_append]
  have z:(m / 2).testBit 9=false:=Nat.testBit_lt_two_pow (by omega)
  simp [z]
 rw [e1,e2,Nat.testBit_zero]
 by_cases d:m % 2=1
 ·rw [decide_eq_true d,if_pos rfl,d]; omega
 ·rw [decide_eq_false d,if_neg Bool.false_ne_true]; omega
def a1N (k:Nat):List V:=(List.range k).map λ m=>V.int ((popF m:Nat):Int)
theorem b3N {k m:Nat} (h:m < k):atI (a1N k) (m:Int)=some (.int ((popF m:Nat):Int)):=a1L (by
 unfold a1N
 rw [List.getElem?_map,List.getElem?_range h]; rfl)
theorem a4A (k:Nat):(a1N k).length=k:=by unfold a1N; simp
def c9H:Sp:=λ vs H Q _=>∃ (n:Nat),vs=[.int n]/\n<=10/\∀ p H',New H p (.lst (a1N (2 ^ n))) H'->Q (.ref p) H'
section
variable {P:Program} {w:World} {K:Φρ} {mg:Str->Option Value} {base:Heap}
abbrev DZ33 (K:PySem.W.Frag) (mg:Str->Option Value):=Dn K mg "mask_sizes" a7N ["n"]
set_option maxHeartbeats 4000000 in
theorem a4O (B:Bl mg) (dZ33:DZ33 K mg):FnOk P w K mg base CX0 1 dZ33.f dZ33.fd ["n"] c9H:=by
 refine dZ33.F.ok sc_mask_sizes (λ vs H Q E h=>?_) (λ cdv A outer s H vs Q E hr h=>?_)
 ·obtain ⟨n,rfl,_⟩:=h
  rfl
 obtain ⟨n,rfl,n10,q⟩:=h
 have p10:2 ^ n<=2 ^ 10:=Nat.pow_le_pow_right (by decide) n10
 have p0:0 < 2 ^ n:=Nat.pow_pos (by decide)
 refine ⟨_,(a0C (a0J (i:=1) sc_mask_sizes.nd rfl (Or.inl rfl) (a1M (a0A a0E a0B)))
   (a0C (a1Q PassesOwn.never rfl (a3V rfl B.range (a0A a0E (a0A (a0Q a3X a0E (pv 0)) a0B))) (a0H (i:=2) sc_mask_sizes.nd rfl (Or.inl rfl))
   (a0D (a2D (a3F (K:=K) rfl PySem.F.plainAttrs_list PySem.F.slot_list_append PySem.F.type_list_append b0F (pv 1) (a0A (a0Q a3M (a0V (a0L (K:=K) rfl) (pv 1) (a0Q d0Z (pv 2) a0E) (λ _ _=>rfl)) (a0Q a3N (pv 2) a0E)) a0B)))))
   (a0D (a0N (pv 1))))),?_⟩
 refine ⟨(by show 1<=1000; decide),λ p H1 n1=>?_⟩
 have e1:[V.int 0]=a1N 1:=by
  unfold a1N
  show _=[V.int ((popF 0:Nat):Int)]
  rw [c1X]; rfl
 rw [e1] at n1
 have sh:=shl1 n
 obtain ⟨N,hN⟩:∃ N,N=2 ^ n - 1:=⟨_,rfl⟩
 refine ⟨_,rfl,_,_,rfl,rfl,⟨by omega,by omega,by decide⟩,_,_,rfl,⟨by decide,by decide,by rw [sh]; omega,by rw [sh]; omega⟩,?_⟩
 rw [show ((1:Int)*2 ^ ((n:Nat):Int).toNat - 1).toNat=N by rw [sh]; omega]
 refine a3D (lo:=1) (n:=N) (λ i σ H'=>∃ m:Option V,σ=[some (.int n),some (.ref p),m]/\New H p (.lst (a1N (i+1))) H') ⟨none,rfl,n1⟩ ?_ ?_
 ·rintro i σ H2 hi ⟨m,rfl,n2⟩
  have ei:(1:Int)+(i:Int)=((i+1:Nat):Int):=by omega
  rw [ei]
  have eh:((i+1:Nat):Int) / 2 ^ (1:Int).toNat=(((i+1) / 2:Nat):Int):=by
   rw [show (1:Int).toNat=1 from rfl]
   omega
  have em:((popF ((i+1) / 2):Nat):Int)+((i+1:Nat):Int) % 2=((popF (i+1):Nat):Int):=by
   rw [c1Y (m:=i+1) (by omega)]
   omega
  refine ⟨_,rfl,.inl ⟨rfl,_,SqL.of n2.here⟩,_,rfl,_,rfl,_,_,rfl,rfl,(show (0:Int)<=1 by decide),p,_,_,V.int ((popF ((i+1) / 2):Nat):Int),rfl,rfl,SqL.of n2.here,(by rw [eh]; exact b3N (by omega)),_,rfl,_,_,rfl,rfl,(show (0:Int) < _ by decide),_,_,rfl,rfl,?_⟩
  dsimp only
  rw [em]
  refine ⟨p,_,_,rfl,rfl,n2.here,by rw [a4A]; omega,λ H3 c3=>?_⟩
  refine ⟨_,rfl,n2.fresh,?_,λ b hb=>(c3.rest b hb).trans (n2.rest b hb)⟩
  rw [c3.here]
  unfold a1N
  rw [List.range_succ (n:=i+1),List.map_append]
  rfl
 ·rintro σ H2 ⟨m,rfl,n2⟩
  rw [show N+1=2 ^ n by omega] at n2
  exact ⟨_,rfl,q p H2 n2⟩
end
end K
namespace K
open PySem L2 Lw Bg
structure NearL (H:Hp) (qs:List Addr) (f:Nat->List Nat):Prop where
 nd:qs.Nodup
 at_:∀ (j:Nat) q,qs[j]?=some q->H q=some (.lst (natV (f j)))
abbrev c1Z:Stmt:=top 26
theorem sc_later:FnScope ["graph", "order", "bags", "told", "v"] ["graph", "order"] (a0F c1Z):=⟨rfl,rfl,rfl,by decide +kernel,rfl,by decide +kernel,by decide +kernel⟩
abbrev a4B:Stmt:=top 27
theorem a6D:FnScope ["n", "order"] ["n", "order"] (a0F a4B):=⟨rfl,rfl,rfl,by decide +kernel,rfl,by decide +kernel,by decide +kernel⟩
def runR (n:Nat) (ts:List ζζ) (os:List Nat):Nat->Nat->Bool:=os.foldl (λ R v=>a7V v R) (a2W n ts)
theorem a3J (n:Nat) (ts:List ζζ) (os:List Nat) (v:Nat):runR n ts (os++[v])=a7V v (runR n ts os):=by
 unfold runR
 rw [List.foldl_append]
 rfl
def a4C (n:Nat) (R:Nat->Nat->Bool) (v:Nat):List Nat:=(List.range n).filter λ u=>R v u && !decide (u=v)
def a1O (n:Nat) (ts:List ζζ) (os:List Nat) (j:Nat):List Nat:=a4C n (runR n ts (os.take j)) (os.getD j 0)
theorem b3O (n:Nat) (R:Nat->Nat->Bool) (v:Nat):(a4C n R v).length<=n:=by
 unfold a4C
 refine Nat.le_trans (List.length_filter_le _ _) ?_
 simp
theorem c5H (l:List Nat) (v:Nat):a3S (l.map λ (x:Nat)=>(x:Int)) [(v:Int)]=(l.filter λ u=>!decide (u=v)).map λ (x:Nat)=>(x:Int):=by
 unfold a3S
 induction l with
 | nil=>rfl
 | cons a r ih =>
  rw [List.map_cons,List.filter_cons,List.filter_cons,ih]
  by_cases c:a=v
  ·subst c; simp
  ·have:¬ ((a:Int)=(v:Int)):=by omega
   simp [c,this]
def c9I (K:Φρ):Sp:=λ vs H Q _=>∃ (n:Nat) (a:Addr) (os:List Nat),vs=[.int (n:Int),.ref a]/\SqL K H a (natV os)/\os.Perm (List.range n)/\n<=10/\∀ H',Same H H'->Q .non H'
def c9J (K:Φρ):Sp:=λ vs H Q _=>∃ (g:V) (n:Nat) (ts:List ζζ) (a:Addr) (os:List Nat),vs=[g,.ref a]/\GraphV K H g n ts/\(∀ t∈ts,0<=t.1/\t.1 < t.2/\t.2 < (n:Int))/\SqL K H a (natV os)/\os.Perm (List.range n)/\n<=10 /\
 ∀ p qs H',Same H H'->H p=none->H' p=some (.lst (qs.map V.ref))->qs.length=n->(∀ q∈qs,H q=none)->p ∉ qs->NearL H' qs (a1O n ts os)->Q (.ref p) H'
section
variable {P:Program} {w:World} {K:Φρ} {mg:Str->Option Value} {base:Heap}
abbrev DZ39 (K:PySem.W.Frag) (mg:Str->Option Value):=Dn K mg "refuse_no_order" a4B ["n", "order"]
set_option maxHeartbeats 4000000 in
theorem a6E (B:Bl mg) (dZ24:DZ24 K mg) (dZ21:DZ21 K mg) (dZ23:DZ23 K mg) (dZ39:DZ39 K mg):FnOk P w K mg base CX0 4 dZ39.f dZ39.fd ["n", "order"] (c9I K):=by
 have gZ23:FnOk P w K mg base CX0 3 _ _ _ _:=b3H B dZ24 dZ21 dZ23
 refine dZ39.F.ok a6D (λ vs H Q E h=>?_) (λ cdv A outer s H vs Q E hr h=>?_)
 ·obtain ⟨n,a,os,rfl,_⟩:=h
  rfl
 obtain ⟨n,a,os,rfl,hA,hp,n10,q⟩:=h
 have ln:os.length=n:=by have:=hp.length_eq; simpa using this
 refine ⟨_,(a0D (a1X (PW.pt (a4U (a0P b7W (a0I (a0T (K:=K) rfl) rfl B.len (by decide +kernel) (a0A (pv 1) a0B)) (pv 0) (a0U _)) (a4S (a3A (a0R (K:=K) rfl (a0G gZ23 hr rfl dZ23.m dZ23.F.kp dZ23.b .nil a0S (a0A (pv 0) (a0A (a0I (b3G (K:=K) rfl) rfl B.sorted (by decide +kernel) (a0A (pv 1) a0B)) a0B))) (λ _=>rfl))))))
   (a0D b0U)
   a0Y)),?_⟩
 refine ⟨_,rfl,a,_,rfl,.inl hA,_,rfl,rfl,_,rfl,?_⟩
 rw [show (!decide (V.int (((natV os).length:Nat):Int)=V.int (n:Int)))=false by rw [List.length_map,ln]; simp]
 refine iteF ?_
 rw [a1D] at hA
 refine ⟨_,rfl,_,rfl,a,_,rfl,hA,by rw [List.length_map]; omega,λ p H1 zs n1 zp zl=>?_⟩
 refine ⟨(n:Int),p,zs,rfl,SqL.of n1.here,?_,λ H2 s2=>⟨_,rfl,?_⟩⟩
 ·have:=zp.length_eq
  rw [List.length_map] at this
  omega
 have hs:setF (n:Int) zs=true:=by
  refine (a4J _ _).mpr ⟨λ v hv=>?_,?_⟩
  ·obtain ⟨x,hx,rfl⟩:=List.mem_map.mp (zp.mem_iff.mp hv)
   have:=List.mem_range.mp (hp.mem_iff.mp hx)
   omega
  ·have nd:zs.Nodup:=by
    refine zp.nodup_iff.mpr ?_
    have:os.Nodup:=hp.nodup_iff.mpr List.nodup_range
    rw [List.nodup_iff_pairwise_ne] at this ⊢
    rw [List.pairwise_map]
    exact this.imp λ h=>by omega
   exact (zl.and nd).imp λ ⟨h1,h2⟩=>by omega
 rw [hs]
 exact iteF (q H2 (n1.same.trans s2))
abbrev DZ26 (K:PySem.W.Frag) (mg:Str->Option Value):=Dn K mg "later" c1Z ["graph", "order"]
set_option maxHeartbeats 8000000 in
theorem c5I (B:Bl mg) (dZ24:DZ24 K mg) (dZ21:DZ21 K mg) (dZ23:DZ23 K mg) (dZ31:DZ31 K mg) (dZ38:DZ38 K mg) (dZ17:DZ17 K mg) (dZ44:DZ44 K mg) (dZ39:DZ39 K mg) (dZ26:DZ26 K mg):FnOk P w K mg base CX0 5 dZ26.f dZ26.fd ["graph", "order"] (c9J K):=by
 have gZ39:FnOk P w K mg base CX0 4 _ _ _ _:=a6E B dZ24 dZ21 dZ23 dZ39
 have gZ17:FnOk P w K mg base CX0 4 _ _ _ _:=(a4N B dZ17).mono (by decide)
 have gZ44:FnOk P w K mg base CX0 4 _ _ _ _:=(a7M B dZ44).mono (by decide)
 have gZ38:FnOk P w K mg base CX0 4 _ _ _ _:=(a5B B dZ38).mono (by decide)
 have gZ31:FnOk P w K mg base CX0 4 _ _ _ _:=(a8Y B dZ31).mono (by decide)
 refine dZ26.F.ok sc_later (λ vs H Q E h=>?_) (λ cdv A outer s H vs Q E hr h=>?_)
 ·obtain ⟨g,n,ts,a,os,rfl,_⟩:=h
  rfl
 obtain ⟨g,n,ts,a,os,rfl,hG,okt,hA,hp,n10,q⟩:=h
 have ln:os.length=n:=by have:=hp.length_eq; simpa using this
 obtain ⟨pg,ta,rfl,hP,hT⟩:=id hG
 refine ⟨_,(a0C (a2D (a0G gZ39 hr rfl dZ39.m dZ39.F.kp dZ39.b .nil a0S (a0A (a0V (a0Z (K:=K) rfl) (pv 0) a0E (λ _ _=>rfl)) (a0A (pv 1) a0B))))
   (a0C (a0J (i:=2) sc_later.nd rfl (Or.inl rfl) (a0G gZ17 hr rfl dZ17.m dZ17.F.kp dZ17.b .nil a0S (a0A (pv 0) a0B)))
   (a0C (a0J (i:=3) sc_later.nd rfl (Or.inl rfl) (a1M a0B))
   (a0C (a1Q PassesOwn.never rfl (a0O (K:=K) rfl (pv 1)) (a0H (i:=4) sc_later.nd rfl (Or.inl rfl))
   (a0C (a2D (a3F (K:=K) rfl PySem.F.plainAttrs_list PySem.F.slot_list_append PySem.F.type_list_append a1V (pv 3) (a0A (a0G gZ31 hr rfl dZ31.m dZ31.F.kp dZ31.b .nil a0S (a0A (a0G gZ38 hr rfl dZ38.m dZ38.F.kp dZ38.b .nil a0S (a0A (a0V (a0L (K:=K) rfl) (pv 2) (pv 4) (λ _ _=>rfl)) a0B)) (a0A (a1M (a0A (pv 4) a0B)) a0B))) a0B)))
   (a0D (a0J (i:=2) sc_later.nd rfl (Or.inl rfl) (a0G gZ44 hr rfl dZ44.m dZ44.F.kp dZ44.b .nil a0S (a0A (pv 2) (a0A (pv 4) a0B)))))))
   (a0D (a0N (pv 3))))))),?_⟩
 refine ⟨_,rfl,pg,_,_,_,rfl,rfl,hP,rfl,_,rfl,n,a,os,rfl,hA,hp,n10,λ H1 s1=>?_⟩
 refine ⟨_,rfl,.ref pg,n,ts,rfl,hG.same s1,okt,n10,λ pb ms H2 s2 f2 hb2 BM=>?_⟩
 refine ⟨(by show 0<=1000; decide),λ pt H3 n3=>?_⟩
 have s3:Same H H3:=s1.trans (s2.trans n3.same)
 have ft:H pt=none:=(s1.trans s2).free n3.fresh
 refine ⟨_,rfl,a,rfl,⟨_,s3.seq hA⟩,?_⟩
 refine a2G (xs:=natV os) (λ i σ H'=>∃ (pb:Addr) (vv:Option V) (ms:List Nat) (qs:List Addr),σ=[some (.ref pg),some (.ref a),some (.ref pb),some (.ref pt),vv]/\Same H H'/\H' pb=some (.lst (natV ms))/\BagsM n ms (runR n ts (os.take i)) /\
   H' pt=some (.lst (qs.map V.ref))/\qs.length=i/\(∀ q∈qs,H q=none)/\pt ∉ qs/\pb≠pt/\NearL H' qs (a1O n ts os)) ⟨pb,none,ms,[],rfl,s3,n3.same _ _ hb2,BM,n3.here,rfl,λ q h=>absurd h List.not_mem_nil,List.not_mem_nil,n3.ne hb2,.nil,λ j q e=>by simp at e⟩ (λ i σ H' _ ⟨_,_,_,_,_,s,_⟩=>s.seq hA) ?_ ?_
 ·rintro i x σ H4 hx ⟨pb,vv,ms,qs,rfl,s4,hb4,BM,ht4,lq,fq,pq,nbt,nl⟩
  rw [List.getElem?_map] at hx
  obtain ⟨v,hv,rfl⟩:=Option.map_eq_some_iff.mp hx
  have il:i < os.length:=(List.getElem?_eq_some_iff.mp hv).1
  have vn:v < n:=List.mem_range.mp (hp.mem_iff.mp (List.mem_of_getElem? hv))
  have lv:v < ms.length:=by rw [BM.len]; exact vn
  have ev:os.getD i 0=v:=by rw [τα,hv]; rfl
  have et:os.take (i+1)=os.take i++[v]:=by rw [List.take_succ,hv]; rfl
  refine ⟨_,rfl,.inl ⟨rfl,_,SqL.of ht4⟩,_,rfl,_,rfl,pb,_,_,_,rfl,rfl,SqL.of hb4,a5Q lv,_,rfl,BM.mlt vn,λ H5 pp H6 s5 n6=>?_⟩
  have s46:Same H4 H6:=s5.trans n6.same
  refine ⟨_,rfl,(by show 1<=1000; decide),λ p7 H7 n7=>?_⟩
  have hpp:SqL K H7 pp ((a0M (ms.getD v 0)).map (λ (x:Nat)=>(x:Int)) |>.map V.int):=by rw [<- a1D]; exact SqL.of (n7.same _ _ n6.here)
  have hz:(a0M (ms.getD v 0)).length<=10:=by
   unfold a0M
   refine Nat.le_trans (List.length_filter_le _ _) ?_
   simp
  refine ⟨pp,p7,_,[(v:Int)],rfl,hpp,SqL.of n7.here,by rw [List.length_map]; omega,λ H8 p9 H9 s8 n9=>?_⟩
  rw [c5H,a8Q BM vn,List.filter_filter,<- a1D] at n9
  have el:(List.range n).filter (λ u=>!decide (u=v) && runR n ts (os.take i) v u)=a1O n ts os i:=by
   unfold a1O a4C
   rw [ev]
   exact List.filter_congr λ u _=>Bool.and_comm _ _
  rw [el] at n9
  have s49:Same H4 H9:=s46.trans (n7.same.trans (s8.trans n9.same))
  refine ⟨pt,_,_,rfl,rfl,s49 _ _ ht4,by rw [List.length_map]; omega,λ H10 c10=>?_⟩
  have s10:Same H H10:=(s4.trans s49).chg ft c10
  have hb10:H10 pb=some (.lst (natV ms)):=(c10.rest pb nbt).trans (s49 _ _ hb4)
  refine ⟨_,rfl,_,rfl,pb,n,ms,_,v,rfl,SqL.of hb10,BM,vn,λ p11 H11 s11 f11 hb11=>?_⟩
  have f9:H p9=none:=(s4.trans (s46.trans (n7.same.trans s8))).free n9.fresh
  have np9:p9≠pt:=(n9.ne (s8 _ _ (n7.same _ _ (s46 _ _ ht4)))).symm
  refine ⟨p11,_,b1I v ms,qs++[p9],rfl,s10.trans s11,hb11,?_,?_,by rw [List.length_append,lq]; rfl,λ q hq=>?_,λ hq=>?_,?_,?_,λ j q ej=>?_⟩
  ·rw [et,a3J]
   exact c0Y BM vn
  ·rw [s11 _ _ c10.here,List.map_append]
   rfl
  ·rcases List.mem_append.mp hq with hq | hq
   ·exact fq q hq
   ·rw [List.mem_singleton.mp hq]; exact f9
  ·rcases List.mem_append.mp hq with hq | hq
   ·exact pq hq
   ·exact np9 (List.mem_singleton.mp hq).symm
  ·intro z
   rw [z] at f11
   rw [c10.here] at f11; cases f11
  ·refine List.nodup_append.mpr ⟨nl.nd,List.nodup_cons.mpr ⟨List.not_mem_nil,.nil⟩,λ x hx y hy z=>?_⟩
   rw [List.mem_singleton.mp hy] at z
   obtain ⟨j,hj,ej⟩:=List.getElem_of_mem hx
   have:=nl.at_ j x (by rw [<- ej]; exact List.getElem?_eq_getElem hj)
   have g:=n9.fresh
   rw [<- z,s8 _ _ (n7.same _ _ (s46 _ _ this))] at g; cases g
  ·have keep:∀ b u,b≠pt->H9 b=some u->H11 b=some u:=λ b u hb e=>s11 _ _ ((c10.rest b hb).trans e)
   by_cases c:j < qs.length
   ·rw [List.getElem?_append_left c] at ej
    exact keep _ _ (λ z=>pq (by rw [<- z]; exact List.mem_of_getElem? ej)) (s49 _ _ (nl.at_ j q ej))
   ·rw [List.getElem?_append_right (by omega)] at ej
    cases z:j - qs.length with
    | zero =>
     rw [z] at ej
     simp at ej
     have:j=i:=by omega
     subst this
     rw [<- ej]
     exact keep _ _ np9 n9.here
    | succ k=>rw [z] at ej; simp at ej
 ·rintro σ H4 ⟨pb,vv,ms,qs,rfl,s4,hb4,BM,ht4,lq,fq,pq,nbt,nl⟩
  rw [List.length_map,ln] at lq
  exact ⟨_,rfl,q pt qs H4 s4 ft ht4 lq fq pq nl⟩
end
def tieT (ts:List ζζ) (x y:Nat):Bool:=decide (((x:Int),(y:Int))∈ts) || decide (((y:Int),(x:Int))∈ts)
inductive PathT (ts:List ζζ) (S:List Nat) (x:Nat):Nat->Prop
 | one {u:Nat} (h:tieT ts x u=true):PathT ts S x u
 | step {a u:Nat} (p:PathT ts S x a) (m:a∈S) (h:tieT ts a u=true):PathT ts S x u
theorem PathT.mono {ts:List ζζ} {S S':List Nat} {x u:Nat} (h:PathT ts S x u) (s:∀ a∈S,a∈S'):PathT ts S' x u:=by
 induction h with
 | one h=>exact .one h
 | step p m h ih=>exact .step ih (s _ m) h
theorem PathT.glue {ts:List ζζ} {S:List Nat} {x w u:Nat} (hw:w∈S) (a:PathT ts S x w) (b:PathT ts S w u):PathT ts S x u:=by
 induction b with
 | one h=>exact .step a hw h
 | step p m h ih=>exact .step ih m h
theorem PathT.split {ts:List ζζ} {S:List Nat} {x w u:Nat} (h:PathT ts (S++[w]) x u):PathT ts S x u\/(PathT ts S x w/\PathT ts S w u):=by
 induction h with
 | one h=>exact .inl (.one h)
 | @step a u p m h ih =>
  rcases List.mem_append.mp m with m | m
  ·rcases ih with ih | ⟨i1,i2⟩
   ·exact .inl (.step ih m h)
   ·exact .inr ⟨i1,.step i2 m h⟩
  ·have e:=List.mem_singleton.mp m
   subst e
   rcases ih with ih | ⟨i1,_⟩
   ·exact .inr ⟨ih,.one h⟩
   ·exact .inr ⟨i1,.one h⟩
structure RunP (n:Nat) (ts:List ζζ) (S:List Nat):Prop where
 path:∀ x u,x < n->u < n->x ∉ S->u ∉ S->(runR n ts S x u=true↔x=u\/PathT ts S x u)
 gone:∀ x u,x < n->x ∉ S->u∈S->runR n ts S x u=false
theorem b6T {n:Nat} {ts:List ζζ}:∀ (k:Nat) (S:List Nat),S.length=k->S.Nodup->(∀ a∈S,a < n)->RunP n ts S
 | 0,S,hl,_,_=>by
  have e:S=[]:=List.eq_nil_of_length_eq_zero hl
  subst e
  refine ⟨λ x u hx hu _ _=>?_,λ x u _ _ h=>absurd h List.not_mem_nil⟩
  show a2W n ts x u=true↔_
  unfold a2W
  rw [decide_eq_true (show x < n/\u < n from ⟨hx,hu⟩),Bool.true_and,Bool.or_assoc,Bool.or_eq_true,decide_eq_true_iff]
  constructor
  ·rintro (h | h)
   ·exact .inl h.symm
   ·exact .inr (.one h)
  ·rintro (h | h)
   ·exact .inl h.symm
   ·cases h with
    | one h=>exact .inr h
    | step p m h=>exact absurd m List.not_mem_nil
 | k+1,S,hl,nd,hn=>by
  have hne:S≠[]:=λ z=>by rw [z] at hl; cases hl
  obtain ⟨S',w,rfl⟩:∃ S' w,S=S'++[w]:=⟨S.dropLast,S.getLast hne,(List.dropLast_concat_getLast hne).symm⟩
  obtain ⟨nd',_,dis⟩:=List.nodup_append.mp nd
  have wS:w ∉ S':=λ h=>dis w h w (List.mem_singleton.mpr rfl) rfl
  have wn:w < n:=hn w (List.mem_append_right _ (List.mem_singleton.mpr rfl))
  have ih:=b6T (ts:=ts) k S' (by rw [List.length_append] at hl; exact Nat.succ.inj hl) nd' λ a ha=>hn a (List.mem_append_left _ ha)
  have out:∀ {x},x ∉ S'++[w]->x ∉ S'/\x≠w:=λ {x} h=>⟨λ z=>h (List.mem_append_left _ z),λ z=>h (List.mem_append_right _ (List.mem_singleton.mpr z))⟩
  refine ⟨λ x u hx hu h1 h2=>?_,λ x u hx h1 h2=>?_⟩
  ·obtain ⟨g1,n1⟩:=out h1
   obtain ⟨g2,n2⟩:=out h2
   rw [a3J]
   have q1:=ih.path x u hx hu g1 g2
   have q2:=ih.path x w hx wn g1 wS
   have q3:=ih.path w u wn hu wS g2
   have big:∀ a∈S',a∈S'++[w]:=λ a ha=>List.mem_append_left _ ha
   have wm:w∈S'++[w]:=List.mem_append_right _ (List.mem_singleton.mpr rfl)
   unfold a7V
   rw [if_neg n1]
   constructor
   ·intro h
    split at h
    ·rename_i c
     rw [Bool.and_eq_true,Bool.or_eq_true] at h
     rcases h.1 with z | z
     ·exact (q1.mp z).imp_right λ p=>p.mono big
     ·have p1:=(q2.mp c).resolve_left n1
      have p2:=(q3.mp z).resolve_left λ y=>n2 y.symm
      exact .inr (PathT.glue wm (p1.mono big) (p2.mono big))
    ·exact (q1.mp h).imp_right λ p=>p.mono big
   ·intro h
    have main:runR n ts S' x u=true\/(runR n ts S' x w=true/\runR n ts S' w u=true):=by
     rcases h with h | h
     ·exact .inl (q1.mpr (.inl h))
     ·rcases h.split with p | ⟨p1,p2⟩
      ·exact .inl (q1.mpr (.inr p))
      ·exact .inr ⟨q2.mpr (.inr p1),q3.mpr (.inr p2)⟩
    rcases main with m | ⟨m1,m2⟩
    ·rw [m]
     split
     ·rw [decide_eq_false n2]; rfl
     ·rfl
    ·rw [if_pos m1,m2,decide_eq_false n2]; simp
  ·obtain ⟨g1,n1⟩:=out h1
   rw [a3J]
   unfold a7V
   rw [if_neg n1]
   rcases List.mem_append.mp h2 with h2 | h2
   ·rw [ih.gone x u hx g1 h2,ih.gone w u wn wS h2]
    split <;> rfl
   ·have e:=List.mem_singleton.mp h2
    subst e
    split
    ·simp
    ·rename_i c; simpa using c
theorem a6F {n:Nat} {ts:List ζζ} {S:List Nat} (nd:S.Nodup) (hn:∀ a∈S,a < n):RunP n ts S:=b6T S.length S rfl nd hn
theorem b0J {n:Nat} {ts:List ζζ} {S S':List Nat} {v:Nat} (nd:S.Nodup) (hn:∀ a∈S,a < n) (pm:S'.Perm S) (hv:v < n) (hg:v ∉ S):a4C n (runR n ts S') v=a4C n (runR n ts S) v:=by
 have R1:=a6F (ts:=ts) nd hn
 have R2:=a6F (ts:=ts) (S:=S') (pm.nodup_iff.mpr nd) λ a ha=>hn a (pm.mem_iff.mp ha)
 have hg':v ∉ S':=λ h=>hg (pm.mem_iff.mp h)
 unfold a4C
 refine List.filter_congr λ u hu=>?_
 have hun:=List.mem_range.mp hu
 congr 1
 by_cases c:u∈S
 ·rw [R1.gone v u hv hg c,R2.gone v u hv hg' (pm.mem_iff.mpr c)]
 ·have c':u ∉ S':=λ h=>c (pm.mem_iff.mp h)
  rw [Bool.eq_iff_iff,R1.path v u hv hun hg c,R2.path v u hv hun hg' c']
  constructor
  ·exact Or.imp_right λ p=>p.mono λ a ha=>pm.mem_iff.mp ha
  ·exact Or.imp_right λ p=>p.mono λ a ha=>pm.mem_iff.mpr ha
theorem a3K {ts:List ζζ} {x y:Nat} (h:tieT ts x y=true):tieT ts y x=true:=by
 unfold tieT at h ⊢
 rw [Bool.or_comm]; exact h
theorem PathT.symm {ts:List ζζ} {S:List Nat} {x u:Nat} (h:PathT ts S x u):PathT ts S u x:=by
 induction h with
 | one h=>exact .one (a3K h)
 | step p m h ih=>exact PathT.glue m (.one (a3K h)) ih
theorem b1P {ts:List ζζ} {x y:Nat} (h:tieT ts x y=true):tieT ts y x=true:=by
 unfold tieT at h ⊢
 rw [Bool.or_comm]; exact h
theorem PathT.sym {ts:List ζζ} {S:List Nat} {x u:Nat} (h:PathT ts S x u):PathT ts S u x:=by
 induction h with
 | one h=>exact .one (b1P h)
 | step p m h ih=>exact PathT.glue m (.one (b1P h)) ih
structure Ord (n:Nat) (os:List Nat):Prop where
 pm:os.Perm (List.range n)
theorem Ord.nd {n:Nat} {os:List Nat} (o:Ord n os):os.Nodup:=o.pm.nodup_iff.mpr List.nodup_range
theorem Ord.len {n:Nat} {os:List Nat} (o:Ord n os):os.length=n:=by have:=o.pm.length_eq; simpa using this
theorem Ord.mem {n:Nat} {os:List Nat} (o:Ord n os) {x:Nat} (h:x < n):x∈os:=o.pm.mem_iff.mpr (List.mem_range.mpr h)
theorem Ord.lt {n:Nat} {os:List Nat} (o:Ord n os) {x:Nat} (h:x < n):os.idxOf x < n:=by
 rw [<- o.len]; exact List.idxOf_lt_length_iff.mpr (o.mem h)
theorem Ord.at_ {n:Nat} {os:List Nat} (o:Ord n os) {i x:Nat} (h:os[i]?=some x):os.idxOf x=i:=by
 obtain ⟨hi,e⟩:=List.getElem?_eq_some_iff.mp h
 have hm:x∈os:=List.mem_of_getElem? h
 have hl:os.idxOf x < os.length:=List.idxOf_lt_length_iff.mpr hm
 have e2:os[os.idxOf x]=x:=List.getElem_idxOf hl
 exact (List.getElem_inj o.nd).mp (e2.trans e.symm)
theorem Ord.get {n:Nat} {os:List Nat} (o:Ord n os) {x:Nat} (h:x < n):os[os.idxOf x]?=some x:=by
 have hl:os.idxOf x < os.length:=by rw [o.len]; exact o.lt h
 rw [List.getElem?_eq_getElem hl,List.getElem_idxOf hl]
theorem Ord.take {n:Nat} {os:List Nat} (o:Ord n os) {x k:Nat} (h:x < n):x∈os.take k↔os.idxOf x < k:=by
 constructor
 ·intro hx
  obtain ⟨j,hj,e⟩:=List.getElem_of_mem hx
  rw [List.getElem_take] at e
  rw [List.length_take] at hj
  have hj2:j < os.length:=by omega
  have:=o.at_ (i:=j) (x:=x) (by rw [List.getElem?_eq_getElem hj2,e])
  omega
 ·intro hk
  have hl:os.idxOf x < os.length:=by rw [o.len]; exact o.lt h
  have e:(os.take k)[os.idxOf x]?=some x:=by
   rw [List.getElem?_take,if_pos hk]; exact o.get h
  exact List.mem_of_getElem? e
theorem Ord.inj {n:Nat} {os:List Nat} (o:Ord n os) {x y:Nat} (hx:x < n) (hy:y < n) (h:os.idxOf x=os.idxOf y):x=y:=by
 have h1:=o.get hx
 rw [h,o.get hy] at h1
 injection h1 with h1
 exact h1.symm
theorem Ord.run {n:Nat} {os:List Nat} (o:Ord n os) (ts:List ζζ) (k:Nat):RunP n ts (os.take k) :=
 a6F (o.nd.sublist (List.take_sublist _ _)) λ a ha=>List.mem_range.mp (o.pm.mem_iff.mp (List.mem_of_mem_take ha))
def a9K (n:Nat) (ts:List ζζ) (os:List Nat) (a b:Nat):Bool:=runR n ts (os.take (min (os.idxOf a) (os.idxOf b))) a b
theorem a2P {n:Nat} {ts:List ζζ} {os:List Nat} (o:Ord n os) {i v u:Nat} (hv:os[i]?=some v):u∈a1O n ts os i↔u < n/\i < os.idxOf u/\a9K n ts os v u=true:=by
 have iv:=o.at_ hv
 have vn:v < n:=List.mem_range.mp (o.pm.mem_iff.mp (List.mem_of_getElem? hv))
 have ev:os.getD i 0=v:=by rw [τα,hv]; rfl
 unfold a1O a4C
 rw [ev,List.mem_filter,List.mem_range,Bool.and_eq_true]
 constructor
 ·rintro ⟨un,h1,h2⟩
  have ne:u≠v:=by simpa using h2
  have ge:¬ os.idxOf u < i:=λ z=>by
   have:=(o.run ts i).gone v u vn (λ h=>by have:=(o.take vn).mp h; omega) ((o.take un).mpr z)
   rw [this] at h1; cases h1
  have ne2:os.idxOf u≠i:=λ z=>ne (o.inj un vn (by omega))
  refine ⟨un,by omega,?_⟩
  unfold a9K
  rw [show min (os.idxOf v) (os.idxOf u)=i by omega]
  exact h1
 ·rintro ⟨un,h1,h2⟩
  unfold a9K at h2
  rw [show min (os.idxOf v) (os.idxOf u)=i by omega] at h2
  refine ⟨un,h2,?_⟩
  have:u≠v:=λ z=>by rw [z] at h1; omega
  simpa using this
theorem getD_some {os:List Nat} {i:Nat} (h:i < os.length):os[i]?=some (os.getD i 0):=by
 rw [τα,List.getElem?_eq_getElem h]; rfl
abbrev b0K:Stmt:=top 24
theorem sc_all_bags:FnScope ["graph", "told", "gone", "last"] ["graph"] (a0F b0K):=⟨rfl,rfl,rfl,by decide +kernel,rfl,by decide +kernel,by decide +kernel⟩
abbrev c2A:Stmt:=top 33
theorem c5J:FnScope ["graph"] ["graph"] (a0F c2A):=⟨rfl,rfl,rfl,by decide +kernel,rfl,by decide +kernel,by decide +kernel⟩
abbrev a6G:Stmt:=top 34
theorem sc_costs_along:FnScope ["bags", "n", "sizes", "told", "gone", "left", "v", "bag", "more"] ["bags"] (a0F a6G):=⟨rfl,rfl,rfl,by decide +kernel,rfl,by decide +kernel,by decide +kernel⟩
theorem a2I {m v:Nat} (h:m.testBit v=true):2 ^ v<=m:=Nat.ge_two_pow_of_testBit h
theorem a3T {g v:Nat} (h:g.testBit v=false):(g ||| 2 ^ v).testBit v=true/\(g ||| 2 ^ v) - 2 ^ v=g/\g+2 ^ v=g ||| 2 ^ v:=by
 have t:(g ||| 2 ^ v).testBit v=true:=by rw [Nat.testBit_or,Nat.testBit_two_pow_self]; simp
 have e:(g ||| 2 ^ v) - 2 ^ v=g:=Nat.eq_of_testBit_eq λ u=>by
  rw [a5A t,Nat.testBit_or,Nat.testBit_two_pow]
  by_cases c:u=v
  ·subst c; rw [h]; simp
  ·rw [decide_eq_false c,decide_eq_false (Ne.symm c)]; simp
 have:=a2I t
 exact ⟨t,e,by omega⟩
theorem c2B {m:Nat} (h:0 < m):m.testBit (Builtin.Int.intBits (m:Int) - 1)=true/\0 < Builtin.Int.intBits (m:Int):=by
 have all:∀ u,m.testBit u=true->u < Builtin.Int.intBits (m:Int):=λ u hu=>b3C hu
 have pos:0 < Builtin.Int.intBits (m:Int):=by
  apply Classical.byContradiction
  intro c
  have:=a2T (k:=0) λ u hu=>by have:=all u hu; omega
  omega
 refine ⟨?_,pos⟩
 apply Classical.byContradiction
 intro c
 have:=b5B (a2T (m:=m) (k:=Builtin.Int.intBits (m:Int) - 1) λ u hu=>by
  have:=all u hu
  have:u≠Builtin.Int.intBits (m:Int) - 1:=λ z=>c (by rw [<- z]; exact hu)
  omega)
 omega
def BagQ (n:Nat) (ts:List ζζ) (H:Hp) (q:Addr) (g:Nat):Prop:=∃ ms S,H q=some (.lst (natV ms))/\S.Nodup/\(∀ u:Nat,u∈S↔g.testBit u=true)/\BagsM n ms (runR n ts S)
def c2C (K:Φρ):Sp:=λ vs H Q _=>∃ (g:V) (n:Nat) (ts:List ζζ),vs=[g]/\GraphV K H g n ts/\(∀ t∈ts,0<=t.1/\t.1 < t.2/\t.2 < (n:Int))/\n<=10 /\
 ∀ (p:Addr) (qs:List Addr) H',Same H H'->H p=none->H' p=some (.lst (qs.map V.ref))->qs.length=2 ^ n->(∀ (g:Nat) q,qs[g]?=some q->BagQ n ts H' q g)->Q (.ref p) H'
def degF (n:Nat) (ts:List ζζ) (g v:Nat):Nat:=(a4C n (runR n ts (a0M g)) v).length
theorem a2K {g u:Nat} (h:g < 2 ^ 10):u∈a0M g↔g.testBit u=true:=by
 unfold a0M
 rw [List.mem_filter,List.mem_range]
 constructor
 ·exact λ z=>z.2
 ·intro z
  refine ⟨?_,z⟩
  apply Classical.byContradiction
  intro c
  rw [a1W h (by omega)] at z
  cases z
theorem b1Q {n:Nat} {ts:List ζζ}:∀ (k:Nat) (S:List Nat),S.length=k->∀ {v:Nat},v∈S->∀ u,runR n ts S v u=false
 | 0,S,hl,v,h,u=>by
  rw [List.eq_nil_of_length_eq_zero hl] at h
  exact absurd h List.not_mem_nil
 | k+1,S,hl,v,h,u=>by
  rcases List.eq_nil_or_concat S with e | ⟨T,w,e⟩
  ·rw [e] at h; exact absurd h List.not_mem_nil
  ·rw [List.concat_eq_append] at e
   subst e
   rw [List.length_append] at hl
   have hT:T.length=k:=by
    have:T.length+1=k+1:=hl
    omega
   rw [a3J]
   unfold a7V
   by_cases c:v=w
   ·rw [if_pos c]
   ·rw [if_neg c]
    have hv:v∈T:=(List.mem_append.mp h).resolve_right λ z=>c (List.mem_singleton.mp z)
    rw [b1Q k T hT hv w,if_neg Bool.false_ne_true]
    exact b1Q k T hT hv u
theorem c9K {n:Nat} {ts:List ζζ} (S:List Nat) {v:Nat} (h:v∈S) (u:Nat):runR n ts S v u=false:=b1Q S.length S rfl h u
theorem b6U {n:Nat} {ts:List ζζ} {ms S:List Nat} {v:Nat} (B:BagsM n ms (runR n ts S)) (hv:v < n) (h:v∈S):ms.getD v 0=0 :=
 Nat.eq_of_testBit_eq λ u=>by rw [B.bit v hv,c9K S h,Nat.zero_testBit]
theorem b1R {n:Nat} {ts:List ζζ} {ms S:List Nat} {v g:Nat} (B:BagsM n ms (runR n ts S)) (nd:S.Nodup) (gl:g < 2 ^ n) (hS:∀ u:Nat,u∈S↔g.testBit u=true) (hv:v < n) (h:v ∉ S):ms.getD v 0≠0/\popF (ms.getD v 0)=degF n ts g v+1:=by
 have hn:∀ a∈S,a < n:=λ a ha=>by
  apply Classical.byContradiction
  intro c
  have:=(hS a).mp ha
  rw [a1W gl (by omega)] at this
  cases this
 have R:=a6F (ts:=ts) nd hn
 have vv:runR n ts S v v=true:=(R.path v v hv hv h h).mpr (.inl rfl)
 have g10:g < 2 ^ 10:=Nat.lt_of_lt_of_le gl (Nat.pow_le_pow_right (by decide) B.n10)
 have pm:S.Perm (a0M g):=(List.perm_ext_iff_of_nodup nd (List.nodup_range.sublist List.filter_sublist)).mpr λ u=>(hS u).trans (a2K g10).symm
 have e:=b0J (ts:=ts) (pm.nodup_iff.mp nd) (λ a ha=>hn a (pm.mem_iff.mpr ha)) pm hv (λ z=>h (pm.mem_iff.mpr z))
 refine ⟨λ z=>?_,?_⟩
 ·have b:=B.bit v hv v
  rw [z,Nat.zero_testBit,vv] at b
  cases b
 ·unfold popF degF
  rw [a8Q B hv,<- e]
  unfold a4C
  have cnt:∀ l:List Nat,l.Nodup->v∈l->(l.filter (runR n ts S v ·)).length=(l.filter λ u=>runR n ts S v u && !decide (u=v)).length+1:=by
   intro l
   induction l with
   | nil=>intro _ h; exact absurd h List.not_mem_nil
   | cons a r ih =>
    intro ndl hm
    obtain ⟨na,nr⟩:=List.nodup_cons.mp ndl
    by_cases c:a=v
    ·subst c
     rw [List.filter_cons,vv,if_pos rfl,List.filter_cons,vv,decide_eq_true rfl]
     simp only [Bool.not_true,Bool.and_false,Bool.false_eq_true,if_false,List.length_cons]
     congr 2
     refine List.filter_congr λ u hu=>?_
     rw [decide_eq_false (λ z=>na (by rw [<- z]; exact hu))]
     simp
    ·have hr:v∈r:=(List.mem_cons.mp hm).resolve_left λ z=>c z.symm
     rw [List.filter_cons,List.filter_cons,decide_eq_false c]
     simp only [Bool.not_false,Bool.and_true]
     split
     ·rw [List.length_cons,List.length_cons,ih nr hr]
     ·exact ih nr hr
  exact cnt _ List.nodup_range (List.mem_range.mpr hv)
def a3U (g k S v:Nat):Prop:=S.testBit v=true/\(S - 2 ^ v < g\/(S - 2 ^ v=g/\v < k))
structure CostI (n:Nat) (ts:List ζζ) (g k:Nat) (cs:List Int):Prop where
 len:cs.length=2 ^ n
 nil:cs.getD 0 0 = -1
 top:∀ S,cs.getD S 0<=(n:Int)
 le:∀ S,0 < S->S < 2 ^ n->∀ v,a3U g k S v->cs.getD S 0<=max (cs.getD (S - 2 ^ v) 0) (degF n ts (S - 2 ^ v) v:Int)
 ex:∀ S,0 < S->S < 2 ^ n->(cs.getD S 0=(n:Int)/\∀ v,¬ a3U g k S v)\/∃ v,a3U g k S v/\cs.getD S 0=max (cs.getD (S - 2 ^ v) 0) (degF n ts (S - 2 ^ v) v:Int)
structure CostOk (n:Nat) (ts:List ζζ) (cs:List Int):Prop where
 len:cs.length=2 ^ n
 nil:cs.getD 0 0 = -1
 le:∀ S,0 < S->S < 2 ^ n->∀ v,S.testBit v=true->cs.getD S 0<=max (cs.getD (S - 2 ^ v) 0) (degF n ts (S - 2 ^ v) v:Int)
 ex:∀ S,0 < S->S < 2 ^ n->∃ v,S.testBit v=true/\cs.getD S 0=max (cs.getD (S - 2 ^ v) 0) (degF n ts (S - 2 ^ v) v:Int)
theorem b8Q (n:Nat) (ts:List ζζ):CostI n ts 0 0 (-1::List.replicate (2 ^ n - 1) (n:Int)):=by
 have p:0 < 2 ^ n:=Nat.pow_pos (by decide)
 have at_:∀ S,0 < S->S < 2 ^ n->(-1::List.replicate (2 ^ n - 1) (n:Int)).getD S 0=(n:Int):=λ S h0 h1=>by
  obtain ⟨k,rfl⟩:∃ k,S=k+1:=⟨S - 1,by omega⟩
  rw [List.getD_cons_succ,τα,List.getElem?_replicate,if_pos (by omega)]; rfl
 have no:∀ S v,¬ a3U 0 0 S v:=λ S v ⟨_,h⟩=>by omega
 refine ⟨by rw [List.length_cons,List.length_replicate]; omega,rfl,λ S=>?_,λ S _ _ v h=>absurd h (no S v),λ S h0 h1=>.inl ⟨at_ S h0 h1,no S⟩⟩
 by_cases c:S=0
 ·subst c; show (-1:Int)<=_; omega
 ·by_cases d:S < 2 ^ n
  ·rw [at_ S (by omega) d]; omega
  ·rw [τα,List.getElem?_eq_none (by rw [List.length_cons,List.length_replicate]; omega)]
   show (0:Int)<=_
   omega
theorem c2D {n:Nat} {ts:List ζζ} {g k:Nat} {cs:List Int} (I:CostI n ts g k cs) (h:g.testBit k=true):CostI n ts g (k+1) cs:=by
 have iff:∀ S v,a3U g (k+1) S v↔a3U g k S v:=λ S v=>by
  unfold a3U
  constructor
  ·rintro ⟨t,h1 | ⟨h1,h2⟩⟩
   ·exact ⟨t,.inl h1⟩
   ·refine ⟨t,.inr ⟨h1,?_⟩⟩
    apply Classical.byContradiction
    intro c
    have:v=k:=by omega
    subst this
    have:=a5A t v
    rw [h1,h,decide_eq_true rfl] at this
    simp at this
  ·rintro ⟨t,h1 | ⟨h1,h2⟩⟩
   ·exact ⟨t,.inl h1⟩
   ·exact ⟨t,.inr ⟨h1,by omega⟩⟩
 refine ⟨I.len,I.nil,I.top,λ S h0 h1 v d=>I.le S h0 h1 v ((iff S v).mp d),λ S h0 h1=>?_⟩
 rcases I.ex S h0 h1 with ⟨a,b⟩ | ⟨v,d,e⟩
 ·exact .inl ⟨a,λ v z=>b v ((iff S v).mp z)⟩
 ·exact .inr ⟨v,(iff S v).mpr d,e⟩
theorem c2E {cs:List Int} {i j:Nat} {x:Int} (h:i < cs.length):(cs.set i x).getD j 0=if j=i then x else cs.getD j 0:=by
 rw [τα,τα,List.getElem?_set]
 by_cases c:i=j
 ·subst c; rw [if_pos rfl,if_pos h,if_pos rfl]; rfl
 ·rw [if_neg c,if_neg (Ne.symm c)]
theorem d2Q (n:Nat) (ts:List ζζ) (g v:Nat):degF n ts g v<=n:=b3O n _ v
theorem c2F {n:Nat} {ts:List ζζ} {g k:Nat} {cs:List Int} (I:CostI n ts g k cs) (hk:k < n) (hg:g < 2 ^ n) (h:g.testBit k=false) :
  CostI n ts g (k+1) (cs.set (g ||| 2 ^ k) (min (cs.getD (g ||| 2 ^ k) 0) (max (cs.getD g 0) (degF n ts g k:Int)))):=by
 obtain ⟨t,e,s⟩:=a3T h
 have ml:(g ||| 2 ^ k) < 2 ^ n:=Nat.or_lt_two_pow hg (Nat.pow_lt_pow_right (by decide) hk)
 have p:0 < 2 ^ k:=Nat.pow_pos (by decide)
 generalize g ||| 2 ^ k=M at *
 have x1:max (cs.getD g 0) (degF n ts g k:Int)<=(n:Int):=by
  have:=I.top g
  have:=d2Q n ts g k
  omega
 generalize ex:max (cs.getD g 0) (degF n ts g k:Int)=x at *
 have G:∀ j,(cs.set M (min (cs.getD M 0) x)).getD j 0=if j=M then min (cs.getD M 0) x else cs.getD j 0:=λ j=>c2E (by rw [I.len]; exact ml)
 have low:∀ S v,a3U g (k+1) S v->(cs.set M (min (cs.getD M 0) x)).getD (S - 2 ^ v) 0=cs.getD (S - 2 ^ v) 0:=λ S v ⟨_,d⟩=>by
  rw [G,if_neg (by omega)]
 have iff:∀ S v,a3U g (k+1) S v↔a3U g k S v\/(S=M/\v=k):=λ S v=>by
  unfold a3U
  constructor
  ·rintro ⟨tt,h1 | ⟨h1,h2⟩⟩
   ·exact .inl ⟨tt,.inl h1⟩
   ·by_cases c:v=k
    ·subst c
     have:=a2I tt
     exact .inr ⟨by omega,rfl⟩
    ·exact .inl ⟨tt,.inr ⟨h1,by omega⟩⟩
  ·rintro (⟨tt,h1 | ⟨h1,h2⟩⟩ | ⟨rfl,rfl⟩)
   ·exact ⟨tt,.inl h1⟩
   ·exact ⟨tt,.inr ⟨h1,by omega⟩⟩
   ·exact ⟨t,.inr ⟨e,by omega⟩⟩
 refine ⟨by rw [List.length_set]; exact I.len,by rw [G,if_neg (by omega)]; exact I.nil,λ S=>?_,λ S h0 h1 v d=>?_,λ S h0 h1=>?_⟩
 ·rw [G]
  split
  ·omega
  ·exact I.top S
 ·rw [low S v d,G]
  rcases (iff S v).mp d with d' | ⟨rfl,rfl⟩
  ·have:=I.le S h0 h1 v d'
   split
   ·rename_i c; rw [<- c]; omega
   ·exact this
  ·rw [if_pos rfl,e,ex]; omega
 ·by_cases c:S=M
  ·subst c
   right
   by_cases d:x < cs.getD S 0
   ·refine ⟨k,(iff S k).mpr (.inr ⟨rfl,rfl⟩),?_⟩
    rw [G,if_pos rfl,G,if_neg (by omega),e,ex]
    omega
   ·rcases I.ex S h0 h1 with ⟨a,b⟩ | ⟨v,dd,ee⟩
    ·refine ⟨k,(iff S k).mpr (.inr ⟨rfl,rfl⟩),?_⟩
     rw [G,if_pos rfl,G,if_neg (by omega),e,ex]
     omega
    ·have d':=(iff S v).mpr (.inl dd)
     refine ⟨v,d',?_⟩
     rw [low S v d',G,if_pos rfl,<- ee]
     omega
  ·rcases I.ex S h0 h1 with ⟨a,b⟩ | ⟨v,dd,ee⟩
   ·refine .inl ⟨by rw [G,if_neg c]; exact a,λ v z=>?_⟩
    rcases (iff S v).mp z with z | z
    ·exact b v z
    ·exact c z.1
   ·have d':=(iff S v).mpr (.inl dd)
    exact .inr ⟨v,d',by rw [low S v d',G,if_neg c]; exact ee⟩
theorem c2G {n:Nat} {ts:List ζζ} {g:Nat} {cs:List Int} (I:CostI n ts g n cs):CostI n ts (g+1) 0 cs:=by
 have iff:∀ S,S < 2 ^ n->∀ v,a3U (g+1) 0 S v↔a3U g n S v:=λ S hS v=>by
  unfold a3U
  constructor
  ·rintro ⟨t,h1 | h1⟩
   ·have vn:v < n:=by
     apply Classical.byContradiction
     intro c
     rw [a1W hS (by omega)] at t
     cases t
    by_cases c:S - 2 ^ v=g
    ·exact ⟨t,.inr ⟨c,vn⟩⟩
    ·exact ⟨t,.inl (by omega)⟩
   ·omega
  ·rintro ⟨t,h1 | ⟨h1,_⟩⟩
   ·exact ⟨t,.inl (by omega)⟩
   ·exact ⟨t,.inl (by omega)⟩
 refine ⟨I.len,I.nil,I.top,λ S h0 h1 v d=>I.le S h0 h1 v ((iff S h1 v).mp d),λ S h0 h1=>?_⟩
 rcases I.ex S h0 h1 with ⟨a,b⟩ | ⟨v,d,e⟩
 ·exact .inl ⟨a,λ v z=>b v ((iff S h1 v).mp z)⟩
 ·exact .inr ⟨v,(iff S h1 v).mpr d,e⟩
theorem c5K {n:Nat} {ts:List ζζ} {cs:List Int} (I:CostI n ts (2 ^ n) 0 cs):CostOk n ts cs:=by
 have all:∀ S,S < 2 ^ n->∀ v,S.testBit v=true->a3U (2 ^ n) 0 S v:=λ S hS v t=>⟨t,.inl (Nat.lt_of_le_of_lt (Nat.sub_le _ _) hS)⟩
 refine ⟨I.len,I.nil,λ S h0 h1 v t=>I.le S h0 h1 v (all S h1 v t),λ S h0 h1=>?_⟩
 rcases I.ex S h0 h1 with ⟨a,b⟩ | ⟨v,d,e⟩
 ·exact absurd (all S h1 _ (c2B h0).1) (b _)
 ·exact ⟨v,d.1,e⟩
def b3P (K:Φρ):Sp:=λ vs H Q _=>∃ (p:Addr) (qs:List Addr) (n:Nat) (ts:List ζζ),vs=[.ref p]/\H p=some (.lst (qs.map V.ref))/\qs.length=2 ^ n/\n<=10/\(∀ (g:Nat) q,qs[g]?=some q->BagQ n ts H q g) /\
 ∀ r cs H',Same H H'->H r=none->H' r=some (.lst (cs.map V.int))->CostOk n ts cs->Q (.ref r) H'
def c9L (K:Φρ):Sp:=λ vs H Q _=>∃ (g:V) (n:Nat) (ts:List ζζ),vs=[g]/\GraphV K H g n ts/\(∀ t∈ts,0<=t.1/\t.1 < t.2/\t.2 < (n:Int))/\n<=10 /\
 ∀ r cs H',Same H H'->H r=none->H' r=some (.lst (cs.map V.int))->CostOk n ts cs->Q (.ref r) H'
end K
namespace K
open PySem L2 Lw Bg
section
variable {P:Program} {w:World} {K:Φρ} {mg:Str->Option Value} {base:Heap}
abbrev DZ8 (K:PySem.W.Frag) (mg:Str->Option Value):=Dn K mg "all_bags" b0K ["graph"]
set_option maxHeartbeats 8000000 in
theorem a5R (B:Bl mg) (dZ17:DZ17 K mg) (dZ44:DZ44 K mg) (dZ8:DZ8 K mg):FnOk P w K mg base CX0 2 dZ8.f dZ8.fd ["graph"] (c2C K):=by
 have gZ17:FnOk P w K mg base CX0 1 _ _ _ _:=a4N B dZ17
 have gZ44:FnOk P w K mg base CX0 1 _ _ _ _:=a7M B dZ44
 refine dZ8.F.ok sc_all_bags (λ vs H Q E h=>?_) (λ cdv A outer s H vs Q E hr h=>?_)
 ·obtain ⟨g,n,ts,rfl,_⟩:=h
  rfl
 obtain ⟨g,n,ts,rfl,hG,okt,n10,q⟩:=h
 obtain ⟨pg,ta,rfl,hP,hT⟩:=id hG
 have p10:2 ^ n<=2 ^ 10:=Nat.pow_le_pow_right (by decide) n10
 have p0:0 < 2 ^ n:=Nat.pow_pos (by decide)
 have e10:(2:Nat) ^ 10=1024:=by decide
 refine ⟨_,(a0C (a0J (i:=1) sc_all_bags.nd rfl (Or.inl rfl) (a1M (a0A (a0G gZ17 hr rfl dZ17.m dZ17.F.kp dZ17.b .nil a0S (a0A (pv 0) a0B)) a0B)))
   (a0C (a1Q PassesOwn.never rfl (a3V rfl B.range (a0A a0E (a0A (a0Q a3X a0E (a0V (a0Z (K:=K) rfl) (pv 0) a0E (λ _ _=>rfl))) a0B))) (a0H (i:=2) sc_all_bags.nd rfl (Or.inl rfl))
   (a0C (a0J (i:=3) sc_all_bags.nd rfl (Or.inl rfl) (a0Q a3E (b4W (K:=K) rfl PySem.F.plainAttrs_int PySem.F.slot_int_bit_length PySem.F.type_int_bit_length c0X (pv 2)) a0E))
   (a0D (a2D (a3F (K:=K) rfl PySem.F.plainAttrs_list PySem.F.slot_list_append PySem.F.type_list_append b0F (pv 1) (a0A (a0G gZ44 hr rfl dZ44.m dZ44.F.kp dZ44.b .nil a0S (a0A (a0V (a0L (K:=K) rfl) (pv 1) (a0Q a3E (pv 2) (a0Q a3X a0E (pv 3))) (λ _ _=>rfl)) (a0A (pv 3) a0B))) a0B))))))
   (a0D (a0N (pv 1))))),?_⟩
 refine ⟨_,rfl,.ref pg,n,ts,rfl,hG,okt,n10,λ p1 ms1 H1 s1 f1 h1 B1=>?_⟩
 refine ⟨(by show 1<=1000; decide),λ p H2 n2=>?_⟩
 have s02:Same H H2:=s1.trans n2.same
 have fp:H p=none:=s1.free n2.fresh
 have sh:=shl1 n
 obtain ⟨N,hN⟩:∃ N,N=2 ^ n - 1:=⟨_,rfl⟩
 refine ⟨_,rfl,pg,_,_,_,rfl,rfl,s02.tupq hP,rfl,_,_,rfl,rfl,⟨by omega,by omega,by decide⟩,_,_,rfl,⟨by decide,by decide,by rw [sh]; omega,by rw [sh]; omega⟩,?_⟩
 rw [show ((1:Int)*2 ^ ((n:Nat):Int).toNat - 1).toNat=N by rw [sh]; omega]
 refine a3D (lo:=1) (n:=N) (λ i σ H'=>∃ (qs:List Addr) (gg ll:Option V),σ=[some (.ref pg),some (.ref p),gg,ll]/\Same H H'/\H' p=some (.lst (qs.map V.ref))/\qs.length=i+1/\p ∉ qs/\∀ (g:Nat) q,qs[g]?=some q->BagQ n ts H' q g) ⟨[p1],none,none,rfl,s02,n2.here,rfl,λ z=>?_,λ g q e=>?_⟩ ?_ ?_
 ·have z:=List.mem_singleton.mp z
  have:=n2.fresh
  rw [z,h1] at this
  cases this
 ·cases g with
  | zero =>
   have e':q=p1:=by
    have:some p1=some q:=e
    injection this with this
    exact this.symm
   subst e'
   exact ⟨ms1,[],n2.same _ _ h1,.nil,λ u=>by rw [Nat.zero_testBit]; exact ⟨λ z=>absurd z List.not_mem_nil,λ z=>by cases z⟩,B1⟩
  | succ g=>cases e
 ·rintro i σ H3 hi ⟨qs,gg,ll,rfl,s3,h3,lq,np,bq⟩
  have ei:(1:Int)+(i:Int)=((i+1:Nat):Int):=by omega
  rw [ei]
  obtain ⟨tb,tp⟩:=c2B (m:=i+1) (by omega)
  obtain ⟨L,hL⟩:∃ L,L=Builtin.Int.intBits ((i+1:Nat):Int) - 1:=⟨_,rfl⟩
  rw [<- hL] at tb
  have Ln:L < n:=by
   apply Classical.byContradiction
   intro c
   rw [a1W (k:=n) (by omega) (by omega)] at tb
   cases tb
  have le:=a2I tb
  refine ⟨_,rfl,rfl,i+1,rfl,rfl,_,_,rfl,rfl,?_⟩
  dsimp only
  have eL:((Builtin.Int.intBits ((i+1:Nat):Int):Nat):Int) - 1=(L:Int):=by omega
  rw [eL]
  have gl:i+1 - 2 ^ L < qs.length:=by
   have:0 < 2 ^ L:=Nat.pow_pos (by decide)
   omega
  obtain ⟨ms,S,hq,nd,hS,BM⟩:=bq _ _ (List.getElem?_eq_getElem gl)
  have hx:(qs.map V.ref)[i+1 - 2 ^ L]?=some (V.ref qs[i+1 - 2 ^ L]):=by rw [List.getElem?_map,List.getElem?_eq_getElem gl]; rfl
  have ex:((i+1:Nat):Int) - 1*2 ^ ((L:Nat):Int).toNat=((i+1 - 2 ^ L:Nat):Int):=by
   rw [shl1 L]; omega
  refine ⟨_,rfl,.inl ⟨rfl,_,SqL.of h3⟩,_,rfl,_,rfl,_,rfl,_,_,rfl,rfl,⟨by omega,by omega,by decide⟩,_,_,rfl,rfl,p,_,_,V.ref qs[i+1 - 2 ^ L],rfl,rfl,SqL.of h3,(by rw [ex]; exact a1L hx),?_⟩
  refine ⟨_,rfl,_,n,ms,_,L,rfl,SqL.of hq,BM,Ln,λ p4 H4 s4 f4 h4=>?_⟩
  refine ⟨p,_,_,rfl,rfl,s4 _ _ h3,(by rw [List.length_map]; omega),λ H5 c5=>?_⟩
  have p4p:p4≠p:=λ z=>by rw [z,h3] at f4; cases f4
  refine ⟨qs++[p4],_,_,rfl,(s3.trans s4).chg fp c5,?_,by rw [List.length_append,lq]; rfl,λ z=>?_,λ g q e=>?_⟩
  ·rw [c5.here,List.map_append]; rfl
  ·rcases List.mem_append.mp z with z | z
   ·exact np z
   ·exact p4p (List.mem_singleton.mp z).symm
  ·by_cases c:g < qs.length
   ·rw [List.getElem?_append_left c] at e
    obtain ⟨ms',S',hq',nd',hS',BM'⟩:=bq g q e
    have qp:q≠p:=λ z=>np (by rw [<- z]; exact List.mem_of_getElem? e)
    exact ⟨ms',S',(c5.rest q qp).trans (s4 _ _ hq'),nd',hS',BM'⟩
   ·rw [List.getElem?_append_right (by omega)] at e
    have g0:g - qs.length=0:=by
     apply Classical.byContradiction
     intro z
     rw [List.getElem?_eq_none (by show 1<=_; omega)] at e
     cases e
    rw [g0] at e
    have e':q=p4:=by
     have:some p4=some q:=e
     injection this with this
     exact this.symm
    subst e'
    have gi:g=i+1:=by omega
    subst gi
    have nL:L ∉ S:=λ z=>by
     have:=(hS L).mp z
     rw [a5A tb,decide_eq_true rfl] at this
     simp at this
    refine ⟨b1I L ms,S++[L],(c5.rest q p4p).trans h4,List.nodup_append.mpr ⟨nd,by simp,λ x hx y hy z=>?_⟩,λ u=>?_,by rw [a3J]; exact c0Y BM Ln⟩
    ·rw [List.mem_singleton.mp hy] at z
     rw [z] at hx
     exact nL hx
    ·rw [List.mem_append,List.mem_singleton,hS,a5A tb]
     by_cases d:u=L
     ·subst d; rw [tb]; simp
     ·simp [d]
 ·rintro σ H3 ⟨qs,gg,ll,rfl,s3,h3,lq,np,bq⟩
  exact ⟨_,rfl,q p qs H3 s3 fp h3 (by omega) bq⟩
abbrev DZ14 (K:PySem.W.Frag) (mg:Str->Option Value):=Dn K mg "costs_along" a6G ["bags"]
set_option maxHeartbeats 8000000 in
theorem a5J (B:Bl mg) (dZ33:DZ33 K mg) (dZ14:DZ14 K mg):FnOk P w K mg base CX0 2 dZ14.f dZ14.fd ["bags"] (b3P K):=by
 have gZ33:FnOk P w K mg base CX0 1 _ _ _ _:=a4O B dZ33
 refine dZ14.F.ok sc_costs_along (λ vs H Q E h=>?_) (λ cdv A outer s H vs Q E hr h=>?_)
 ·obtain ⟨p,qs,n,ts,rfl,_⟩:=h
  rfl
 obtain ⟨p,qs,n,ts,rfl,hp,lq,n10,bq,q⟩:=h
 have p10:2 ^ n<=2 ^ 10:=Nat.pow_le_pow_right (by decide) n10
 have p0:0 < 2 ^ n:=Nat.pow_pos (by decide)
 have e10:(2:Nat) ^ 10=1024:=by decide
 refine ⟨_,(a0C (a0J (i:=1) sc_costs_along.nd rfl (Or.inr rfl) (a0I (a0T (K:=K) rfl) rfl B.len (by decide +kernel) (a0A (a0V (a0L (K:=K) rfl) (pv 0) a0E (λ _ _=>rfl)) a0B)))
   (a0C (a0J (i:=2) sc_costs_along.nd rfl (Or.inl rfl) (a0G gZ33 hr rfl dZ33.m dZ33.F.kp dZ33.b .nil a0S (a0A (pv 1) a0B)))
   (a0C (a0J (i:=3) sc_costs_along.nd rfl (Or.inl rfl) (a0Q c9B (a1M (a0A (c3Z b6C a0E) a0B)) (a2V ["mask", "n"] [none,some 1]  (by kernel_rfl) rfl (a3V rfl B.range (a0A a0E (a0A (a0I (a0T (K:=K) rfl) rfl B.len (by decide +kernel) (a0A (pv 0) a0B)) a0B))) (λ _ _ _ _ _=>(a0H (i:=0) (show (["mask", "n"]:List Str).Nodup by decide +kernel) rfl (Or.inl rfl))) (λ _ _ _ _ _=>a1H) (λ _ _ _ _ _=>(pv 1)))))
   (a0C (a1Q PassesOwn.never rfl (a4X (K:=K) rfl rfl B.enumerate (a0A (pv 0) a0B)) (a2N (K:=K) (n:=2) rfl rfl (a0X (a0H (i:=4) sc_costs_along.nd rfl (Or.inl rfl)) (a0X (a0H (i:=5) sc_costs_along.nd rfl (Or.inl rfl)) a2L)))
   (a0D (a1Q PassesOwn.never rfl (a4X (K:=K) rfl rfl B.enumerate (a0A (pv 5) a0B)) (a2N (K:=K) (n:=2) rfl rfl (a0X (a0H (i:=6) sc_costs_along.nd rfl (Or.inl rfl)) (a0X (a0H (i:=7) sc_costs_along.nd rfl (Or.inl rfl)) a2L)))
   (a0D (a1X (a0R (K:=K) rfl (pv 7) (λ _=>rfl))
   (a0C (a0J (i:=8) sc_costs_along.nd rfl (Or.inl rfl) (a0Q b4Q (pv 4) (a0Q a3X a0E (pv 6))))
   (a0D (a8G (a0I (b9M rfl) rfl B.min (by decide +kernel) (a0A (a0V (a0L (K:=K) rfl) (pv 3) (pv 8) (λ _ _=>rfl)) (a0A (a0I (b9L rfl) rfl B.max (by decide +kernel) (a0A (a0V (a0L (K:=K) rfl) (pv 3) (pv 4) (λ _ _=>rfl)) (a0A (a0Q a3E (a0V (a0L (K:=K) rfl) (pv 2) (pv 7) (λ _ _=>rfl)) a0E) a0B))) a0B))) (a8F (pv 3) (pv 8) a3H))))
   a0Y)))))
   (a0D (a0N (pv 3))))))),?_⟩
 obtain ⟨ms0,S0,hq0,nd0,hS0,B0⟩:=bq 0 _ (List.getElem?_eq_getElem (show 0 < qs.length by omega))
 have x0:(qs.map V.ref)[0]?=some (V.ref qs[0]):=by rw [List.getElem?_map,List.getElem?_eq_getElem (show 0 < qs.length by omega)]; rfl
 refine ⟨_,rfl,p,_,_,_,rfl,rfl,SqL.of hp,a1L (j:=0) x0,_,_,rfl,.inl (SqL.of hq0),?_⟩
 rw [a1J,B0.len]
 refine ⟨_,rfl,n,rfl,n10,λ pz H1 n1=>?_⟩
 refine ⟨_,rfl,(by show 1<=1000; decide),λ pm H2 n2=>?_⟩
 have s02:Same H H2:=n1.same.trans n2.same
 obtain ⟨N,hN⟩:∃ N,N=2 ^ n - 1:=⟨_,rfl⟩
 have lq':(qs.map V.ref).length=2 ^ n:=by rw [List.length_map,lq]
 refine ⟨_,rfl,p,_,rfl,.inl (SqL.of (s02 _ _ hp)),_,_,rfl,⟨by decide,by decide,by omega,by omega⟩,?_⟩
 rw [show ((((qs.map V.ref).length:Nat):Int) - 1).toNat=N by omega]
 refine b9W (λ _=>some (.int (n:Int))) (Nat.le_trans (show N<=5000 by omega) (by decide)) (λ j H3 N' hj s3 hN'=>?_) (λ H3 pl s3 hfree=>?_)
 ·exact ⟨_,rfl,hN' H3 s3⟩
 obtain ⟨G,hnew⟩:∃ G,G=upd H3 pl (.lst ((List.range N).filterMap λ _=>some (V.int (n:Int)))):=⟨_,rfl⟩
 have nG:New H3 pl (.lst ((List.range N).filterMap λ _=>some (V.int (n:Int)))) G:=by rw [hnew]; exact New.mk0 hfree
 rw [<- hnew]
 have sG:Same H2 G:=s3.trans nG.same
 have eN:(List.range N).filterMap (λ _=>some (V.int (n:Int)))=(List.replicate N (n:Int)).map V.int:=by
  rw [List.map_replicate]
  have:∀ k,(List.range k).filterMap (λ _=>some (V.int (n:Int)))=List.replicate k (V.int (n:Int)):=λ k=>by
   induction k with
   | zero=>rfl
   | succ k ih=>rw [List.range_succ,List.filterMap_append,ih,List.replicate_succ']; rfl
  exact this N
 have hl:=nG.here
 rw [eN] at hl
 refine ⟨pm,pl,_,_,rfl,rfl,sG _ _ n2.here,hl,(by rw [List.length_map,List.length_replicate]; show 1+N<=5000; omega),λ pt H4 n4=>?_⟩
 have n4':New G pt (.lst ((-1::List.replicate (2 ^ n - 1) (n:Int)).map V.int)) H4:=by rw [<- hN]; exact n4
 have s14:Same H1 H4:=n2.same.trans (sG.trans n4.same)
 have s04:Same H H4:=n1.same.trans s14
 have fpt:H pt=none:=s02.free (sG.free n4.fresh)
 have pzt:pz≠pt:=λ z=>by
  have:=n4.fresh
  rw [<- z,(n2.same.trans sG) _ _ n1.here] at this
  cases this
 have minif:∀ i j:Int,(if j < i then j else i)=min i j:=λ i j=>by omega
 have maxif:∀ i j:Int,(if j > i then j else i)=max i j:=λ i j=>by omega
 have csAt:∀ {cs:List Int} {M:Nat},M < cs.length->atI (cs.map V.int) (M:Int)=some (.int (cs.getD M 0)):=λ {cs M} h=>a1L (by
  rw [List.getElem?_map,List.getElem?_eq_getElem h,τα,List.getElem?_eq_getElem h]; rfl)
 refine ⟨_,rfl,p,rfl,⟨_,SqL.of (s04 _ _ hp)⟩,?_⟩
 refine a4I (xs:=qs.map V.ref) (λ i σ H'=>∃ (cs:List Int) (gg ll vv bb mm:Option V),σ=[some (.ref p),some (.int n),some (.ref pz),some (.ref pt),gg,ll,vv,bb,mm]/\Same H H'/\H' pz=some (.lst (a1N (2 ^ n)))/\H' pt=some (.lst (cs.map V.int))/\CostI n ts i 0 cs) ⟨_,none,none,none,none,none,rfl,s04,s14 _ _ n1.here,n4'.here,b8Q n ts⟩ (λ i σ H' _ ⟨_,_,_,_,_,_,_,s,_⟩=>SqL.of (s _ _ hp)) ?_ ?_
 ·rintro g x σ H5 pe H6 hx ⟨cs,gg,ll,vv,bb,mm,rfl,s5,hz5,ht5,CI⟩ n6
  rw [List.getElem?_map] at hx
  obtain ⟨qg,hqg,rfl⟩:=Option.map_eq_some_iff.mp hx
  have gl:g < 2 ^ n:=by
   rw [<- lq]
   exact (List.getElem?_eq_some_iff.mp hqg).1
  obtain ⟨ms,S,hms,nd,hS,BM⟩:=bq g qg hqg
  refine ⟨pe,_,rfl,SqT.of n6.here,rfl,_,_,rfl,_,_,rfl,rfl,?_⟩
  have s6:Same H H6:=s5.trans n6.same
  refine ⟨_,rfl,qg,rfl,⟨_,SqL.of (s6 _ _ hms)⟩,?_⟩
  refine a4I (xs:=natV ms) (λ v σ H'=>∃ (cs:List Int) (vv bb mm:Option V),σ=[some (.ref p),some (.int n),some (.ref pz),some (.ref pt),some (.int (g:Int)),some (.ref qg),vv,bb,mm]/\Same H H'/\H' pz=some (.lst (a1N (2 ^ n)))/\H' pt=some (.lst (cs.map V.int))/\CostI n ts g v cs) ⟨cs,_,_,_,rfl,s6,n6.same _ _ hz5,n6.same _ _ ht5,CI⟩ (λ i σ H' _ ⟨_,_,_,_,_,s,_⟩=>SqL.of (s _ _ hms)) ?_ ?_
  ·rintro v x σ H7 pf H8 hx ⟨cs,vv,bb,mm,rfl,s7,hz7,ht7,CI⟩ n8
   have vn:v < n:=by
    have:=(List.getElem?_eq_some_iff.mp hx).1
    rw [a1J,BM.len] at this
    exact this
   have ex:x = .int ((ms.getD v 0:Nat):Int):=by
    rw [List.getElem?_map,BM.get vn] at hx
    injection hx with hx
    exact hx.symm
   subst ex
   refine ⟨pf,_,rfl,SqT.of n8.here,rfl,_,_,rfl,_,_,rfl,rfl,?_⟩
   have s8:Same H H8:=s7.trans n8.same
   have hz8:=n8.same _ _ hz7
   have ht8:=n8.same _ _ ht7
   refine ⟨_,rfl,_,rfl,?_⟩
   by_cases c:v∈S
   ·rw [b6U BM vn c]
    exact iteF ⟨cs,_,_,_,rfl,s8,hz8,ht8,c2D CI ((hS v).mp c)⟩
   ·obtain ⟨nz,pop⟩:=b1R BM nd gl hS vn c
    have gb:g.testBit v=false:=by
     cases e:g.testBit v with
     | false=>rfl
     | true=>exact absurd ((hS v).mpr e) c
    rw [show ((((ms.getD v 0:Nat):Int)) != 0)=true from by simpa using nz]
    refine iteT ?_
    obtain ⟨tb,sb,ab⟩:=a3T gb
    have ml:(g ||| 2 ^ v) < 2 ^ n:=Nat.or_lt_two_pow gl (Nat.pow_lt_pow_right (by decide) vn)
    refine ⟨_,rfl,_,rfl,_,_,rfl,rfl,⟨by omega,by omega,by decide⟩,_,_,rfl,rfl,?_⟩
    dsimp only
    rw [shl1,b0B]
    have bl:ms.getD v 0 < 2 ^ n:=a2T λ u hu=>by
     rw [BM.bit v vn] at hu
     exact (BM.far v u hu).2
    have lc:=CI.len
    refine ⟨_,rfl,_,rfl,pt,_,_,_,rfl,rfl,SqL.of ht8,csAt (by omega),_,rfl,_,rfl,pt,_,_,_,rfl,rfl,SqL.of ht8,csAt (by omega),_,rfl,_,rfl,pz,_,_,_,rfl,rfl,SqL.of hz8,b3N bl,_,_,rfl,rfl,_,_,rfl,_,_,rfl,?_⟩
    rw [minif,maxif,show (((popF (ms.getD v 0):Nat):Int) - 1)=(degF n ts g v:Int) by omega]
    refine ⟨_,rfl,_,rfl,pt,_,_,g ||| 2 ^ v,rfl,rfl,ht8,a5O (by rw [List.length_map]; omega),λ H9 c9=>?_⟩
    refine ⟨_,_,_,_,rfl,s8.chg fpt c9,(c9.rest pz pzt).trans hz8,?_,c2F CI vn gl gb⟩
    rw [c9.here,List.map_set]
  ·rintro σ H7 ⟨cs,vv,bb,mm,rfl,s7,hz7,ht7,CI⟩
   rw [a1J,BM.len] at CI
   exact ⟨cs,_,_,_,_,_,rfl,s7,hz7,ht7,c2G CI⟩
 ·rintro σ H5 ⟨cs,gg,ll,vv,bb,mm,rfl,s5,hz5,ht5,CI⟩
  rw [lq'] at CI
  exact ⟨_,rfl,q pt cs H5 s5 fpt ht5 (c5K CI)⟩
abbrev DZ13 (K:PySem.W.Frag) (mg:Str->Option Value):=Dn K mg "costs" c2A ["graph"]
set_option maxHeartbeats 4000000 in
theorem c5L (B:Bl mg) (dZ33:DZ33 K mg) (dZ17:DZ17 K mg) (dZ44:DZ44 K mg) (dZ8:DZ8 K mg) (dZ14:DZ14 K mg) (dZ13:DZ13 K mg):FnOk P w K mg base CX0 3 dZ13.f dZ13.fd ["graph"] (c9L K):=by
 have gZ8:FnOk P w K mg base CX0 2 _ _ _ _:=a5R B dZ17 dZ44 dZ8
 have gZ14:FnOk P w K mg base CX0 2 _ _ _ _:=a5J B dZ33 dZ14
 refine dZ13.F.ok c5J (λ vs H Q E h=>?_) (λ cdv A outer s H vs Q E hr h=>?_)
 ·obtain ⟨g,n,ts,rfl,_⟩:=h
  rfl
 obtain ⟨g,n,ts,rfl,hG,okt,n10,q⟩:=h
 refine ⟨_,(a0D (a0N (a0G gZ14 hr rfl dZ14.m dZ14.F.kp dZ14.b .nil a0S (a0A (a0G gZ8 hr rfl dZ8.m dZ8.F.kp dZ8.b .nil a0S (a0A (pv 0) a0B)) a0B)))),?_⟩
 refine ⟨_,rfl,g,n,ts,rfl,hG,okt,n10,λ p qs H1 s1 f1 h1 lq bq=>?_⟩
 exact ⟨p,qs,n,ts,rfl,h1,lq,n10,bq,λ r cs H2 s2 f2 h2 C=>q r cs H2 (s1.trans s2) (s1.free f2) h2 C⟩
end
def a6Z (p:Nat->Bool):Nat->Nat
 | 0=>0
 | k+1=>if p k=true then a6Z p k ||| 2 ^ k else a6Z p k
theorem a2E (p:Nat->Bool):∀ k u,(a6Z p k).testBit u=(decide (u < k) && p u)
 | 0,u=>by unfold a6Z; simp
 | k+1,u=>by
  unfold a6Z
  by_cases c:p k=true
  ·rw [if_pos c,Nat.testBit_or,a2E p k u,Nat.testBit_two_pow]
   by_cases d:k=u
   ·subst d; rw [c]; simp
   ·have e:decide (u < k+1)=decide (u < k):=decide_eq_decide.mpr (by omega)
    rw [e,decide_eq_false d]; simp
  ·rw [if_neg c,a2E p k u]
   by_cases d:k=u
   ·subst d; rw [Bool.not_eq_true] at c; rw [c]; simp
   ·have e:decide (u < k+1)=decide (u < k):=decide_eq_decide.mpr (by omega)
    rw [e]
def bagN (n:Nat) (ts:List ζζ) (g v:Nat):Nat:=a6Z (runR n ts (a0M g) v) n
theorem a2Q {n g:Nat} (n10:n<=10) (gl:g < 2 ^ n):(a0M g).Nodup/\(∀ a∈a0M g,a < n)/\∀ u,u∈a0M g↔g.testBit u=true:=by
 have g10:g < 2 ^ 10:=Nat.lt_of_lt_of_le gl (Nat.pow_le_pow_right (by decide) n10)
 refine ⟨List.nodup_range.sublist List.filter_sublist,λ a ha=>?_,λ u=>a2K g10⟩
 apply Classical.byContradiction
 intro c
 have:=(a2K g10).mp ha
 rw [a1W gl (by omega)] at this
 cases this
theorem c9M {n:Nat} {ts:List ζζ} {S S':List Nat} (nd:S.Nodup) (nd':S'.Nodup) (hn:∀ a∈S,a < n) (e:∀ u,u∈S↔u∈S') {v u:Nat} (vn:v < n) (un:u < n) (hv:v ∉ S):runR n ts S v u=runR n ts S' v u:=by
 have R:=a6F (ts:=ts) nd hn
 have R':=a6F (ts:=ts) nd' λ a ha=>hn a ((e a).mpr ha)
 have hv':v ∉ S':=λ z=>hv ((e v).mpr z)
 by_cases c:u∈S
 ·rw [R.gone v u vn hv c,R'.gone v u vn hv' ((e u).mp c)]
 ·rw [Bool.eq_iff_iff,R.path v u vn un hv c,R'.path v u vn un hv' λ z=>c ((e u).mpr z)]
  exact or_congr_right ⟨λ z=>z.mono λ a ha=>(e a).mp ha,λ z=>z.mono λ a ha=>(e a).mpr ha⟩
theorem c7H {n:Nat} {ts:List ζζ} {ms S:List Nat} {v g:Nat} (B:BagsM n ms (runR n ts S)) (nd:S.Nodup) (gl:g < 2 ^ n) (hS:∀ u:Nat,u∈S↔g.testBit u=true) (hv:v < n) (h:v ∉ S):ms.getD v 0=bagN n ts g v:=by
 obtain ⟨pn,pl,pm⟩:=a2Q B.n10 gl
 have hn:∀ a∈S,a < n:=λ a ha=>pl a ((pm a).mpr ((hS a).mp ha))
 refine Nat.eq_of_testBit_eq λ u=>?_
 unfold bagN
 rw [a2E,B.bit v hv u]
 by_cases c:u < n
 ·rw [decide_eq_true c,Bool.true_and]
  exact c9M nd pn hn (λ x=>(hS x).trans (pm x).symm) hv c h
 ·rw [decide_eq_false c,Bool.false_and]
  cases e:runR n ts S v u with
  | false=>rfl
  | true=>exact absurd (B.far v u e).2 c
inductive FreeP (n:Nat) (good:Nat->Nat->Prop):Nat->List Nat->Prop
 | nil:FreeP n good 0 []
 | snoc {S v:Nat} {os:List Nat}:FreeP n good S os->S.testBit v=false->v < n->good S v->FreeP n good (S ||| 2 ^ v) (os++[v])
theorem FreeP.lt {n:Nat} {good:Nat->Nat->Prop} {S:Nat} {os:List Nat} (h:FreeP n good S os):S < 2 ^ n:=by
 induction h with
 | nil=>exact Nat.pow_pos (by decide)
 | snoc _ _ vn _ ih=>exact Nat.or_lt_two_pow ih (Nat.pow_lt_pow_right (by decide) vn)
theorem FreeP.mem {n:Nat} {good:Nat->Nat->Prop} {S:Nat} {os:List Nat} (h:FreeP n good S os):∀ u,u∈os↔S.testBit u=true:=by
 induction h with
 | nil=>intro u; rw [Nat.zero_testBit]; simp
 | @snoc S v os _ _ vn _ ih =>
  intro u
  rw [List.mem_append,ih u,Nat.testBit_or,Nat.testBit_two_pow,Bool.or_eq_true,List.mem_singleton,decide_eq_true_iff]
  exact or_congr_right eq_comm
theorem FreeP.nodup {n:Nat} {good:Nat->Nat->Prop} {S:Nat} {os:List Nat} (h:FreeP n good S os):os.Nodup:=by
 induction h with
 | nil=>exact .nil
 | @snoc S v os h f _ _ ih =>
  refine List.nodup_append.mpr ⟨ih,by simp,λ x hx y hy z=>?_⟩
  rw [List.mem_singleton.mp hy] at z
  rw [z] at hx
  have:=(h.mem v).mp hx
  rw [f] at this
  cases this
theorem FreeP.inn {n:Nat} {good:Nat->Nat->Prop} {S:Nat} {os:List Nat} (h:FreeP n good S os):∀ u∈os,u < n:=by
 induction h with
 | nil=>intro u hu; exact absurd hu List.not_mem_nil
 | snoc _ _ vn _ ih =>
  intro u hu
  rcases List.mem_append.mp hu with hu | hu
  ·exact ih u hu
  ·rw [List.mem_singleton.mp hu]; exact vn
theorem FreeP.weak {n:Nat} {good good':Nat->Nat->Prop} {S:Nat} {os:List Nat} (h:FreeP n good S os) (hw:∀ S v,S < 2 ^ n->v < n->S.testBit v=false->good S v->good' S v):FreeP n good' S os:=by
 induction h with
 | nil=>exact .nil
 | snoc p f vn g ih=>exact .snoc ih f vn (hw _ _ p.lt vn f g)
inductive WidP (n:Nat) (ts:List ζζ):Nat->List Nat->Int->Prop
 | nil:WidP n ts 0 [] (-1)
 | snoc {S v:Nat} {os:List Nat} {G:Int}:WidP n ts S os G->S.testBit v=false->v < n->WidP n ts (S ||| 2 ^ v) (os++[v]) (max G (degF n ts S v:Int))
theorem WidP.free {n:Nat} {ts:List ζζ} {S:Nat} {os:List Nat} {G:Int} (h:WidP n ts S os G):FreeP n (λ S v=>(degF n ts S v:Int)<=G) S os:=by
 induction h with
 | nil=>exact .nil
 | snoc _ f vn ih=>exact .snoc (ih.weak λ S v _ _ _ g=>by omega) f vn (by omega)
theorem WidP.lt {n:Nat} {ts:List ζζ} {S:Nat} {os:List Nat} {G:Int} (h:WidP n ts S os G):S < 2 ^ n:=h.free.lt
theorem c2H {n:Nat} {ts:List ζζ} {w:Int} (w1 : -1<=w) {S:Nat} {os:List Nat} (h:FreeP n (λ S v=>(degF n ts S v:Int)<=w) S os):∃ G,WidP n ts S os G/\G<=w:=by
 induction h with
 | nil=>exact ⟨-1,.nil,w1⟩
 | snoc p f vn g ih =>
  obtain ⟨G,hG,le⟩:=ih
  exact ⟨_,.snoc hG f vn,by omega⟩
theorem a9B {n S:Nat} (h:S < 2 ^ n) (a:∀ u,u < n->S.testBit u=true):S=2 ^ n - 1:=Nat.eq_of_testBit_eq λ u=>by
 rw [Nat.testBit_two_pow_sub_one]
 by_cases c:u < n
 ·rw [a u c,decide_eq_true c]
 ·rw [decide_eq_false c,a1W h (by omega)]
theorem b1S {n:Nat} {ts:List ζζ} {cs:List Int} (C:CostOk n ts cs) {S:Nat} {os:List Nat} {G:Int} (h:WidP n ts S os G):cs.getD S 0<=G:=by
 induction h with
 | nil=>rw [C.nil]; exact Int.le_refl _
 | @snoc S v os G p f vn ih =>
  obtain ⟨t,e,a⟩:=a3T f
  have p0:0 < 2 ^ v:=Nat.pow_pos (by decide)
  have:=C.le (S ||| 2 ^ v) (by omega) (Nat.or_lt_two_pow p.lt (Nat.pow_lt_pow_right (by decide) vn)) v t
  rw [e] at this
  omega
theorem a6H {n:Nat} {ts:List ζζ} {cs:List Int} (C:CostOk n ts cs) (w:Int):∀ (k S:Nat),S<=k->S < 2 ^ n->cs.getD S 0<=w->∃ os,FreeP n (λ S v=>(degF n ts S v:Int)<=w) S os
 | 0,S,hk,hS,hw=>by
  obtain rfl:S=0:=by omega
  exact ⟨[],.nil⟩
 | k+1,S,hk,hS,hw=>by
  by_cases c:S=0
  ·subst c; exact ⟨[],.nil⟩
  ·obtain ⟨v,t,e⟩:=C.ex S (by omega) hS
   have p0:0 < 2 ^ v:=Nat.pow_pos (by decide)
   have ge:=a2I t
   have vn:v < n:=by
    apply Classical.byContradiction
    intro z
    rw [a1W hS (by omega)] at t
    cases t
   obtain ⟨os,h⟩:=a6H C w k (S - 2 ^ v) (by omega) (by omega) (by omega)
   have f:(S - 2 ^ v).testBit v=false:=by rw [a5A t,decide_eq_true rfl]; simp
   have r:=FreeP.snoc h f vn (show (degF n ts (S - 2 ^ v) v:Int)<=w by omega)
   obtain ⟨_,_,a⟩:=a3T f
   rw [<- a,Nat.sub_add_cancel ge] at r
   exact ⟨_,r⟩
theorem b1T {n:Nat} {ts:List ζζ} {cs:List Int} (C:CostOk n ts cs):∀ (k S:Nat),S<=k->S < 2 ^ n -> -1<=cs.getD S 0
 | 0,S,hk,hS=>by
  obtain rfl:S=0:=by omega
  rw [C.nil]; exact Int.le_refl _
 | k+1,S,hk,hS=>by
  by_cases c:S=0
  ·subst c; rw [C.nil]; exact Int.le_refl _
  ·obtain ⟨v,t,e⟩:=C.ex S (by omega) hS
   have p0:0 < 2 ^ v:=Nat.pow_pos (by decide)
   have ge:=a2I t
   have:=b1T C k (S - 2 ^ v) (by omega) (by omega)
   omega
theorem b3Q {n:Nat} {ts:List ζζ} {cs cs':List Int} (C:CostOk n ts cs) (C':CostOk n ts cs'):cs=cs':=by
 have le:∀ {cs cs':List Int},CostOk n ts cs->CostOk n ts cs'->∀ S,S < 2 ^ n->cs.getD S 0<=cs'.getD S 0:=λ {cs cs'} C C' S hS=>by
  obtain ⟨os,h⟩:=a6H C' (cs'.getD S 0) S S (Nat.le_refl _) hS (Int.le_refl _)
  obtain ⟨G,hG,l⟩:=c2H (b1T C' S S (Nat.le_refl _) hS) h
  have:=b1S C hG
  omega
 refine List.ext_getElem (C.len.trans C'.len.symm) λ S h1 h2=>?_
 have hS:S < 2 ^ n:=by rw [<- C.len]; exact h1
 have a:=le C C' S hS
 have b:=le C' C S hS
 rw [τα,τα,List.getElem?_eq_getElem h1,List.getElem?_eq_getElem h2] at a b
 simp only [Option.getD_some] at a b
 omega
structure LastI (n:Nat) (good:Nat->Nat->Prop) (g k:Nat) (ls:List (Option Nat)):Prop where
 len:ls.length=2 ^ n
 snd:∀ S v,ls.getD S none=some v->S < 2 ^ n/\a3U g k S v/\v < n/\good (S - 2 ^ v) v/\(S - 2 ^ v=0\/ls.getD (S - 2 ^ v) none≠none)
 cmp:∀ S v,S < 2 ^ n->a3U g k S v->v < n->good (S - 2 ^ v) v->(S - 2 ^ v=0\/ls.getD (S - 2 ^ v) none≠none)->ls.getD S none≠none
theorem b8R (n:Nat) (good:Nat->Nat->Prop):LastI n good 0 0 (List.replicate (2 ^ n) none):=by
 refine ⟨by rw [List.length_replicate],λ S v h=>?_,λ S v _ d=>?_⟩
 ·rw [τα,List.getElem?_replicate] at h
  split at h <;> cases h
 ·obtain ⟨_,d | ⟨_,d⟩⟩:=d <;> omega
theorem a9C {n:Nat} {good:Nat->Nat->Prop} {g k g' k':Nat} {ls:List (Option Nat)} (I:LastI n good g k ls) (up:∀ S v,a3U g k S v->a3U g' k' S v)
  (dn:∀ S v,S < 2 ^ n->v < n->a3U g' k' S v->good (S - 2 ^ v) v->(S - 2 ^ v=0\/ls.getD (S - 2 ^ v) none≠none)->a3U g k S v):LastI n good g' k' ls:=by
 refine ⟨I.len,λ S v h=>?_,λ S v hS d vn gd h=>I.cmp S v hS (dn S v hS vn d gd h) vn gd h⟩
 obtain ⟨a,b,c⟩:=I.snd S v h
 exact ⟨a,up S v b,c⟩
theorem b3R {n:Nat} {good:Nat->Nat->Prop} {g k:Nat} {ls:List (Option Nat)} (I:LastI n good g k ls) (h:g.testBit k=true\/¬ good g k):LastI n good g (k+1) ls:=by
 refine a9C I (λ S v ⟨t,d⟩=>⟨t,by omega⟩) λ S v hS vn ⟨t,d⟩ gd _=>⟨t,?_⟩
 rcases d with d | ⟨d,e⟩
 ·exact .inl d
 ·refine .inr ⟨d,?_⟩
  apply Classical.byContradiction
  intro c
  obtain rfl:v=k:=by omega
  rw [d] at gd
  rcases h with h | h
  ·have:=a5A t v
   rw [d,h,decide_eq_true rfl] at this
   simp at this
  ·exact h gd
theorem c2I {n:Nat} {good:Nat->Nat->Prop} {g:Nat} {ls:List (Option Nat)} (I:LastI n good g 0 ls) (h0:g≠0) (h:ls.getD g none=none):LastI n good (g+1) 0 ls:=by
 refine a9C I (λ S v ⟨t,d⟩=>⟨t,by omega⟩) λ S v hS vn ⟨t,d⟩ gd q=>⟨t,?_⟩
 rcases d with d | ⟨_,d⟩
 ·by_cases c:S - 2 ^ v=g
  ·rw [c] at q
   rcases q with q | q
   ·exact absurd q h0
   ·exact absurd h q
  ·exact .inl (by omega)
 ·omega
theorem c2J {n:Nat} {good:Nat->Nat->Prop} {g:Nat} {ls:List (Option Nat)} (I:LastI n good g n ls):LastI n good (g+1) 0 ls:=by
 refine a9C I (λ S v ⟨t,d⟩=>⟨t,by omega⟩) λ S v hS vn ⟨t,d⟩ gd q=>⟨t,?_⟩
 omega
theorem b3S {ls:List (Option Nat)} {i j:Nat} {x:Option Nat} (h:i < ls.length):(ls.set i x).getD j none=if j=i then x else ls.getD j none:=by
 rw [τα,τα,List.getElem?_set]
 by_cases c:i=j
 ·subst c; rw [if_pos rfl,if_pos h,if_pos rfl]; rfl
 ·rw [if_neg c,if_neg (Ne.symm c)]
theorem c2K {n:Nat} {good:Nat->Nat->Prop} {g k:Nat} {ls:List (Option Nat)} (I:LastI n good g k ls) (hk:k < n) (hg:g < 2 ^ n) (h:g.testBit k=false) (gd:good g k) (r:g=0\/ls.getD g none≠none) :
  LastI n good g (k+1) (ls.set (g ||| 2 ^ k) (some k)):=by
 obtain ⟨t,e,s⟩:=a3T h
 have ml:(g ||| 2 ^ k) < 2 ^ n:=Nat.or_lt_two_pow hg (Nat.pow_lt_pow_right (by decide) hk)
 have p:0 < 2 ^ k:=Nat.pow_pos (by decide)
 generalize g ||| 2 ^ k=M at *
 have G:∀ j,(ls.set M (some k)).getD j none=if j=M then some k else ls.getD j none:=λ j=>b3S (by rw [I.len]; exact ml)
 have low:∀ j,j<=g->(ls.set M (some k)).getD j none=ls.getD j none:=λ j hj=>by rw [G,if_neg (by omega)]
 refine ⟨by rw [List.length_set]; exact I.len,λ S v hv=>?_,λ S v hS d vn gd' q=>?_⟩
 ·rw [G] at hv
  by_cases c:S=M
  ·rw [if_pos c] at hv
   injection hv with hv
   subst hv c
   rw [e,low g (Nat.le_refl _)]
   exact ⟨ml,⟨t,.inr ⟨e,by omega⟩⟩,hk,gd,r⟩
  ·rw [if_neg c] at hv
   obtain ⟨a,b,c1,d1,q1⟩:=I.snd S v hv
   refine ⟨a,⟨b.1,by have:=b.2; omega⟩,c1,d1,?_⟩
   rw [low _ (by have:=b.2; omega)]
   exact q1
 ·rw [G]
  by_cases c:S=M
  ·rw [if_pos c]; exact λ z=>by cases z
  ·rw [if_neg c]
   rw [low _ (by have:=d.2; omega)] at q
   refine I.cmp S v hS ⟨d.1,?_⟩ vn gd' q
   rcases d.2 with d1 | ⟨d1,d2⟩
   ·exact .inl d1
   ·refine .inr ⟨d1,?_⟩
    apply Classical.byContradiction
    intro z
    obtain rfl:v=k:=by omega
    have:=a2I d.1
    exact c (by omega)
theorem c5M {n:Nat} {good:Nat->Nat->Prop} {ls:List (Option Nat)} (I:LastI n good (2 ^ n) 0 ls) {S:Nat} {os:List Nat} (h:FreeP n good S os):S=0\/ls.getD S none≠none:=by
 induction h with
 | nil=>exact .inl rfl
 | @snoc S v os p f vn gd ih =>
  obtain ⟨t,e,a⟩:=a3T f
  refine .inr (I.cmp _ v (Nat.or_lt_two_pow p.lt (Nat.pow_lt_pow_right (by decide) vn)) ⟨t,.inl ?_⟩ vn ?_ ?_)
  ·rw [e]; exact p.lt
  ·rw [e]; exact gd
  ·rw [e]; exact ih
theorem b3T {n:Nat} {good:Nat->Nat->Prop} {ls:List (Option Nat)} {g k:Nat} (I:LastI n good g k ls) {m v M:Nat} {tl:List Nat} (hv:ls.getD m none=some v) (h:∀ os,FreeP n good m os->FreeP n good M (os++tl)) :
  v < n/\2 ^ v<=m/\m < 2 ^ n/\(m - 2 ^ v=0\/ls.getD (m - 2 ^ v) none≠none)/\∀ os,FreeP n good (m - 2 ^ v) os->FreeP n good M (os++v::tl):=by
 obtain ⟨ml,d,vn,gd,q⟩:=I.snd m v hv
 have ge:=a2I d.1
 refine ⟨vn,ge,ml,q,λ os p=>?_⟩
 have f:(m - 2 ^ v).testBit v=false:=by rw [a5A d.1,decide_eq_true rfl]; simp
 have r:=FreeP.snoc p f vn gd
 obtain ⟨_,_,a⟩:=a3T f
 rw [<- a,Nat.sub_add_cancel ge] at r
 have:=h _ r
 rw [List.append_assoc] at this
 exact this
theorem c2L {n:Nat} {good:Nat->Nat->Prop} {ls:List (Option Nat)} {g k:Nat} (I:LastI n good g k ls):∀ (j m:Nat),m<=j->(m=0\/ls.getD m none≠none)->∃ os,FreeP n good m os
 | 0,m,hj,_=>by
  obtain rfl:m=0:=by omega
  exact ⟨[],.nil⟩
 | j+1,m,hj,h=>by
  cases e:ls.getD m none with
  | none =>
   rcases h with h | h
   ·subst h; exact ⟨[],.nil⟩
   ·exact absurd e h
  | some v =>
   obtain ⟨vn,ge,ml,nx,bk⟩:=b3T I (M:=m) (tl:=[]) e λ os z=>by rw [List.append_nil]; exact z
   have p2:0 < 2 ^ v:=Nat.pow_pos (by decide)
   obtain ⟨os,h⟩:=c2L I j (m - 2 ^ v) (by omega) nx
   exact ⟨_,bk os h⟩
end K
namespace K
open PySem L2 Lw Bg
abbrev a7O:Stmt:=top 36
theorem sc_free_start:FnScope ["bags", "barred", "mask", "lasts", "gone", "left", "v", "bag", "told"] ["bags", "barred", "mask"] (a0F a7O):=⟨rfl,rfl,rfl,by decide +kernel,rfl,by decide +kernel,by decide +kernel⟩
def a5S (n:Nat) (ts:List ζζ) (bs:List Bool) (S v:Nat):Prop:=bs.getD (bagN n ts S v) false=false
def optN:Option Nat->V
 | none=>.non
 | some v=>.int (v:Int)
def d2R (K:Φρ):Sp:=λ vs H Q _=>∃ (p pb:Addr) (qs:List Addr) (bs:List Bool) (n M:Nat) (ts:List ζζ),vs=[.ref p,.ref pb,.int (M:Int)]/\H p=some (.lst (qs.map V.ref))/\qs.length=2 ^ n/\n<=10/\(∀ (g:Nat) q,qs[g]?=some q->BagQ n ts H q g) /\
 SqL K H pb (bs.map V.bl)/\bs.length=2 ^ n/\M < 2 ^ n /\
 (∀ r os H',Same H H'->H r=none->H' r=some (.lst (natV os))->FreeP n (a5S n ts bs) M os->Q (.ref r) H')/\∀ H',Same H H'->(∀ os,¬ FreeP n (a5S n ts bs) M os)->Q .non H'
section
variable {P:Program} {w:World} {K:Φρ} {mg:Str->Option Value} {base:Heap}
abbrev DZ19 (K:PySem.W.Frag) (mg:Str->Option Value):=Dn K mg "free_start" a7O ["bags", "barred", "mask"]
set_option maxHeartbeats 8000000 in
theorem a4P (B:Bl mg) (dZ19:DZ19 K mg):FnOk P w K mg base CX0 1 dZ19.f dZ19.fd ["bags", "barred", "mask"] (d2R K):=by
 refine dZ19.F.ok sc_free_start (λ vs H Q E h=>?_) (λ cdv A outer s H vs Q E hr h=>?_)
 ·obtain ⟨p,pb,qs,bs,n,M,ts,rfl,_⟩:=h
  rfl
 obtain ⟨p,pb,qs,bs,n,M,ts,rfl,hp,lq,n10,bq,hb,lb,Ml,q1,q2⟩:=h
 have p10:2 ^ n<=2 ^ 10:=Nat.pow_le_pow_right (by decide) n10
 have p0:0 < 2 ^ n:=Nat.pow_pos (by decide)
 have e10:(2:Nat) ^ 10=1024:=by decide
 have lq':(qs.map V.ref).length=2 ^ n:=by rw [List.length_map,lq]
 refine ⟨_,(a0C (a3B (i:=3) ["gone"] [none] sc_free_start.nd rfl rfl (by kernel_rfl) rfl (a0O (K:=K) rfl (pv 0)) (λ _ _ _ _ _=>(a0H (i:=0) (show (["gone"]:List Str).Nodup by decide +kernel) rfl (Or.inl rfl))) (λ _ _ _ _ _=>a1H) (λ _ _ _ _ _=>a2B) (by rfl))
   (a0C (a1Q PassesOwn.never rfl (a4X (K:=K) rfl rfl B.enumerate (a0A (pv 0) a0B)) (a2N (K:=K) (n:=2) rfl rfl (a0X (a0H (i:=4) sc_free_start.nd rfl (Or.inl rfl)) (a0X (a0H (i:=5) sc_free_start.nd rfl (Or.inl rfl)) a2L)))
   (a0D (a1X (PW.pt (a4U (a0P a3Q (pv 4) a0E (a0U _)) (a4S (a0P a5M (a0V (a0L (K:=K) rfl) (pv 3) (pv 4) (λ _ _=>rfl)) a2B (a0U _)))))
   (a0D (a1Q PassesOwn.never rfl (a4X (K:=K) rfl rfl B.enumerate (a0A (pv 5) a0B)) (a2N (K:=K) (n:=2) rfl rfl (a0X (a0H (i:=6) sc_free_start.nd rfl (Or.inl rfl)) (a0X (a0H (i:=7) sc_free_start.nd rfl (Or.inl rfl)) a2L)))
   (a0D (a1X (PW.pt (b6A (a0R (K:=K) rfl (pv 7) (λ _=>rfl)) (b0T (a3A (a0R (K:=K) rfl (a0V (a0L (K:=K) rfl) (pv 1) (pv 7) (λ _ _=>rfl)) (λ _=>rfl))))))
   (a0D (a8G (pv 6) (a8F (pv 3) (a0Q b4Q (pv 4) (a0Q a3X a0E (pv 6))) a3H)))
   a0Y))))
   a0Y)))
   (a0C (a0J (i:=8) sc_free_start.nd rfl (Or.inl rfl) (a1M a0B))
   (a0C (a5X PassesOwn.never (PW.pt (b6A (a0R (K:=K) rfl (pv 2) (λ _=>rfl)) (b0T (a0P a5M (a0V (a0L (K:=K) rfl) (pv 3) (pv 2) (λ _ _=>rfl)) a2B (a0U _)))))
   (a0C (a2D (a3F (K:=K) rfl PySem.F.plainAttrs_list PySem.F.slot_list_insert PySem.F.type_list_insert b8B (pv 8) (a0A a0E (a0A (a0V (a0L (K:=K) rfl) (pv 3) (pv 2) (λ _ _=>rfl)) a0B))))
   (a0D (a0J (i:=2) sc_free_start.nd rfl (Or.inl rfl) (a0Q a3E (pv 2) (a0Q a3X a0E (a0V (a0L (K:=K) rfl) (pv 3) (pv 2) (λ _ _=>rfl))))))))
   (a0D (a0N (a7X (a0R (K:=K) rfl (pv 2) (λ _=>rfl)) a2B (pv 8)))))))),?_⟩
 refine ⟨_,rfl,p,rfl,⟨_,SqL.of hp⟩,?_⟩
 refine c4G (λ _=>some .non) (SqL.of hp) (Nat.le_trans (show (qs.map V.ref).length<=5000 by omega) (by decide)) (λ x H1 N hx s1 hN=>?_) (λ H1 pl s1 hfree=>?_)
 ·exact hN H1 s1
 obtain ⟨G,hnew⟩:∃ G,G=upd H1 pl (.lst ((qs.map V.ref).filterMap λ _=>some V.non)):=⟨_,rfl⟩
 have nG:New H1 pl (.lst ((qs.map V.ref).filterMap λ _=>some V.non)) G:=by rw [hnew]; exact New.mk0 hfree
 rw [<- hnew]
 have hl:=nG.here
 have eN:(qs.map V.ref).filterMap (λ _=>some V.non)=(List.replicate (2 ^ n) (none:Option Nat)).map optN:=by
  rw [List.map_replicate,<- lq]
  have:∀ l:List Addr,(l.map V.ref).filterMap (λ _=>some V.non)=List.replicate l.length V.non:=λ l=>by
   induction l with
   | nil=>rfl
   | cons a r ih =>
    show V.non::(r.map V.ref).filterMap (λ _=>some V.non)=_
    rw [ih]; rfl
  exact this qs
 rw [eN] at hl
 have s02:Same H G:=s1.trans nG.same
 have fpl:H pl=none:=s1.free nG.fresh
 have lsAt:∀ {ls:List (Option Nat)} {m:Nat},m < ls.length->atI (ls.map optN) (m:Int)=some (optN (ls.getD m none)):=λ {ls m} h=>a1L (by
  rw [List.getElem?_map,List.getElem?_eq_getElem h,τα,List.getElem?_eq_getElem h]; rfl)
 have optE:∀ o:Option Nat,(!decide (optN o = .non))=o.isSome:=λ o=>by cases o <;> simp [optN]
 refine ⟨_,rfl,p,rfl,⟨_,SqL.of (s02 _ _ hp)⟩,?_⟩
 refine a4I (xs:=qs.map V.ref) (λ i σ H'=>∃ (ls:List (Option Nat)) (gg ll vv bb:Option V),σ=[some (.ref p),some (.ref pb),some (.int (M:Int)),some (.ref pl),gg,ll,vv,bb,none]/\Same H H'/\H' pl=some (.lst (ls.map optN))/\LastI n (a5S n ts bs) i 0 ls) ⟨_,none,none,none,none,rfl,s02,hl,b8R n _⟩ (λ i σ H' _ ⟨_,_,_,_,_,_,s,_⟩=>SqL.of (s _ _ hp)) ?_ ?_
 ·rintro g x σ H5 pe H6 hx ⟨ls,gg,ll,vv,bb,rfl,s5,ht5,LI⟩ n6
  rw [List.getElem?_map] at hx
  obtain ⟨qg,hqg,rfl⟩:=Option.map_eq_some_iff.mp hx
  have gl:g < 2 ^ n:=by
   rw [<- lq]
   exact (List.getElem?_eq_some_iff.mp hqg).1
  obtain ⟨ms,S,hms,nd,hS,BM⟩:=bq g qg hqg
  refine ⟨pe,_,rfl,SqT.of n6.here,rfl,_,_,rfl,_,_,rfl,rfl,?_⟩
  have s6:Same H H6:=s5.trans n6.same
  have ht6:=n6.same _ _ ht5
  have ll':=LI.len
  have core:(g=0\/ls.getD g none≠none)->∀ H7 (D:Ends),Same H H7->H7 pl=some (.lst (ls.map optN))->(∀ (σ:St) H',(∃ (ls:List (Option Nat)) (gg ll vv bb:Option V),σ=[some (.ref p),some (.ref pb),some (.int (M:Int)),some (.ref pl),gg,ll,vv,bb,none]/\Same H H'/\H' pl=some (.lst (ls.map optN))/\LastI n (a5S n ts bs) (g+1) 0 ls)->D.nx σ H') ->
    tFor (d1N K (c7S (tVar 5) tNil)) (gTup K 2 (c7O (b7T 6) (c7O (b7T 7) gNil))) (tIfS (tAnd (tTru K (tVar 7)) (tNot (tTru K (tOp (rIxL K) (tVar 1) (tVar 7))))) (tAsg (tVar 6) (gSub (tVar 3) (tOp (rI0 λ i j=>V.int (Builtin.bitOr i j)) (tVar 4) (tOp (rI CPow λ i j=>V.int (i*2 ^ j.toNat)) (tC (V.int 1)) (tVar 6))) d1O)) d0T) D [some (.ref p),some (.ref pb),some (.int (M:Int)),some (.ref pl),some (.int (g:Int)),some (.ref qg),vv,bb,none] H7:=by
   intro reach H7 D s7 ht7 done
   refine ⟨_,rfl,qg,rfl,⟨_,SqL.of (s7 _ _ hms)⟩,?_⟩
   refine a4I (xs:=natV ms) (λ v σ H'=>∃ (ls:List (Option Nat)) (vv bb:Option V),σ=[some (.ref p),some (.ref pb),some (.int (M:Int)),some (.ref pl),some (.int (g:Int)),some (.ref qg),vv,bb,none]/\Same H H'/\H' pl=some (.lst (ls.map optN))/\(g=0\/ls.getD g none≠none)/\LastI n (a5S n ts bs) g v ls) ⟨ls,_,_,rfl,s7,ht7,reach,LI⟩ (λ i σ H' _ ⟨_,_,_,_,s,_⟩=>SqL.of (s _ _ hms)) ?_ ?_
   ·rintro v x σ H8 pf H9 hx ⟨ls,vv,bb,rfl,s8,ht8,rch,LI⟩ n9
    have vn:v < n:=by
     have:=(List.getElem?_eq_some_iff.mp hx).1
     rw [a1J,BM.len] at this
     exact this
    have ex:x = .int ((ms.getD v 0:Nat):Int):=by
     rw [List.getElem?_map,BM.get vn] at hx
     injection hx with hx
     exact hx.symm
    subst ex
    refine ⟨pf,_,rfl,SqT.of n9.here,rfl,_,_,rfl,_,_,rfl,rfl,?_⟩
    have s9:Same H H9:=s8.trans n9.same
    have ht9:=n9.same _ _ ht8
    refine ⟨_,rfl,_,rfl,?_⟩
    by_cases c:v∈S
    ·rw [b6U BM vn c]
     exact iteF ⟨ls,_,_,rfl,s9,ht9,rch,b3R LI (.inl ((hS v).mp c))⟩
    ·obtain ⟨nz,pop⟩:=b1R BM nd gl hS vn c
     have bi:=c7H BM nd gl hS vn c
     have gb:g.testBit v=false:=by
      cases e:g.testBit v with
      | false=>rfl
      | true=>exact absurd ((hS v).mpr e) c
     have bl:ms.getD v 0 < 2 ^ n:=a2T λ u hu=>by
      rw [BM.bit v vn] at hu
      exact (BM.far v u hu).2
     rw [show ((((ms.getD v 0:Nat):Int)) != 0)=true from by simpa using nz]
     have bAt:∀ j:Nat,j < 2 ^ n->atI (bs.map V.bl) (j:Int)=some (.bl (bs.getD j false)):=λ j hj=>a1L (by
      rw [List.getElem?_map,List.getElem?_eq_getElem (by omega),τα,List.getElem?_eq_getElem (by omega)]; rfl)
     refine iteT ⟨_,rfl,_,rfl,pb,_,_,_,rfl,rfl,s9.seq hb,bAt _ bl,_,rfl,?_⟩
     cases hbb:bs.getD (ms.getD v 0) false with
     | true =>
      refine iteF ⟨ls,_,_,rfl,s9,ht9,rch,b3R LI (.inr λ z=>?_)⟩
      unfold a5S at z
      rw [<- bi,hbb] at z
      cases z
     | false =>
      obtain ⟨tb,sb,ab⟩:=a3T gb
      have ml:(g ||| 2 ^ v) < 2 ^ n:=Nat.or_lt_two_pow gl (Nat.pow_lt_pow_right (by decide) vn)
      refine iteT ⟨_,rfl,_,rfl,_,rfl,_,rfl,_,_,rfl,rfl,⟨by omega,by omega,by decide⟩,_,_,rfl,rfl,?_⟩
      dsimp only
      rw [shl1,b0B]
      have lc:=LI.len
      refine ⟨pl,_,_,g ||| 2 ^ v,rfl,rfl,ht9,a5O (by rw [List.length_map]; omega),λ H10 c10=>?_⟩
      have p2:0 < 2 ^ v:=Nat.pow_pos (by decide)
      refine ⟨ls.set (g ||| 2 ^ v) (some v),_,_,rfl,s9.chg fpl c10,?_,?_,c2K LI vn gl gb ?_ rch⟩
      ·rw [c10.here,List.map_set]; rfl
      ·rw [b3S (by omega),if_neg (by omega)]
       exact rch
      ·unfold a5S
       rw [<- bi]; exact hbb
   ·rintro σ H8 ⟨ls,vv,bb,rfl,s8,ht8,rch,LI⟩
    rw [a1J,BM.len] at LI
    exact done _ _ ⟨ls,_,_,_,_,rfl,s8,ht8,c2J LI⟩
  refine ⟨_,rfl,rfl,_,rfl,?_⟩
  by_cases g0:g=0
  ·subst g0
   exact iteT (core (.inl rfl) _ _ s6 ht6 λ σ H' z=>z)
  ·rw [show decide (V.int (g:Int)=V.int 0)=false from decide_eq_false (λ z=>by injection z with z; omega)]
   refine iteF ⟨_,rfl,_,rfl,pl,_,_,_,rfl,rfl,SqL.of ht6,lsAt (by omega),rfl,_,rfl,?_⟩
   rw [optE]
   cases hlg:ls.getD g none with
   | none=>exact iteF ⟨ls,_,_,_,_,rfl,s6,ht6,c2I LI g0 hlg⟩
   | some v=>exact iteT (core (.inr (by rw [hlg]; exact λ z=>by cases z)) _ _ s6 ht6 λ σ H' z=>z)
 ·rintro σ H5 ⟨ls,gg,ll,vv,bb,rfl,s5,ht5,LI⟩
  rw [lq'] at LI
  have lc:=LI.len
  refine ⟨(by show 0<=1000; decide),λ pt H6 n6=>?_⟩
  have fpt:H pt=none:=s5.free n6.fresh
  have plt:pl≠pt:=λ z=>by
   have:=n6.fresh
   rw [<- z,ht5] at this
   cases this
  let Iw:Nat->St->Hp->Prop:=λ m σ H'=>∃ tl:List Nat,σ=[some (.ref p),some (.ref pb),some (.int (m:Int)),some (.ref pl),gg,ll,vv,bb,some (.ref pt)]/\Same H H'/\H' pl=some (.lst (ls.map optN))/\H' pt=some (.lst (natV tl))/\m<=M/\(m=M\/m=0\/ls.getD m none≠none)/\(∀ os,FreeP n (a5S n ts bs) m os->FreeP n (a5S n ts bs) M (os++tl))
  refine ⟨Iw,⟨M,[],rfl,s5.trans n6.same,n6.same _ _ ht5,n6.here,Nat.le_refl _,.inl rfl,λ os z=>by rw [List.append_nil]; exact z⟩,?_⟩
  rintro m σ H7 ⟨tl,rfl,s7,hl7,ht7,mM,mm,ft⟩
  refine ⟨_,rfl,_,rfl,?_⟩
  by_cases m0:m=0
  ·subst m0
   refine iteF (iteF ⟨_,rfl,_,rfl,?_⟩)
   have f:=ft [] .nil
   exact iteF ⟨_,rfl,q1 pt tl H7 s7 fpt ht7 f⟩
  ·rw [show (((m:Nat):Int) != 0)=true from by simpa using m0]
   refine iteT ⟨_,rfl,_,rfl,pl,_,_,_,rfl,rfl,SqL.of hl7,lsAt (by omega),rfl,_,rfl,?_⟩
   rw [optE]
   cases hlm:ls.getD m none with
   | none =>
    refine iteF ⟨_,rfl,_,rfl,?_⟩
    rw [show (((m:Nat):Int) != 0)=true from by simpa using m0]
    refine iteT (q2 H7 s7 λ os z=>?_)
    rcases mm with mm | mm | mm
    ·subst mm
     rcases c5M LI z with z | z
     ·exact m0 z
     ·exact z hlm
    ·exact m0 mm
    ·exact mm hlm
   | some v =>
    obtain ⟨vn,ge,ml,nx,bk⟩:=b3T LI hlm ft
    have p2:0 < 2 ^ v:=Nat.pow_pos (by decide)
    have tz:tl.length<=10:=by
     obtain ⟨os,f⟩:=c2L LI m m (Nat.le_refl _) (.inr (by rw [hlm]; exact λ z=>by cases z))
     have f2:=ft os f
     have:=a3P f2.nodup f2.inn
     rw [List.length_append] at this
     omega
    refine iteT ⟨Iw (m - 2 ^ v),λ σ' H' z=>⟨m - 2 ^ v,by omega,z⟩,?_⟩
    have lsm:atI (ls.map optN) (m:Int)=some (.int (v:Int)):=by rw [lsAt (by omega),hlm]; rfl
    refine ⟨_,rfl,.inl ⟨rfl,_,SqL.of ht7⟩,_,rfl,_,rfl,pl,_,_,_,rfl,rfl,SqL.of hl7,lsm,?_⟩
    refine ⟨pt,_,_,_,rfl,rfl,ht7,(by rw [a1J]; omega),by decide,by omega,λ H8 c8=>?_⟩
    have pt1:pl≠pt:=plt
    have hl8:=(c8.rest pl plt).trans hl7
    refine ⟨_,rfl,_,rfl,_,rfl,pl,_,_,_,rfl,rfl,SqL.of hl8,lsm,_,_,rfl,rfl,⟨by omega,by omega,by decide⟩,_,_,rfl,rfl,?_⟩
    dsimp only
    rw [shl1]
    refine ⟨v::tl,?_,s7.chg fpt c8,hl8,c8.here,by omega,.inr nx,bk⟩
    rw [show ((m:Int) - ((2 ^ v:Nat):Int))=((m - 2 ^ v:Nat):Int) by omega]
    rfl
end
abbrev b3U:Stmt:=top 19
theorem b0L:FnScope ["places"] ["places"] (a0F b3U):=⟨rfl,rfl,rfl,by decide +kernel,rfl,by decide +kernel,by decide +kernel⟩
abbrev c2M:Stmt:=top 35
theorem sc_start:FnScope ["graph", "places", "bags", "mask", "most"] ["graph", "places"] (a0F c2M):=⟨rfl,rfl,rfl,by decide +kernel,rfl,by decide +kernel,by decide +kernel⟩
theorem b6V {n:Nat}:∀ {ls:List Nat},ls.Nodup->(∀ v∈ls,v < n)->∃ M:Nat,(ls.map λ (v:Nat)=>((2 ^ v:Nat):Int)).sum=(M:Int)/\M < 2 ^ n/\∀ u,M.testBit u=true↔u∈ls
 | [],_,_=>⟨0,rfl,Nat.pow_pos (by decide),λ u=>by rw [Nat.zero_testBit]; simp⟩
 | v::r,nd,hn=>by
  obtain ⟨nv,nr⟩:=List.nodup_cons.mp nd
  obtain ⟨M,e,l,t⟩:=b6V nr λ x hx=>hn x (List.mem_cons_of_mem _ hx)
  have vn:=hn v List.mem_cons_self
  have f:M.testBit v=false:=by
   cases c:M.testBit v with
   | false=>rfl
   | true=>exact absurd ((t v).mp c) nv
  obtain ⟨_,_,a⟩:=a3T f
  refine ⟨M ||| 2 ^ v,?_,Nat.or_lt_two_pow l (Nat.pow_lt_pow_right (by decide) vn),λ u=>?_⟩
  ·rw [List.map_cons,List.sum_cons,e,<- a]; omega
  ·rw [Nat.testBit_or,Nat.testBit_two_pow,Bool.or_eq_true,t u,decide_eq_true_iff,List.mem_cons]
   constructor
   ·rintro (h | h)
    ·exact .inr h
    ·exact .inl h.symm
   ·rintro (h | h)
    ·exact .inr h.symm
    ·exact .inl h
def c5N (K:Φρ):Sp:=λ vs H Q _=>∃ (a:Addr) (ls:List Nat) (n:Nat),vs=[.ref a]/\SqL K H a (natV ls)/\ls.Nodup/\(∀ v∈ls,v < n)/\n<=10/\∀ (M:Nat) H',Same H H'->M < 2 ^ n->(∀ u,M.testBit u=true↔u∈ls)->Q (.int (M:Int)) H'
def c9N (K:Φρ):Sp:=λ vs H Q _=>∃ (g:V) (n:Nat) (ts:List ζζ) (a:Addr) (ls:List Nat),vs=[g,.ref a]/\GraphV K H g n ts/\(∀ t∈ts,0<=t.1/\t.1 < t.2/\t.2 < (n:Int))/\n<=10/\SqL K H a (natV ls)/\ls.Nodup/\(∀ v∈ls,v < n) /\
 ∀ r os M cs H',Same H H'->H r=none->H' r=some (.lst (natV os))->CostOk n ts cs->M < 2 ^ n->(∀ u,M.testBit u=true↔u∈ls)->WidP n ts M os (cs.getD M 0)->Q (.ref r) H'
section
variable {P:Program} {w:World} {K:Φρ} {mg:Str->Option Value} {base:Heap}
abbrev DZ32 (K:PySem.W.Frag) (mg:Str->Option Value):=Dn K mg "mask_of" b3U ["places"]
set_option maxHeartbeats 4000000 in
theorem b5M (B:Bl mg) (Bs:mg "sum" = none) (dZ32:DZ32 K mg):FnOk P w K mg base CX0 1 dZ32.f dZ32.fd ["places"] (c5N K):=by
 refine dZ32.F.ok b0L (λ vs H Q E h=>?_) (λ cdv A outer s H vs Q E hr h=>?_)
 ·obtain ⟨a,ls,n,rfl,_⟩:=h
  rfl
 obtain ⟨a,ls,n,rfl,hA,nd,hn,n10,q⟩:=h
 have ll:=a3P nd hn
 refine ⟨_,(a0D (a0N (a0I (b3B (K:=K) rfl rfl) rfl Bs (by decide +kernel) (a0A (a2V ["v"] [none]  (by kernel_rfl) rfl (a0O (K:=K) rfl (pv 0)) (λ _ _ _ _ _=>(a0H (i:=0) (show (["v"]:List Str).Nodup by decide +kernel) rfl (Or.inl rfl))) (λ _ _ _ _ _=>a1H) (λ _ _ _ _ _=>(a0Q a3X a0E (pv 0)))) a0B)))),?_⟩
 refine ⟨_,rfl,a,rfl,⟨_,hA⟩,?_⟩
 refine a4T (λ x=>match x with | .int z=>some (.int ((2 ^ z.toNat:Nat):Int)) | _=>none) hA (by rw [a1J]; omega) (λ x H1 N hx s1 hN=>?_) (λ H1 p H2 s1 n2=>?_)
 ·obtain ⟨v,hv,rfl⟩:=List.mem_map.mp hx
  have hN':=hN H1 s1
  dsimp only at hN'
  rw [Int.toNat_natCast] at hN'
  have vn:=hn v hv
  refine ⟨_,rfl,_,_,rfl,rfl,⟨by omega,by omega,by decide⟩,?_⟩
  dsimp only
  rw [shl1]
  exact hN'
 have e2:(natV ls).filterMap (λ x=>match x with | .int z=>some (V.int ((2 ^ z.toNat:Nat):Int)) | _=>none)=(ls.map λ (v:Nat)=>((2 ^ v:Nat):Int)).map V.int:=by
  unfold natV
  rw [List.filterMap_map,List.map_map]
  refine a3R λ m _=>?_
  simp only [Function.comp_apply,Int.toNat_natCast]
 rw [e2] at n2
 obtain ⟨M,e,l,t⟩:=b6V nd hn
 refine ⟨p,_,rfl,SqL.of n2.here,?_⟩
 rw [e]
 exact q M H2 (s1.trans n2.same) l t
abbrev DZ43 (K:PySem.W.Frag) (mg:Str->Option Value):=Dn K mg "start" c2M ["graph", "places"]
set_option maxHeartbeats 8000000 in
theorem c5O (B:Bl mg) (Bs:mg "sum" = none) (dZ32:DZ32 K mg) (dZ33:DZ33 K mg) (dZ17:DZ17 K mg) (dZ44:DZ44 K mg) (dZ8:DZ8 K mg) (dZ14:DZ14 K mg) (dZ19:DZ19 K mg) (dZ43:DZ43 K mg):FnOk P w K mg base CX0 3 dZ43.f dZ43.fd ["graph", "places"] (c9N K):=by
 have gZ8:FnOk P w K mg base CX0 2 _ _ _ _:=a5R B dZ17 dZ44 dZ8
 have gZ14:FnOk P w K mg base CX0 2 _ _ _ _:=a5J B dZ33 dZ14
 have gZ32:FnOk P w K mg base CX0 2 _ _ _ _:=(b5M B Bs dZ32).mono (by decide)
 have gZ33:FnOk P w K mg base CX0 2 _ _ _ _:=(a4O B dZ33).mono (by decide)
 have gZ19:FnOk P w K mg base CX0 2 _ _ _ _:=(a4P B dZ19).mono (by decide)
 refine dZ43.F.ok sc_start (λ vs H Q E h=>?_) (λ cdv A outer s H vs Q E hr h=>?_)
 ·obtain ⟨g,n,ts,a,ls,rfl,_⟩:=h
  rfl
 obtain ⟨g,n,ts,a,ls,rfl,hG,okt,n10,hA,nd,hn,q⟩:=h
 have p10:2 ^ n<=2 ^ 10:=Nat.pow_le_pow_right (by decide) n10
 have p0:0 < 2 ^ n:=Nat.pow_pos (by decide)
 have e10:(2:Nat) ^ 10=1024:=by decide
 refine ⟨_,(a0C (a0J (i:=2) sc_start.nd rfl (Or.inl rfl) (a0G gZ8 hr rfl dZ8.m dZ8.F.kp dZ8.b .nil a0S (a0A (pv 0) a0B)))
   (a0C (a0J (i:=3) sc_start.nd rfl (Or.inl rfl) (a0G gZ32 hr rfl dZ32.m dZ32.F.kp dZ32.b .nil a0S (a0A (pv 1) a0B)))
   (a0C (a0J (i:=4) sc_start.nd rfl (Or.inr rfl) (a0V (a0L (K:=K) rfl) (a0G gZ14 hr rfl dZ14.m dZ14.F.kp dZ14.b .nil a0S (a0A (pv 2) a0B)) (pv 3) (λ _ _=>rfl)))
   (a0D (a0N (a0G gZ19 hr rfl dZ19.m dZ19.F.kp dZ19.b .nil a0S (a0A (pv 2) (a0A (a2V ["size", "most"] [none,some 4]  (by kernel_rfl) rfl (a0O (K:=K) rfl (a0G gZ33 hr rfl dZ33.m dZ33.F.kp dZ33.b .nil a0S (a0A (a0V (a0Z (K:=K) rfl) (pv 0) a0E (λ _ _=>rfl)) a0B))) (λ _ _ _ _ _=>(a0H (i:=0) (show (["size", "most"]:List Str).Nodup by decide +kernel) rfl (Or.inl rfl))) (λ _ _ _ _ _=>a1H) (λ _ _ _ _ _=>(a4E b4R (a0Q a3E (pv 0) a0E) (pv 1) (a0U _)))) (a0A (pv 3) a0B))))))))),?_⟩
 refine ⟨_,rfl,g,n,ts,rfl,hG,okt,n10,λ p qs H1 s1 f1 h1 lq bq=>?_⟩
 refine ⟨_,rfl,a,ls,n,rfl,s1.seq hA,nd,hn,n10,λ M H2 s2 Ml tM=>?_⟩
 have bq2:∀ {H':Hp},Same H1 H'->∀ (g:Nat) q,qs[g]?=some q->BagQ n ts H' q g:=λ {H'} s g q e=>by
  obtain ⟨ms,S,h,r⟩:=bq g q e
  exact ⟨ms,S,s _ _ h,r⟩
 refine ⟨_,rfl,p,qs,n,ts,rfl,s2 _ _ h1,lq,n10,bq2 s2,λ r cs H3 s3 f3 h3 C=>?_⟩
 have csAt:atI (cs.map V.int) (M:Int)=some (.int (cs.getD M 0)):=a1L (by
  have:=C.len
  rw [List.getElem?_map,List.getElem?_eq_getElem (by omega),τα,List.getElem?_eq_getElem (by omega)]; rfl)
 refine ⟨_,rfl,r,_,_,_,rfl,rfl,SqL.of h3,csAt,?_⟩
 have s13:Same H1 H3:=s2.trans s3
 have s03:Same H H3:=s1.trans s13
 obtain ⟨pg,ta,rfl,hP,hT⟩:=id hG
 refine ⟨_,rfl,_,rfl,pg,_,_,_,rfl,rfl,s03.tupq hP,rfl,n,rfl,n10,λ pz H4 n4=>?_⟩
 refine ⟨pz,rfl,⟨_,SqL.of n4.here⟩,?_⟩
 refine c4G (λ x=>match x with | .int z=>some (.bl (decide (z - 1 > cs.getD M 0))) | _=>none) (SqL.of n4.here) (Nat.le_trans (show (a1N (2 ^ n)).length<=5000 by rw [a4A]; omega) (by decide)) (λ x H5 N hx s5 hN=>?_) (λ H5 pl s5 hfree=>?_)
 ·unfold a1N at hx
  obtain ⟨m,hm,rfl⟩:=List.mem_map.mp hx
  have hN':=hN H5 s5
  dsimp only at hN'
  refine ⟨_,rfl,_,_,rfl,rfl,_,rfl,_,_,rfl,rfl,?_⟩
  exact hN'
 have eb:(a1N (2 ^ n)).filterMap (λ x=>match x with | .int z=>some (V.bl (decide (z - 1 > cs.getD M 0))) | _=>none)=((List.range (2 ^ n)).map λ m=>decide ((popF m:Int) - 1 > cs.getD M 0)).map V.bl:=by
  unfold a1N
  rw [List.filterMap_map,List.map_map]
  exact a3R λ m _=>rfl
 rw [eb]
 have ng:=New.mk0 (H:=H5) (p:=pl) (o:=.lst (((List.range (2 ^ n)).map λ m=>decide ((popF m:Int) - 1 > cs.getD M 0)).map V.bl)) hfree
 generalize upd H5 pl (.lst (((List.range (2 ^ n)).map λ m=>decide ((popF m:Int) - 1 > cs.getD M 0)).map V.bl))=H6 at ng ⊢
 have s36:Same H3 H6:=n4.same.trans (s5.trans ng.same)
 have s16:=s13.trans s36
 have s06:=s1.trans s16
 have good:∀ S v,S < 2 ^ n->v < n->S.testBit v=false->(a5S n ts ((List.range (2 ^ n)).map λ m=>decide ((popF m:Int) - 1 > cs.getD M 0)) S v↔(degF n ts S v:Int)<=cs.getD M 0):=λ S v hS vn f=>by
  obtain ⟨pn,pl,pm⟩:=a2Q n10 hS
  have qS:S < qs.length:=by omega
  obtain ⟨ms,T,_,ndT,hT',BM⟩:=bq S _ (List.getElem?_eq_getElem qS)
  have nv:v ∉ T:=λ z=>by
   have:=(hT' v).mp z
   rw [f] at this
   cases this
  have bi:=c7H BM ndT hS hT' vn nv
  have bl:ms.getD v 0 < 2 ^ n:=a2T λ u hu=>by
   rw [BM.bit v vn] at hu
   exact (BM.far v u hu).2
  obtain ⟨_,pop⟩:=b1R BM ndT hS hT' vn nv
  unfold a5S
  rw [<- bi,τα,List.getElem?_map,List.getElem?_range bl]
  show decide ((popF (ms.getD v 0):Int) - 1 > cs.getD M 0)=false↔_
  rw [pop,decide_eq_false_iff_not]
  omega
 refine ⟨_,rfl,p,pl,qs,_,n,M,ts,rfl,s16 _ _ h1,lq,n10,bq2 s16,SqL.of ng.here,by rw [List.length_map,List.length_range],Ml,λ r7 os H7 s7 f7 h7 F=>?_,λ H7 s7 no=>?_⟩
 ·have F':=F.weak (good':=λ S v=>(degF n ts S v:Int)<=cs.getD M 0) λ S v hS vn f g=>(good S v hS vn f).mp g
  obtain ⟨G,hG',le⟩:=c2H (b1T C M M (Nat.le_refl _) Ml) F'
  have ge:=b1S C hG'
  obtain rfl:G=cs.getD M 0:=by omega
  exact q r7 os M cs H7 (s06.trans s7) (s06.free f7) h7 C Ml tM hG'
 ·obtain ⟨os,F⟩:=a6H C (cs.getD M 0) M M (Nat.le_refl _) Ml (Int.le_refl _)
  exact absurd (F.weak (good':=a5S n ts _) λ S v hS vn f g=>(good S v hS vn f).mpr g) (no os)
end
abbrev a6I:Stmt:=top 37
theorem a9L:FnScope ["graph"] ["graph"] (a0F a6I):=⟨rfl,rfl,rfl,by decide +kernel,rfl,by decide +kernel,by decide +kernel⟩
def c5P (K:Φρ):Sp:=λ vs H Q _=>∃ (g:V) (n:Nat) (ts:List ζζ),vs=[g]/\GraphV K H g n ts/\(∀ t∈ts,0<=t.1/\t.1 < t.2/\t.2 < (n:Int))/\n<=10 /\
 ∀ cs H',Same H H'->CostOk n ts cs->Q (.int (cs.getD (2 ^ n - 1) 0)) H'
theorem c7I {xs:List V} {v:V} {j:Nat} (hl:xs.length=j+1) (h:xs[j]?=some v):atI xs (-1)=some v:=by
 obtain ⟨hj,e⟩:=List.getElem?_eq_some_iff.mp h
 have:xs=xs.take j++[v]:=by
  rw [<- e,<- List.take_succ_eq_append_getElem hj,List.take_of_length_le (by omega)]
 rw [this]
 exact c4D _ _
section
variable {P:Program} {w:World} {K:Φρ} {mg:Str->Option Value} {base:Heap}
abbrev DZ30 (K:PySem.W.Frag) (mg:Str->Option Value):=Dn K mg "least_width" a6I ["graph"]
set_option maxHeartbeats 4000000 in
theorem a5K (B:Bl mg) (dZ33:DZ33 K mg) (dZ17:DZ17 K mg) (dZ44:DZ44 K mg) (dZ8:DZ8 K mg) (dZ14:DZ14 K mg) (dZ13:DZ13 K mg) (dZ30:DZ30 K mg):FnOk P w K mg base CX0 4 dZ30.f dZ30.fd ["graph"] (c5P K):=by
 have gZ13:FnOk P w K mg base CX0 3 _ _ _ _:=c5L B dZ33 dZ17 dZ44 dZ8 dZ14 dZ13
 refine dZ30.F.ok a9L (λ vs H Q E h=>?_) (λ cdv A outer s H vs Q E hr h=>?_)
 ·obtain ⟨g,n,ts,rfl,_⟩:=h
  rfl
 obtain ⟨g,n,ts,rfl,hG,okt,n10,q⟩:=h
 have p0:0 < 2 ^ n:=Nat.pow_pos (by decide)
 refine ⟨_,(a0D (a0N (a0V (a0L (K:=K) rfl) (a0G gZ13 hr rfl dZ13.m dZ13.F.kp dZ13.b .nil a0S (a0A (pv 0) a0B)) (c3Z b6C a0E) (λ _ _=>rfl)))),?_⟩
 refine ⟨_,rfl,g,n,ts,rfl,hG,okt,n10,λ r cs H1 s1 f1 h1 C=>?_⟩
 have l:=C.len
 refine ⟨_,rfl,r,_,_,.int (cs.getD (2 ^ n - 1) 0),rfl,rfl,SqL.of h1,c7I (j:=2 ^ n - 1) (by rw [List.length_map]; omega) ?_,q cs H1 s1 C⟩
 rw [List.getElem?_map,List.getElem?_eq_getElem (by omega),τα,List.getElem?_eq_getElem (by omega)]; rfl
end
abbrev a6J:Stmt:=top 38
theorem a9M:FnScope ["graph"] ["graph"] (a0F a6J):=⟨rfl,rfl,rfl,by decide +kernel,rfl,by decide +kernel,by decide +kernel⟩
def c5Q (K:Φρ):Sp:=λ vs H Q _=>∃ (g:V) (n:Nat) (ts:List ζζ),vs=[g]/\GraphV K H g n ts/\(∀ t∈ts,0<=t.1/\t.1 < t.2/\t.2 < (n:Int))/\n<=10 /\
 ∀ r os cs H',Same H H'->H r=none->H' r=some (.lst (natV os))->CostOk n ts cs->WidP n ts (2 ^ n - 1) os (cs.getD (2 ^ n - 1) 0)->Q (.ref r) H'
section
variable {P:Program} {w:World} {K:Φρ} {mg:Str->Option Value} {base:Heap}
abbrev DZ28 (K:PySem.W.Frag) (mg:Str->Option Value):=Dn K mg "least_order" a6J ["graph"]
set_option maxHeartbeats 4000000 in
theorem a9N (B:Bl mg) (Bs:mg "sum" = none) (dZ32:DZ32 K mg) (dZ33:DZ33 K mg) (dZ17:DZ17 K mg) (dZ44:DZ44 K mg) (dZ8:DZ8 K mg) (dZ14:DZ14 K mg) (dZ19:DZ19 K mg) (dZ43:DZ43 K mg) (dZ28:DZ28 K mg):FnOk P w K mg base CX0 4 dZ28.f dZ28.fd ["graph"] (c5Q K):=by
 have gZ43:FnOk P w K mg base CX0 3 _ _ _ _:=c5O B Bs dZ32 dZ33 dZ17 dZ44 dZ8 dZ14 dZ19 dZ43
 refine dZ28.F.ok a9M (λ vs H Q E h=>?_) (λ cdv A outer s H vs Q E hr h=>?_)
 ·obtain ⟨g,n,ts,rfl,_⟩:=h
  rfl
 obtain ⟨g,n,ts,rfl,hG,okt,n10,q⟩:=h
 obtain ⟨pg,ta,rfl,hP,hT⟩:=id hG
 refine ⟨_,(a0D (a0N (a0G gZ43 hr rfl dZ43.m dZ43.F.kp dZ43.b .nil a0S (a0A (pv 0) (a0A (b6Q rfl B.list B.range (a0A (a0V (a0Z (K:=K) rfl) (pv 0) a0E (λ _ _=>rfl)) a0B)) a0B))))),?_⟩
 refine ⟨_,rfl,_,rfl,pg,_,_,_,rfl,rfl,hP,rfl,n,rfl,by omega,λ p H1 n1=>?_⟩
 refine ⟨.ref pg,n,ts,p,List.range n,rfl,hG.same n1.same,okt,n10,SqL.of n1.here,List.nodup_range,λ v hv=>List.mem_range.mp hv,λ r os M cs H2 s2 f2 h2 C Ml tM W=>?_⟩
 have e:M=2 ^ n - 1:=a9B Ml λ u hu=>(tM u).mpr (List.mem_range.mpr hu)
 subst e
 exact q r os cs H2 (n1.same.trans s2) (n1.same.free f2) h2 C W
end
end K
namespace K
open PySem L2 Lw Bg
abbrev b3V:Stmt:=top 28
theorem sc_tree_of:FnScope ["graph", "order", "n", "behind", "rows", "k", "spot", "first", "up"] ["graph", "order"] (a0F b3V):=⟨rfl,rfl,rfl,by decide +kernel,rfl,by decide +kernel,by decide +kernel⟩
theorem a8C:∀ (l:List Nat) (m:Nat),l.foldl min m<=m/\(∀ a∈l,l.foldl min m<=a)/\(l.foldl min m=m\/l.foldl min m∈l)
 | [],m=>⟨Nat.le_refl _,λ a h=>absurd h List.not_mem_nil,.inl rfl⟩
 | x::r,m=>by
  obtain ⟨h1,h2,h3⟩:=a8C r (min m x)
  rw [List.foldl_cons]
  refine ⟨by omega,λ a ha=>?_,?_⟩
  ·rcases List.mem_cons.mp ha with rfl | ha
   ·omega
   ·exact h2 a ha
  ·rcases h3 with h3 | h3
   ·by_cases c:m<=x
    ·left
     rw [h3]; omega
    ·right
     rw [h3,show min m x=x by omega]
     exact List.mem_cons_self
   ·exact .inr (List.mem_cons_of_mem _ h3)
def a2F (n:Nat) (ts:List ζζ) (os:List Nat) (i:Nat):Nat:=((a1O n ts os i).map λ u=>os.idxOf u).foldl min (n - 1)
def natI (l:List Nat):List Int:=l.map λ (x:Nat)=>(x:Int)
def a2X (n:Nat) (ts:List ζζ) (os:List Nat) (k:Nat):Row:=(if k=0 then none else some ((n:Int) - 1 - ((a2F n ts os (n - 1 - k):Nat):Int)),a2C [((os.getD (n - 1 - k) 0:Nat):Int)] (natI (a1O n ts os (n - 1 - k))))
def a7W (n:Nat) (ts:List ζζ) (os:List Nat):List Row:=if n=0 then [(none,[])] else (List.range n).map (a2X n ts os)
def RowN (H:Hp) (l:Addr) (H':Hp) (v:V) (r:Row):Prop:=∃ p b,v = .ref p/\H' p=some (.tup [upV r.1,.ref b])/\H' b=some (.lst (r.2.map V.int))/\b≠l/\H b=none/\r.2.length<=16
theorem RowN.same {H:Hp} {l:Addr} {H1 H2:Hp} {v:V} {r:Row} (s:Same H1 H2) (h:RowN H l H1 v r):RowN H l H2 v r:=by
 obtain ⟨p,b,e,q1,q2,n,f,z⟩:=h
 exact ⟨p,b,e,s _ _ q1,s _ _ q2,n,f,z⟩
theorem RowN.chg {H H1 H2:Hp} {l:Addr} {xs ys:List V} {v:V} {r:Row} (hl:H1 l=some (.lst xs)) (c:Chg H1 l (.lst ys) H2) (h:RowN H l H1 v r):RowN H l H2 v r:=by
 obtain ⟨p,b,e,q1,q2,n,f,z⟩:=h
 exact ⟨p,b,e,(c.rest p (c3X q1 hl (by intro z; cases z))).trans q1,(c.rest b n).trans q2,n,f,z⟩
theorem c2N (xs ys:List Int):(a2C xs ys).length<=16:=by
 unfold a2C upF
 refine Nat.le_trans (List.length_filter_le _ _) ?_
 simp
def c5R (K:Φρ):Sp:=λ vs H Q _=>∃ (g:V) (n:Nat) (ts:List ζζ) (a:Addr) (os:List Nat),vs=[g,.ref a]/\GraphV K H g n ts/\(∀ t∈ts,0<=t.1/\t.1 < t.2/\t.2 < (n:Int))/\H a=some (.lst (natV os))/\os.Perm (List.range n)/\n<=10 /\
 ∀ p xs H',Same H H'->H p=none->H' p=some (.lst xs)->Paired (RowN H p H') xs (a7W n ts os)->Q (.ref p) H'
section
variable {P:Program} {w:World} {K:Φρ} {mg:Str->Option Value} {base:Heap}
abbrev DZ46 (K:PySem.W.Frag) (mg:Str->Option Value):=Dn K mg "tree_of" b3V ["graph", "order"]
set_option maxHeartbeats 8000000 in
theorem b8S (B:Bl mg) (dZ24:DZ24 K mg) (dZ21:DZ21 K mg) (dZ23:DZ23 K mg) (dZ25:DZ25 K mg) (dZ31:DZ31 K mg) (dZ38:DZ38 K mg) (dZ17:DZ17 K mg) (dZ44:DZ44 K mg) (dZ39:DZ39 K mg) (dZ26:DZ26 K mg) (dZ46:DZ46 K mg):FnOk P w K mg base CX0 6 dZ46.f dZ46.fd ["graph", "order"] (c5R K):=by
 have gZ26:FnOk P w K mg base CX0 5 _ _ _ _:=c5I B dZ24 dZ21 dZ23 dZ31 dZ38 dZ17 dZ44 dZ39 dZ26
 have gZ25:FnOk P w K mg base CX0 5 _ _ _ _:=(b1N B dZ25).mono (by decide)
 refine dZ46.F.ok sc_tree_of (λ vs H Q E h=>?_) (λ cdv A outer s H vs Q E hr h=>?_)
 ·obtain ⟨g,n,ts,a,os,rfl,_⟩:=h
  rfl
 obtain ⟨g,n,ts,a,os,rfl,hG,okt,hA,hp,n10,q⟩:=h
 have o:Ord n os:=⟨hp⟩
 have ln:=o.len
 obtain ⟨pg,ta,rfl,hP,hT⟩:=id hG
 refine ⟨_,(a0C (a0J (i:=2) sc_tree_of.nd rfl (Or.inl rfl) (a0V (a0Z (K:=K) rfl) (pv 0) a0E (λ _ _=>rfl)))
   (a0C (a0J (i:=3) sc_tree_of.nd rfl (Or.inl rfl) (a0G gZ26 hr rfl dZ26.m dZ26.F.kp dZ26.b .nil a0S (a0A (pv 0) (a0A (pv 1) a0B))))
   (a0C (a1X (a0P a3Q (pv 2) a0E (a0U _))
   (a0D (a0N (a1M (a0A (a2H (a0A a2B (a0A (a1M a0B) a0B))) a0B))))
   a0Y)
   (a0C (a0J (i:=4) sc_tree_of.nd rfl (Or.inl rfl) (a1M a0B))
   (a0C (a1Q PassesOwn.never rfl (a2U rfl B.range (a0A (pv 2) a0B)) (a0H (i:=5) sc_tree_of.nd rfl (Or.inl rfl))
   (a0C (a0J (i:=6) sc_tree_of.nd rfl (Or.inl rfl) (a0Q a3E (a0Q a3E (pv 2) a0E) (pv 5)))
   (a0C (a0J (i:=7) sc_tree_of.nd rfl (Or.inl rfl) (c8J (K:=K) rfl rfl B.min (a0A (a2V ["u", "order"] [none,some 1]  (by kernel_rfl) rfl (a0O (K:=K) rfl (a0V (a0L (K:=K) rfl) (pv 3) (pv 6) (λ _ _=>rfl))) (λ _ _ _ _ _=>(a0H (i:=0) (show (["u", "order"]:List Str).Nodup by decide +kernel) rfl (Or.inl rfl))) (λ _ _ _ _ _=>a1H) (λ _ _ _ _ _=>(a3F (K:=K) rfl PySem.F.plainAttrs_list PySem.F.slot_list_index PySem.F.type_list_index c0W (pv 1) (a0A (pv 0) a0B)))) a0B) (c7T (a0Q a3E (pv 2) a0E) d1D)))
   (a0C (a0J (i:=8) sc_tree_of.nd rfl (Or.inl rfl) (a7X (a0P a3Q (pv 5) a0E (a0U _)) a2B (a0Q a3E (a0Q a3E (pv 2) a0E) (pv 7))))
   (a0D (a2D (a3F (K:=K) rfl PySem.F.plainAttrs_list PySem.F.slot_list_append PySem.F.type_list_append a1V (pv 4) (a0A (a2H (a0A (pv 8) (a0A (a0G gZ25 hr rfl dZ25.m dZ25.F.kp dZ25.b .nil a0S (a0A (a1M (a0A (a0V (a0L (K:=K) rfl) (pv 1) (pv 6) (λ _ _=>rfl)) a0B)) (a0A (a0V (a0L (K:=K) rfl) (pv 3) (pv 6) (λ _ _=>rfl)) a0B))) a0B))) a0B))))))))
   (a0D (a0N (pv 4)))))))),?_⟩
 refine ⟨_,rfl,pg,_,_,_,rfl,rfl,hP,rfl,?_⟩
 refine ⟨_,rfl,_,rfl,.ref pg,n,ts,a,os,rfl,hG,okt,SqL.of hA,hp,n10,λ pb qs H1 s1 f1 h1 lq fq pq nl=>?_⟩
 refine ⟨_,rfl,rfl,_,rfl,?_⟩
 refine ite2 (λ c=>?_) (λ c=>?_)
 ·have c':V.int (n:Int)=V.int 0:=of_decide_eq_true c
  have n0:n=0:=by have:=V.int.inj c'; omega
  refine ⟨(by show 0<=1000; decide),λ p2 H2 n2=>⟨(by show 2<=1000; decide),λ p3 H3 n3=>⟨(by show 1<=1000; decide),λ p4 H4 n4=>?_⟩⟩⟩
  have s24:Same H2 H4:=n3.same.trans n4.same
  refine q p4 _ H4 (s1.trans (n2.same.trans s24)) ((s1.trans (n2.same.trans n3.same)).free n4.fresh) n4.here ?_
  unfold a7W
  rw [if_pos n0]
  exact .cons ⟨p3,p2,rfl,n4.same _ _ n3.here,s24 _ _ n2.here,n4.ne (n3.same _ _ n2.here),s1.free n2.fresh,Nat.zero_le _⟩ .nil
 ·have c':¬ V.int (n:Int)=V.int 0:=of_decide_eq_false (Bool.eq_false_iff.mpr c)
  have n0:n≠0:=λ z=>c' (by rw [z]; rfl)
  refine ⟨(by show 0<=1000; decide),λ pr H2 n2=>?_⟩
  have s2:Same H H2:=s1.trans n2.same
  have fpr:H pr=none:=s1.free n2.fresh
  refine ⟨_,rfl,_,rfl,by omega,by omega,?_⟩
  rw [Int.toNat_natCast]
  refine a3D (n:=n) (λ k σ H'=>∃ (kk ss ff uu:Option V) (xs:List V),σ=[some (.ref pg),some (.ref a),some (.int n),some (.ref pb),some (.ref pr),kk,ss,ff,uu]/\Same H H'/\(∀ b u,b≠pr->H2 b=some u->H' b=some u)/\H' pr=some (.lst xs)/\Paired (RowN H pr H') xs ((List.range k).map (a2X n ts os))) ⟨none,none,none,none,[],rfl,s2,λ b u _ e=>e,n2.here,.nil⟩ ?_ ?_
  ·rintro k σ H3 hk ⟨kk,ss,ff,uu,xs,rfl,s3,k3,hr3,p3⟩
   have ek:(0+(k:Int))=((k:Nat):Int):=by omega
   rw [ek]
   obtain ⟨i,ei⟩:∃ i:Nat,i=n - 1 - k:=⟨_,rfl⟩
   have eI:(n:Int) - 1 - (k:Int)=((i:Nat):Int):=by omega
   have il:i < n:=by omega
   refine ⟨_,rfl,_,_,rfl,rfl,_,rfl,_,_,rfl,rfl,?_⟩
   dsimp only
   rw [eI]
   obtain ⟨qi,hq⟩:∃ qi,qs[i]?=some qi:=⟨_,List.getElem?_eq_getElem (by omega)⟩
   have nqr:qi≠pr:=n2.ne (nl.at_ i qi hq)
   have gq:H3 qi=some (.lst (natV (a1O n ts os i))):=k3 _ _ nqr (n2.same _ _ (nl.at_ i qi hq))
   have hb3:H3 pb=some (.lst (qs.map V.ref)):=k3 _ _ (n2.ne h1) (n2.same _ _ h1)
   have hA3:H3 a=some (.lst (natV os)):=s3 _ _ hA
   have aq:atI (qs.map V.ref) (i:Int)=some (.ref qi):=a1L (by rw [List.getElem?_map,hq]; rfl)
   have hv:=getD_some (os:=os) (i:=i) (by omega)
   have few:(a1O n ts os i).length<=10:=Nat.le_trans (b3O _ _ _) n10
   have ltm:∀ u∈a1O n ts os i,u < n:=λ u hu=>((a2P o hv).mp hu).1
   refine ⟨_,rfl,_,rfl,pb,_,_,_,rfl,rfl,SqL.of hb3,aq,qi,rfl,⟨_,SqL.of gq⟩,?_⟩
   refine a4T (λ x=>match x with | .int z=>some (.int ((os.idxOf z.toNat:Nat):Int)) | _=>none) (SqL.of gq) (by rw [List.length_map]; omega) (λ x H4 N hx s4 hN=>?_) (λ H4 pm H5 s4 n5=>?_)
   ·obtain ⟨u,hu,rfl⟩:=List.mem_map.mp hx
    have un:=ltm u hu
    have hN':=hN H4 s4
    dsimp only at hN'
    rw [Int.toNat_natCast] at hN'
    have hA4:H4 a=some (.lst (List.map V.int (natI os))):=by
     rw [s4 _ _ hA3,a1D]; rfl
    refine ⟨_,rfl,.inl ⟨rfl,_,SqL.of hA4⟩,_,rfl,a,natI os,(u:Int),os.idxOf u,rfl,rfl,hA4,?_,λ m hm z=>?_,by unfold natI; rw [List.length_map]; omega,hN'⟩
    ·unfold natI
     rw [List.getElem?_map,o.get un]; rfl
    ·unfold natI at z
     rw [List.getElem?_map] at z
     obtain ⟨y,hy,ey⟩:=Option.map_eq_some_iff.mp z
     have:y=u:=by omega
     subst this
     have:=o.at_ hy
     omega
   have em:(natV (a1O n ts os i)).filterMap (λ x=>match x with | .int z=>some (V.int ((os.idxOf z.toNat:Nat):Int)) | _=>none)=(((a1O n ts os i).map λ u=>os.idxOf u).map λ (x:Nat)=>(x:Int)).map V.int:=by
    unfold natV
    rw [List.filterMap_map,List.map_map,List.map_map]
    exact a3R λ x _=>by simp
   rw [em] at n5
   have s35:Same H3 H5:=s4.trans n5.same
   obtain ⟨m1,m2,m3⟩:=a8C ((a1O n ts os i).map λ u=>os.idxOf u) (n - 1)
   have keyA:(((a1O n ts os i).map λ u=>os.idxOf u).map λ (x:Nat)=>(x:Int))=[]->(n:Int) - 1=((a2F n ts os i:Nat):Int):=λ z=>by
    have z':(a1O n ts os i).map (λ u=>os.idxOf u)=[]:=List.map_eq_nil_iff.mp z
    unfold a2F
    rw [z']
    show _=((n - 1:Nat):Int)
    omega
   have keyB:∀ M,M∈(((a1O n ts os i).map λ u=>os.idxOf u).map λ (x:Nat)=>(x:Int))->(∀ a∈(((a1O n ts os i).map λ u=>os.idxOf u).map λ (x:Nat)=>(x:Int)),M<=a)->M=((a2F n ts os i:Nat):Int):=λ M hM hall=>by
    obtain ⟨x,hx,rfl⟩:=List.mem_map.mp hM
    have h1:a2F n ts os i<=x:=m2 x hx
    have h2:x<=a2F n ts os i:=by
     rcases m3 with h | h
     ·obtain ⟨u,hu,eu⟩:=List.mem_map.mp hx
      have:=o.lt (ltm u hu)
      unfold a2F
      rw [h]; omega
     ·have:=hall _ (List.mem_map.mpr ⟨_,h,rfl⟩)
      unfold a2F
      omega
    show (x:Int)=_
    omega
   have hb5:=s35 _ _ hb3
   have gq5:=s35 _ _ gq
   have hA5:=s35 _ _ hA3
   have hr5:=s35 _ _ hr3
   have ao:atI (natV os) (i:Int)=some (.int ((os.getD i 0:Nat):Int)):=a5Q (by omega)
   have gq5':SqL K H5 qi ((natI (a1O n ts os i)).map V.int):=by
    have:=gq5
    rw [a1D] at this
    exact SqL.of this
   have vn:os.getD i 0 < n:=List.mem_range.mp (hp.mem_iff.mp (List.mem_of_getElem? hv))
   have sm1:b1L [((os.getD i 0:Nat):Int)]:=λ x hx=>by
    rw [List.mem_singleton.mp hx]; omega
   have sm2:b1L (natI (a1O n ts os i)):=λ x hx=>by
    obtain ⟨u,hu,rfl⟩:=List.mem_map.mp hx
    have:=ltm u hu
    omega
   have lx:=Paired.length p3
   rw [List.length_map,List.length_range] at lx
   have fin:∀ (u:V),u=upV (a2X n ts os k).1->∀ p6 H6,New H5 p6 (.lst [.int ((os.getD i 0:Nat):Int)]) H6->∀ H7 p8 H8,Same H6 H7->New H7 p8 (.lst ((a2C [((os.getD i 0:Nat):Int)] (natI (a1O n ts os i))).map V.int)) H8->∀ p9 H9,New H8 p9 (.tup [u,.ref p8]) H9->∀ H10,Chg H9 pr (.lst (xs++[.ref p9])) H10 ->
     Same H H10/\(∀ b u,b≠pr->H2 b=some u->H10 b=some u)/\H10 pr=some (.lst (xs++[.ref p9]))/\Paired (RowN H pr H10) (xs++[.ref p9]) ((List.range (k+1)).map (a2X n ts os)):=λ u eu p6 H6 n6 H7 p8 H8 s7 n8 p9 H9 n9 H10 c10=>by
    have s39:Same H3 H9:=s35.trans (n6.same.trans (s7.trans (n8.same.trans n9.same)))
    have hr9:=s39 _ _ hr3
    have n8r:p8≠pr:=(n8.ne (s7 _ _ (n6.same _ _ hr5))).symm
    have n9r:p9≠pr:=(n9.ne (n8.same _ _ (s7 _ _ (n6.same _ _ hr5)))).symm
    refine ⟨(s3.trans s39).chg fpr c10,λ b u hb e=>(c10.rest b hb).trans (s39 _ _ (k3 b u hb e)),c10.here,?_⟩
    rw [List.range_succ,List.map_append]
    refine a1T (Paired.mapP p3 λ v r q=>(RowN.same s39 q).chg hr9 c10) ?_
    refine ⟨p9,p8,rfl,?_,?_,n8r,(s3.trans (s35.trans (n6.same.trans s7))).free n8.fresh,c2N _ _⟩
    ·rw [<- eu]
     exact (c10.rest p9 n9r).trans n9.here
    ·unfold a2X
     rw [<- ei]
     exact (c10.rest p8 n8r).trans (n9.same _ _ n8.here)
   refine ⟨_,rfl,_,_,rfl,rfl,pm,_,_,rfl,rfl,SqL.of n5.here,λ z=>?A,λ M hM hall=>?B⟩
   case' A=>dsimp only; rw [keyA z]
   case' B=>rw [keyB M hM hall]
   all_goals
    refine ⟨_,rfl,rfl,_,rfl,?_⟩
    by_cases c0:k=0
    ·rw [show decide (V.int ((k:Nat):Int)=V.int 0)=true by rw [c0]; rfl]
     refine iteT ?_
     refine ⟨_,rfl,.inl ⟨rfl,_,SqL.of hr5⟩,_,rfl,_,rfl,_,rfl,a,_,_,_,rfl,rfl,SqL.of hA5,ao,(by show 1<=1000; decide),λ p6 H6 n6=>?_⟩
     refine ⟨_,rfl,_,rfl,pb,_,_,_,rfl,rfl,SqL.of (n6.same _ _ hb5),aq,p6,qi,[((os.getD i 0:Nat):Int)],natI (a1O n ts os i),rfl,SqL.of n6.here,n6.same.seq gq5',sm1,sm2,λ H7 p8 H8 s7 n8=>?_⟩
     refine ⟨(by show 2<=1000; decide),λ p9 H9 n9=>?_⟩
     refine ⟨pr,_,_,rfl,rfl,n9.same _ _ (n8.same _ _ (s7 _ _ (n6.same _ _ hr5))),by omega,λ H10 c10=>?_⟩
     exact ⟨_,_,_,_,_,rfl,fin _ (by unfold a2X; rw [if_pos c0]; rfl) p6 H6 n6 H7 p8 H8 s7 n8 p9 H9 n9 H10 c10⟩
    ·rw [show decide (V.int ((k:Nat):Int)=V.int 0)=false from decide_eq_false λ z=>c0 (by have:=V.int.inj z; omega)]
     refine iteF ?_
     refine ⟨_,rfl,_,_,rfl,rfl,_,rfl,_,_,rfl,rfl,?_⟩
     refine ⟨_,rfl,.inl ⟨rfl,_,SqL.of hr5⟩,_,rfl,_,rfl,_,rfl,a,_,_,_,rfl,rfl,SqL.of hA5,ao,(by show 1<=1000; decide),λ p6 H6 n6=>?_⟩
     refine ⟨_,rfl,_,rfl,pb,_,_,_,rfl,rfl,SqL.of (n6.same _ _ hb5),aq,p6,qi,[((os.getD i 0:Nat):Int)],natI (a1O n ts os i),rfl,SqL.of n6.here,n6.same.seq gq5',sm1,sm2,λ H7 p8 H8 s7 n8=>?_⟩
     refine ⟨(by show 2<=1000; decide),λ p9 H9 n9=>?_⟩
     refine ⟨pr,_,_,rfl,rfl,n9.same _ _ (n8.same _ _ (s7 _ _ (n6.same _ _ hr5))),by omega,λ H10 c10=>?_⟩
     exact ⟨_,_,_,_,_,rfl,fin _ (by unfold a2X; rw [if_neg c0,<- ei]; rfl) p6 H6 n6 H7 p8 H8 s7 n8 p9 H9 n9 H10 c10⟩
  ·rintro σ H3 ⟨kk,ss,ff,uu,xs,rfl,s3,k3,hr3,p3⟩
   refine ⟨_,rfl,q pr xs H3 s3 fpr hr3 ?_⟩
   unfold a7W
   rw [if_neg n0]
   exact p3
end
structure Tree (n:Nat) (rs:List Row):Prop where
 pos:0 < rs.length
 len:rs.length<=20
 ok:∀ k < rs.length,a7U n rs k=true
 cov:∀ v:Int,0<=v->v < (n:Int)->∃ r∈rs,v∈r.2
 tops:∀ v:Int,(a5H rs v).length<=1
theorem c5S {n:Nat} {ts:List ζζ} {os:List Nat} (o:Ord n os) {i v w u:Nat} (hv:os[i]?=some v) (wn:w < n) (un:u < n) (iw:i < os.idxOf w) (iu:i < os.idxOf u) (h1:a9K n ts os v w=true) (h2:a9K n ts os v u=true):a9K n ts os w u=true:=by
 have iv:=o.at_ hv
 have vn:v < n:=List.mem_range.mp (o.pm.mem_iff.mp (List.mem_of_getElem? hv))
 have way:∀ x,x < n->i < os.idxOf x->a9K n ts os v x=true->PathT ts (os.take i) v x:=λ x xn ix h=>by
  unfold a9K at h
  rw [show min (os.idxOf v) (os.idxOf x)=i by omega] at h
  rw [(o.run ts i).path v x vn xn (λ z=>by have:=(o.take vn).mp z; omega) (λ z=>by have:=(o.take xn).mp z; omega)] at h
  rcases h with h | h
  ·subst h; omega
  ·exact h
 have p1:=way w wn iw h1
 have p2:=way u un iu h2
 unfold a9K
 rw [(o.run ts _).path w u wn un (λ z=>by have:=(o.take wn).mp z; omega) (λ z=>by have:=(o.take un).mp z; omega)]
 have sub:∀ a∈os.take i,a∈os.take (min (os.idxOf w) (os.idxOf u)):=λ a ha=>(List.take_subset_take_left os (by omega)) ha
 exact .inr (PathT.glue ((o.take vn).mpr (by omega)) ((p1.mono sub).sym) (p2.mono sub))
theorem a4Q {n:Nat} {ts:List ζζ} {os:List Nat} (o:Ord n os) (n10:n<=10) {k:Nat} (hk:k < n) {x:Int}:x∈(a2X n ts os k).2↔∃ u:Nat,x=(u:Int)/\u < n/\(os[n - 1 - k]?=some u\/u∈a1O n ts os (n - 1 - k)):=by
 have hv:=getD_some (os:=os) (i:=n - 1 - k) (by rw [o.len]; omega)
 have vn:os.getD (n - 1 - k) 0 < n:=List.mem_range.mp (o.pm.mem_iff.mp (List.mem_of_getElem? hv))
 unfold a2X a2C
 rw [mem_upF]
 constructor
 ·rintro ⟨_,_,h⟩
  have h:=of_decide_eq_true h
  rcases h with h | h
  ·exact ⟨_,List.mem_singleton.mp h,vn,.inl hv⟩
  ·obtain ⟨u,hu,rfl⟩:=List.mem_map.mp h
   exact ⟨u,rfl,((a2P o hv).mp hu).1,.inr hu⟩
 ·rintro ⟨u,rfl,un,h⟩
  refine ⟨by omega,by omega,decide_eq_true ?_⟩
  rcases h with h | h
  ·rw [hv] at h
   injection h with h
   exact .inl (by rw [h]; exact List.mem_singleton.mpr rfl)
  ·exact .inr (List.mem_map.mpr ⟨u,h,rfl⟩)
theorem b6W {n:Nat} {ts:List ζζ} {os:List Nat} (o:Ord n os) {i:Nat} (hi:i+1 < n):i < a2F n ts os i/\a2F n ts os i<=n - 1:=by
 have hv:=getD_some (os:=os) (i:=i) (by rw [o.len]; omega)
 obtain ⟨m1,m2,m3⟩:=a8C ((a1O n ts os i).map λ u=>os.idxOf u) (n - 1)
 unfold a2F
 refine ⟨?_,m1⟩
 rcases m3 with h | h
 ·rw [h]; omega
 ·obtain ⟨u,hu,eu⟩:=List.mem_map.mp h
  have:=((a2P o hv).mp hu).2.1
  have eu':os.idxOf u=((a1O n ts os i).map λ u=>os.idxOf u).foldl min (n - 1):=eu
  omega
theorem a7A {n:Nat} {ts:List ζζ} {os:List Nat} {k:Nat} (hk:k < n):a0K ((List.range n).map (a2X n ts os)) k=a2X n ts os k:=by
 unfold a0K
 rw [τα,List.getElem?_map,List.getElem?_range hk]; rfl
theorem b5N {l:List Nat} {c:Nat} (nd:l.Nodup) (h:∀ x∈l,x=c):l.length<=1:=by
 match l,nd,h with
 | [],_,_=>exact Nat.zero_le _
 | [_],_,_=>exact Nat.le_refl _
 | a::b::r,nd,h =>
  have h1:=h a (by simp)
  have h2:=h b (by simp)
  obtain ⟨n1,_⟩:=List.nodup_cons.mp nd
  exact absurd (by rw [h1,h2]; exact List.mem_cons_self) n1
theorem b8T {n:Nat} {ts:List ζζ} {os:List Nat} (o:Ord n os) (n10:n<=10) (n0:n≠0):Tree n ((List.range n).map (a2X n ts os)):=by
 have l:=o.len
 refine ⟨by rw [List.length_map,List.length_range]; omega,by rw [List.length_map,List.length_range]; omega,λ k hk=>?_,λ v h0 h1=>?_,λ v=>?_⟩
 ·rw [List.length_map,List.length_range] at hk
  unfold a7U
  rw [a7A hk,Bool.and_eq_true]
  refine ⟨?_,(a4J _ _).mpr ⟨λ x hx=>?_,?_⟩⟩
  ·unfold upOk a2X
   by_cases c:k=0
   ·rw [if_pos c,if_pos c]; rfl
   ·rw [if_neg c,if_neg c]
    have:=b6W (ts:=ts) o (i:=n - 1 - k) (by omega)
    unfold a5Z
    simp
    omega
  ·obtain ⟨u,rfl,un,_⟩:=(a4Q o n10 hk).mp hx
   omega
  ·unfold a2X a2C; dsimp only
   exact b3F _
 ·obtain ⟨u,rfl⟩:∃ u:Nat,v=(u:Int):=⟨v.toNat,by omega⟩
  have un:u < n:=by omega
  have il:=o.lt un
  refine ⟨_,List.mem_map.mpr ⟨n - 1 - os.idxOf u,List.mem_range.mpr (by omega),rfl⟩,(a4Q o n10 (by omega)).mpr ⟨u,rfl,un,.inl ?_⟩⟩
  rw [show n - 1 - (n - 1 - os.idxOf u)=os.idxOf u by omega]
  exact o.get un
 ·unfold a5H
  refine b5N (c:=n - 1 - os.idxOf v.toNat) (List.nodup_range.sublist List.filter_sublist) λ k hk=>?_
  rw [List.mem_filter,List.mem_range,List.length_map,List.length_range] at hk
  obtain ⟨hk,ht⟩:=hk
  unfold a4Y at ht
  rw [Bool.and_eq_true] at ht
  obtain ⟨t1,t2⟩:=ht
  unfold has at t1
  rw [a7A hk] at t1 t2
  obtain ⟨u,rfl,un,hu⟩:=(a4Q o n10 hk).mp (of_decide_eq_true t1)
  rw [Int.toNat_natCast]
  rcases hu with hu | hu
  ·have:=o.at_ hu
   omega
  ·exfalso
   have hv:=getD_some (os:=os) (i:=n - 1 - k) (by omega)
   obtain ⟨_,g1,g2⟩:=(a2P o hv).mp hu
   have iu:=o.lt un
   have k0:k≠0:=λ z=>by rw [z] at g1; omega
   obtain ⟨f1,f2⟩:=b6W (ts:=ts) o (i:=n - 1 - k) (by omega)
   obtain ⟨m1,m2,m3⟩:=a8C ((a1O n ts os (n - 1 - k)).map λ u=>os.idxOf u) (n - 1)
   have fu:a2F n ts os (n - 1 - k)<=os.idxOf u:=m2 _ (List.mem_map.mpr ⟨u,hu,rfl⟩)
   have held:b1A ((List.range n).map (a2X n ts os)) (a2X n ts os k).1 (u:Int)=true:=by
    have eU:(a2X n ts os k).1=some ((n:Int) - 1 - ((a2F n ts os (n - 1 - k):Nat):Int)):=by unfold a2X; rw [if_neg k0]
    rw [eU]
    show has (u:Int) (a0K _ ((n:Int) - 1 - ((a2F n ts os (n - 1 - k):Nat):Int)).toNat)=true
    rw [show ((n:Int) - 1 - ((a2F n ts os (n - 1 - k):Nat):Int)).toNat=n - 1 - a2F n ts os (n - 1 - k) by omega,a7A (by omega)]
    refine decide_eq_true ((a4Q o n10 (by omega)).mpr ⟨u,rfl,un,?_⟩)
    rw [show n - 1 - (n - 1 - a2F n ts os (n - 1 - k))=a2F n ts os (n - 1 - k) by omega]
    by_cases c:a2F n ts os (n - 1 - k)=os.idxOf u
    ·rw [c]; exact .inl (o.get un)
    ·have m3':a2F n ts os (n - 1 - k)∈(a1O n ts os (n - 1 - k)).map λ u=>os.idxOf u:=by
      rcases m3 with h | h
      ·have h':a2F n ts os (n - 1 - k)=n - 1:=h
       omega
      ·exact h
     obtain ⟨w,hw,ew⟩:=List.mem_map.mp m3'
     obtain ⟨wn,w1,w2⟩:=(a2P o hv).mp hw
     refine .inr ((a2P o (v:=w) (by rw [<- ew]; exact o.get wn)).mpr ⟨un,by omega,c5S o hv wn un w1 g1 w2 g2⟩)
   rw [held] at t2
   cases t2
theorem c2O {n:Nat} {ts:List ζζ} {os:List Nat} (o:Ord n os) (n10:n<=10) (ok:∀ t∈ts,0<=t.1/\t.1 < t.2/\t.2 < (n:Int)):∀ t∈ts,∃ r∈(List.range n).map (a2X n ts os),t.1∈r.2/\t.2∈r.2:=by
 intro t ht
 have tk:=ok t ht
 obtain ⟨a,ea⟩:∃ a:Nat,t.1=(a:Int):=⟨t.1.toNat,by omega⟩
 obtain ⟨b,eb⟩:∃ b:Nat,t.2=(b:Int):=⟨t.2.toNat,by omega⟩
 have an:a < n:=by omega
 have bn:b < n:=by omega
 have tie:tieT ts a b=true:=by
  unfold tieT
  rw [<- ea,<- eb,decide_eq_true (show (t.1,t.2)∈ts from ht)]; rfl
 have key:∀ x y,x < n->y < n->x≠y->tieT ts x y=true->os.idxOf x < os.idxOf y->∃ r∈(List.range n).map (a2X n ts os),(x:Int)∈r.2/\(y:Int)∈r.2:=λ x y xn yn ne h lt=>by
  have ix:=o.lt xn
  refine ⟨_,List.mem_map.mpr ⟨n - 1 - os.idxOf x,List.mem_range.mpr (by omega),rfl⟩,(a4Q o n10 (by omega)).mpr ⟨x,rfl,xn,.inl ?_⟩,(a4Q o n10 (by omega)).mpr ⟨y,rfl,yn,.inr ?_⟩⟩
  ·rw [show n - 1 - (n - 1 - os.idxOf x)=os.idxOf x by omega]
   exact o.get xn
  ·rw [show n - 1 - (n - 1 - os.idxOf x)=os.idxOf x by omega]
   refine (a2P o (o.get xn)).mpr ⟨yn,lt,?_⟩
   unfold a9K
   rw [(o.run ts _).path x y xn yn (λ z=>by have:=(o.take xn).mp z; omega) (λ z=>by have:=(o.take yn).mp z; omega)]
   exact .inr (.one h)
 have ne:os.idxOf a≠os.idxOf b:=λ z=>by have:=o.inj an bn z; omega
 rw [ea,eb]
 rcases Nat.lt_or_gt_of_ne ne with c | c
 ·exact key a b an bn (by omega) tie c
 ·obtain ⟨r,hr,h1,h2⟩:=key b a bn an (by omega) (b1P tie) c
  exact ⟨r,hr,h2,h1⟩
end K
namespace K
open PySem L2 Lw Bg
theorem a1I {rs:List Row} {r:Row} {k:Nat} (h:k < rs.length):a0K (rs++[r]) k=a0K rs k:=by
 unfold a0K
 rw [τα,τα,List.getElem?_append_left h]
theorem a2R {rs:List Row} {r:Row}:a0K (rs++[r]) rs.length=r:=by
 unfold a0K
 rw [τα,List.getElem?_append_right (Nat.le_refl _)]
 simp
theorem a6K {rs:List Row} {r:Row} {i j:Nat} (hi:i < rs.length):a0K (rs.set i r) j=if j=i then r else a0K rs j:=by
 unfold a0K
 rw [τα,τα,List.getElem?_set]
 by_cases h:i=j
 ·subst h; rw [if_pos rfl,if_pos hi,if_pos rfl]; rfl
 ·rw [if_neg h,if_neg (Ne.symm h)]
theorem a3L {rs:List Row} {r:Row} (h:r∈rs):∃ k,k < rs.length/\a0K rs k=r:=by
 obtain ⟨k,hk,e⟩:=List.getElem_of_mem h
 exact ⟨k,hk,c0E (by rw [List.getElem?_eq_getElem hk,e])⟩
def dueF (p:Int->Bool) (i:Nat):List Int:=((List.range i).map λ j=>((j:Nat):Int)).filter p
theorem c9O (p:Int->Bool) (i:Nat):(dueF p i).length<=i:=by
 unfold dueF
 refine Nat.le_trans (List.length_filter_le _ _) ?_
 simp
theorem d2S (p:Int->Bool) (i:Nat):(dueF p i).Pairwise (· < ·):=by
 unfold dueF
 refine List.Pairwise.filter _ ?_
 rw [List.pairwise_map]
 exact List.pairwise_lt_range.imp λ h=>by omega
theorem c9P {p:Int->Bool} {i:Nat} {v:Int}:v∈dueF p i↔0<=v/\v < i/\p v=true:=by
 unfold dueF
 rw [List.mem_filter,List.mem_map]
 constructor
 ·rintro ⟨⟨j,hj,rfl⟩,h⟩
  have:=List.mem_range.mp hj
  exact ⟨by omega,by omega,h⟩
 ·rintro ⟨h0,h1,h⟩
  exact ⟨⟨v.toNat,List.mem_range.mpr (by omega),by omega⟩,h⟩
theorem d2T {n:Nat} {xs:List Int} (hn:n<=10) (h:setF n xs=true):xs.length<=10:=by
 obtain ⟨h1,h2⟩:=(a4J _ _).mp h
 have e:xs=dueF (λ v=>decide (v∈xs)) n:=c9A h2 (d2S _ _) λ v=>by
  rw [c9P]
  constructor
  ·intro hv
   have:=h1 v hv
   exact ⟨this.1,this.2,decide_eq_true hv⟩
  ·rintro ⟨_,_,hv⟩; exact of_decide_eq_true hv
 rw [e]
 exact Nat.le_trans (c9O _ _) hn
def b5O (rs:List Row):Prop:=∀ j,j < rs.length->∀ u,(a0K rs j).1=some u->0<=u/\u.toNat < j
theorem b0M {n:Int} {rs:List Row} (ok:∀ k < rs.length,a7U n rs k=true):b5O rs:=λ j hj u e=>by
 have o:=ok j hj
 unfold a7U upOk at o
 rw [Bool.and_eq_true] at o
 by_cases z:j=0
 ·rw [if_pos z,e] at o; cases o.1
 ·rw [if_neg z,e] at o
  have b:=of_decide_eq_true o.1
  omega
theorem isTop_iff {rs:List Row} {v:Int} {j:Nat}:a4Y rs v j=true↔v∈(a0K rs j).2/\b1A rs (a0K rs j).1 v=false:=by
 unfold a4Y has
 rw [Bool.and_eq_true,decide_eq_true_iff]
 constructor
 ·rintro ⟨a,b⟩; exact ⟨a,by simpa using b⟩
 ·rintro ⟨a,b⟩; exact ⟨a,by rw [b]; rfl⟩
theorem b5P {rs:List Row} {v:Int} (h:(a5H rs v).length<=1) {s t:Nat} (hs:s < rs.length) (ts:a4Y rs v s=true) (ht:t < rs.length) (tt:a4Y rs v t=true):s=t:=by
 have m1:s∈a5H rs v:=List.mem_filter.mpr ⟨List.mem_range.mpr hs,ts⟩
 have m2:t∈a5H rs v:=List.mem_filter.mpr ⟨List.mem_range.mpr ht,tt⟩
 match e:a5H rs v,h with
 | [],_=>rw [e] at m1; cases m1
 | [x],_ =>
  rw [e] at m1 m2
  rw [List.mem_singleton.mp m1,List.mem_singleton.mp m2]
theorem d2U {rs:List Row} {v:Int} (U:b5O rs):∀ j,j < rs.length->v∈(a0K rs j).2->∃ t,t<=j/\a4Y rs v t=true:=by
 intro j
 induction j using Nat.strongRecOn with
 | ind j ih =>
  intro hj hv
  cases h:b1A rs (a0K rs j).1 v with
  | false=>exact ⟨j,Nat.le_refl _,isTop_iff.mpr ⟨hv,h⟩⟩
  | true =>
   cases e:(a0K rs j).1 with
   | none=>rw [e] at h; cases h
   | some w =>
    have b:=U j hj w e
    have hw:v∈(a0K rs w.toNat).2:=by
     rw [e] at h
     exact of_decide_eq_true h
    obtain ⟨t,ht,top⟩:=ih w.toNat b.2 (by omega) hw
    exact ⟨t,by omega,top⟩
theorem d2V {rs:List Row} {v:Int} (U:b5O rs) (h1:(a5H rs v).length<=1) {j k u:Nat} (hj:j < rs.length) (hk:k < j) (vj:v∈(a0K rs j).2) (vk:v∈(a0K rs k).2) (eu:(a0K rs j).1=some (u:Int)):v∈(a0K rs u).2:=by
 apply Classical.byContradiction
 intro c
 have hf:b1A rs (a0K rs j).1 v=false:=by
  rw [eu]
  unfold b1A
  dsimp only
  rw [Int.toNat_natCast]
  exact decide_eq_false c
 obtain ⟨t,ht,top⟩:=d2U U k (by omega) vk
 have:=b5P h1 hj (isTop_iff.mpr ⟨vj,hf⟩) (by omega) top
 omega
theorem pigT {α:Type} [DecidableEq α]:∀ {l U:List α},l.Nodup->(∀ x∈l,x∈U)->l.length<=U.length
 | [],_,_,_=>Nat.zero_le _
 | x::r,U,h,s=>by
  have h':=List.nodup_cons.mp h
  have hx:=s x List.mem_cons_self
  have:=List.length_erase_of_mem hx
  have p:=List.length_pos_of_mem hx
  have ih:=pigT (l:=r) (U:=U.erase x) h'.2 λ y hy=>(List.mem_erase_of_ne (λ (e:y=x)=>h'.1 (e ▸ hy))).mpr (s y (List.mem_cons_of_mem _ hy))
  rw [List.length_cons]; omega
structure Tidy (rs:List Row) (i:Nat) (R:List Row) (sp:List Nat):Prop where
 len:sp.length=i
 few:R.length<=i
 lt:∀ j,j < i->sp.getD j 0 < R.length
 mem:∀ r,r < R.length->∀ v,v∈(a0K R r).2↔∃ j,j < i/\sp.getD j 0=r/\v∈(a0K rs j).2
 own:∀ r,r < R.length->∃ j,j < i/\sp.getD j 0=r/\(a0K R r).2=(a0K rs j).2
 up0:0 < R.length->(a0K R 0).1=none
 ups:∀ r,r < R.length->r≠0->∃ q:Nat,(a0K R r).1=some (q:Int)/\q < r
 hang:∀ j,j < i->∀ u:Nat,(a0K rs j).1=some (u:Int)->sp.getD u 0=sp.getD j 0\/(a0K R (sp.getD j 0)).1=some ((sp.getD u 0:Nat):Int)
 cross:∀ r,r < R.length->∀ q:Nat,(a0K R r).1=some (q:Int)->(∃ x∈(a0K R r).2,x ∉ (a0K R q).2)/\∃ y∈(a0K R q).2,y ∉ (a0K R r).2
theorem a7P {sp:List Nat} {x j:Nat} (h:j < sp.length):(sp++[x]).getD j 0=sp.getD j 0:=by
 rw [τα,τα,List.getElem?_append_left h]
theorem a7Q {sp:List Nat} {x:Nat}:(sp++[x]).getD sp.length 0=x:=by
 rw [τα,List.getElem?_append_right (Nat.le_refl _),Nat.sub_self]; rfl
theorem c5T (rs:List Row):Tidy rs 0 [] [] :=
 ⟨rfl,Nat.le_refl _,λ j h=>absurd h (Nat.not_lt_zero _),λ r h=>absurd h (Nat.not_lt_zero _),λ r h=>absurd h (Nat.not_lt_zero _),λ h=>absurd h (Nat.not_lt_zero _),λ r h=>absurd h (Nat.not_lt_zero _),λ j h=>absurd h (Nat.not_lt_zero _),λ r h=>absurd h (Nat.not_lt_zero _)⟩
theorem b6X {rs:List Row} {i:Nat} {R:List Row} {sp:List Nat} {u:Option Int} (D:Tidy rs i R sp) (U:b5O rs) (hi:i < rs.length)
  (hu:match u with | none=>R.length=0/\(a0K rs i).1=none | some s=>∃ w:Nat,w < i/\(a0K rs i).1=some (w:Int)/\s=((sp.getD w 0:Nat):Int)/\(∃ x∈(a0K rs i).2,x ∉ (a0K R (sp.getD w 0)).2)/\∃ y∈(a0K R (sp.getD w 0)).2,y ∉ (a0K rs i).2) :
  Tidy rs (i+1) (R++[(u,(a0K rs i).2)]) (sp++[R.length]):=by
 have l:=D.len
 have old:∀ j,j < i->(sp++[R.length]).getD j 0=sp.getD j 0:=λ j hj=>a7P (by omega)
 have new:(sp++[R.length]).getD i 0=R.length:=by rw [<- l]; exact a7Q
 have L:(R++[(u,(a0K rs i).2)]).length=R.length+1:=by rw [List.length_append]; rfl
 refine ⟨by rw [List.length_append,l]; rfl,by rw [L]; have:=D.few; omega,λ j hj=>?_,λ r hr v=>?_,λ r hr=>?_,λ _=>?_,λ r hr r0=>?_,λ j hj w ew=>?_,λ r hr q eq=>?_⟩
 ·rw [L]
  by_cases c:j=i
  ·subst c; rw [new]; omega
  ·rw [old j (by omega)]; have:=D.lt j (by omega); omega
 ·rw [L] at hr
  by_cases c:r=R.length
  ·subst c
   rw [a2R]
   constructor
   ·intro h; exact ⟨i,by omega,new,h⟩
   ·rintro ⟨j,hj,e,h⟩
    by_cases d:j=i
    ·subst d; exact h
    ·rw [old j (by omega)] at e
     have:=D.lt j (by omega)
     omega
  ·rw [a1I (by omega),D.mem r (by omega)]
   constructor
   ·rintro ⟨j,hj,e,h⟩; exact ⟨j,by omega,by rw [old j hj]; exact e,h⟩
   ·rintro ⟨j,hj,e,h⟩
    by_cases d:j=i
    ·subst d; rw [new] at e; omega
    ·exact ⟨j,by omega,by rw [<- old j (by omega)]; exact e,h⟩
 ·rw [L] at hr
  by_cases c:r=R.length
  ·subst c
   exact ⟨i,by omega,new,by rw [a2R]⟩
  ·obtain ⟨j,hj,e,h⟩:=D.own r (by omega)
   exact ⟨j,by omega,by rw [old j hj]; exact e,by rw [a1I (by omega)]; exact h⟩
 ·by_cases c:R.length=0
  ·have e:R=[]:=List.eq_nil_of_length_eq_zero c
   subst e
   cases u with
   | none=>rfl
   | some s =>
    obtain ⟨w,hw,_⟩:=hu
    have:=D.lt w hw
    exact absurd this (Nat.not_lt_zero _)
  ·rw [a1I (by omega)]; exact D.up0 (by omega)
 ·rw [L] at hr
  by_cases c:r=R.length
  ·subst c
   rw [a2R]
   cases u with
   | none=>exact absurd hu.1 r0
   | some s =>
    obtain ⟨w,hw,_,rfl,_⟩:=hu
    exact ⟨_,rfl,D.lt w hw⟩
  ·rw [a1I (by omega)]; exact D.ups r (by omega) r0
 ·by_cases d:j=i
  ·subst d
   right
   rw [new,a2R]
   cases u with
   | none=>rw [hu.2] at ew; cases ew
   | some s =>
    obtain ⟨w',hw,e1,e2,_⟩:=hu
    rw [e1] at ew
    have:w'=w:=by injection ew with ew; omega
    subst this
    rw [old w' hw,e2]
  ·have b:=U j (by omega) _ ew
   have hw:w < j:=by omega
   rw [old j (by omega),old w (by omega)]
   rcases D.hang j (by omega) w ew with h | h
   ·exact .inl h
   ·exact .inr (by rw [a1I (D.lt j (by omega))]; exact h)
 ·rw [L] at hr
  by_cases c:r=R.length
  ·subst c
   rw [a2R] at eq ⊢
   cases u with
   | none=>cases eq
   | some s =>
    obtain ⟨w,hw,_,e2,hx,hy⟩:=hu
    have eq':s=(q:Int):=by injection eq
    have:q=sp.getD w 0:=by omega
    subst this
    rw [a1I (D.lt w hw)]
    exact ⟨hx,hy⟩
  ·rw [a1I (by omega)] at eq ⊢
   have ql:q < R.length:=by
    by_cases r0:r=0
    ·subst r0; rw [D.up0 (by omega)] at eq; cases eq
    ·obtain ⟨q',e,h⟩:=D.ups r (by omega) r0
     rw [e] at eq
     injection eq with eq
     omega
   rw [a1I ql]
   exact D.cross r (by omega) q eq
theorem b6Y {n:Nat} {rs:List Row} {i w:Nat} {R R':List Row} {sp:List Nat} (T:Tree n rs) (D:Tidy rs i R sp) (hi:i < rs.length) (hw:w < i) (ew:(a0K rs i).1=some (w:Int))
  (hR:(R'=R/\∀ v∈(a0K rs i).2,v∈(a0K R (sp.getD w 0)).2)\/(R'=R.set (sp.getD w 0) ((a0K R (sp.getD w 0)).1,(a0K rs i).2)/\∀ v∈(a0K R (sp.getD w 0)).2,v∈(a0K rs i).2)) :
  Tidy rs (i+1) R' (sp++[sp.getD w 0]):=by
 have U:=b0M T.ok
 have l:=D.len
 have hs:=D.lt w hw
 have old:∀ j,j < i->(sp++[sp.getD w 0]).getD j 0=sp.getD j 0:=λ j hj=>a7P (by omega)
 have new:(sp++[sp.getD w 0]).getD i 0=sp.getD w 0:=by rw [<- l]; exact a7Q
 have L:R'.length=R.length:=by rcases hR with ⟨rfl,_⟩ | ⟨rfl,_⟩ <;> simp
 have one:∀ r,(a0K R' r).1=(a0K R r).1:=λ r=>by
  rcases hR with ⟨rfl,_⟩ | ⟨rfl,_⟩
  ·rfl
  ·rw [a6K hs]; split
   ·rename_i c; rw [c]
   ·rfl
 have away:∀ r,r≠sp.getD w 0->(a0K R' r).2=(a0K R r).2:=λ r c=>by
  rcases hR with ⟨rfl,_⟩ | ⟨rfl,_⟩
  ·rfl
  ·rw [a6K hs,if_neg c]
 have here:∀ v,v∈(a0K R' (sp.getD w 0)).2↔v∈(a0K R (sp.getD w 0)).2\/v∈(a0K rs i).2:=λ v=>by
  rcases hR with ⟨rfl,h⟩ | ⟨rfl,h⟩
  ·exact ⟨.inl,λ z=>z.elim id (h v)⟩
  ·rw [a6K hs,if_pos rfl]
   exact ⟨.inr,λ z=>z.elim (h v) id⟩
 have near:∀ r,r < R.length->r≠sp.getD w 0->∀ y∈(a0K R r).2,y ∉ (a0K R (sp.getD w 0)).2->y ∉ (a0K R' (sp.getD w 0)).2:=λ r hr c y hy ny z=>by
  rcases (here y).mp z with z | z
  ·exact ny z
  ·obtain ⟨j,hj,_,hyj⟩:=(D.mem r hr y).mp hy
   have:=d2V U (T.tops y) hi hj z hyj ew
   exact ny ((D.mem _ hs y).mpr ⟨w,hw,rfl,this⟩)
 refine ⟨by rw [List.length_append,l]; rfl,by rw [L]; have:=D.few; omega,λ j hj=>?_,λ r hr v=>?_,λ r hr=>?_,λ h=>?_,λ r hr r0=>?_,λ j hj u eu=>?_,λ r hr q eq=>?_⟩
 ·rw [L]
  by_cases c:j=i
  ·subst c; rw [new]; exact hs
  ·rw [old j (by omega)]; exact D.lt j (by omega)
 ·rw [L] at hr
  have st:(∃ j,j < i+1/\(sp++[sp.getD w 0]).getD j 0=r/\v∈(a0K rs j).2)↔(∃ j,j < i/\sp.getD j 0=r/\v∈(a0K rs j).2)\/(r=sp.getD w 0/\v∈(a0K rs i).2):=by
   constructor
   ·rintro ⟨j,hj,e,h⟩
    by_cases d:j=i
    ·subst d; rw [new] at e; exact .inr ⟨e.symm,h⟩
    ·exact .inl ⟨j,by omega,by rw [<- old j (by omega)]; exact e,h⟩
   ·rintro (⟨j,hj,e,h⟩ | ⟨e,h⟩)
    ·exact ⟨j,by omega,by rw [old j hj]; exact e,h⟩
    ·exact ⟨i,by omega,by rw [new,e],h⟩
  rw [st,<- D.mem r hr]
  by_cases c:r=sp.getD w 0
  ·subst c
   rw [here]
   constructor
   ·rintro (h | h)
    ·exact .inl h
    ·exact .inr ⟨rfl,h⟩
   ·rintro (h | ⟨_,h⟩)
    ·exact .inl h
    ·exact .inr h
  ·rw [away r c]
   exact ⟨.inl,λ z=>z.elim id λ z=>absurd z.1 c⟩
 ·rw [L] at hr
  obtain ⟨j,hj,e,h⟩:=D.own r hr
  by_cases c:r=sp.getD w 0
  ·rcases hR with ⟨rfl,_⟩ | ⟨rfl,_⟩
   ·exact ⟨j,by omega,by rw [old j hj]; exact e,h⟩
   ·refine ⟨i,by omega,by rw [new,c],?_⟩
    rw [c,a6K hs,if_pos rfl]
  ·exact ⟨j,by omega,by rw [old j hj]; exact e,by rw [away r c]; exact h⟩
 ·rw [one]; exact D.up0 (by omega)
 ·rw [one]; exact D.ups r (by omega) r0
 ·by_cases d:j=i
  ·subst d
   rw [ew] at eu
   have:w=u:=by injection eu with eu; omega
   subst this
   left
   rw [new,old w hw]
  ·have b:=U j (by omega) _ eu
   have hu:u < j:=by omega
   rw [old j (by omega),old u (by omega),one]
   exact D.hang j (by omega) u eu
 ·rw [L] at hr
  rw [one] at eq
  have ql:q < r:=by
   by_cases r0:r=0
   ·subst r0; rw [D.up0 (by omega)] at eq; cases eq
   ·obtain ⟨q',e,h⟩:=D.ups r (by omega) r0
    rw [e] at eq
    injection eq with eq
    omega
  obtain ⟨⟨x,hx,nx⟩,y,hy,ny⟩:=D.cross r hr q eq
  by_cases c:r=sp.getD w 0
  ·have cq:q≠sp.getD w 0:=by omega
   rw [away q cq]
   subst c
   exact ⟨⟨x,(here x).mpr (.inl hx),nx⟩,y,hy,near q (by omega) cq y hy ny⟩
  ·rw [away r c]
   by_cases d:q=sp.getD w 0
   ·subst d
    exact ⟨⟨x,hx,near r hr c x hx nx⟩,y,(here y).mpr (.inl hy),ny⟩
   ·rw [away q d]
    exact ⟨⟨x,hx,nx⟩,y,hy,ny⟩
theorem b3W {n:Nat} {rs:List Row} {R:List Row} {sp:List Nat} (T:Tree n rs) (D:Tidy rs rs.length R sp) (v:Int) {r:Nat} (hr:r < R.length) (ht:a4Y R v r=true):∃ j,j < rs.length/\sp.getD j 0=r/\a4Y rs v j=true:=by
 obtain ⟨h1,h2⟩:=isTop_iff.mp ht
 obtain ⟨j0,hj0,e0,hv0⟩:=(D.mem r hr v).mp h1
 have U:=b0M T.ok
 have go:∀ j,j < rs.length->sp.getD j 0=r->v∈(a0K rs j).2->∃ j,j < rs.length/\sp.getD j 0=r/\a4Y rs v j=true:=by
  intro j
  induction j using Nat.strongRecOn with
  | ind j ih =>
   intro hj ej hv
   cases h:b1A rs (a0K rs j).1 v with
   | false=>exact ⟨j,hj,ej,isTop_iff.mpr ⟨hv,h⟩⟩
   | true =>
    cases e:(a0K rs j).1 with
    | none=>rw [e] at h; cases h
    | some w =>
     have b:=U j hj w e
     have hw:v∈(a0K rs w.toNat).2:=by
      rw [e] at h
      exact of_decide_eq_true h
     have e':(a0K rs j).1=some ((w.toNat:Nat):Int):=by rw [e]; congr 1; omega
     rcases D.hang j hj w.toNat e' with z | z
     ·exact ih w.toNat b.2 (by omega) (z.trans ej) hw
     ·exfalso
      rw [ej] at z
      rw [z] at h2
      have m:=(D.mem _ (D.lt w.toNat (by omega)) v).mpr ⟨w.toNat,by omega,rfl,hw⟩
      have:b1A R (some ((sp.getD w.toNat 0:Nat):Int)) v=true:=by
       show has v (a0K R (((sp.getD w.toNat 0:Nat):Int)).toNat)=true
       rw [Int.toNat_natCast]
       exact decide_eq_true m
      rw [this] at h2
      cases h2
 exact go j0 hj0 e0 hv0
theorem b3X {n:Nat} {rs:List Row} {R:List Row} {sp:List Nat} (T:Tree n rs) (D:Tidy rs rs.length R sp):Tree n R:=by
 have pos:=D.lt 0 T.pos
 refine ⟨by omega,by have:=D.few; have:=T.len; omega,λ k hk=>?_,λ v h0 h1=>?_,λ v=>?_⟩
 ·unfold a7U
  rw [Bool.and_eq_true]
  constructor
  ·unfold upOk
   by_cases c:k=0
   ·subst c; rw [if_pos rfl,D.up0 hk]; rfl
   ·obtain ⟨q,e,h⟩:=D.ups k hk c
    rw [if_neg c,e]
    exact decide_eq_true ⟨by omega,by omega⟩
  ·obtain ⟨j,hj,_,e⟩:=D.own k hk
   rw [e]
   have o:=T.ok j hj
   unfold a7U at o
   rw [Bool.and_eq_true] at o
   exact o.2
 ·obtain ⟨r,hr,h⟩:=T.cov v h0 h1
  obtain ⟨k,hk,e⟩:=a3L hr
  have hs:=D.lt k hk
  exact ⟨_,List.mem_of_getElem? (a7Z hs),(D.mem _ hs v).mpr ⟨k,hk,rfl,by rw [e]; exact h⟩⟩
 ·have nd:(a5H R v).Nodup:=List.nodup_range.sublist List.filter_sublist
  have same:∀ a∈a5H R v,∀ b∈a5H R v,a=b:=λ a ha b hb=>by
   obtain ⟨a1,a2⟩:=List.mem_filter.mp ha
   obtain ⟨b1,b2⟩:=List.mem_filter.mp hb
   obtain ⟨j,hj,ej,tj⟩:=b3W T D v (List.mem_range.mp a1) a2
   obtain ⟨k,hk,ek,tk⟩:=b3W T D v (List.mem_range.mp b1) b2
   have:=b5P (T.tops v) hj tj hk tk
   rw [<- ej,<- ek,this]
  match e:a5H R v,nd,same with
  | [],_,_=>exact Nat.zero_le _
  | [_],_,_=>exact Nat.le_refl _
  | a::b::r,nd,same =>
   have:=same a (by simp) b (by simp)
   rw [this] at nd
   exact absurd List.mem_cons_self (List.nodup_cons.mp nd).1
theorem c5U {n:Nat} {rs:List Row} {R:List Row} {sp:List Nat} (T:Tree n rs) (D:Tidy rs rs.length R sp):R.length<=max 1 n:=by
 have TR:=b3X T D
 by_cases c:R.length<=1
 ·omega
 have pick:∀ r,r < R.length->∃ x:Int,a4Y R x r=true:=λ r hr=>by
  by_cases r0:r=0
  ·subst r0
   obtain ⟨q,e,h⟩:=D.ups 1 (by omega) (by omega)
   have q0:q=0:=by omega
   subst q0
   obtain ⟨_,y,hy,_⟩:=D.cross 1 (by omega) 0 e
   exact ⟨y,isTop_iff.mpr ⟨hy,by rw [D.up0 (by omega)]; rfl⟩⟩
  ·obtain ⟨q,e,h⟩:=D.ups r hr r0
   obtain ⟨⟨x,hx,nx⟩,_⟩:=D.cross r hr q e
   refine ⟨x,isTop_iff.mpr ⟨hx,?_⟩⟩
   rw [e]
   show has x (a0K R ((q:Int)).toNat)=false
   rw [Int.toNat_natCast]
   exact decide_eq_false nx
 let f:Nat->Int:=λ r=>if h:r < R.length then Classical.choose (pick r h) else 0
 have ft:∀ r,r < R.length->a4Y R (f r) r=true:=λ r h=>by
  show a4Y R (dite _ _ _) r=true
  rw [dif_pos h]
  exact Classical.choose_spec (pick r h)
 have nd:((List.range R.length).map f).Nodup:=by
  rw [List.nodup_iff_pairwise_ne,List.pairwise_map]
  refine List.pairwise_iff_getElem.mpr λ i j hi hj ij e=>?_
  rw [List.length_range] at hi hj
  rw [List.getElem_range,List.getElem_range] at e
  have a:=ft i hi
  have b:=ft j hj
  rw [e] at a
  have:=b5P (TR.tops _) hi a hj b
  omega
 have:=pigT nd (U:=(List.range n).map λ (x:Nat)=>(x:Int)) λ x hx=>by
  obtain ⟨r,hr,rfl⟩:=List.mem_map.mp hx
  have hr':=List.mem_range.mp hr
  have m:=(isTop_iff.mp (ft r hr')).1
  have o:=TR.ok r hr'
  unfold a7U at o
  rw [Bool.and_eq_true] at o
  have b:=((a4J _ _).mp o.2).1 _ m
  exact List.mem_map.mpr ⟨(f r).toNat,List.mem_range.mpr (by omega),by show ((Int.toNat (f r):Nat):Int)=f r; omega⟩
 rw [List.length_map,List.length_map,List.length_range,List.length_range] at this
 omega
abbrev b6Z:Stmt:=top 30
theorem sc_tidied:FnScope ["tree", "rows", "spots", "up", "places", "spot"] ["tree"] (a0F b6Z):=⟨rfl,rfl,rfl,by decide +kernel,rfl,by decide +kernel,by decide +kernel⟩
abbrev a6L:Stmt:=top 31
theorem a9O:FnScope ["one", "other"] ["one", "other"] (a0F a6L):=⟨rfl,rfl,rfl,by decide +kernel,rfl,by decide +kernel,by decide +kernel⟩
def c2P (K:Φρ):Sp:=λ vs H Q _=>∃ (a b:Addr) (xs ys:List Int),vs=[.ref a,.ref b]/\SqL K H a (xs.map V.int)/\SqL K H b (ys.map V.int)/\xs.length<=1000/\ys.length<=1000/\∀ H',Same H H'->Q (.bl (!(a3S xs ys).isEmpty && !(a3S ys xs).isEmpty)) H'
def RowF (H:Hp) (L:List Addr) (H':Hp) (v:V) (r:Row):Prop:=∃ p b,v = .ref p/\H' p=some (.tup [upV r.1,.ref b])/\H' b=some (.lst (r.2.map V.int))/\b ∉ L/\H b=none/\r.2.length<=16
theorem RowF.same {H:Hp} {L:List Addr} {H1 H2:Hp} {v:V} {r:Row} (s:Same H1 H2) (h:RowF H L H1 v r):RowF H L H2 v r:=by
 obtain ⟨p,b,e,q1,q2,n,f,z⟩:=h
 exact ⟨p,b,e,s _ _ q1,s _ _ q2,n,f,z⟩
theorem RowF.chg {H H1 H2:Hp} {L:List Addr} {l:Addr} {xs ys:List V} {v:V} {r:Row} (hL:l∈L) (hl:H1 l=some (.lst xs)) (c:Chg H1 l (.lst ys) H2) (h:RowF H L H1 v r):RowF H L H2 v r:=by
 obtain ⟨p,b,e,q1,q2,n,f,z⟩:=h
 exact ⟨p,b,e,(c.rest p (c3X q1 hl (by intro z; cases z))).trans q1,(c.rest b (λ z=>n (z ▸ hL))).trans q2,n,f,z⟩
theorem RowF.sub {H:Hp} {L L':List Addr} {H1:Hp} {v:V} {r:Row} (s:∀ x∈L',x∈L) (h:RowF H L H1 v r):RowF H L' H1 v r:=by
 obtain ⟨p,b,e,q1,q2,n,f,z⟩:=h
 exact ⟨p,b,e,q1,q2,λ z=>n (s _ z),f,z⟩
theorem a9D {α β:Type} {R:α->β->Prop} {x:α} {y:β}:∀ {xs:List α} {ys:List β} {i:Nat},Paired R xs ys->R x y->Paired R (xs.set i x) (ys.set i y)
 | [],[],_,.nil,_=>.nil
 | _::_,_::_,0,.cons _ r,h=>.cons h r
 | _::_,_::_,_+1,.cons q r,h=>.cons q (a9D r h)
theorem b3Y {xs ys:List Int} (h:(!(a3S xs ys).isEmpty)=true):∃ x∈xs,x ∉ ys:=by
 cases e:a3S xs ys with
 | nil=>rw [e] at h; cases h
 | cons x r =>
  have:x∈xs.filter (λ v=>!decide (v∈ys)):=by
   show x∈a3S xs ys
   rw [e]; exact List.mem_cons_self
  rw [List.mem_filter] at this
  exact ⟨x,this.1,by simpa using this.2⟩
theorem a6M {xs ys:List Int} (h:(!(a3S xs ys).isEmpty)=false):∀ x∈xs,x∈ys:=λ x hx=>by
 apply Classical.byContradiction
 intro c
 have m:x∈xs.filter (λ v=>!decide (v∈ys)):=List.mem_filter.mpr ⟨hx,by simpa using c⟩
 have m':x∈a3S xs ys:=m
 cases e:a3S xs ys with
 | nil=>rw [e] at m'; exact absurd m' List.not_mem_nil
 | cons y r=>rw [e] at h; cases h
def c5V (K:Φρ):Sp:=λ vs H Q _=>∃ (a:Addr) (rs:List Row) (n:Nat),vs=[.ref a]/\c7C K H a rs/\Tree n rs/\n<=10 /\
 ∀ p xs R sp H',Same H H'->H p=none->H' p=some (.lst xs)->Paired (RowF H [p] H') xs R->Tidy rs rs.length R sp->Q (.ref p) H'
section
variable {P:Program} {w:World} {K:Φρ} {mg:Str->Option Value} {base:Heap}
abbrev DZ9 (K:PySem.W.Frag) (mg:Str->Option Value):=Dn K mg "are_crossed" a6L ["one", "other"]
set_option maxHeartbeats 4000000 in
theorem a9P (B:Bl mg) (dZ31:DZ31 K mg) (dZ9:DZ9 K mg):FnOk P w K mg base CX0 2 dZ9.f dZ9.fd ["one", "other"] (c2P K):=by
 have gZ31:FnOk P w K mg base CX0 1 _ _ _ _:=a8Y B dZ31
 refine dZ9.F.ok a9O (λ vs H Q E h=>?_) (λ cdv A outer s H vs Q E hr h=>?_)
 ·obtain ⟨a,b,xs,ys,rfl,_⟩:=h
  rfl
 obtain ⟨a,b,xs,ys,rfl,hA,hB,zx,zy,q⟩:=h
 refine ⟨_,(a0D (a0N (a2M (b8G (K:=K) rfl) rfl B.bool (by decide +kernel) (a0A (c8H (K:=K) rfl (a0G gZ31 hr rfl dZ31.m dZ31.F.kp dZ31.b .nil a0S (a0A (pv 0) (a0A (pv 1) a0B))) (a9V (a0G gZ31 hr rfl dZ31.m dZ31.F.kp dZ31.b .nil a0S (a0A (pv 1) (a0A (pv 0) a0B))))) a0B)))),?_⟩
 refine ⟨_,rfl,_,rfl,a,b,xs,ys,rfl,hA,hB,zx,λ H1 p1 H2 s1 n1=>?_⟩
 refine ⟨_,.inl ⟨_,SqL.of n1.here,rfl⟩,?_⟩
 have s12:=s1.trans n1.same
 have ei:∀ l:List Int,(l.map V.int).isEmpty=l.isEmpty:=λ l=>by cases l <;> rfl
 rw [ei]
 cases c:(!(a3S xs ys).isEmpty) with
 | true =>
  refine iteT ⟨_,rfl,_,rfl,b,a,ys,xs,rfl,s12.seq hB,s12.seq hA,zy,λ H3 p2 H4 s3 n2=>?_⟩
  refine ⟨p2,_,rfl,SqL.of n2.here,?_⟩
  have:=q H4 (s12.trans (s3.trans n2.same))
  rw [c,Bool.true_and] at this
  rw [ei]
  exact this
 | false =>
  refine iteF ⟨p1,_,rfl,SqL.of n1.here,?_⟩
  have:=q H2 s12
  rw [c,Bool.false_and] at this
  rw [ei,c]
  exact this
abbrev DZ45 (K:PySem.W.Frag) (mg:Str->Option Value):=Dn K mg "tidied" b6Z ["tree"]
set_option maxHeartbeats 8000000 in
theorem c2Q (B:Bl mg) (dZ31:DZ31 K mg) (dZ9:DZ9 K mg) (dZ45:DZ45 K mg):FnOk P w K mg base CX0 3 dZ45.f dZ45.fd ["tree"] (c5V K):=by
 have gZ9:FnOk P w K mg base CX0 2 _ _ _ _:=a9P B dZ31 dZ9
 refine dZ45.F.ok sc_tidied (λ vs H Q E h=>?_) (λ cdv A outer s H vs Q E hr h=>?_)
 ·obtain ⟨a,rs,n,rfl,_⟩:=h
  rfl
 obtain ⟨a,rs,n,rfl,hR,T,n10,q⟩:=h
 obtain ⟨ys,hy,hpr,hz⟩:=id hR
 have ly:ys.length=rs.length:=Paired.length hpr
 have U:=b0M T.ok
 have r20:=T.len
 refine ⟨_,(a0C (a0J (i:=1) sc_tidied.nd rfl (Or.inl rfl) (a1M a0B))
   (a0C (a0J (i:=2) sc_tidied.nd rfl (Or.inl rfl) (a1M a0B))
   (a0C (a1Q PassesOwn.never rfl (a0O (K:=K) rfl (pv 0)) (a2N (K:=K) (n:=2) rfl rfl (a0X (a0H (i:=3) sc_tidied.nd rfl (Or.inl rfl)) (a0X (a0H (i:=4) sc_tidied.nd rfl (Or.inl rfl)) a2L)))
   (a0C (a0J (i:=5) sc_tidied.nd rfl (Or.inl rfl) (a7X (a0P b6D (pv 3) a2B (a0U _)) a2B (a0V (a0L (K:=K) rfl) (pv 2) (pv 3) (λ _ _=>rfl))))
   (a0D (a1X (PW.pt (a4U (a0P b6D (pv 5) a2B (a0U _)) (a4S (a0R (K:=K) rfl (a0G gZ9 hr rfl dZ9.m dZ9.F.kp dZ9.b .nil a0S (a0A (pv 4) (a0A (a0V (a0Z (K:=K) rfl) (a0V (a0L (K:=K) rfl) (pv 1) (pv 5) (λ _ _=>rfl)) a0E (λ _ _=>rfl)) a0B))) (λ _=>rfl)))))
   (a0C (a2D (a3F (K:=K) rfl PySem.F.plainAttrs_list PySem.F.slot_list_append PySem.F.type_list_append a1V (pv 2) (a0A (a0I (a0T (K:=K) rfl) rfl B.len (by decide +kernel) (a0A (pv 1) a0B)) a0B)))
   (a0D (a2D (a3F (K:=K) rfl PySem.F.plainAttrs_list PySem.F.slot_list_append PySem.F.type_list_append a1V (pv 1) (a0A (a2H (a0A (pv 5) (a0A (a2M (a3Y (K:=K) rfl) rfl B.list (by decide +kernel) (a0A (pv 4) a0B)) a0B))) a0B)))))
   (a5N (a1X (a0P b4R (a0I (a0T (K:=K) rfl) rfl B.len (by decide +kernel) (a0A (pv 4) a0B)) (a0I (a0T (K:=K) rfl) rfl B.len (by decide +kernel) (a0A (a0V (a0Z (K:=K) rfl) (a0V (a0L (K:=K) rfl) (pv 1) (pv 5) (λ _ _=>rfl)) a0E (λ _ _=>rfl)) a0B)) (a0U _))
   (a0D (a8G (a2H (a0A (a0V (a0Z (K:=K) rfl) (a0V (a0L (K:=K) rfl) (pv 1) (pv 5) (λ _ _=>rfl)) a0E (λ _ _=>rfl)) (a0A (a2M (a3Y (K:=K) rfl) rfl B.list (by decide +kernel) (a0A (pv 4) a0B)) a0B))) (a8F (pv 1) (pv 5) a3H)))
   a0Y)
   (a0D (a2D (a3F (K:=K) rfl PySem.F.plainAttrs_list PySem.F.slot_list_append PySem.F.type_list_append a1V (pv 2) (a0A (pv 5) a0B)))))))))
   (a0D (a0N (pv 1)))))),?_⟩
 refine ⟨(by show 0<=1000; decide),λ pr H1 n1=>?_⟩
 refine ⟨(by show 0<=1000; decide),λ ps H2 n2=>?_⟩
 have s02:Same H H2:=n1.same.trans n2.same
 have frr:H pr=none:=n1.fresh
 have frs:H ps=none:=n1.same.free n2.fresh
 have ne:pr≠ps:=n2.ne n1.here
 refine ⟨_,rfl,a,rfl,⟨_,s02.seq hy⟩,?_⟩
 refine a2G (xs:=ys) (λ i σ H'=>∃ (R:List Row) (sp:List Nat) (xs:List V) (uu pp ss:Option V),σ=[some (.ref a),some (.ref pr),some (.ref ps),uu,pp,ss]/\Same H H'/\H' pr=some (.lst xs)/\Paired (RowF H [pr,ps] H') xs R/\H' ps=some (.lst (natV sp))/\Tidy rs i R sp) ⟨[],[],[],none,none,none,rfl,s02,n2.same _ _ n1.here,.nil,n2.here,c5T rs⟩ (λ i σ H' _ ⟨_,_,_,_,_,_,_,s,_⟩=>s.seq hy) ?_ ?_
 ·rintro i x σ H3 hx ⟨R,sp,xs,uu,pp,ss,rfl,s3,h3,p3,hs3,D⟩
  obtain ⟨row,hrow,⟨pt,b,rfl,hT,hb,_⟩⟩:=a1A hpr hx
  obtain ⟨hil,hix⟩:=List.getElem?_eq_some_iff.mp hrow
  have er:a0K rs i=row:=by unfold a0K; rw [τα,hrow]; rfl
  have okr:=T.ok i hil
  unfold a7U at okr
  rw [Bool.and_eq_true,er] at okr
  have fewr:=d2T n10 okr.2
  have lsp:=D.len
  have lR:=D.few
  have lxs:xs.length=R.length:=Paired.length p3
  have hb3:SqL K H3 b (row.2.map V.int):=s3.seq hb
  have memP:pr∈[pr,ps]:=List.mem_cons_self
  have memS:ps∈[pr,ps]:=List.mem_cons_of_mem _ List.mem_cons_self
  have fin:∀ (u:Option Int) (sv:Option V) (H4:Hp) (s34:Same H3 H4),Tidy rs (i+1) (R++[(u,row.2)]) (sp++[R.length])->∀ H5,Chg H4 ps (.lst (natV sp++[.int ((xs.length:Nat):Int)])) H5->∀ p6 H6,New H5 p6 (.lst (row.2.map V.int)) H6->∀ p7 H7,New H6 p7 (.tup [upV u,.ref p6]) H7->∀ H8,Chg H7 pr (.lst (xs++[.ref p7])) H8 ->
    ∃ (R:List Row) (sp:List Nat) (xs:List V) (uu pp ss:Option V),[some (V.ref a),some (.ref pr),some (.ref ps),some (upV row.1),some (.ref b),sv]=[some (V.ref a),some (.ref pr),some (.ref ps),uu,pp,ss]/\Same H H8/\H8 pr=some (.lst xs)/\Paired (RowF H [pr,ps] H8) xs R/\H8 ps=some (.lst (natV sp))/\Tidy rs (i+1) R sp:=λ u sv H4 s34 D' H5 c5 p6 H6 n6 p7 H7 n7 H8 c8=>by
   have hs4:=s34 _ _ hs3
   have s05:Same H H5:=(s3.trans s34).chg frs c5
   have h5:H5 pr=some (.lst xs):=(c5.rest pr ne).trans (s34 _ _ h3)
   have h7:H7 pr=some (.lst xs):=n7.same _ _ (n6.same _ _ h5)
   have s57:=n6.same.trans n7.same
   have p5:Paired (RowF H [pr,ps] H5) xs R:=Paired.mapP p3 λ v r q=>(RowF.same s34 q).chg memS hs4 c5
   have b6:p6 ∉ [pr,ps]:=λ z=>by
    rcases List.mem_cons.mp z with z | z
    ·subst z; have:=n6.fresh; rw [h5] at this; cases this
    ·have z:=List.mem_singleton.mp z
     subst z; have:=n6.fresh; rw [c5.here] at this; cases this
   refine ⟨R++[(u,row.2)],sp++[R.length],xs++[.ref p7],_,_,_,rfl,(s05.trans s57).chg frr c8,c8.here,?_,?_,D'⟩
   ·refine a1T (Paired.mapP p5 λ v r q=>(RowF.same s57 q).chg memP h7 c8) (RowF.chg memP h7 c8 ⟨p7,p6,rfl,n7.here,n7.same _ _ n6.here,b6,s05.free n6.fresh,by show row.2.length<=16; omega⟩)
   ·rw [(c8.rest ps (Ne.symm ne)),s57 _ _ c5.here,lxs]
    unfold natV
    rw [List.map_append]
    rfl
  refine ⟨pt,_,rfl,s3.tupq hT,rfl,_,_,rfl,_,_,rfl,rfl,?_⟩
  cases eu:row.1 with
  | none =>
   have i0:i=0:=by
    apply Classical.byContradiction
    intro z
    have o:=okr.1
    rw [eu] at o
    unfold upOk at o
    rw [if_neg z] at o
    cases o
   have R0:R.length=0:=by omega
   refine ⟨_,rfl,rfl,_,rfl,iteT ?_⟩
   refine ⟨_,rfl,rfl,_,rfl,iteT (iteT ?_)⟩
   refine ⟨_,rfl,.inl ⟨rfl,_,SqL.of hs3⟩,_,rfl,pr,_,rfl,.inl (SqL.of h3),ps,_,_,rfl,rfl,hs3,(by rw [List.length_map]; omega),λ H5 c5=>?_⟩
   have h5:H5 pr=some (.lst xs):=(c5.rest pr ne).trans h3
   have hb5:SqL K H5 b (row.2.map V.int):=(s3.chg frs c5).seq hb
   refine ⟨_,rfl,.inl ⟨rfl,_,SqL.of h5⟩,_,rfl,_,rfl,b,_,rfl,.inl hb5,λ p6 H6 n6=>?_⟩
   refine ⟨(by show 2<=1000; decide),λ p7 H7 n7=>?_⟩
   refine ⟨pr,_,_,rfl,rfl,n7.same _ _ (n6.same _ _ h5),by omega,λ H8 c8=>?_⟩
   have D':=b6X (u:=none) D U hil ⟨R0,by rw [er]; exact eu⟩
   rw [er] at D'
   have:=fin none (some .non) H3 (Same.refl _) D' H5 c5 p6 H6 n6 p7 H7 n7 H8 c8
   rw [eu] at this
   exact this
  | some wi =>
   obtain ⟨i0,w,ew,wl⟩:i≠0/\∃ w:Nat,wi=(w:Int)/\w < i:=by
    have o:=okr.1
    rw [eu] at o
    unfold upOk at o
    by_cases z:i=0
    ·rw [if_pos z] at o; cases o
    ·rw [if_neg z] at o
     have b:=of_decide_eq_true o
     exact ⟨z,wi.toNat,by omega,by omega⟩
   subst ew
   have ew':(a0K rs i).1=some (w:Int):=by rw [er]; exact eu
   have hsR:=D.lt w wl
   obtain ⟨v,hv,⟨pv',bs,rfl,t1,t2,nb,fb,zl⟩⟩:=a8L p3 (a7Z hsR)
   refine ⟨_,rfl,rfl,_,rfl,iteF ?_⟩
   refine ⟨_,rfl,_,rfl,ps,_,_,_,rfl,rfl,SqL.of hs3,a5Q (by omega),?_⟩
   refine ⟨_,rfl,rfl,_,rfl,iteF ?_⟩
   refine ⟨_,rfl,_,rfl,_,rfl,pr,_,_,_,rfl,rfl,SqL.of h3,a1L hv,pv',_,_,_,rfl,rfl,SqT.of t1,rfl,?_⟩
   refine ⟨b,bs,row.2,(a0K R (sp.getD w 0)).2,rfl,hb3,SqL.of t2,by omega,by omega,λ H4 s4=>⟨_,rfl,?_⟩⟩
   refine ite2 (λ c=>?_) (λ c=>?_)
   ·rw [Bool.and_eq_true] at c
    have hs4:=s4 _ _ hs3
    have h4:=s4 _ _ h3
    refine ⟨_,rfl,.inl ⟨rfl,_,SqL.of hs4⟩,_,rfl,pr,_,rfl,.inl (SqL.of h4),ps,_,_,rfl,rfl,hs4,(by rw [List.length_map]; omega),λ H5 c5=>?_⟩
    have h5:H5 pr=some (.lst xs):=(c5.rest pr ne).trans h4
    have hb5:SqL K H5 b (row.2.map V.int):=((s3.trans s4).chg frs c5).seq hb
    refine ⟨_,rfl,.inl ⟨rfl,_,SqL.of h5⟩,_,rfl,_,rfl,b,_,rfl,.inl hb5,λ p6 H6 n6=>?_⟩
    refine ⟨(by show 2<=1000; decide),λ p7 H7 n7=>?_⟩
    refine ⟨pr,_,_,rfl,rfl,n7.same _ _ (n6.same _ _ h5),by omega,λ H8 c8=>?_⟩
    have D':=b6X (u:=some ((sp.getD w 0:Nat):Int)) D U hil ⟨w,wl,ew',rfl,by rw [er]; exact b3Y c.1,by rw [er]; exact b3Y c.2⟩
    rw [er] at D'
    have:=fin (some ((sp.getD w 0:Nat):Int)) (some (.int ((sp.getD w 0:Nat):Int))) H4 s4 D' H5 c5 p6 H6 n6 p7 H7 n7 H8 c8
    rw [eu] at this
    exact this
   ·have c':(!(a3S row.2 (a0K R (sp.getD w 0)).2).isEmpty)=false\/(!(a3S (a0K R (sp.getD w 0)).2 row.2).isEmpty)=false:=Bool.and_eq_false_iff.mp (Bool.eq_false_iff.mpr c)
    obtain ⟨jo,_,_,ejo⟩:=D.own _ hsR
    have ndS:(a0K R (sp.getD w 0)).2.Nodup:=by
     rw [ejo]
     have o:=T.ok jo (by omega)
     unfold a7U at o
     rw [Bool.and_eq_true] at o
     exact ((a4J _ _).mp o.2).2.imp λ h=>by omega
    have ndP:row.2.Nodup:=((a4J _ _).mp okr.2).2.imp λ h=>by omega
    have hs4:=s4 _ _ hs3
    have h4:=s4 _ _ h3
    have hb4:SqL K H4 b (row.2.map V.int):=s4.seq hb3
    have t1':=s4 _ _ t1
    have t2':=s4 _ _ t2
    refine ⟨λ σ' H5=>∃ (R':List Row) (xs':List V),σ'=[some (.ref a),some (.ref pr),some (.ref ps),some (upV row.1),some (.ref b),some (.int ((sp.getD w 0:Nat):Int))]/\Same H H5/\H5 pr=some (.lst xs')/\Paired (RowF H [pr,ps] H5) xs' R'/\H5 ps=some (.lst (natV sp))/\Tidy rs (i+1) R' (sp++[sp.getD w 0]),?_,?_⟩
    ·refine ⟨_,rfl,b,_,rfl,.inl hb4,_,rfl,_,rfl,pr,_,_,_,rfl,rfl,SqL.of h4,a1L hv,pv',_,_,_,rfl,rfl,SqT.of t1',rfl,bs,_,rfl,.inl (SqL.of t2'),_,_,rfl,rfl,_,rfl,?_⟩
     refine ite2 (λ d=>?_) (λ d=>?_)
     ·have d':(((a0K R (sp.getD w 0)).2.map V.int).length:Int) < ((row.2.map V.int).length:Int):=of_decide_eq_true d
      rw [List.length_map,List.length_map] at d'
      have sub:∀ v∈(a0K R (sp.getD w 0)).2,v∈row.2:=by
       rcases c' with c' | c'
       ·have:=pigT ndP (a6M c')
        omega
       ·exact a6M c'
      refine ⟨_,rfl,_,rfl,pr,_,_,_,rfl,rfl,SqL.of h4,a1L hv,pv',_,_,_,rfl,rfl,SqT.of t1',rfl,_,rfl,b,_,rfl,.inl hb4,λ p6 H6 n6=>?_⟩
      refine ⟨(by show 2<=1000; decide),λ p7 H7 n7=>?_⟩
      have s47:=n6.same.trans n7.same
      have h7:=s47 _ _ h4
      refine ⟨_,rfl,_,rfl,pr,_,_,sp.getD w 0,rfl,rfl,h7,a5O (by omega),λ H8 c8=>?_⟩
      have b6:p6 ∉ [pr,ps]:=λ z=>by
       rcases List.mem_cons.mp z with z | z
       ·subst z; have:=n6.fresh; rw [h4] at this; cases this
       ·have z:=List.mem_singleton.mp z
        subst z; have:=n6.fresh; rw [hs4] at this; cases this
      have D':=b6Y T D hil wl ew' (.inr ⟨rfl,by rw [er]; exact sub⟩)
      rw [er] at D'
      refine ⟨_,_,(by rw [eu]; rfl),((s3.trans s4).trans s47).chg frr c8,c8.here,?_,(c8.rest ps (Ne.symm ne)).trans (s47 _ _ hs4),D'⟩
      refine a9D (Paired.mapP p3 λ v r q=>(RowF.same (s4.trans s47) q).chg memP h7 c8) (RowF.chg memP h7 c8 ⟨p7,p6,rfl,n7.here,n7.same _ _ n6.here,b6,(s3.trans s4).free n6.fresh,by show row.2.length<=16; omega⟩)
     ·have d':¬ (((a0K R (sp.getD w 0)).2.map V.int).length:Int) < ((row.2.map V.int).length:Int):=of_decide_eq_false (Bool.eq_false_iff.mpr d)
      rw [List.length_map,List.length_map] at d'
      have sub:∀ v∈row.2,v∈(a0K R (sp.getD w 0)).2:=by
       rcases c' with c' | c'
       ·exact a6M c'
       ·intro v hv
        apply Classical.byContradiction
        intro z
        have:=pigT (l:=v::(a0K R (sp.getD w 0)).2) (U:=row.2) (List.nodup_cons.mpr ⟨z,ndS⟩) λ x hx=>by
         rcases List.mem_cons.mp hx with e | h
         ·rw [e]; exact hv
         ·exact a6M c' x h
        rw [List.length_cons] at this
        omega
      have D':=b6Y T D hil wl ew' (.inl ⟨rfl,by rw [er]; exact sub⟩)
      refine ⟨R,xs,?_,s3.trans s4,h4,Paired.mapP p3 λ v r q=>RowF.same s4 q,hs4,D'⟩
      rw [eu]; rfl
    ·rintro σ' H5 ⟨R',xs',rfl,s5,h5,p5,hs5,D'⟩
     refine ⟨_,rfl,.inl ⟨rfl,_,SqL.of hs5⟩,_,rfl,ps,_,_,rfl,rfl,hs5,(by rw [List.length_map]; omega),λ H6 c6=>?_⟩
     refine ⟨R',_,xs',_,_,_,rfl,s5.chg frs c6,(c6.rest pr ne).trans h5,Paired.mapP p5 λ v r q=>RowF.chg memS hs5 c6 q,?_,D'⟩
     rw [c6.here]
     unfold natV
     rw [List.map_append]
     rfl
 ·rintro σ H3 ⟨R,sp,xs,uu,pp,ss,rfl,s3,h3,p3,hs3,D⟩
  rw [ly] at D
  exact ⟨_,rfl,q pr xs R sp H3 s3 frr h3 (Paired.mapP p3 λ v r q=>RowF.sub (λ x hx=>by rw [List.mem_singleton.mp hx]; exact List.mem_cons_self) q) D⟩
end
end K
namespace K
open PySem L2 Lw Bg
theorem c2R {n:Nat} {ts:List ζζ} {os:List Nat} (o:Ord n os) (n10:n<=10) {k:Nat} (hk:k < n):(a2X n ts os k).2.length=(a1O n ts os (n - 1 - k)).length+1:=by
 have hv:=getD_some (os:=os) (i:=n - 1 - k) (by rw [o.len]; omega)
 generalize os.getD (n - 1 - k) 0=v at hv
 have vn:v < n:=List.mem_range.mp (o.pm.mem_iff.mp (List.mem_of_getElem? hv))
 have nd1:(a2X n ts os k).2.Nodup:=by
  have:(a2X n ts os k).2.Pairwise (· < ·):=by
   unfold a2X a2C; dsimp only
   exact b3F _
  exact this.imp λ h=>by omega
 have ndl:(a1O n ts os (n - 1 - k)).Nodup:=by
  unfold a1O a4C
  exact List.nodup_range.sublist List.filter_sublist
 have nd2:(natI (v::a1O n ts os (n - 1 - k))).Nodup:=by
  unfold natI
  rw [List.nodup_iff_pairwise_ne,List.pairwise_map]
  have:(v::a1O n ts os (n - 1 - k)).Nodup:=List.nodup_cons.mpr ⟨λ h=>by
   have:=((a2P o hv).mp h).2.1
   rw [o.at_ hv] at this
   omega,ndl⟩
  rw [List.nodup_iff_pairwise_ne] at this
  exact this.imp λ h=>by omega
 have pm:(a2X n ts os k).2.Perm (natI (v::a1O n ts os (n - 1 - k))):=(List.perm_ext_iff_of_nodup nd1 nd2).mpr λ x=>by
  rw [a4Q o n10 hk]
  unfold natI
  rw [List.mem_map]
  constructor
  ·rintro ⟨u,rfl,un,h⟩
   rcases h with h | h
   ·rw [hv] at h
    injection h with h
    exact ⟨u,by rw [h]; exact List.mem_cons_self,rfl⟩
   ·exact ⟨u,List.mem_cons_of_mem _ h,rfl⟩
  ·rintro ⟨u,hu,rfl⟩
   rcases List.mem_cons.mp hu with h | h
   ·exact ⟨u,rfl,by rw [h]; exact vn,.inl (by rw [h]; exact hv)⟩
   ·exact ⟨u,rfl,((a2P o hv).mp h).1,.inr h⟩
 rw [pm.length_eq]
 unfold natI
 rw [List.length_map,List.length_cons]
abbrev a7R:Stmt:=top 39
theorem b1U:FnScope ["graph"] ["graph"] (a0F a7R):=⟨rfl,rfl,rfl,by decide +kernel,rfl,by decide +kernel,by decide +kernel⟩
theorem b3Z {n:Nat} {ts:List ζζ} {os:List Nat} {v j:Nat} (hj:j < os.length):a1O n ts (os++[v]) j=a1O n ts os j:=by
 unfold a1O
 rw [List.take_append_of_le_length (by omega),τα,τα,List.getElem?_append_left hj]
theorem c5W {n:Nat} {ts:List ζζ} (n10:n<=10) {S:Nat} {os:List Nat} {G:Int} (h:WidP n ts S os G):(∀ j,j < os.length->((a1O n ts os j).length:Int)<=G)/\((os=[]/\G = -1)\/∃ j,j < os.length/\((a1O n ts os j).length:Int)=G):=by
 induction h with
 | nil=>exact ⟨λ j hj=>absurd hj (Nat.not_lt_zero _),.inl ⟨rfl,rfl⟩⟩
 | @snoc S v os G p f vn ih =>
  have new:(a1O n ts (os++[v]) os.length).length=degF n ts S v:=by
   unfold a1O degF
   rw [List.take_left,τα,List.getElem?_append_right (Nat.le_refl _),Nat.sub_self]
   show (a4C n (runR n ts os) v).length=_
   obtain ⟨pn,pl,pm⟩:=a2Q n10 p.lt
   have e:∀ u,u∈os↔u∈a0M S:=λ u=>(p.free.mem u).trans (pm u).symm
   have pp:os.Perm (a0M S):=(List.perm_ext_iff_of_nodup p.free.nodup pn).mpr e
   rw [b0J pn pl pp vn λ z=>by
    have:=(pm v).mp z
    rw [f] at this
    cases this]
  refine ⟨λ j hj=>?_,.inr ?_⟩
  ·rw [List.length_append] at hj
   have hj':j < os.length+1:=hj
   by_cases c:j=os.length
   ·subst c; rw [new]; omega
   ·rw [b3Z (by omega)]
    have:=ih.1 j (by omega)
    omega
  ·by_cases c:G<=(degF n ts S v:Int)
   ·exact ⟨os.length,by rw [List.length_append]; exact Nat.lt_succ_self _,by rw [new]; omega⟩
   ·rcases ih.2 with ⟨_,e⟩ | ⟨j,hj,e⟩
    ·omega
    ·exact ⟨j,by rw [List.length_append]; exact Nat.lt_succ_of_lt hj,by rw [b3Z hj]; omega⟩
theorem c2S {n:Nat} {ts:List ζζ} {os:List Nat} {M:Nat} {G:Int} (o:Ord n os) (n10:n<=10) (h:WidP n ts M os G):(∀ r∈a7W n ts os,((r.2.length:Nat):Int)<=G+1)/\∃ r∈a7W n ts os,((r.2.length:Nat):Int)=G+1:=by
 obtain ⟨h1,h2⟩:=c5W n10 h
 have lo:=o.len
 unfold a7W
 by_cases c:n=0
 ·rw [if_pos c]
  have e:os=[]:=List.eq_nil_of_length_eq_zero (by omega)
  have g:G = -1:=by
   rcases h2 with ⟨_,e⟩ | ⟨j,hj,_⟩
   ·exact e
   ·omega
  subst g
  exact ⟨λ r hr=>by rw [List.mem_singleton.mp hr]; exact Int.le_refl _,_,List.mem_singleton.mpr rfl,rfl⟩
 ·rw [if_neg c]
  refine ⟨λ r hr=>?_,?_⟩
  ·obtain ⟨k,hk,rfl⟩:=List.mem_map.mp hr
   have hk:=List.mem_range.mp hk
   rw [c2R o n10 hk]
   have:=h1 (n - 1 - k) (by omega)
   omega
  ·rcases h2 with ⟨e,_⟩ | ⟨j,hj,e⟩
   ·rw [e] at lo
    exact absurd lo.symm c
   ·refine ⟨a2X n ts os (n - 1 - j),List.mem_map.mpr ⟨_,List.mem_range.mpr (by omega),rfl⟩,?_⟩
    rw [c2R o n10 (by omega),show n - 1 - (n - 1 - j)=j by omega]
    omega
theorem c2T {n:Nat} {ts:List ζζ} {os:List Nat} (o:Ord n os) (n10:n<=10):Tree n (a7W n ts os):=by
 unfold a7W
 by_cases c:n=0
 ·subst c
  rw [if_pos rfl]
  refine ⟨by decide,by decide,λ k hk=>?_,λ v h0 h1=>?_,λ v=>?_⟩
  ·have:k=0:=by
    have:k < 1:=hk
    omega
   subst this
   decide
  ·omega
  ·exact Nat.le_trans (List.length_filter_le _ _) (by show 1<=1; decide)
 ·rw [if_neg c]
  exact b8T o n10 c
theorem c2U {n:Nat} {rs:List Row} (T:Tree n rs) {j:Nat} (hj:j < rs.length):(a0K rs j).2.Nodup:=by
 have o:=T.ok j hj
 unfold a7U at o
 rw [Bool.and_eq_true] at o
 exact ((a4J _ _).mp o.2).2.imp λ h=>Int.ne_of_lt h
theorem b7A {n:Nat} {rs R:List Row} {sp:List Nat} (D:Tidy rs rs.length R sp) {r:Row} (hr:r∈rs):∃ q∈R,∀ x∈r.2,x∈q.2:=by
 obtain ⟨j,hj,e⟩:=a3L hr
 have hl:=D.lt j hj
 refine ⟨a0K R (sp.getD j 0),List.mem_of_getElem? (a7Z hl),λ x hx=>?_⟩
 exact (D.mem _ hl x).mpr ⟨j,hj,rfl,by rw [e]; exact hx⟩
theorem b8U {n:Nat} {rs R:List Row} {sp:List Nat} {G:Int} (T:Tree n rs) (D:Tidy rs rs.length R sp) (h1:∀ r∈rs,((r.2.length:Nat):Int)<=G) (h2:∃ r∈rs,((r.2.length:Nat):Int)=G):(∀ r∈R,((r.2.length:Nat):Int)<=G)/\∃ r∈R,((r.2.length:Nat):Int)=G:=by
 have up:∀ r∈R,((r.2.length:Nat):Int)<=G:=λ r hr=>by
  obtain ⟨k,hk,e⟩:=a3L hr
  obtain ⟨j,hj,_,e2⟩:=D.own k hk
  rw [<- e,e2]
  exact h1 _ (List.mem_of_getElem? (a7Z hj))
 refine ⟨up,?_⟩
 obtain ⟨r,hr,e⟩:=h2
 obtain ⟨q,hq,sub⟩:=b7A (n:=n) D hr
 refine ⟨q,hq,?_⟩
 obtain ⟨j,hj,ej⟩:=a3L hr
 have nd:=c2U T hj
 rw [ej] at nd
 have:=pigT nd sub
 have:=up q hq
 omega
def c5X (K:Φρ):Sp:=λ vs H Q _=>∃ (g:V) (n:Nat) (ts:List ζζ),vs=[g]/\GraphV K H g n ts/\(∀ t∈ts,0<=t.1/\t.1 < t.2/\t.2 < (n:Int))/\n<=10 /\
 ∀ p xs R cs H',Same H H'->H p=none->H' p=some (.lst xs)->Paired (RowF H [p] H') xs R->Tree n R->(∀ t∈ts,∃ r∈R,t.1∈r.2/\t.2∈r.2)->R.length<=max 1 n->CostOk n ts cs ->
  (∀ r∈R,((r.2.length:Nat):Int)<=cs.getD (2 ^ n - 1) 0+1)->(∃ r∈R,((r.2.length:Nat):Int)=cs.getD (2 ^ n - 1) 0+1)->Q (.ref p) H'
section
variable {P:Program} {w:World} {K:Φρ} {mg:Str->Option Value} {base:Heap}
abbrev DZ29 (K:PySem.W.Frag) (mg:Str->Option Value):=Dn K mg "least_tree" a7R ["graph"]
set_option maxHeartbeats 8000000 in
theorem b1V (B:Bl mg) (Bs:mg "sum" = none) (dZ32:DZ32 K mg) (dZ38:DZ38 K mg) (dZ33:DZ33 K mg) (dZ17:DZ17 K mg) (dZ44:DZ44 K mg) (dZ8:DZ8 K mg) (dZ24:DZ24 K mg) (dZ21:DZ21 K mg) (dZ23:DZ23 K mg) (dZ25:DZ25 K mg) (dZ31:DZ31 K mg) (dZ26:DZ26 K mg) (dZ39:DZ39 K mg) (dZ46:DZ46 K mg) (dZ45:DZ45 K mg) (dZ9:DZ9 K mg) (dZ14:DZ14 K mg) (dZ43:DZ43 K mg) (dZ19:DZ19 K mg) (dZ28:DZ28 K mg) (dZ29:DZ29 K mg):FnOk P w K mg base CX0 7 dZ29.f dZ29.fd ["graph"] (c5X K):=by
 have gZ28:FnOk P w K mg base CX0 6 _ _ _ _:=(a9N B Bs dZ32 dZ33 dZ17 dZ44 dZ8 dZ14 dZ19 dZ43 dZ28).mono (by decide)
 have gZ46:FnOk P w K mg base CX0 6 _ _ _ _:=b8S B dZ24 dZ21 dZ23 dZ25 dZ31 dZ38 dZ17 dZ44 dZ39 dZ26 dZ46
 have gZ45:FnOk P w K mg base CX0 6 _ _ _ _:=(c2Q B dZ31 dZ9 dZ45).mono (by decide)
 refine dZ29.F.ok b1U (λ vs H Q E h=>?_) (λ cdv A outer s H vs Q E hr h=>?_)
 ·obtain ⟨g,n,ts,rfl,_⟩:=h
  rfl
 obtain ⟨g,n,ts,rfl,hG,okt,n10,q⟩:=h
 refine ⟨_,(a0D (a0N (a0G gZ45 hr rfl dZ45.m dZ45.F.kp dZ45.b .nil a0S (a0A (a0G gZ46 hr rfl dZ46.m dZ46.F.kp dZ46.b .nil a0S (a0A (pv 0) (a0A (a0G gZ28 hr rfl dZ28.m dZ28.F.kp dZ28.b .nil a0S (a0A (pv 0) a0B)) a0B))) a0B)))),?_⟩
 refine ⟨_,rfl,_,rfl,g,n,ts,rfl,hG,okt,n10,λ ro os cs H1 s1 f1 h1 C W=>?_⟩
 have pmo:os.Perm (List.range n):=(List.perm_ext_iff_of_nodup W.free.nodup List.nodup_range).mpr λ u=>by
  rw [W.free.mem u,Nat.testBit_two_pow_sub_one,decide_eq_true_iff,List.mem_range]
 have o:Ord n os:=⟨pmo⟩
 refine ⟨g,n,ts,ro,os,rfl,hG.same s1,okt,h1,pmo,n10,λ p xs H2 s2 f2 h2 d2=>?_⟩
 have Tt:=c2T (ts:=ts) o n10
 have tl:=Tt.len
 have rF:c7C K H2 p (a7W n ts os):=⟨xs,SqL.of h2,Paired.mapP d2 λ v r ⟨p,b,e,q1,q2,_,_,z⟩=>⟨p,b,e,SqT.of q1,SqL.of q2,by omega⟩,by have:=Paired.length d2; omega⟩
 refine ⟨p,a7W n ts os,n,rfl,rF,Tt,n10,λ p3 ys R sp H3 s3 f3 h3 d3 D=>?_⟩
 have s02:=s1.trans s2
 obtain ⟨g1,g2⟩:=c2S o n10 W
 obtain ⟨k1,k2⟩:=b8U Tt D g1 g2
 refine q p3 ys R cs H3 (s02.trans s3) (s02.free f3) h3 (Paired.mapP d3 λ v r ⟨p,b,e,q1,q2,q3,q4,z⟩=>⟨p,b,e,q1,q2,q3,s02.free q4,z⟩) (b3X Tt D) (λ t ht=>?_) (c5U Tt D) C k1 k2
 have:∃ r∈a7W n ts os,t.1∈r.2/\t.2∈r.2:=by
  unfold a7W
  have:=okt t ht
  rw [if_neg (by omega)]
  exact c2O o n10 okt t ht
 obtain ⟨r,hr,m1,m2⟩:=this
 obtain ⟨q',hq,sub⟩:=b7A (n:=n) D hr
 exact ⟨q',hq,sub _ m1,sub _ m2⟩
end
end K
namespace K
open PySem L2 Lw Bg
def a0W:List Nat->Nat
 | []=>0
 | v::r=>a0W r ||| 2 ^ v
theorem a1P:∀ (p:List Nat) (u:Nat),(a0W p).testBit u=decide (u∈p)
 | [],u=>by unfold a0W; rw [Nat.zero_testBit]; simp
 | v::r,u=>by
  unfold a0W
  rw [Nat.testBit_or,a1P r u,Nat.testBit_two_pow,Bool.eq_iff_iff,Bool.or_eq_true,decide_eq_true_iff,decide_eq_true_iff,decide_eq_true_iff,List.mem_cons]
  constructor
  ·rintro (h | h)
   ·exact .inr h
   ·exact .inl h.symm
  ·rintro (h | h)
   ·exact .inr h.symm
   ·exact .inl h
theorem a8D {n:Nat}:∀ {p:List Nat},(∀ v∈p,v < n)->a0W p < 2 ^ n
 | [],_=>Nat.pow_pos (by decide)
 | v::r,h=>Nat.or_lt_two_pow (a8D λ x hx=>h x (List.mem_cons_of_mem _ hx)) (Nat.pow_lt_pow_right (by decide) (h v List.mem_cons_self))
theorem c9Q {M:Nat} {p:List Nat} (h:∀ u,M.testBit u=true↔u∈p):M=a0W p:=Nat.eq_of_testBit_eq λ u=>by
 rw [a1P,Bool.eq_iff_iff,h,decide_eq_true_iff]
structure Pcs (ts:List ζζ) (ls:List Nat) (ps:List (List Nat)):Prop where
 sub:∀ p∈ps,p.Sublist ls
 ne:∀ p∈ps,p≠[]
 all:∀ x∈ls,∃ p∈ps,x∈p
 dis:ps.Pairwise λ p q=>∀ x∈p,x ∉ q
 apart:ps.Pairwise λ p q=>∀ x∈p,∀ y∈q,tieT ts x y=false
 con:∀ p∈ps,∀ x∈p,∀ y∈p,x=y\/PathT ts p x y
def b8V (H:Hp) (p:Addr) (ps:List (List Nat)):Prop:=∃ qs:List Addr,H p=some (.lst (qs.map V.ref))/\Paired (λ q l=>H q=some (.lst (natV l))) qs ps
def d2W (ps:List (List Nat)):Prop:=ps.Pairwise λ p q=>p.headD 0 < q.headD 0
abbrev a9E:Stmt:=top 14
theorem b4A:FnScope ["graph", "places"] ["graph", "places"] (a0F a9E):=⟨rfl,rfl,rfl,by decide +kernel,rfl,by decide +kernel,by decide +kernel⟩
abbrev b7B:Stmt:=top 15
theorem sc_pieces:FnScope ["graph", "places", "told", "left", "piece"] ["graph", "places"] (a0F b7B):=⟨rfl,rfl,rfl,by decide +kernel,rfl,by decide +kernel,by decide +kernel⟩
abbrev a7S:Stmt:=top 16
theorem sc_piece_from:FnScope ["graph", "places", "v", "piece", "more"] ["graph", "places", "v"] (a0F a7S):=⟨rfl,rfl,rfl,by decide +kernel,rfl,by decide +kernel,by decide +kernel⟩
def a1U (l:List Nat):List Int:=l.map λ (x:Nat)=>(x:Int)
theorem mem_natIp {l:List Nat} {x:Int}:x∈a1U l↔∃ u:Nat,u∈l/\x=(u:Int):=by
 unfold a1U
 rw [List.mem_map]
 constructor
 ·rintro ⟨u,h,e⟩; exact ⟨u,h,e.symm⟩
 ·rintro ⟨u,h,e⟩; exact ⟨u,h,e.symm⟩
theorem tieT_around {ts:List ζζ} {u v:Nat}:(u:Int)∈a4M ts (v:Int)↔tieT ts v u=true:=by
 rw [tied_mem]
 unfold tieT
 rw [Bool.or_eq_true,decide_eq_true_iff,decide_eq_true_iff]
 exact or_comm
theorem c9R {l:List Int} (up:l.Pairwise (· < ·)) (h:∀ x∈l,0<=x):∃ p:List Nat,l=a1U p/\p.Pairwise (· < ·):=by
 have e:l=a1U (l.map Int.toNat):=by
  unfold a1U
  rw [List.map_map]
  conv=>lhs; rw [<- List.map_id l]
  refine List.map_congr_left λ x hx=>?_
  have:=h x hx
  show x=((x.toNat:Nat):Int)
  omega
 refine ⟨_,e,?_⟩
 refine List.pairwise_map.mpr (List.Pairwise.imp_of_mem (λ {a b} ha hb hab=>?_) up)
 have:=h a ha
 have:=h b hb
 omega
theorem b8W {p ls:List Nat} (up:p.Pairwise (· < ·)) (ul:ls.Pairwise (· < ·)) (h:∀ x∈p,x∈ls):p.Sublist ls:=by
 have ndp:p.Nodup:=up.imp λ h=>Nat.ne_of_lt h
 have ndl:ls.Nodup:=ul.imp λ h=>Nat.ne_of_lt h
 have e:p=ls.filter λ x=>decide (x∈p):=by
  refine List.Perm.eq_of_pairwise (le:=(· < ·)) (λ a b _ _ h1 h2=>by omega) up (ul.sublist List.filter_sublist) ((List.perm_ext_iff_of_nodup ndp (ndl.sublist List.filter_sublist)).mpr λ x=>?_)
  rw [List.mem_filter,decide_eq_true_iff]
  exact ⟨λ hx=>⟨h x hx,hx⟩,λ hx=>hx.2⟩
 rw [e]
 exact List.filter_sublist
theorem pigJ {α:Type} [DecidableEq α]:∀ {l U:List α},l.Nodup->(∀ x∈l,x∈U)->l.length<=U.length
 | [],_,_,_=>Nat.zero_le _
 | x::r,U,h,s=>by
  have h':=List.nodup_cons.mp h
  have hx:=s x List.mem_cons_self
  have:=List.length_erase_of_mem hx
  have p:=List.length_pos_of_mem hx
  have ih:=pigJ (l:=r) (U:=U.erase x) h'.2 λ y hy=>(List.mem_erase_of_ne (λ (e:y=x)=>h'.1 (e ▸ hy))).mpr (s y (List.mem_cons_of_mem _ hy))
  rw [List.length_cons]; omega
structure PieceOf (ts:List ζζ) (ls:List Nat) (v:Nat) (p:List Nat):Prop where
 up:p.Pairwise (· < ·)
 mem:∀ y,y∈p↔y∈ls/\(y=v\/PathT ts ls v y)
def b5Q (K:Φρ):Sp:=λ vs H Q _=>∃ (g:V) (n:Nat) (ts:List ζζ) (a:Addr) (ls:List Nat) (v:Nat),vs=[g,.ref a,.int (v:Int)]/\GraphV K H g n ts/\(∀ t∈ts,0<=t.1/\t.1 < t.2/\t.2 < (n:Int))/\n<=10/\ts.length<=100/\SqL K H a (natV ls)/\ls.Nodup/\(∀ x∈ls,x < n)/\v∈ls /\
 ∀ r p H',Same H H'->H r=none->H' r=some (.lst (natV p))->PieceOf ts ls v p->Q (.ref r) H'
def PcsN (H H':Hp) (r:Addr) (ps:List (List Nat)):Prop:=∃ qs:List Addr,H' r=some (.lst (qs.map V.ref))/\r ∉ qs/\(∀ q∈qs,H q=none)/\Paired (λ q l=>H' q=some (.lst (natV l))) qs ps
theorem PcsN.at {H H':Hp} {r:Addr} {ps:List (List Nat)} (h:PcsN H H' r ps):b8V H' r ps:=by
 obtain ⟨qs,a,_,_,b⟩:=h
 exact ⟨qs,a,b⟩
def c5Y (K:Φρ):Sp:=λ vs H Q _=>∃ (g:V) (n:Nat) (ts:List ζζ) (a:Addr) (ls:List Nat),vs=[g,.ref a]/\GraphV K H g n ts/\(∀ t∈ts,0<=t.1/\t.1 < t.2/\t.2 < (n:Int))/\n<=10/\ts.length<=100/\H a=some (.lst (natV ls))/\ls.Pairwise (· < ·)/\(∀ x∈ls,x < n) /\
 ∀ r ps H',Same H H'->H r=none->PcsN H H' r ps->Pcs ts ls ps->d2W ps->Q (.ref r) H'
def b0N (ts:List ζζ) (ls:List Nat):Prop:=ls≠[]/\∀ x∈ls,∀ y∈ls,x=y\/PathT ts ls x y
def c5Z (K:Φρ):Sp:=λ vs H Q _=>∃ (g:V) (n:Nat) (ts:List ζζ) (a:Addr) (ls:List Nat),vs=[g,.ref a]/\GraphV K H g n ts/\(∀ t∈ts,0<=t.1/\t.1 < t.2/\t.2 < (n:Int))/\n<=10/\ts.length<=100/\H a=some (.lst (natV ls))/\ls.Pairwise (· < ·)/\(∀ x∈ls,x < n) /\
 ∀ b H',Same H H'->(b=true↔b0N ts ls)->Q (.bl b) H'
theorem c9S {ts:List ζζ} {ls:List Nat} {ps:List (List Nat)} (h:Pcs ts ls ps):ps.length=1↔b0N ts ls:=by
 constructor
 ·intro e
  match ps,e,h with
  | [p],_,h =>
   have pm:p∈[p]:=List.mem_singleton.mpr rfl
   refine ⟨λ z=>?_,λ x hx y hy=>?_⟩
   ·obtain ⟨x,r,e⟩:=List.exists_cons_of_ne_nil (h.ne p pm)
    have:=(h.sub p pm).subset (show x∈p by rw [e]; exact List.mem_cons_self)
    rw [z] at this
    exact absurd this List.not_mem_nil
   ·obtain ⟨q,hq,qx⟩:=h.all x hx
    obtain ⟨q',hq',qy⟩:=h.all y hy
    rw [List.mem_singleton.mp hq] at qx
    rw [List.mem_singleton.mp hq'] at qy
    exact (h.con p pm x qx y qy).imp id λ z=>z.mono λ a ha=>(h.sub p pm).subset ha
 ·rintro ⟨ne,co⟩
  match ps,h with
  | [],h =>
   obtain ⟨x,r,e⟩:=List.exists_cons_of_ne_nil ne
   obtain ⟨q,hq,_⟩:=h.all x (by rw [e]; exact List.mem_cons_self)
   exact absurd hq List.not_mem_nil
  | [p],_=>rfl
  | p::q::r,h =>
   exfalso
   obtain ⟨x,r1,ex⟩:=List.exists_cons_of_ne_nil (h.ne p List.mem_cons_self)
   obtain ⟨y,r2,ey⟩:=List.exists_cons_of_ne_nil (h.ne q (List.mem_cons_of_mem _ List.mem_cons_self))
   have xp:x∈p:=by rw [ex]; exact List.mem_cons_self
   have yq:y∈q:=by rw [ey]; exact List.mem_cons_self
   have xl:=(h.sub p List.mem_cons_self).subset xp
   have yl:=(h.sub q (List.mem_cons_of_mem _ List.mem_cons_self)).subset yq
   obtain ⟨d1,_⟩:=List.pairwise_cons.mp h.dis
   obtain ⟨a1,_⟩:=List.pairwise_cons.mp h.apart
   have stay:∀ {a u:Nat},a∈p->u∈ls->tieT ts a u=true->u∈p:=λ {a u} ha hu t=>by
    obtain ⟨s,hs,us⟩:=h.all u hu
    rcases List.mem_cons.mp hs with e | hs
    ·rw [<- e]; exact us
    ·rw [a1 s hs a ha u us] at t
     cases t
   have all:∀ u,PathT ts ls x u->u∈ls->u∈p:=λ u pth=>by
    induction pth with
    | one t=>exact λ hu=>stay xp hu t
    | step _ m t ih=>exact λ hu=>stay (ih m) hu t
   rcases co x xl y yl with e | pth
   ·rw [e] at xp
    exact d1 q List.mem_cons_self y xp yq
   ·exact d1 q List.mem_cons_self y (all y pth yl) yq
theorem b0O {α β:Type} {F G:α->β->Prop}:∀ {xs:List α} {ys:List β},Paired F xs ys->(∀ x y,x∈xs->F x y->G x y)->Paired G xs ys
 | _,_,.nil,_=>.nil
 | _,_,.cons h t,g=>.cons (g _ _ List.mem_cons_self h) (b0O t λ x y hx=>g x y (List.mem_cons_of_mem _ hx))
theorem d2X {K:Φρ} {H H':Hp} {a b:Addr} {xs:List V} {o:HO} (h:SqL K H a xs) (ne:a≠b) (c:Chg H b o H'):SqL K H' a xs:=by
 rcases h with (h | ⟨o',h⟩) | h
 ·exact .inl (.inl ((c.rest a ne).trans h))
 ·exact .inl (.inr ⟨o',(c.rest a ne).trans h⟩)
 ·exact .inr h
section
variable {P:Program} {w:World} {K:Φρ} {mg:Str->Option Value} {base:Heap}
abbrev DZ36 (K:PySem.W.Frag) (mg:Str->Option Value):=Dn K mg "piece_from" a7S ["graph", "places", "v"]
set_option maxHeartbeats 8000000 in
theorem b1W (B:Bl mg) (dZ24:DZ24 K mg) (dZ21:DZ21 K mg) (dZ12:DZ12 K mg) (dZ25:DZ25 K mg) (dZ31:DZ31 K mg) (dZ10:DZ10 K mg) (dZ40:DZ40 K mg) (dZ36:DZ36 K mg):FnOk P w K mg base CX0 5 dZ36.f dZ36.fd ["graph", "places", "v"] (b5Q K):=by
 have gZ10:FnOk P w K mg base CX0 4 _ _ _ _:=(b3J B dZ24 dZ21 dZ10).mono (by decide)
 have gZ12:FnOk P w K mg base CX0 4 _ _ _ _:=(c1R B dZ12).mono (by decide)
 have gZ25:FnOk P w K mg base CX0 4 _ _ _ _:=(b1N B dZ25).mono (by decide)
 have gZ40:FnOk P w K mg base CX0 4 _ _ _ _:=d2P B dZ24 dZ21 dZ31 dZ25 dZ10 dZ40
 refine dZ36.F.ok sc_piece_from (λ vs H Q E h=>?_) (λ cdv A outer s H vs Q E hr h=>?_)
 ·obtain ⟨g,n,ts,a,ls,v,rfl,_⟩:=h
  rfl
 obtain ⟨g,n,ts,a,ls,v,rfl,hG,okt,n10,l100,hA,nd,hn,vl,q⟩:=h
 have vn:=hn v vl
 have t16:∀ t∈ts,0<=t.1/\t.1 < 16/\0<=t.2/\t.2 < 16:=λ t ht=>by have:=okt t ht; omega
 have hA':∀ {H':Hp},Same H H'->SqL K H' a ((a1U ls).map V.int):=λ {H'} s=>by
  have:=s.seq hA
  rw [a1D] at this
  exact this
 have al:∀ u:Nat,(a4M ts (u:Int)).length<=1000:=λ u=>by
  unfold a4M
  rw [List.length_append]
  have h1:=List.length_filterMap_le (λ t:Int × Int=>if t.2=(u:Int) then some t.1 else none) ts
  have h2:=List.length_filterMap_le (λ t:Int × Int=>if t.1=(u:Int) then some t.2 else none) ts
  omega
 have tn:∀ {x y:Nat},tieT ts x y=true->x≠y:=λ {x y} h z=>by
  subst z
  unfold tieT at h
  rw [Bool.or_self] at h
  have:=okt _ (of_decide_eq_true h)
  omega
 refine ⟨_,(a0C (a0J (i:=3) sc_piece_from.nd rfl (Or.inl rfl) (a1M (a0A (pv 2) a0B)))
   (a0C (a0J (i:=4) sc_piece_from.nd rfl (Or.inl rfl) (a0G gZ12 hr rfl dZ12.m dZ12.F.kp dZ12.b .nil a0S (a0A (a0G gZ10 hr rfl dZ10.m dZ10.F.kp dZ10.b .nil a0S (a0A (pv 0) (a0A (pv 2) a0B))) (a0A (pv 1) a0B))))
   (a0C (a5X PassesOwn.never (a0R (K:=K) rfl (pv 4) (λ _=>rfl))
   (a0C (a0J (i:=3) sc_piece_from.nd rfl (Or.inl rfl) (a0G gZ25 hr rfl dZ25.m dZ25.F.kp dZ25.b .nil a0S (a0A (pv 3) (a0A (pv 4) a0B))))
   (a0D (a0J (i:=4) sc_piece_from.nd rfl (Or.inl rfl) (a0G gZ12 hr rfl dZ12.m dZ12.F.kp dZ12.b .nil a0S (a0A (a0G gZ40 hr rfl dZ40.m dZ40.F.kp dZ40.b .nil a0S (a0A (pv 0) (a0A (pv 3) a0B))) (a0A (pv 1) a0B)))))))
   (a0D (a0N (pv 3)))))),?_⟩
 refine ⟨_,rfl,(by show 1<=1000; decide),λ p1 H1 n1=>?_⟩
 refine ⟨_,rfl,_,rfl,g,n,ts,v,rfl,hG.same n1.same,by omega,by omega,by omega,λ H2 p3 H3 s2 n3=>?_⟩
 have s13:Same H1 H3:=s2.trans n3.same
 have s03:Same H H3:=n1.same.trans s13
 refine ⟨_,rfl,p3,a,_,_,rfl,SqL.of n3.here,hA' s03,al v,λ H4 p5 H5 s4 n5=>?_⟩
 have s05:Same H H5:=s03.trans (s4.trans n5.same)
 let Iw:Nat->St->Hp->Prop:=λ m σ H'=>∃ (pp pm:Addr) (P M:List Int),σ=[some g,some (.ref a),some (.int (v:Int)),some (.ref pp),some (.ref pm)]/\Same H H'/\H pp=none/\H' pp=some (.lst (P.map V.int))/\H' pm=some (.lst (M.map V.int))/\M.length<=1000/\m=ls.length - P.length/\P.Pairwise (· < ·)/\((v:Nat):Int)∈P /\
   (∀ x∈P,∃ u:Nat,x=(u:Int)/\u∈ls/\(u=v\/PathT ts ls v u))/\∀ x,x∈M↔∃ u:Nat,x=(u:Int)/\u∈ls/\x ∉ P/\∃ y:Nat,(y:Int)∈P/\tieT ts y u=true
 refine ⟨Iw,
  ⟨_,p1,p5,[(v:Int)],_,rfl,s05,n1.fresh,(s13.trans (s4.trans n5.same)) _ _ n1.here,n5.here,Nat.le_trans (List.length_filter_le _ _) (al v),rfl,List.pairwise_singleton _ _,List.mem_singleton.mpr rfl,λ x hx=>⟨v,List.mem_singleton.mp hx,vl,.inl rfl⟩,λ x=>?_⟩,?_⟩
 ·unfold b5L
  rw [List.mem_filter,decide_eq_true_iff]
  constructor
  ·rintro ⟨h1,h2⟩
   obtain ⟨u,ul,e⟩:=mem_natIp.mp h2
   subst e
   have t:=tieT_around.mp h1
   refine ⟨u,rfl,ul,λ z=>tn t ?_,v,List.mem_singleton.mpr rfl,t⟩
   have:=List.mem_singleton.mp z
   omega
  ·rintro ⟨u,rfl,ul,_,y,hy,t⟩
   have e:=List.mem_singleton.mp hy
   have:y=v:=by omega
   subst this
   exact ⟨tieT_around.mpr t,mem_natIp.mpr ⟨u,ul,rfl⟩⟩
 rintro m σ H6 ⟨pp,pm,P,M,rfl,s6,fpp,hp6,hm6,lM,rfl,up,vP,sP,mM⟩
 refine ⟨_,rfl,_,.inl ⟨_,SqL.of hm6,rfl⟩,?_⟩
 have clo:∀ u,PathT ts ls v u->M=[]->u∈ls->(u:Int)∈P:=λ u pth=>by
  intro eM
  have step:∀ {y u:Nat},(y:Int)∈P->u∈ls->tieT ts y u=true->(u:Int)∈P:=λ {y u} hy hu t=>by
   apply Classical.byContradiction
   intro c
   have:(u:Int)∈M:=(mM _).mpr ⟨u,rfl,hu,c,y,hy,t⟩
   rw [eM] at this
   exact absurd this List.not_mem_nil
  induction pth with
  | one t=>exact λ hu=>step vP hu t
  | step _ m t ih=>exact λ hu=>step (ih m) hu t
 by_cases hM:M=[]
 ·rw [show (!(M.map V.int).isEmpty)=false by rw [hM]; rfl]
  refine iteF ⟨_,rfl,?_⟩
  obtain ⟨p,ep,pu⟩:=c9R up λ x hx=>by
   obtain ⟨u,e,_⟩:=sP x hx
   omega
  have hp6':H6 pp=some (.lst (natV p)):=by
   rw [hp6,ep,a1D]; rfl
  refine q pp p H6 s6 fpp hp6' ⟨pu,λ y=>?_⟩
  have inP:(y:Int)∈P↔y∈p:=by
   rw [ep,mem_natIp]
   constructor
   ·rintro ⟨u,hu,e⟩
    have:u=y:=by omega
    rw [<- this]; exact hu
   ·exact λ h=>⟨y,h,rfl⟩
  rw [<- inP]
  constructor
  ·intro h
   obtain ⟨u,e,ul,c⟩:=sP _ h
   have:u=y:=by omega
   subst this
   exact ⟨ul,c⟩
  ·rintro ⟨yl,c⟩
   rcases c with c | c
   ·rw [c]; exact vP
   ·exact clo y c hM yl
 ·have Mne:M≠[]:=hM
  rw [show (!(M.map V.int).isEmpty)=true by
   cases M with
   | nil=>exact absurd rfl hM
   | cons _ _=>rfl]
  refine iteT ⟨λ σ' H'=>∃ m',m' < ls.length - P.length/\Iw m' σ' H',λ σ' H' z=>z,?_⟩
  have smP:b1L P:=λ x hx=>by
   obtain ⟨u,e,ul,_⟩:=sP x hx
   have:=hn u ul
   omega
  have smM:b1L M:=λ x hx=>by
   obtain ⟨u,e,ul,_⟩:=(mM x).mp hx
   have:=hn u ul
   omega
  refine ⟨_,rfl,_,rfl,pp,pm,P,M,rfl,SqL.of hp6,SqL.of hm6,smP,smM,λ H7 p8 H8 s7 n8=>?_⟩
  have s68:Same H6 H8:=s7.trans n8.same
  have s08:=s6.trans s68
  have mJ:∀ x,x∈a2C P M↔x∈P\/x∈M:=λ x=>by
   unfold a2C
   rw [mem_upF,decide_eq_true_iff]
   constructor
   ·exact λ h=>h.2.2
   ·intro h
    have:=h.elim (smP x) (smM x)
    exact ⟨this.1,this.2,h⟩
  have sJ:∀ x∈a2C P M,∃ u:Nat,x=(u:Int)/\u∈ls/\(u=v\/PathT ts ls v u):=λ x hx=>by
   rcases (mJ x).mp hx with h | h
   ·exact sP x h
   ·obtain ⟨u,e,ul,_,y,hy,t⟩:=(mM x).mp h
    refine ⟨u,e,ul,.inr ?_⟩
    obtain ⟨y',ey,yl,c⟩:=sP _ hy
    have:y'=y:=by omega
    subst this
    rcases c with c | c
    ·rw [<- c]; exact .one t
    ·exact .step c yl t
  have rb:∀ x∈a2C P M,0<=x/\x < ((n:Nat):Int):=λ x hx=>by
   obtain ⟨u,e,ul,_⟩:=sJ x hx
   have:=hn u ul
   omega
  refine ⟨_,rfl,_,rfl,g,(n:Int),ts,p8,a2C P M,rfl,hG.same s08,by omega,by omega,t16,SqL.of n8.here,rb,λ H9 p10 H10 s9 n10=>?_⟩
  have s8_10:Same H8 H10:=s9.trans n10.same
  have s0_10:=s08.trans s8_10
  have rl:(rimF ts (a2C P M)).length<=1000:=by
   unfold rimF a3S
   refine Nat.le_trans (List.length_filter_le _ _) (Nat.le_trans (c1U _) (by decide))
  refine ⟨_,rfl,p10,a,_,_,rfl,SqL.of n10.here,hA' s0_10,rl,λ H11 p12 H12 s11 n12=>?_⟩
  have s8_12:Same H8 H12:=s8_10.trans (s11.trans n12.same)
  have Jlen:P.length < (a2C P M).length:=by
   obtain ⟨z,zr,ez⟩:=List.exists_cons_of_ne_nil Mne
   have zM:z∈M:=by rw [ez]; exact List.mem_cons_self
   obtain ⟨_,_,_,zP,_⟩:=(mM z).mp zM
   have ndP:P.Nodup:=up.imp λ h=>Int.ne_of_lt h
   have:=pigJ (l:=z::P) (U:=a2C P M) (List.nodup_cons.mpr ⟨zP,ndP⟩) λ x hx=>by
    rcases List.mem_cons.mp hx with e | h
    ·rw [e]; exact (mJ z).mpr (.inr zM)
    ·exact (mJ x).mpr (.inl h)
   exact this
  have Jle:(a2C P M).length<=ls.length:=by
   have nd2:(a2C P M).Nodup:=(b3F _).imp λ h=>Int.ne_of_lt h
   have:=pigJ (l:=a2C P M) (U:=a1U ls) nd2 λ x hx=>by
    obtain ⟨u,e,ul,_⟩:=sJ x hx
    exact mem_natIp.mpr ⟨u,ul,e⟩
   unfold a1U at this
   rw [List.length_map] at this
   exact this
  refine ⟨_,by omega,p8,p12,a2C P M,_,rfl,s08.trans s8_12,s6.free (s7.free n8.fresh),s8_12 _ _ n8.here,n12.here,Nat.le_trans (List.length_filter_le _ _) rl,rfl,b3F _,(mJ _).mpr (.inl vP),sJ,λ x=>?_⟩
  unfold b5L rimF a3S b3K
  rw [List.mem_filter,decide_eq_true_iff,List.mem_filter,mem_upF,List.any_eq_true]
  constructor
  ·rintro ⟨⟨⟨_,_,y,hy,ty⟩,nj⟩,hx⟩
   obtain ⟨u,ul,e⟩:=mem_natIp.mp hx
   subst e
   obtain ⟨y',ey,_⟩:=sJ y hy
   subst ey
   refine ⟨u,rfl,ul,by simpa using nj,y',hy,tieT_around.mp (of_decide_eq_true ty)⟩
  ·rintro ⟨u,rfl,ul,nj,y,hy,t⟩
   have:=hn u ul
   exact ⟨⟨⟨by omega,by omega,(y:Int),hy,decide_eq_true (tieT_around.mpr t)⟩,by simpa using nj⟩,mem_natIp.mpr ⟨u,ul,rfl⟩⟩
abbrev DZ37 (K:PySem.W.Frag) (mg:Str->Option Value):=Dn K mg "pieces" b7B ["graph", "places"]
set_option maxHeartbeats 8000000 in
theorem b4B (B:Bl mg) (dZ24:DZ24 K mg) (dZ21:DZ21 K mg) (dZ12:DZ12 K mg) (dZ25:DZ25 K mg) (dZ31:DZ31 K mg) (dZ10:DZ10 K mg) (dZ40:DZ40 K mg) (dZ36:DZ36 K mg) (dZ37:DZ37 K mg):FnOk P w K mg base CX0 6 dZ37.f dZ37.fd ["graph", "places"] (c5Y K):=by
 have gZ36:FnOk P w K mg base CX0 5 _ _ _ _:=b1W B dZ24 dZ21 dZ12 dZ25 dZ31 dZ10 dZ40 dZ36
 have gZ31:FnOk P w K mg base CX0 5 _ _ _ _:=(a8Y B dZ31).mono (by decide)
 refine dZ37.F.ok sc_pieces (λ vs H Q E h=>?_) (λ cdv A outer s H vs Q E hr h=>?_)
 ·obtain ⟨g,n,ts,a,ls,rfl,_⟩:=h
  rfl
 obtain ⟨g,n,ts,a,ls,rfl,hG,okt,n10,l100,hA,up,hn,q⟩:=h
 have nd:ls.Nodup:=up.imp λ h=>Nat.ne_of_lt h
 have ll:=a3P nd hn
 refine ⟨_,(a0C (a0J (i:=2) sc_pieces.nd rfl (Or.inl rfl) (a1M a0B))
   (a0C (a0J (i:=3) sc_pieces.nd rfl (Or.inl rfl) (pv 1))
   (a0C (a5X PassesOwn.never (a0R (K:=K) rfl (pv 3) (λ _=>rfl))
   (a0C (a0J (i:=4) sc_pieces.nd rfl (Or.inl rfl) (a0G gZ36 hr rfl dZ36.m dZ36.F.kp dZ36.b .nil a0S (a0A (pv 0) (a0A (pv 3) (a0A (a0V (a0L (K:=K) rfl) (pv 3) a0E (λ _ _=>rfl)) a0B)))))
   (a0C (a2D (a3F (K:=K) rfl PySem.F.plainAttrs_list PySem.F.slot_list_append PySem.F.type_list_append a1V (pv 2) (a0A (pv 4) a0B)))
   (a0D (a0J (i:=3) sc_pieces.nd rfl (Or.inl rfl) (a0G gZ31 hr rfl dZ31.m dZ31.F.kp dZ31.b .nil a0S (a0A (pv 3) (a0A (pv 4) a0B))))))))
   (a0D (a0N (pv 2)))))),?_⟩
 refine ⟨(by show 0<=1000; decide),λ pt H1 n1=>?_⟩
 refine ⟨_,rfl,?_⟩
 let Iw:Nat->St->Hp->Prop:=λ m σ H'=>∃ (al:Addr) (lf:List Nat) (ps:List (List Nat)) (qs:List Addr) (pp:Option V),σ=[some g,some (.ref a),some (.ref pt),some (.ref al),pp]/\Same H H'/\H' pt=some (.lst (qs.map V.ref))/\pt ∉ qs/\al≠pt/\Paired (λ q l=>H' q=some (.lst (natV l))) qs ps/\SqL K H' al (natV lf)/\m=lf.length/\lf.Sublist ls/\qs.length+lf.length<=ls.length /\
   (∀ p∈ps,p.Sublist ls/\p≠[]/\(∀ x∈p,∀ y∈p,x=y\/PathT ts p x y)/\(∀ x∈p,x ∉ lf)/\∀ x∈p,∀ y∈lf,tieT ts x y=false)/\(∀ x∈ls,x∈lf\/∃ p∈ps,x∈p)/\(ps.Pairwise λ p q=>∀ x∈p,x ∉ q)/\(ps.Pairwise λ p q=>∀ x∈p,∀ y∈q,tieT ts x y=false)/\d2W ps/\(∀ p∈ps,∀ y∈lf,p.headD 0 < y)/\∀ q∈qs,H q=none
 refine ⟨Iw,
  ⟨_,a,ls,[],[],none,rfl,n1.same,n1.here,List.not_mem_nil,?_,.nil,SqL.of (n1.same _ _ hA),rfl,List.Sublist.refl _,by simp,λ p hp=>absurd hp List.not_mem_nil,λ x hx=>.inl hx,.nil,.nil,.nil,λ p hp=>absurd hp List.not_mem_nil,λ q hq=>absurd hq List.not_mem_nil⟩,?_⟩
 ·intro z
  have:=n1.fresh
  rw [<- z,hA] at this
  cases this
 rintro m σ H2 ⟨al,lf,ps,qs,pp,rfl,s2,ht2,nq,alt,pq,hl2,rfl,sub,cnt,pr,all,dis,apa,hds,hlo,fqs⟩
 refine ⟨_,rfl,_,.inl ⟨_,hl2,rfl⟩,?_⟩
 by_cases hlf:lf=[]
 ·rw [show (!(natV lf).isEmpty)=false by rw [hlf]; rfl]
  refine iteF ⟨_,rfl,q pt ps H2 s2 n1.fresh ⟨qs,ht2,nq,fqs,pq⟩ ⟨λ p hp=>(pr p hp).1,λ p hp=>(pr p hp).2.1,λ x hx=>?_,dis,apa,λ p hp=>(pr p hp).2.2.1⟩ hds⟩
  rcases all x hx with h | h
  ·rw [hlf] at h; exact absurd h List.not_mem_nil
  ·exact h
 ·rw [show (!(natV lf).isEmpty)=true by
   cases lf with
   | nil=>exact absurd rfl hlf
   | cons _ _=>rfl]
  obtain ⟨v,lr,el⟩:=List.exists_cons_of_ne_nil hlf
  have vl:v∈lf:=by rw [el]; exact List.mem_cons_self
  have upf:lf.Pairwise (· < ·):=up.sublist sub
  have ndf:lf.Nodup:=nd.sublist sub
  have at0:atI (natV lf) 0=some (.int (v:Int)):=by
   have:atI (natV lf) ((0:Nat):Int)=some (.int (v:Int)):=a1L (by rw [el]; rfl)
   exact this
  refine iteT ⟨λ σ' H'=>∃ m',m' < lf.length/\Iw m' σ' H',λ σ' H' z=>z,?_⟩
  refine ⟨_,rfl,_,rfl,_,rfl,al,_,_,_,rfl,rfl,hl2,at0,g,n,ts,al,lf,v,rfl,hG.same s2,okt,n10,l100,hl2,ndf,λ x hx=>hn x (sub.subset hx),vl,λ pr3 p H3 s3 f3 h3 PO=>?_⟩
  have vp:v∈p:=(PO.mem v).mpr ⟨vl,.inl rfl⟩
  have s03:=s2.trans s3
  have ht3:=s3 _ _ ht2
  have lq2:=Paired.length pq
  refine ⟨_,rfl,.inl ⟨rfl,_,SqL.of ht3⟩,_,rfl,pt,_,_,rfl,rfl,ht3,by rw [List.length_map]; omega,λ H4 c4=>?_⟩
  have s04:Same H H4:=s03.chg n1.fresh c4
  have p3t:pr3≠pt:=λ z=>by
   rw [z,ht2] at f3
   cases f3
  have h4:H4 pr3=some (.lst (natV p)):=(c4.rest pr3 p3t).trans h3
  have hl4:SqL K H4 al (natV lf):=d2X (s3.seq hl2) alt c4
  have hl4':SqL K H4 al ((a1U lf).map V.int):=by rw [a1D] at hl4; exact hl4
  have h4':SqL K H4 pr3 ((a1U p).map V.int):=by
   have:=SqL.of (K:=K) h4
   rw [a1D] at this
   exact this
  have lfl:lf.length<=10:=by have:=sub.length_le; omega
  refine ⟨_,rfl,_,rfl,al,pr3,_,_,rfl,hl4',h4',by unfold a1U; rw [List.length_map]; omega,λ H5 p6 H6 s5 n6=>?_⟩
  have s46:Same H4 H6:=s5.trans n6.same
  have e6:a3S (a1U lf) (a1U p)=a1U (lf.filter λ x=>!decide (x∈p)):=by
   unfold a3S a1U
   rw [List.filter_map]
   refine congrArg _ (List.filter_congr λ x _=>?_)
   show (!decide ((x:Int)∈p.map λ (y:Nat)=>(y:Int)))=_
   rw [show decide ((x:Int)∈p.map λ (y:Nat)=>(y:Int))=decide (x∈p) from decide_eq_decide.mpr (by
    rw [List.mem_map]
    constructor
    ·rintro ⟨y,hy,e⟩
     have:y=x:=by omega
     rw [<- this]; exact hy
    ·exact λ h=>⟨x,h,rfl⟩)]
  have h6:H6 p6=some (.lst (natV (lf.filter λ x=>!decide (x∈p)))):=by
   rw [n6.here,e6,a1D]; rfl
  have p6t:p6≠pt:=λ z=>by
   have:=n6.fresh
   rw [z,s5 _ _ c4.here] at this
   cases this
  have lf':(lf.filter λ x=>!decide (x∈p)).length < lf.length:=by
   have:=List.length_filter_lt_length_iff_exists (l:=lf) (p:=λ x=>!decide (x∈p))
   refine this.mpr ⟨v,vl,?_⟩
   rw [decide_eq_true vp]; exact Bool.false_ne_true
  have subp:p.Sublist lf:=b8W PO.up upf λ x hx=>((PO.mem x).mp hx).1
  have mf:∀ x,(x∈lf.filter λ x=>!decide (x∈p))↔x∈lf/\x ∉ p:=λ x=>by rw [List.mem_filter]; simp
  have headP:p.headD 0=v:=by
   obtain ⟨x,r,ex⟩:=List.exists_cons_of_ne_nil (List.ne_nil_of_mem vp)
   have xl:x∈lf:=subp.subset (by rw [ex]; exact List.mem_cons_self)
   have h1:v<=x:=by
    rw [el] at xl
    rcases List.mem_cons.mp xl with c | c
    ·omega
    ·have:=(List.pairwise_cons.mp (el ▸ upf)).1 x c; omega
   have h2:x<=v:=by
    have vp':=vp
    rw [ex] at vp'
    rcases List.mem_cons.mp vp' with c | c
    ·omega
    ·have:=(List.pairwise_cons.mp (ex ▸ PO.up)).1 v c; omega
   rw [ex]
   show x=v
   omega
  have inP:∀ u,PathT ts lf v u->PathT ts p v u:=λ u pth=>by
   induction pth with
   | one t=>exact .one t
   | step q m t ih=>exact .step ih ((PO.mem _).mpr ⟨m,.inr q⟩) t
  have conv:∀ x∈p,x=v\/PathT ts p v x:=λ x hx=>((PO.mem x).mp hx).2.imp id (inP x)
  refine ⟨_,lf',p6,lf.filter λ x=>!decide (x∈p),ps++[p],qs++[pr3],_,rfl,s04.trans s46,?_,?_,p6t,?_,SqL.of h6,rfl,List.filter_sublist.trans sub,?_,?_,?_,?_,?_,?_,?_,?_⟩
  ·rw [s46 _ _ c4.here,List.map_append]; rfl
  ·intro z
   rcases List.mem_append.mp z with z | z
   ·exact nq z
   ·exact p3t (List.mem_singleton.mp z).symm
  ·refine a1T (b0O pq λ q l hq h=>s46 _ _ ((c4.rest q λ z=>nq (by rw [<- z]; exact hq)).trans (s3 _ _ h))) (s46 _ _ h4)
  ·rw [List.length_append]
   show qs.length+1+_<=_
   omega
  ·intro q hq
   rcases List.mem_append.mp hq with hq | hq
   ·obtain ⟨a1,a2,a3,a4,a5⟩:=pr q hq
    exact ⟨a1,a2,a3,λ x hx z=>a4 x hx ((mf x).mp z).1,λ x hx y hy=>a5 x hx y ((mf y).mp hy).1⟩
   ·rw [List.mem_singleton.mp hq]
    refine ⟨subp.trans sub,List.ne_nil_of_mem vp,λ x hx y hy=>?_,λ x hx z=>((mf x).mp z).2 hx,λ x hx y hy=>?_⟩
    ·by_cases c:x=y
     ·exact .inl c
     ·refine .inr ?_
      rcases conv x hx with e | p1
      ·rcases conv y hy with e' | p2
       ·exact absurd (e.trans e'.symm) c
       ·rw [e]; exact p2
      ·rcases conv y hy with e' | p2
       ·rw [e']; exact p1.symm
       ·exact PathT.glue vp p1.symm p2
    ·obtain ⟨yl,yp⟩:=(mf y).mp hy
     cases t:tieT ts x y with
     | false=>rfl
     | true =>
      refine absurd ((PO.mem y).mpr ⟨yl,.inr ?_⟩) yp
      obtain ⟨xl,c⟩:=(PO.mem x).mp hx
      rcases c with c | c
      ·rw [<- c]; exact .one t
      ·exact .step c xl t
  ·intro x hx
   rcases all x hx with h | ⟨q,hq,h⟩
   ·by_cases c:x∈p
    ·exact .inr ⟨p,List.mem_append_right _ (List.mem_singleton.mpr rfl),c⟩
    ·exact .inl ((mf x).mpr ⟨h,c⟩)
   ·exact .inr ⟨q,List.mem_append_left _ hq,h⟩
  ·refine List.pairwise_append.mpr ⟨dis,List.pairwise_singleton _ _,λ q hq r hr x hx z=>?_⟩
   rw [List.mem_singleton.mp hr] at z
   exact (pr q hq).2.2.2.1 x hx (subp.subset z)
  ·refine List.pairwise_append.mpr ⟨apa,List.pairwise_singleton _ _,λ q hq r hr x hx y hy=>?_⟩
   rw [List.mem_singleton.mp hr] at hy
   exact (pr q hq).2.2.2.2 x hx y (subp.subset hy)
  ·refine List.pairwise_append.mpr ⟨hds,List.pairwise_singleton _ _,λ q hq r hr=>?_⟩
   rw [List.mem_singleton.mp hr,headP]
   exact hlo q hq v vl
  ·intro q hq y hy
   obtain ⟨yl,yp⟩:=(mf y).mp hy
   rcases List.mem_append.mp hq with hq | hq
   ·exact hlo q hq y yl
   ·rw [List.mem_singleton.mp hq,headP]
    rw [el] at yl
    rcases List.mem_cons.mp yl with c | c
    ·exact absurd (c ▸ vp) yp
    ·exact (List.pairwise_cons.mp (el ▸ upf)).1 y c
  ·intro q hq
   rcases List.mem_append.mp hq with hq | hq
   ·exact fqs q hq
   ·rw [List.mem_singleton.mp hq]; exact s2.free f3
abbrev DZ22 (K:PySem.W.Frag) (mg:Str->Option Value):=Dn K mg "is_joined" a9E ["graph", "places"]
set_option maxHeartbeats 8000000 in
theorem b4C (B:Bl mg) (dZ24:DZ24 K mg) (dZ21:DZ21 K mg) (dZ12:DZ12 K mg) (dZ25:DZ25 K mg) (dZ31:DZ31 K mg) (dZ10:DZ10 K mg) (dZ40:DZ40 K mg) (dZ36:DZ36 K mg) (dZ37:DZ37 K mg) (dZ22:DZ22 K mg):FnOk P w K mg base CX0 7 dZ22.f dZ22.fd ["graph", "places"] (c5Z K):=by
 have gZ37:FnOk P w K mg base CX0 6 _ _ _ _:=b4B B dZ24 dZ21 dZ12 dZ25 dZ31 dZ10 dZ40 dZ36 dZ37
 refine dZ22.F.ok b4A (λ vs H Q E h=>?_) (λ cdv A outer s H vs Q E hr h=>?_)
 ·obtain ⟨g,n,ts,a,ls,rfl,_⟩:=h
  rfl
 obtain ⟨g,n,ts,a,ls,rfl,hG,okt,n10,l100,hA,up,hn,q⟩:=h
 refine ⟨_,(a0D (a0N (a4E a3Q (a0I (a0T (K:=K) rfl) rfl B.len (by decide +kernel) (a0A (a0G gZ37 hr rfl dZ37.m dZ37.F.kp dZ37.b .nil a0S (a0A (pv 0) (a0A (pv 1) a0B))) a0B)) a0E (a0U _)))),?_⟩
 refine ⟨_,rfl,_,rfl,g,n,ts,a,ls,rfl,hG,okt,n10,l100,hA,up,hn,λ r ps H1 s1 f1 ⟨qs,h1,_,_,d1⟩ PO _=>?_⟩
 have lq:=Paired.length d1
 refine ⟨r,_,rfl,.inl (SqL.of h1),rfl,?_⟩
 refine q _ H1 s1 ?_
 rw [decide_eq_true_iff,List.length_map,lq,<- c9S PO]
 constructor
 ·intro h; injection h with h; omega
 ·intro h; rw [h]; rfl
end
end K
namespace K
open PySem L2 Lw Bg
theorem b4D {n:Nat}:∀ {ls:List Nat},ls.Nodup->(∀ v∈ls,v < n)->∃ M:Nat,(ls.map λ (v:Nat)=>((2 ^ v:Nat):Int)).sum=(M:Int)/\M < 2 ^ n/\∀ u,M.testBit u=true↔u∈ls
 | [],_,_=>⟨0,rfl,Nat.pow_pos (by decide),λ u=>by rw [Nat.zero_testBit]; simp⟩
 | v::r,nd,hn=>by
  obtain ⟨nv,nr⟩:=List.nodup_cons.mp nd
  obtain ⟨M,e,l,t⟩:=b4D nr λ x hx=>hn x (List.mem_cons_of_mem _ hx)
  have vn:=hn v List.mem_cons_self
  have f:M.testBit v=false:=by
   cases c:M.testBit v with
   | false=>rfl
   | true=>exact absurd ((t v).mp c) nv
  obtain ⟨_,_,a⟩:=a3T f
  refine ⟨M ||| 2 ^ v,?_,Nat.or_lt_two_pow l (Nat.pow_lt_pow_right (by decide) vn),λ u=>?_⟩
  ·rw [List.map_cons,List.sum_cons,e,<- a]; omega
  ·rw [Nat.testBit_or,Nat.testBit_two_pow,Bool.or_eq_true,t u,decide_eq_true_iff,List.mem_cons]
   constructor
   ·rintro (h | h)
    ·exact .inr h
    ·exact .inl h.symm
   ·rintro (h | h)
    ·exact .inr h.symm
    ·exact .inl h
abbrev c7J:Stmt:=top 41
theorem sc_flaw:FnScope ["graph", "sets", "k", "places", "bags", "parts", "j", "near"] ["graph", "sets"] (a0F c7J):=⟨rfl,rfl,rfl,by decide +kernel,rfl,by decide +kernel,by decide +kernel⟩
abbrev b7C:Stmt:=top 42
theorem sc_nearby:FnScope ["bags", "places", "near", "v"] ["bags", "places"] (a0F b7C):=⟨rfl,rfl,rfl,by decide +kernel,rfl,by decide +kernel,by decide +kernel⟩
inductive FlawR where
 | ok
 | part (k:Nat)
 | apart (j k:Nat)
def c2V (J:Nat->Prop) (T:Nat->Nat->Prop) (m:Nat):FlawR->Prop
 | .ok=>(∀ i,i < m->J i)/\∀ j k,j < k->k < m->T j k
 | .part k=>k < m/\¬ J k/\∀ i,i < k->J i
 | .apart j k=>(∀ i,i < m->J i)/\j < k/\k < m/\¬ T j k/\(∀ j' k',j' < j->j' < k'->k' < m->T j' k')/\∀ k',j < k'->k' < k->T j k'
theorem c2W {J:Nat->Prop} {T:Nat->Nat->Prop} {m:Nat} {r s:FlawR} (hr:c2V J T m r) (hs:c2V J T m s):r=s:=by
 cases r with
 | ok =>
  cases s with
  | ok=>rfl
  | part k=>exact absurd (hr.1 k hs.1) hs.2.1
  | apart j k=>exact absurd (hr.2 j k hs.2.1 hs.2.2.1) hs.2.2.2.1
 | part k =>
  cases s with
  | ok=>exact absurd (hs.1 k hr.1) hr.2.1
  | part k' =>
   rcases Nat.lt_trichotomy k k' with c | c | c
   ·exact absurd (hs.2.2 k c) hr.2.1
   ·rw [c]
   ·exact absurd (hr.2.2 k' c) hs.2.1
  | apart j k'=>exact absurd (hs.1 k hr.1) hr.2.1
 | apart j k =>
  obtain ⟨a1,a2,a3,a4,a5,a6⟩:=hr
  cases s with
  | ok=>exact absurd (hs.2 j k a2 a3) a4
  | part k'=>exact absurd (a1 k' hs.1) hs.2.1
  | apart j' k' =>
   obtain ⟨b1,b2,b3,b4,b5,b6⟩:=hs
   rcases Nat.lt_trichotomy j j' with c | c | c
   ·exact absurd (b5 j k c a2 a3) a4
   ·subst c
    rcases Nat.lt_trichotomy k k' with d | d | d
    ·exact absurd (b6 k a2 d) a4
    ·rw [d]
    ·exact absurd (a6 k' b2 d) b4
   ·exact absurd (a5 j' k' c b2 b3) b4
def d4Y (H:Hp) (v:V):FlawR->Prop
 | .ok=>v = .non
 | .part k=>∃ p,v = .ref p/\H p=some (.tup [.str "part", .int (k:Int)])
 | .apart j k=>∃ p,v = .ref p/\H p=some (.tup [.str "apart", .int (j:Int),.int (k:Int)])
def c9T (ts:List ζζ) (p q:List Nat):Prop:=∃ y∈q,∃ x∈p,x=y\/tieT ts x y=true
def c6A (ts:List ζζ) (ss:List (List Nat)) (i:Nat):Prop:=b0N ts (ss.getD i [])
def b4E (ts:List ζζ) (ss:List (List Nat)) (j k:Nat):Prop:=c9T ts (ss.getD j []) (ss.getD k [])
structure SetsOk (n:Nat) (ss:List (List Nat)):Prop where
 up:∀ p∈ss,p.Pairwise (· < ·)
 lt:∀ p∈ss,∀ x∈p,x < n
 len:ss.length<=400
def c9U (K:Φρ):Sp:=λ vs H Q _=>∃ (a:Addr) (ls:List Nat) (n:Nat),vs=[.ref a]/\SqL K H a (natV ls)/\ls.Nodup/\(∀ v∈ls,v < n)/\n<=10/\∀ H',Same H H'->Q (.int ((a0W ls:Nat):Int)) H'
def c6B (K:Φρ):Sp:=λ vs H Q _=>∃ (b a:Addr) (n:Nat) (ts:List ζζ) (ms:List Nat) (ls:List Nat),vs=[.ref b,.ref a]/\SqL K H b (natV ms)/\BagsM n ms (a2W n ts)/\SqL K H a (natV ls)/\(∀ v∈ls,v < n)/\∀ (m:Nat),(∀ u,m.testBit u=true↔∃ v∈ls,a2W n ts v u=true)->Q (.int (m:Int)) H
def d2Y (K:Φρ):Sp:=λ vs H Q _=>∃ (g:V) (n:Nat) (ts:List ζζ) (a:Addr) (ss:List (List Nat)),vs=[g,.ref a]/\GraphV K H g n ts/\(∀ t∈ts,0<=t.1/\t.1 < t.2/\t.2 < (n:Int))/\n<=10/\ts.length<=100/\b8V H a ss/\SetsOk n ss /\
 ∀ v r H',Same H H'->d4Y H' v r->c2V (c6A ts ss) (b4E ts ss) ss.length r->Q v H'
theorem and_zero {a b:Nat}:a &&& b=0↔¬ ∃ u,a.testBit u=true/\b.testBit u=true:=by
 constructor
 ·rintro h ⟨u,h1,h2⟩
  have:(a &&& b).testBit u=true:=by rw [Nat.testBit_and,h1,h2]; rfl
  rw [h,Nat.zero_testBit] at this
  cases this
 ·intro h
  refine Nat.eq_of_testBit_eq λ u=>?_
  rw [Nat.zero_testBit,Nat.testBit_and]
  cases c:a.testBit u with
  | false=>rfl
  | true =>
   cases d:b.testBit u with
   | false=>rfl
   | true=>exact absurd ⟨u,c,d⟩ h
section
variable {P:Program} {w:World} {K:Φρ} {mg:Str->Option Value} {base:Heap}
set_option maxHeartbeats 4000000 in
theorem a7B (B:Bl mg) (Bs:mg "sum" = none) (dZ32:DZ32 K mg):FnOk P w K mg base CX0 1 dZ32.f dZ32.fd ["places"] (c9U K):=by
 refine dZ32.F.ok b0L (λ vs H Q E h=>?_) (λ cdv A outer s H vs Q E hr h=>?_)
 ·obtain ⟨a,ls,n,rfl,_⟩:=h
  rfl
 obtain ⟨a,ls,n,rfl,hA,nd,hn,n10,q⟩:=h
 have ll:=a3P nd hn
 refine ⟨_,(a0D (a0N (a0I (b3B (K:=K) rfl rfl) rfl Bs (by decide +kernel) (a0A (a2V ["v"] [none]  (by kernel_rfl) rfl (a0O (K:=K) rfl (pv 0)) (λ _ _ _ _ _=>(a0H (i:=0) (show (["v"]:List Str).Nodup by decide +kernel) rfl (Or.inl rfl))) (λ _ _ _ _ _=>a1H) (λ _ _ _ _ _=>(a0Q a3X a0E (pv 0)))) a0B)))),?_⟩
 refine ⟨_,rfl,a,rfl,⟨_,hA⟩,?_⟩
 refine a4T (λ x=>match x with | .int z=>some (.int ((2 ^ z.toNat:Nat):Int)) | _=>none) hA (by rw [a1J]; omega) (λ x H1 N hx s1 hN=>?_) (λ H1 p H2 s1 n2=>?_)
 ·obtain ⟨v,hv,rfl⟩:=List.mem_map.mp hx
  have hN':=hN H1 s1
  dsimp only at hN'
  rw [Int.toNat_natCast] at hN'
  have vn:=hn v hv
  refine ⟨_,rfl,_,_,rfl,rfl,⟨by omega,by omega,by decide⟩,?_⟩
  dsimp only
  rw [shl1]
  exact hN'
 have e2:(natV ls).filterMap (λ x=>match x with | .int z=>some (V.int ((2 ^ z.toNat:Nat):Int)) | _=>none)=(ls.map λ (v:Nat)=>((2 ^ v:Nat):Int)).map V.int:=by
  unfold natV
  rw [List.filterMap_map,List.map_map]
  refine a3R λ m _=>?_
  simp only [Function.comp_apply,Int.toNat_natCast]
 rw [e2] at n2
 obtain ⟨M,e,l,t⟩:=b4D nd hn
 refine ⟨p,_,rfl,SqL.of n2.here,?_⟩
 rw [e,c9Q t]
 exact q H2 (s1.trans n2.same)
abbrev DZ34 (K:PySem.W.Frag) (mg:Str->Option Value):=Dn K mg "nearby" b7C ["bags", "places"]
set_option maxHeartbeats 4000000 in
theorem c2X (B:Bl mg) (dZ34:DZ34 K mg):FnOk P w K mg base CX0 1 dZ34.f dZ34.fd ["bags", "places"] (c6B K):=by
 refine dZ34.F.ok sc_nearby (λ vs H Q E h=>?_) (λ cdv A outer s H vs Q E hr h=>?_)
 ·obtain ⟨b,a,n,ts,ms,ls,rfl,_⟩:=h
  rfl
 obtain ⟨b,a,n,ts,ms,ls,rfl,hb,BM,hA,hn,q⟩:=h
 refine ⟨_,(a0C (a0J (i:=2) sc_nearby.nd rfl (Or.inl rfl) a0E)
   (a0C (a1Q PassesOwn.never rfl (a0O (K:=K) rfl (pv 1)) (a0H (i:=3) sc_nearby.nd rfl (Or.inl rfl))
   (a0D (a0J (i:=2) sc_nearby.nd rfl (Or.inl rfl) (a0Q b4Q (pv 2) (a0V (a0L (K:=K) rfl) (pv 0) (pv 3) (λ _ _=>rfl))))))
   (a0D (a0N (pv 2))))),?_⟩
 refine ⟨_,rfl,a,rfl,⟨_,hA⟩,?_⟩
 refine a2G (xs:=natV ls) (λ i σ H'=>(∃ (m:Nat) (vv:Option V),σ=[some (.ref b),some (.ref a),some (.int (m:Int)),vv]/\∀ u,m.testBit u=true↔∃ v∈ls.take i,a2W n ts v u=true)/\H'=H) ⟨⟨0,none,rfl,λ u=>by rw [Nat.zero_testBit]; simp⟩,rfl⟩ (λ i σ H' _ ⟨_,e⟩=>by rw [e]; exact hA) ?_ ?_
 ·rintro i x σ H1 hx ⟨⟨m,vv,rfl,hm⟩,rfl⟩
  rw [List.getElem?_map] at hx
  obtain ⟨v,hv,rfl⟩:=Option.map_eq_some_iff.mp hx
  obtain ⟨hil,hiv⟩:=List.getElem?_eq_some_iff.mp hv
  have vn:=hn v (List.mem_of_getElem? hv)
  refine ⟨_,rfl,_,rfl,_,rfl,b,_,_,_,rfl,rfl,hb,a5Q (by rw [BM.len]; exact vn),_,_,rfl,rfl,?_⟩
  dsimp only
  rw [b0B]
  refine ⟨⟨_,_,rfl,λ u=>?_⟩,rfl⟩
  rw [Nat.testBit_or,Bool.or_eq_true,hm,BM.bit v vn,List.take_succ_eq_append_getElem hil,hiv]
  constructor
  ·rintro (⟨w,hw,t⟩ | t)
   ·exact ⟨w,List.mem_append_left _ hw,t⟩
   ·exact ⟨v,List.mem_append_right _ (List.mem_singleton.mpr rfl),t⟩
  ·rintro ⟨w,hw,t⟩
   rcases List.mem_append.mp hw with hw | hw
   ·exact .inl ⟨w,hw,t⟩
   ·rw [List.mem_singleton.mp hw] at t; exact .inr t
 ·rintro σ H1 ⟨⟨m,vv,rfl,hm⟩,rfl⟩
  rw [a1J,List.take_length] at hm
  exact ⟨_,rfl,q m hm⟩
abbrev DZ18 (K:PySem.W.Frag) (mg:Str->Option Value):=Dn K mg "flaw" c7J ["graph", "sets"]
set_option maxHeartbeats 8000000 in
theorem c9V (B:Bl mg) (Bs:mg "sum" = none) (dZ24:DZ24 K mg) (dZ21:DZ21 K mg) (dZ23:DZ23 K mg) (dZ12:DZ12 K mg) (dZ25:DZ25 K mg) (dZ31:DZ31 K mg) (dZ10:DZ10 K mg) (dZ22:DZ22 K mg) (dZ37:DZ37 K mg) (dZ36:DZ36 K mg) (dZ40:DZ40 K mg) (dZ32:DZ32 K mg) (dZ17:DZ17 K mg) (dZ18:DZ18 K mg) (dZ34:DZ34 K mg):FnOk P w K mg base CX0 8 dZ18.f dZ18.fd ["graph", "sets"] (d2Y K):=by
 have gZ22:FnOk P w K mg base CX0 7 _ _ _ _:=b4C B dZ24 dZ21 dZ12 dZ25 dZ31 dZ10 dZ40 dZ36 dZ37 dZ22
 have gZ23:FnOk P w K mg base CX0 7 _ _ _ _:=(b3H B dZ24 dZ21 dZ23).mono (by decide)
 have gZ32:FnOk P w K mg base CX0 7 _ _ _ _:=(a7B B Bs dZ32).mono (by decide)
 have gZ17:FnOk P w K mg base CX0 7 _ _ _ _:=(a4N B dZ17).mono (by decide)
 have gZ34:FnOk P w K mg base CX0 7 _ _ _ _:=(c2X B dZ34).mono (by decide)
 refine dZ18.F.ok sc_flaw (λ vs H Q E h=>?_) (λ cdv A outer s H vs Q E hr h=>?_)
 ·obtain ⟨g,n,ts,a,ss,rfl,_⟩:=h
  rfl
 obtain ⟨g,n,ts,a,ss,rfl,hG,okt,n10,l100,⟨qs,hA,pq⟩,SO,q⟩:=h
 obtain ⟨pg,ta,rfl,hP,hT⟩:=id hG
 have lq:=Paired.length pq
 have slen:=SO.len
 have lqm:(qs.map V.ref).length=ss.length:=by rw [List.length_map,lq]
 refine ⟨_,(a0C (a1Q PassesOwn.never rfl (a4X (K:=K) rfl rfl B.enumerate (a0A (pv 1) a0B)) (a2N (K:=K) (n:=2) rfl rfl (a0X (a0H (i:=2) sc_flaw.nd rfl (Or.inl rfl)) (a0X (a0H (i:=3) sc_flaw.nd rfl (Or.inl rfl)) a2L)))
   (a0D (a1X (PW.pt (a4U (a3A (a0R (K:=K) rfl (a0G gZ23 hr rfl dZ23.m dZ23.F.kp dZ23.b .nil a0S (a0A (a0V (a0Z (K:=K) rfl) (pv 0) a0E (λ _ _=>rfl)) (a0A (pv 3) a0B))) (λ _=>rfl))) (a4S (a3A (a0R (K:=K) rfl (a0G gZ22 hr rfl dZ22.m dZ22.F.kp dZ22.b .nil a0S (a0A (pv 0) (a0A (pv 3) a0B))) (λ _=>rfl))))))
   (a0D (a0N (a2H (a0A b5Z (a0A (pv 2) a0B)))))
   a0Y)))
   (a0C (a0J (i:=4) sc_flaw.nd rfl (Or.inl rfl) (a0G gZ17 hr rfl dZ17.m dZ17.F.kp dZ17.b .nil a0S (a0A (pv 0) a0B)))
   (a0C (a3B (i:=5) ["places"] [none] sc_flaw.nd rfl rfl (by kernel_rfl) rfl (a0O (K:=K) rfl (pv 1)) (λ _ _ _ _ _=>(a0H (i:=0) (show (["places"]:List Str).Nodup by decide +kernel) rfl (Or.inl rfl))) (λ _ _ _ _ _=>a1H) (λ _ _ _ _ _=>(a0G gZ32 hr rfl dZ32.m dZ32.F.kp dZ32.b .nil a0S (a0A (pv 0) a0B))) (by rfl))
   (a0C (a1Q PassesOwn.never rfl (a4X (K:=K) rfl rfl B.enumerate (a0A (pv 1) a0B)) (a2N (K:=K) (n:=2) rfl rfl (a0X (a0H (i:=6) sc_flaw.nd rfl (Or.inl rfl)) (a0X (a0H (i:=3) sc_flaw.nd rfl (Or.inl rfl)) a2L)))
   (a0C (a0J (i:=7) sc_flaw.nd rfl (Or.inl rfl) (a0G gZ34 hr rfl dZ34.m dZ34.F.kp dZ34.b .nil a0S (a0A (pv 4) (a0A (pv 3) a0B))))
   (a0D (a1Q PassesOwn.never rfl (a3V rfl B.range (a0A (a0Q a3M (pv 6) a0E) (a0A (a0I (a0T (K:=K) rfl) rfl B.len (by decide +kernel) (a0A (pv 5) a0B)) a0B))) (a0H (i:=2) sc_flaw.nd rfl (Or.inl rfl))
   (a0D (a1X (a3A (a0R (K:=K) rfl (a0Q b2E (pv 7) (a0V (a0L (K:=K) rfl) (pv 5) (pv 2) (λ _ _=>rfl))) (λ _=>rfl)))
   (a0D (a0N (a2H (a0A b5Z (a0A (pv 6) (a0A (pv 2) a0B))))))
   a0Y))))))
   (a0D (a0N a2B)))))),?_⟩
 have at_:∀ {i:Nat} {x:V},(qs.map V.ref)[i]?=some x->∃ qi p,x = .ref qi/\qs[i]?=some qi/\ss[i]?=some p/\H qi=some (.lst (natV p))/\p∈ss:=λ {i x} hx=>by
  rw [List.getElem?_map] at hx
  obtain ⟨qi,hqi,rfl⟩:=Option.map_eq_some_iff.mp hx
  obtain ⟨p,hp,hqp⟩:=a1A pq hqi
  exact ⟨qi,p,rfl,hqi,hp,hqp,List.mem_of_getElem? hp⟩
 refine ⟨_,rfl,a,rfl,⟨_,SqL.of hA⟩,?_⟩
 refine a4I (xs:=qs.map V.ref) (λ i σ H'=>(∃ kk pl:Option V,σ=[some (.ref pg),some (.ref a),kk,pl,none,none,none,none])/\Same H H'/\∀ j,j < i->c6A ts ss j) ⟨⟨none,none,rfl⟩,Same.refl _,λ j hj=>absurd hj (Nat.not_lt_zero _)⟩ (λ i σ H' _ ⟨_,s,_⟩=>SqL.of (s _ _ hA)) ?_ ?_
 ·rintro i x σ H1 pe H2 hx ⟨⟨kk,pl,rfl⟩,s1,jn⟩ n2
  obtain ⟨qi,p,rfl,hqi,hp,hqp,pm⟩:=at_ hx
  have s2:=s1.trans n2.same
  have up:=SO.up p pm
  have lt:=SO.lt p pm
  have pl10:p.length<=10:=by
   have:=a3P (up.imp λ h=>Nat.ne_of_lt h) lt
   omega
  have hq2:=s2 _ _ hqp
  have hq2i:SqL K H2 qi ((p.map λ (x:Nat)=>(x:Int)).map V.int):=by
   have:=SqL.of (K:=K) hq2
   rw [a1D] at this
   exact this
  have setT:setF (n:Int) (p.map λ (x:Nat)=>(x:Int))=true:=(a4J _ _).mpr ⟨λ v hv=>by
   obtain ⟨u,hu,rfl⟩:=List.mem_map.mp hv
   have:=lt u hu
   omega,List.pairwise_map.mpr (up.imp λ {a b} h=>by omega)⟩
  refine ⟨pe,_,rfl,SqT.of n2.here,rfl,_,_,rfl,_,_,rfl,rfl,?_⟩
  refine ⟨_,rfl,pg,_,_,_,rfl,rfl,s2.tupq hP,rfl,_,rfl,(n:Int),qi,_,rfl,hq2i,by rw [List.length_map]; omega,λ H3 s3=>?_⟩
  rw [setT]
  refine ⟨_,rfl,iteF ?_⟩
  have s23:=s2.trans s3
  refine ⟨_,rfl,_,rfl,.ref pg,n,ts,qi,p,rfl,hG.same s23,okt,n10,l100,s23 _ _ hqp,up,lt,λ b H4 s4 hb=>?_⟩
  have s24:=s23.trans s4
  have eJ:c6A ts ss i↔b0N ts p:=by
   unfold c6A
   rw [τα,hp]; rfl
  cases b with
  | true =>
   refine ⟨_,rfl,iteF ⟨⟨_,_,rfl⟩,s24,λ j hj=>?_⟩⟩
   by_cases c:j=i
   ·rw [c]; exact eJ.mpr (hb.mp rfl)
   ·exact jn j (by omega)
  | false =>
   refine ⟨_,rfl,iteT ⟨_,rfl,(by show 2<=1000; decide),λ p5 H5 n5=>?_⟩⟩
   have il:i < ss.length:=(List.getElem?_eq_some_iff.mp hp).1
   exact q _ (.part i) H5 (s24.trans n5.same) ⟨p5,rfl,n5.here⟩ ⟨il,λ z=>Bool.false_ne_true (hb.mpr (eJ.mp z)),jn⟩
 rintro σ H1 ⟨⟨kk,pl,rfl⟩,s1,jn⟩
 rw [lqm] at jn
 refine ⟨_,rfl,.ref pg,n,ts,rfl,hG.same s1,okt,n10,λ pb ms H2 s2 f2 h2 BM=>?_⟩
 have s02:=s1.trans s2
 refine ⟨_,rfl,a,rfl,⟨_,SqL.of (s02 _ _ hA)⟩,?_⟩
 refine a4G (K:=K) (a:=a) (xs:=qs.map V.ref) (λ i ys G=>Same H2 G/\ys=natV ((ss.take i).map a0W)) ⟨Same.refl _,rfl⟩ (λ i ys G hi ⟨s,e⟩=>⟨SqL.of ((s02.trans s) _ _ hA),?_⟩) (λ i x ys G hi ⟨s,e⟩=>?_) ?_
 ·rw [e,a1J,List.length_map,List.length_take]
  exact Nat.le_of_lt (a1E (by omega))
 ·obtain ⟨qi,p,rfl,hqi,hp,hqp,pm⟩:=at_ hi
  refine ⟨_,rfl,qi,p,n,rfl,SqL.of ((s02.trans s) _ _ hqp),(SO.up p pm).imp (λ h=>Nat.ne_of_lt h),SO.lt p pm,n10,λ H3 s3=>⟨s.trans s3,?_⟩⟩
  obtain ⟨hil,hix⟩:=List.getElem?_eq_some_iff.mp hp
  rw [e,List.take_succ_eq_append_getElem hil,hix]
  unfold natV
  rw [List.map_append,List.map_append]
  rfl
 intro ys G0 ⟨s0,e0⟩ pm hpm
 rw [lqm,List.take_length] at e0
 subst e0
 have nM:=New.mk0 (H:=G0) (p:=pm) (o:=.lst (natV (ss.map a0W))) hpm
 generalize upd G0 pm (.lst (natV (ss.map a0W)))=H3 at nM ⊢
 have s23:Same H2 H3:=s0.trans nM.same
 have s03:=s02.trans s23
 have lm:(natV (ss.map a0W)).length=ss.length:=by rw [a1J,List.length_map]
 refine ⟨_,rfl,a,rfl,⟨_,SqL.of (s03 _ _ hA)⟩,?_⟩
 refine a4I (xs:=qs.map V.ref) (λ i σ H'=>(∃ kk pl jj nn:Option V,σ=[some (.ref pg),some (.ref a),kk,pl,some (.ref pb),some (.ref pm),jj,nn])/\Same H3 H'/\∀ j k,j < i->j < k->k < ss.length->b4E ts ss j k) ⟨⟨_,_,none,none,rfl⟩,Same.refl _,λ j k hj=>absurd hj (Nat.not_lt_zero _)⟩ (λ i σ H' _ ⟨_,s,_⟩=>SqL.of ((s03.trans s) _ _ hA)) ?_ ?_
 ·rintro i x σ H4 pe H5 hx ⟨⟨kk,pl,jj,nn,rfl⟩,s4,tn⟩ n5
  obtain ⟨qi,p,rfl,hqi,hp,hqp,pm'⟩:=at_ hx
  have s35:=s4.trans n5.same
  have s05:=s03.trans s35
  refine ⟨pe,_,rfl,SqT.of n5.here,rfl,_,_,rfl,_,_,rfl,rfl,?_⟩
  refine ⟨_,rfl,_,rfl,pb,qi,n,ts,ms,p,rfl,SqL.of ((s23.trans s35) _ _ h2),BM,SqL.of (s05 _ _ hqp),SO.lt p pm',λ nr hnr=>?_⟩
  have il:i < ss.length:=(List.getElem?_eq_some_iff.mp hp).1
  have hm5:H5 pm=some (.lst (natV (ss.map a0W))):=s35 _ _ nM.here
  refine ⟨_,rfl,_,_,rfl,rfl,_,rfl,pm,_,rfl,.inl (SqL.of hm5),_,_,rfl,⟨by omega,by omega,by rw [lm]; omega,by rw [lm]; omega⟩,?_⟩
  obtain ⟨N,hN⟩:∃ N,N=ss.length - (i+1):=⟨_,rfl⟩
  rw [show ((((natV (ss.map a0W)).length:Nat):Int) - ((i:Int)+1)).toNat=N by rw [lm]; omega]
  refine a3D (lo:=(i:Int)+1) (n:=N) (λ l σ H'=>(∃ kk:Option V,σ=[some (.ref pg),some (.ref a),kk,some (.ref qi),some (.ref pb),some (.ref pm),some (.int (i:Int)),some (.int (nr:Int))])/\H'=H5/\∀ k,i < k->k < i+1+l->b4E ts ss i k) ⟨⟨_,rfl⟩,rfl,λ k h1 h2=>by omega⟩ ?_ ?_
  ·rintro l σ H6 hl ⟨⟨kk,rfl⟩,rfl,tk⟩
   have ek:(i:Int)+1+(l:Int)=((i+1+l:Nat):Int):=by omega
   rw [ek]
   have kl:i+1+l < ss.length:=by omega
   obtain ⟨pk,hpk⟩:∃ pk,ss[i+1+l]?=some pk:=⟨ss[i+1+l],List.getElem?_eq_getElem kl⟩
   have atk:atI (natV (ss.map a0W)) ((i+1+l:Nat):Int)=some (.int ((a0W pk:Nat):Int)):=a1L (by
    unfold natV
    rw [List.getElem?_map,List.getElem?_map,hpk]; rfl)
   refine ⟨_,rfl,_,rfl,_,rfl,pm,_,_,_,rfl,rfl,SqL.of hm5,atk,_,_,rfl,rfl,_,rfl,?_⟩
   rw [b1G]
   have eT:(nr &&& a0W pk=0)↔¬ b4E ts ss i (i+1+l):=by
    rw [and_zero]
    refine not_congr ?_
    unfold b4E c9T
    rw [τα,τα,hp,hpk]
    show _↔∃ y∈pk,∃ x∈p,x=y\/tieT ts x y=true
    have pkl:=SO.lt pk (List.mem_of_getElem? hpk)
    have ppl:=SO.lt p pm'
    have tr:∀ {x y:Nat},x∈p->y∈pk->(a2W n ts x y=true↔x=y\/tieT ts x y=true):=λ {x y} hx hy=>by
     have:=ppl x hx
     have:=pkl y hy
     unfold a2W tieT
     rw [decide_eq_true (show x < n/\y < n from ⟨by omega,by omega⟩),Bool.true_and,Bool.or_eq_true,Bool.or_eq_true,Bool.or_eq_true,decide_eq_true_iff,or_assoc]
     exact or_congr_left eq_comm
    constructor
    ·rintro ⟨u,h1,h2⟩
     rw [a1P,decide_eq_true_iff] at h2
     obtain ⟨x,hx,t⟩:=(hnr u).mp h1
     exact ⟨u,h2,x,hx,(tr hx h2).mp t⟩
    ·rintro ⟨y,hy,x,hx,t⟩
     exact ⟨y,(hnr y).mpr ⟨x,hx,(tr hx hy).mpr t⟩,by rw [a1P]; exact decide_eq_true hy⟩
   by_cases c:nr &&& a0W pk=0
   ·rw [c]
    refine iteT ⟨_,rfl,_,rfl,(by show 3<=1000; decide),λ p7 H7 n7=>?_⟩
    exact q _ (.apart i (i+1+l)) H7 ((s05).trans n7.same) ⟨p7,rfl,n7.here⟩ ⟨jn,by omega,kl,eT.mp c,tn,λ k' h1 h2=>tk k' h1 h2⟩
   ·rw [show (((nr &&& a0W pk:Nat):Int) != 0)=true by simpa using c]
    refine iteF ⟨⟨_,rfl⟩,rfl,λ k h1 h2=>?_⟩
    by_cases d:k=i+1+l
    ·rw [d]
     exact Classical.byContradiction λ z=>c (eT.mpr z)
    ·exact tk k h1 (by omega)
  ·rintro σ H6 ⟨⟨kk,rfl⟩,rfl,tk⟩
   refine ⟨⟨_,_,_,_,rfl⟩,s35,λ j k hj hk hk2=>?_⟩
   by_cases d:j=i
   ·subst d
    exact tk k hk (by omega)
   ·exact tn j k (by omega) hk hk2
 ·rintro σ H4 ⟨⟨kk,pl,jj,nn,rfl⟩,s4,tn⟩
  rw [lqm] at tn
  exact q _ .ok H4 (s03.trans s4) rfl ⟨jn,λ j k hj hk=>tn j k (by omega) hj hk⟩
end
end K
namespace K
open PySem L2 Lw Bg
abbrev St':=Nat->Prop
inductive Rc (ts:List ζζ) (T:St') (x:Nat):Nat->Prop
 | refl (h:T x):Rc ts T x x
 | step {y z:Nat} (p:Rc ts T x y) (t:tieT ts y z=true) (h:T z):Rc ts T x z
section
variable {ts:List ζζ}
theorem Rc.snd {T:St'} {x y:Nat} (h:Rc ts T x y):T y:=by
 cases h with
 | refl h=>exact h
 | step _ _ h=>exact h
theorem Rc.trans {T:St'} {x y z:Nat} (a:Rc ts T x y) (b:Rc ts T y z):Rc ts T x z:=by
 induction b with
 | refl _=>exact a
 | step _ t h ih=>exact .step ih t h
theorem Rc.symm {T:St'} {x y:Nat} (a:Rc ts T x y):Rc ts T y x:=by
 induction a with
 | refl h=>exact .refl h
 | step p t h ih=>exact (Rc.step (.refl h) (a3K t) p.snd).trans ih
theorem Rc.mono {T T':St'} {x y:Nat} (a:Rc ts T x y) (s:∀ u,T u->T' u):Rc ts T' x y:=by
 induction a with
 | refl h=>exact .refl (s _ h)
 | step _ t h ih=>exact .step ih t (s _ h)
theorem Rc.inn {T:St'} {x y:Nat} (a:Rc ts T x y):Rc ts (λ u=>Rc ts T x u) x y:=by
 induction a with
 | refl h=>exact .refl (.refl h)
 | step p t h ih=>exact .step ih t (.step p t h)
theorem Rc.leaves {T C:St'} {x y:Nat} (a:Rc ts T x y):C x->¬ C y->∃ u v,C u/\T u/\¬ C v/\T v/\tieT ts u v=true:=by
 induction a with
 | refl h=>exact λ c n=>absurd c n
 | @step y z p t h ih =>
  intro c n
  by_cases d:C y
  ·exact ⟨y,z,d,p.snd,n,h,t⟩
  ·exact ih c d
def Comp (ts:List ζζ) (T C:St'):Prop:=∃ x,T x/\∀ y,C y↔Rc ts T x y
theorem Comp.sub {T C:St'} (h:Comp ts T C) {y:Nat} (hy:C y):T y:=by
 obtain ⟨x,_,e⟩:=h
 exact ((e y).mp hy).snd
theorem Comp.con {T C:St'} (h:Comp ts T C) {y z:Nat} (hy:C y) (hz:C z):Rc ts C y z:=by
 obtain ⟨x,_,e⟩:=h
 have a:=((e y).mp hy).inn.mono (T':=C) λ u hu=>(e u).mpr hu
 have b:=((e z).mp hz).inn.mono (T':=C) λ u hu=>(e u).mpr hu
 exact a.symm.trans b
theorem Comp.all {T C:St'} (h:Comp ts T C) {y z:Nat} (hy:C y) (r:Rc ts T y z):C z:=by
 obtain ⟨x,_,e⟩:=h
 exact (e z).mpr (((e y).mp hy).trans r)
theorem Comp.tie {T C:St'} (h:Comp ts T C) {y z:Nat} (hy:C y) (t:tieT ts y z=true) (hz:T z):C z:=h.all hy (.step (.refl (h.sub hy)) t hz)
theorem Comp.ne {T C:St'} (h:Comp ts T C):∃ x,C x:=by
 obtain ⟨x,hx,e⟩:=h
 exact ⟨x,(e x).mpr (.refl hx)⟩
theorem Comp.at {T:St'} {x:Nat} (h:T x):Comp ts T λ y=>Rc ts T x y:=⟨x,h,λ _=>Iff.rfl⟩
theorem Comp.of {T C:St'} {x:Nat} (hx:C x) (sub:∀ y,C y->T y) (con:∀ y,C y->Rc ts C x y) (cl:∀ y z,C y->tieT ts y z=true->T z->C z):Comp ts T C:=by
 refine ⟨x,sub x hx,λ y=>⟨λ hy=>(con y hy).mono sub,λ r=>?_⟩⟩
 induction r with
 | refl _=>exact hx
 | step _ t h ih=>exact cl _ _ ih t h
inductive Dec (ts:List ζζ) (A:St'->Prop):St'->Prop
 | mk {C:St'} (Y:St') (ok:A Y) (near:∀ a b,C a->tieT ts a b=true->¬ C b->Y b) (h:∀ C',Comp ts (λ x=>C x/\¬ Y x) C'->Dec ts A C'):Dec ts A C
def Down (A:St'->Prop):Prop:=∀ Y Z:St',(∀ x,Z x->Y x)->A Y->A Z
def Nb (ts:List ζζ) (C:St'):St':=λ b=>¬ C b/\∃ a,C a/\tieT ts a b=true
theorem c9W {V:St'} {A G:St'->Prop} (DA:Down A) {C:St'} (h:Dec ts A C) :
  (∀ x,C x->V x)->(∀ a b,V a->tieT ts a b=true->V b) ->
  (∀ Y:St',(∀ x,Y x->C x\/Nb ts C x)->(∀ x,Nb ts C x->Y x)->A Y->∀ D,Comp ts (λ x=>V x/\¬ Y x) D->(∀ x,D x->¬ C x)->Dec ts A D) ->
  Dec ts G C\/∃ Z,A Z/\¬ G Z/\∀ D,Comp ts (λ x=>V x/\¬ Z x) D->Dec ts A D:=by
 induction h with
 | @mk C Y ok near h ih =>
  intro CV clV out
  obtain ⟨Y',eY⟩:∃ Y':St',Y'=λ x=>Y x/\(C x\/Nb ts C x):=⟨_,rfl⟩
  have ok':A Y':=DA Y Y' (λ x hx=>by rw [eY] at hx; exact hx.1) ok
  have nb':∀ x,Nb ts C x->Y' x:=λ x hx=>by
   rw [eY]
   obtain ⟨nx,a,ca,t⟩:=id hx
   exact ⟨near a x ca t nx,.inr hx⟩
  have sub':∀ x,Y' x->C x\/Nb ts C x:=λ x hx=>by rw [eY] at hx; exact hx.2
  have same:∀ x,C x->(¬ Y' x↔¬ Y x):=λ x cx=>by
   rw [eY]
   exact not_congr ⟨λ z=>z.1,λ z=>⟨z,.inl cx⟩⟩
  have eqC:(λ x=>C x/\¬ Y' x)=λ x=>C x/\¬ Y x:=funext λ x=>propext (and_congr_right λ cx=>same x cx)
  have near':∀ a b,C a->tieT ts a b=true->¬ C b->Y' b:=λ a b ca t nb=>nb' b ⟨nb,a,ca,t⟩
  rw [<- eqC] at h ih
  have part:∀ D,Comp ts (λ x=>V x/\¬ Y' x) D->(∃ x,D x/\C x)->Comp ts (λ x=>C x/\¬ Y' x) D:=λ D hD ⟨x,dx,cx⟩=>by
   have dc:∀ y,Rc ts D x y->C y:=λ y r=>by
    induction r with
    | refl _=>exact cx
    | @step u v p t hv ih2 =>
     refine Classical.byContradiction λ nc=>?_
     exact (hD.sub hv).2 (near' u v ih2 t nc)
   refine Comp.of dx (λ y dy=>⟨dc y (hD.con dx dy),(hD.sub dy).2⟩) (λ y dy=>hD.con dx dy) λ y z dy t ⟨cz,nz⟩=>hD.tie dy t ⟨CV z cz,nz⟩
  by_cases g:G Y'
  ·by_cases all:∀ C',Comp ts (λ x=>C x/\¬ Y' x) C'->Dec ts G C'
   ·exact .inl (.mk Y' g near' all)
   ·obtain ⟨C',hC'⟩:=Classical.not_forall.mp all
    obtain ⟨hC,nC⟩:=Classical.not_imp.mp hC'
    have sb:∀ x,C' x->C x:=λ x hx=>(hC.sub hx).1
    refine (ih C' hC (λ x hx=>CV x (sb x hx)) clV λ Z sZ nZ aZ D hD dis=>?_).elim (λ z=>absurd z nC) .inr
    have nbY:∀ x,Nb ts C' x->Y' x:=λ x ⟨nx,a,ca,t⟩=>by
     refine Classical.byContradiction λ ny=>?_
     by_cases cx:C x
     ·exact nx (hC.tie ca t ⟨cx,ny⟩)
     ·exact ny (near' a x (sb a ca) t cx)
    have nearD:∀ a b,D a->tieT ts a b=true->¬ D b->Y' b:=λ a b da t nb=>by
     have Zb:Z b:=Classical.byContradiction λ nz=>nb (hD.tie da t ⟨clV a b (hD.sub da).1 t,nz⟩)
     rcases sZ b Zb with cb | cb
     ·-- b in C': then a is of its edge,so in Z
      exact absurd (nZ a ⟨dis a da,b,cb,a3K t⟩) (hD.sub da).2
     ·exact nbY b cb
    refine .mk Y' ok' nearD λ D' hD'=>?_
    have full:Comp ts (λ x=>V x/\¬ Y' x) D':=by
     obtain ⟨x,dx⟩:=hD'.ne
     refine Comp.of dx (λ y dy=>⟨(hD.sub (hD'.sub dy).1).1,(hD'.sub dy).2⟩) (λ y dy=>hD'.con dx dy) λ y z dy t ⟨vz,nz⟩=>?_
     refine hD'.tie dy t ⟨?_,nz⟩
     exact Classical.byContradiction λ nd=>nz (nearD y z (hD'.sub dy).1 t nd)
    by_cases m:∃ x,D' x/\C x
    ·exact h D' (part D' full m)
    ·exact out Y' sub' nb' ok' D' full λ x dx cx=>m ⟨x,dx,cx⟩
  ·refine .inr ⟨Y',ok',g,λ D hD=>?_⟩
   by_cases m:∃ x,D x/\C x
   ·exact h D (part D hD m)
   ·exact out Y' sub' nb' ok' D hD λ x dx cx=>m ⟨x,dx,cx⟩
theorem c6C {V:St'} {A G:St'->Prop} (DA:Down A) (h:Dec ts A V) (clV:∀ a b,V a->tieT ts a b=true->V b):Dec ts G V\/∃ Z,A Z/\¬ G Z/\∀ D,Comp ts (λ x=>V x/\¬ Z x) D->Dec ts A D:=by
 refine c9W DA h (λ x hx=>hx) clV λ Y _ _ _ D hD dis=>?_
 obtain ⟨x,dx⟩:=hD.ne
 exact absurd (hD.sub dx).1 (dis x dx)
end
open Classical in
noncomputable def a1B (n:Nat) (Y:St'):Nat:=(List.range n).countP λ x=>decide (Y x)
open Classical in
theorem b1X {n:Nat} {Y Z:St'} (h:∀ x,x < n->Y x->Z x):a1B n Y<=a1B n Z:=by
 unfold a1B
 refine List.countP_mono_left λ x hx hy=>?_
 exact decide_eq_true (h x (List.mem_range.mp hx) (of_decide_eq_true hy))
open Classical in
theorem b7D {n x:Nat} {Y:St'} (xn:x < n) (h:Y x):0 < a1B n Y:=List.countP_pos_iff.mpr ⟨x,List.mem_range.mpr xn,decide_eq_true h⟩
open Classical in
theorem c2Y {n x:Nat} {Y Z:St'} (s:∀ x,Y x->Z x) (xn:x < n) (h:¬ Y x) (g:Z x):a1B n Y < a1B n Z :=
 Srt.countP_lt (λ z hz=>decide_eq_true (s z (of_decide_eq_true hz))) (List.mem_range.mpr xn) (decide_eq_false h) (decide_eq_true g)
open Classical in
theorem c2Z {n:Nat} {Y:St'} (h:∀ x,¬ Y x):a1B n Y=0:=by
 unfold a1B
 rw [List.countP_eq_zero]
 exact λ a _ z=>h a (of_decide_eq_true z)
open Classical in
theorem a4D {n:Nat} {Y:St'} {f:Nat->Bool} (h:∀ x,Y x↔f x=true):a1B n Y=(List.range n).countP f:=by
 unfold a1B
 exact List.countP_congr λ x _=>by rw [decide_eq_true_iff]; exact h x
open Classical in
theorem c6D {n:Nat} {a b c d:St'} (h:∀ x,x < n->((a x->c x\/d x)/\(b x->c x\/d x)/\(a x->b x->c x/\d x))):a1B n a+a1B n b<=a1B n c+a1B n d:=by
 unfold a1B
 have go:∀ l:List Nat,(∀ x∈l,x < n)->(l.countP λ x=>decide (a x))+(l.countP λ x=>decide (b x))<=(l.countP λ x=>decide (c x))+(l.countP λ x=>decide (d x)):=λ l=>by
  induction l with
  | nil=>intro _; simp
  | cons x r ih =>
   intro hl
   have i:=ih λ y hy=>hl y (List.mem_cons_of_mem _ hy)
   obtain ⟨h1,h2,h3⟩:=h x (hl x List.mem_cons_self)
   rw [List.countP_cons,List.countP_cons,List.countP_cons,List.countP_cons]
   by_cases ca:a x <;> by_cases cb:b x <;> by_cases cc:c x <;> by_cases cd:d x <;> simp [ca,cb,cc,cd] at h1 h2 h3 ⊢ <;> omega
 exact go _ λ x hx=>List.mem_range.mp hx
theorem c7K {P:St'->Prop} (f:St'->Nat):∀ (k:Nat) (X:St'),P X->f X<=k->∃ X,P X/\(∀ Y,P Y->f X<=f Y)/\f X<=k
 | 0,X,h,l=>⟨X,h,λ Y _=>by omega,l⟩
 | k+1,X,h,l=>by
  by_cases c:∃ Y,P Y/\f Y<=k
  ·obtain ⟨Y,hY,lY⟩:=c
   obtain ⟨Z,a,b,d⟩:=c7K f k Y hY lY
   exact ⟨Z,a,b,by omega⟩
  ·exact ⟨X,h,λ Y hY=>Classical.byContradiction λ z=>c ⟨Y,hY,by omega⟩,l⟩
abbrev bitP (b:Nat):St':=λ x=>b.testBit x=true
def JnM (ts:List ζζ) (b:Nat):Prop:=∃ x,bitP b x/\∀ y,bitP b y->Rc ts (bitP b) x y
def TcM (ts:List ζζ) (b c:Nat):Prop:=∃ x y,bitP b x/\bitP c y/\(x=y\/tieT ts x y=true)
def CvM (B:List Nat) (Y:St'):Prop:=∀ b∈B,∃ x,bitP b x/\Y x
def AB (n k:Nat) (B:List Nat) (Y:St'):Prop:=k < a1B n Y->¬ CvM B Y
structure FamM (n:Nat) (ts:List ζζ) (B:List Nat):Prop where
 lt:∀ b∈B,b < 2 ^ n
 jn:∀ b∈B,JnM ts b
 tc:∀ b∈B,∀ c∈B,TcM ts b c
def ExtM (n:Nat) (ts:List ζζ) (k:Nat) (B:List Nat):Prop:=∃ B',(∀ b∈B,b∈B')/\FamM n ts B'/\∀ Y,CvM B' Y->k < a1B n Y
theorem c3A (n k:Nat) (B:List Nat):Down (AB n k B):=λ Y Z s h l c=>by
 refine h (Nat.lt_of_lt_of_le l (b1X λ x _ hx=>s x hx)) λ b hb=>?_
 obtain ⟨x,h1,h2⟩:=c b hb
 exact ⟨x,h1,s x h2⟩
theorem JnM.con {ts:List ζζ} {b:Nat} (h:JnM ts b) {x y:Nat} (hx:bitP b x) (hy:bitP b y):Rc ts (bitP b) x y:=by
 obtain ⟨z,_,e⟩:=h
 exact (e x hx).symm.trans (e y hy)
theorem JnM.tch {ts:List ζζ} {b:Nat} (h:JnM ts b):TcM ts b b:=by
 obtain ⟨z,hz,_⟩:=h
 exact ⟨z,z,hz,hz,.inl rfl⟩
theorem TcM.symm {ts:List ζζ} {b c:Nat} (h:TcM ts b c):TcM ts c b:=by
 obtain ⟨x,y,hx,hy,e⟩:=h
 exact ⟨y,x,hy,hx,e.imp Eq.symm λ t=>a3K t⟩
section
variable {ts:List ζζ} {n k:Nat} {B:List Nat}
theorem c3B {X P Z:St'} {pm:Nat} (jn:∀ b∈B,JnM ts b) (lt:∀ b∈B,∀ x,bitP b x->x < n) (clV:∀ a b,tieT ts a b=true->b < n) (hX:CvM B X) (min:∀ Y,CvM B Y->a1B n X<=a1B n Y) (Xk:a1B n X<=k)
  (hP:Comp ts (λ x=>x < n/\¬ X x) P) (hm:∀ x,bitP pm x↔P x) (hZ:CvM B Z) (ZP:∀ x,P x->¬ Z x) {D:St'} (h:Dec ts (AB n k (pm::B)) D) :
  (∀ x,D x->¬ Z x)->∀ P',Comp ts (λ x=>P x/\D x) P'->Dec ts (AB n k B) P':=by
 induction h with
 | @mk D Y ok near h ih =>
  intro DZ P' hP'
  have XP:∀ {x},P x->¬ X x:=λ {x} px=>(hP.sub px).2
  have edge:∀ {a b},P a->tieT ts a b=true->¬ P b->X b:=λ {a b} pa t nb=>Classical.byContradiction λ nx=>nb (hP.tie pa t ⟨clV a b t,nx⟩)
  obtain ⟨W,eW⟩:∃ W:St',W=λ x=>(Y x/\P x)\/(X x/\(D x\/Y x)):=⟨_,rfl⟩
  have Wd:∀ {x},W x↔(Y x/\P x)\/(X x/\(D x\/Y x)):=λ {x}=>by rw [eW]
  refine .mk W (λ kW cW=>?_) (λ a b pa t nb=>?_) λ C' hC'=>?_
  ·-- the bag is well
   obtain ⟨S,eS⟩:∃ S:St',S=λ x=>(X x/\¬ (D x/\¬ Y x))\/(Y x/\¬ X x/\¬ P x):=⟨_,rfl⟩
   have Sd:∀ {x},S x↔(X x/\¬ (D x/\¬ Y x))\/(Y x/\¬ X x/\¬ P x):=λ {x}=>by rw [eS]
   have covS:CvM B S:=λ b hb=>by
    refine Classical.byContradiction λ none=>?_
    have no:∀ {x},bitP b x->¬ S x:=λ {x} hx sx=>none ⟨x,hx,sx⟩
    obtain ⟨x,bx,xx⟩:=hX b hb
    obtain ⟨z,bz,zz⟩:=hZ b hb
    have XD:∀ {u},bitP b u->X u->D u/\¬ Y u:=λ {u} bu xu=>Classical.byContradiction λ c=>no bu (Sd.mpr (.inl ⟨xu,c⟩))
    have YP:∀ {u},bitP b u->Y u->P u:=λ {u} bu yu=>by
     refine Classical.byContradiction λ np=>no bu (Sd.mpr ?_)
     by_cases xu:X u
     ·exact .inl ⟨xu,λ c=>c.2 yu⟩
     ·exact .inr ⟨yu,xu,np⟩
    obtain ⟨u,v,cu,bu,cv,bv,t⟩:=((jn b hb).con bx bz).leaves (C:=λ u=>(D u/\¬ Y u)\/P u) (.inl (XD bx xx)) λ c=>c.elim (λ c=>DZ z c.1 zz) λ c=>ZP z c zz
    have nP:¬ P v:=λ c=>cv (.inr c)
    have nD:¬ (D v/\¬ Y v):=λ c=>cv (.inl c)
    rcases cu with ⟨du,_⟩ | pu
    ·refine nP (YP bv ?_)
     by_cases dv:D v
     ·exact Classical.byContradiction λ ny=>nD ⟨dv,ny⟩
     ·exact near u v du t dv
    ·exact nD (XD bv (edge pu t nP))
   have l1:=min S covS
   have l2:a1B n W+a1B n S<=a1B n X+a1B n Y:=c6D λ x _=>by
    rw [Wd,Sd]
    refine ⟨?_,?_,?_⟩
    ·rintro (⟨y,_⟩ | ⟨x,_⟩)
     ·exact .inr y
     ·exact .inl x
    ·rintro (⟨x,_⟩ | ⟨y,_⟩)
     ·exact .inl x
     ·exact .inr y
    ·rintro (⟨y,p⟩ | ⟨x1,d⟩)
     ·rintro (⟨x2,_⟩ | ⟨_,_,np⟩)
      ·exact ⟨x2,y⟩
      ·exact absurd p np
     ·rintro (⟨_,nd⟩ | ⟨y,nx,_⟩)
      ·refine ⟨x1,Classical.byContradiction λ ny=>?_⟩
       exact nd ⟨d.resolve_right ny,ny⟩
      ·exact absurd x1 nx
   have kY:k < a1B n Y:=by omega
   obtain ⟨p,yp,pp⟩:∃ p,Y p/\P p:=Classical.byContradiction λ c=>by
    have:=b1X (n:=n) (Y:=W) (Z:=X) λ x _ wx=>by
     rcases Wd.mp wx with ⟨y,p⟩ | ⟨x,_⟩
     ·exact absurd ⟨_,y,p⟩ c
     ·exact x
    omega
   refine ok kY λ b hb=>?_
   rcases List.mem_cons.mp hb with e | hb
   ·rw [e]; exact ⟨p,(hm p).mpr pp,yp⟩
   ·refine Classical.byContradiction λ none=>?_
    have no:∀ {x},bitP b x->¬ Y x:=λ {x} hx sx=>none ⟨x,hx,sx⟩
    obtain ⟨x,bx,wx⟩:=cW b hb
    have dx:D x:=by
     rcases Wd.mp wx with ⟨y,_⟩ | ⟨_,d⟩
     ·exact absurd y (no bx)
     ·exact d.resolve_right (no bx)
    obtain ⟨z,bz,zz⟩:=hZ b hb
    obtain ⟨u,v,cu,bu,cv,bv,t⟩:=((jn b hb).con bx bz).leaves (C:=D) dx λ c=>DZ z c zz
    exact no bv (near u v cu t cv)
  ·obtain ⟨p1,d1⟩:=hP'.sub pa
   refine Wd.mpr ?_
   by_cases pb:P b
   ·refine .inl ⟨?_,pb⟩
    refine Classical.byContradiction λ ny=>nb (hP'.tie pa t ⟨pb,Classical.byContradiction λ nd=>ny (near a b d1 t nd)⟩)
   ·refine .inr ⟨edge p1 t pb,?_⟩
    by_cases db:D b
    ·exact .inl db
    ·exact .inr (near a b d1 t db)
  ·obtain ⟨x,cx⟩:=hC'.ne
   have dn:∀ {y},C' y->P y/\D y/\¬ Y y:=λ {y} hy=>by
    obtain ⟨h1,h2⟩:=hC'.sub hy
    obtain ⟨p,d⟩:=hP'.sub h1
    exact ⟨p,d,λ yy=>h2 (Wd.mpr (.inl ⟨yy,p⟩))⟩
   have D'c:Comp ts (λ x=>D x/\¬ Y x) λ y=>Rc ts (λ x=>D x/\¬ Y x) x y:=Comp.at (dn cx).2
   refine ih _ D'c (λ y hy=>DZ y (D'c.sub hy).1) C' (Comp.of cx (λ y hy=>⟨(dn hy).1,(hC'.con cx hy).mono λ u hu=>(dn hu).2⟩) (λ y hy=>hC'.con cx hy) λ y z hy t ⟨pz,dz⟩=>?_)
   have dz':=dz.snd
   refine hC'.tie hy t ⟨hP'.tie (hC'.sub hy).1 t ⟨pz,dz'.1⟩,λ wz=>?_⟩
   rcases Wd.mp wz with ⟨y,_⟩ | ⟨xz,_⟩
   ·exact dz'.2 y
   ·exact XP pz xz
open Classical in
theorem dual (n10:0 < 2 ^ n) (clV:∀ a b,tieT ts a b=true->b < n):∀ (m:Nat) (B:List Nat),((List.range (2 ^ n)).countP λ x=>decide (x ∉ B)) < m->FamM n ts B->¬ ExtM n ts k B->Dec ts (AB n k B) λ x=>x < n
 | 0,B,hm,_,_=>absurd hm (Nat.not_lt_zero _)
 | m+1,B,hm,F,nE=>by
  have lt:∀ b∈B,∀ x,bitP b x->x < n:=λ b hb x hx=>by
   refine Classical.byContradiction λ c=>?_
   have:=F.lt b hb
   have h2:b.testBit x=false:=Nat.testBit_lt_two_pow (Nat.lt_of_lt_of_le this (Nat.pow_le_pow_right (by decide) (by omega)))
   rw [show b.testBit x=true from hx] at h2
   cases h2
  obtain ⟨Y0,c0,l0⟩:∃ Y,CvM B Y/\a1B n Y<=k:=Classical.byContradiction λ c=>nE ⟨B,λ b hb=>hb,F,λ Y hY=>Nat.lt_of_not_le λ z=>c ⟨Y,hY,z⟩⟩
  obtain ⟨X,hX,min,Xk⟩:=c7K (P:=CvM B) (a1B n) k Y0 c0 l0
  refine Classical.byContradiction λ notV=>?_
  refine notV (.mk X (λ z=>absurd z (by omega)) (λ a b _ t nb=>absurd (clV a b t) nb) λ P hP=>?_)
  obtain ⟨p,pp⟩:=hP.ne
  obtain ⟨pm,hpm,pml⟩:∃ pm:Nat,(∀ x,bitP pm x↔P x)/\pm < 2 ^ n:=by
   refine ⟨a6Z (λ x=>decide (P x)) n,λ x=>?_,?_⟩
   ·show (a6Z (λ x=>decide (P x)) n).testBit x=true↔_
    rw [a2E,Bool.and_eq_true,decide_eq_true_iff,decide_eq_true_iff]
    exact ⟨λ h=>h.2,λ h=>⟨(hP.sub h).1,h⟩⟩
   ·refine Nat.lt_pow_two_of_testBit _ λ i hi=>?_
    rw [a2E,decide_eq_false (by omega)]; rfl
  by_cases c:∀ b∈B,TcM ts pm b
  ·-- the piece comes to the family
   have jp:JnM ts pm:=⟨p,(hpm p).mpr pp,λ y hy=>(hP.con pp ((hpm y).mp hy)).mono λ u hu=>(hpm u).mpr hu⟩
   have F':FamM n ts (pm::B):=by
    refine ⟨λ b hb=>?_,λ b hb=>?_,λ b hb c' hc=>?_⟩
    ·rcases List.mem_cons.mp hb with e | hb
     ·rw [e]; exact pml
     ·exact F.lt b hb
    ·rcases List.mem_cons.mp hb with e | hb
     ·rw [e]; exact jp
     ·exact F.jn b hb
    ·rcases List.mem_cons.mp hb with e | hb
     ·rcases List.mem_cons.mp hc with e' | hc
      ·rw [e,e']; exact jp.tch
      ·rw [e]; exact c c' hc
     ·rcases List.mem_cons.mp hc with e' | hc
      ·rw [e']; exact (c b hb).symm
      ·exact F.tc b hb c' hc
   have new:pm ∉ B:=λ z=>by
    obtain ⟨x,h1,h2⟩:=hX pm z
    exact (hP.sub ((hpm x).mp h1)).2 h2
   have less:=Srt.countP_lt (l:=List.range (2 ^ n)) (p:=λ x=>decide (x ∉ pm::B)) (q:=λ x=>decide (x ∉ B)) (λ z hz=>decide_eq_true λ y=>of_decide_eq_true hz (List.mem_cons_of_mem _ y)) (List.mem_range.mpr pml) (decide_eq_false λ z=>z List.mem_cons_self) (decide_eq_true new)
   have D':=dual n10 clV m (pm::B) (by omega) F' λ ⟨B',s,f,h⟩=>nE ⟨B',λ b hb=>s b (List.mem_cons_of_mem _ hb),f,h⟩
   rcases c6C (G:=AB n k B) (c3A n k (pm::B)) D' λ a b _ t=>clV a b t with d | ⟨Z,aZ,gZ,hD⟩
   ·exact absurd d notV
   ·obtain ⟨kZ,cZ⟩:k < a1B n Z/\CvM B Z:=by
     refine Classical.byContradiction λ z=>gZ λ a b=>z ⟨a,b⟩
    have ZP:∀ x,P x->¬ Z x:=λ x px zx=>aZ kZ λ b hb=>by
     rcases List.mem_cons.mp hb with e | hb
     ·rw [e]; exact ⟨x,(hpm x).mpr px,zx⟩
     ·exact cZ b hb
    have pV:(λ x=>x < n/\¬ Z x) p:=⟨(hP.sub pp).1,ZP p pp⟩
    have cD:Comp ts (λ x=>x < n/\¬ Z x) λ y=>Rc ts (λ x=>x < n/\¬ Z x) p y:=Comp.at pV
    refine c3B F.jn lt clV hX min Xk hP hpm cZ ZP (hD _ cD) (λ x hx=>(cD.sub hx).2) P (Comp.of pp (λ y py=>⟨py,(hP.con pp py).mono λ u hu=>⟨(hP.sub hu).1,ZP u hu⟩⟩) (λ y py=>hP.con pp py) λ y z py t ⟨pz,_⟩=>pz)
  ·-- a part that it does not touch
   obtain ⟨b,hb⟩:=Classical.not_forall.mp c
   obtain ⟨hb,nt⟩:=Classical.not_imp.mp hb
   refine .mk (λ x=>P x\/Nb ts P x) (λ _ cv=>?_) (λ a b' pa t nb=>.inr ⟨nb,a,pa,t⟩) λ C' hC'=>?_
   ·obtain ⟨x,bx,h⟩:=cv b hb
    rcases h with px | ⟨_,a,pa,t⟩
    ·exact nt ⟨x,x,(hpm x).mpr px,bx,.inl rfl⟩
    ·exact nt ⟨a,x,(hpm a).mpr pa,bx,.inr t⟩
   ·obtain ⟨x,cx⟩:=hC'.ne
    exact absurd (.inl (hC'.sub cx).1) (hC'.sub cx).2
end
theorem a5F {n:Nat} {ts:List ζζ} {S v u:Nat} (n10:n<=10) (Sl:S < 2 ^ n) (vn:v < n) (vS:S.testBit v=false):bitP (bagN n ts S v) u↔u < n/\S.testBit u=false/\(v=u\/PathT ts (a0M S) v u):=by
 obtain ⟨pn,pl,pm⟩:=a2Q n10 Sl
 have R:=a6F (ts:=ts) pn pl
 have hv:v ∉ a0M S:=λ z=>by have:=(pm v).mp z; rw [vS] at this; cases this
 show (bagN n ts S v).testBit u=true↔_
 unfold bagN
 rw [a2E,Bool.and_eq_true,decide_eq_true_iff]
 refine and_congr_right λ un=>?_
 by_cases c:S.testBit u=true
 ·rw [R.gone v u vn hv ((pm u).mpr c),c]
  exact ⟨λ z=>absurd z Bool.false_ne_true,λ z=>absurd z.1.symm Bool.false_ne_true⟩
 ·have c':S.testBit u=false:=Bool.eq_false_iff.mpr c
  rw [R.path v u vn un hv λ z=>c ((pm u).mp z)]
  exact ⟨λ z=>⟨c',z⟩,λ z=>z.2⟩
abbrev a2Y (n:Nat) (ts:List ζζ) (A:St'->Prop) (S v:Nat):Prop:=A (bitP (bagN n ts S v))
theorem or_bit {S v u:Nat}:(S ||| 2 ^ v).testBit u=true↔S.testBit u=true\/u=v:=by
 rw [Nat.testBit_or,Nat.testBit_two_pow,Bool.or_eq_true,decide_eq_true_iff]
 exact or_congr_right eq_comm
section
variable {ts:List ζζ} {n:Nat}
theorem a6N {A:St'->Prop} {C:St'} (Cn:∀ x,C x->x < n) {good:Nat->Nat->Prop}:∀ (j:Nat) (S:Nat) (os:List Nat),FreeP n good S os->(∀ S',(∀ u,bitP S u->bitP S' u)->(∀ u,bitP S' u->bitP S u\/C u)->S' < 2 ^ n->∀ x,C x->¬ bitP S' x->good S' x)->a1B n (λ u=>C u/\¬ bitP S u)<=j->∃ S' os',FreeP n good S' os'/\∀ u,bitP S' u↔bitP S u\/C u:=by
 intro j
 induction j with
 | zero =>
  intro S os h _ l
  refine ⟨S,os,h,λ u=>⟨.inl,λ c=>c.elim id λ cu=>Classical.byContradiction λ nb=>?_⟩⟩
  have:0 < a1B n λ u=>C u/\¬ bitP S u:=b7D (Cn u cu) ⟨cu,nb⟩
  omega
 | succ j ih =>
  intro S os h g l
  by_cases c:∃ x,C x/\¬ bitP S x
  ·obtain ⟨x,cx,nx⟩:=c
   have xn:=Cn x cx
   have nx':S.testBit x=false:=Bool.eq_false_iff.mpr nx
   have h1:=FreeP.snoc h nx' xn (g S (λ _ hu=>hu) (λ _ hu=>.inl hu) h.lt x cx nx)
   obtain ⟨S',os',f,e⟩:=ih (S ||| 2 ^ x) _ h1 (λ S' s1 s2 sl y cy ny=>g S' (λ u hu=>s1 u (or_bit.mpr (.inl hu))) (λ u hu=>by
    rcases s2 u hu with q | q
    ·rcases or_bit.mp q with q | q
     ·exact .inl q
     ·rw [q]; exact .inr cx
    ·exact .inr q) sl y cy ny) (by
     have:a1B n (λ u=>C u/\¬ bitP (S ||| 2 ^ x) u) < a1B n λ u=>C u/\¬ bitP S u:=by
      exact c2Y (λ z hz=>⟨hz.1,λ q=>hz.2 (or_bit.mpr (.inl q))⟩) xn (λ z=>z.2 (or_bit.mpr (.inr rfl))) ⟨cx,nx⟩
     omega)
   refine ⟨S',os',f,λ u=>(e u).trans ?_⟩
   constructor
   ·rintro (q | q)
    ·rcases or_bit.mp q with q | q
     ·exact .inl q
     ·rw [q]; exact .inr cx
    ·exact .inr q
   ·rintro (q | q)
    ·exact .inl (or_bit.mpr (.inl q))
    ·exact .inr q
  ·exact ⟨S,os,h,λ u=>⟨.inl,λ q=>q.elim id λ cu=>Classical.byContradiction λ nb=>c ⟨u,cu,nb⟩⟩⟩
theorem c3C (n10:n<=10) {A:St'->Prop} (DA:Down A) {C:St'} (h:Dec ts A C) :
  (∀ x,C x->x < n)->∀ S os,FreeP n (a2Y n ts A) S os->(∀ a b,C a->bitP S b->tieT ts a b=false)->(∀ a,C a->¬ bitP S a)->∃ S' os',FreeP n (a2Y n ts A) S' os'/\∀ u,bitP S' u↔bitP S u\/C u:=by
 induction h with
 | @mk C Y ok near h ih =>
  intro Cn S0 os0 f0 nt dis
  have p1:∀ (j S:Nat) (os:List Nat),FreeP n (a2Y n ts A) S os->(∀ u,bitP S u↔bitP S0 u\/(bitP S u/\C u/\¬ Y u))->(∀ u v,bitP S u->C u/\¬ Y u->C v/\¬ Y v->tieT ts u v=true->bitP S v)->a1B n (λ u=>(C u/\¬ Y u)/\¬ bitP S u)<=j->∃ S' os',FreeP n (a2Y n ts A) S' os'/\∀ u,bitP S' u↔bitP S0 u\/(C u/\¬ Y u):=by
   intro j
   induction j with
   | zero =>
    intro S os f e cl l
    refine ⟨S,os,f,λ u=>⟨λ hu=>((e u).mp hu).imp id λ z=>z.2,λ q=>q.elim (λ z=>(e u).mpr (.inl z)) λ cu=>Classical.byContradiction λ nb=>?_⟩⟩
    have:0 < a1B n λ u=>(C u/\¬ Y u)/\¬ bitP S u:=b7D (Cn u cu.1) ⟨cu,nb⟩
    omega
   | succ j ihj =>
    intro S os f e cl l
    by_cases c:∃ x,(C x/\¬ Y x)/\¬ bitP S x
    ·obtain ⟨x,cx,nx⟩:=c
     have cc:Comp ts (λ x=>C x/\¬ Y x) λ y=>Rc ts (λ x=>C x/\¬ Y x) x y:=Comp.at cx
     have out:∀ y,Rc ts (λ x=>C x/\¬ Y x) x y->¬ bitP S y:=λ y r=>by
      induction r with
      | refl _=>exact nx
      | @step u v p t hv ih2=>exact λ z=>ih2 (cl v u z hv p.snd (a3K t))
     obtain ⟨S1,os1,f1,e1⟩:=ih _ cc (λ y hy=>Cn y (cc.sub hy).1) S os f (λ a b ha hb=>by
      rcases (e b).mp hb with q | ⟨_,q⟩
      ·exact nt a b (cc.sub ha).1 q
      ·cases t:tieT ts a b with
       | false=>rfl
       | true=>exact absurd hb (out b (cc.tie ha t q))) out
     refine ihj S1 os1 f1 (λ u=>?_) (λ u v hu cu cv t=>?_) ?_
     ·constructor
      ·intro hu
       rcases (e1 u).mp hu with q | q
       ·rcases (e u).mp q with q | q
        ·exact .inl q
        ·exact .inr ⟨hu,q.2⟩
       ·exact .inr ⟨hu,cc.sub q⟩
      ·rintro (q | q)
       ·exact (e1 u).mpr (.inl ((e u).mpr (.inl q)))
       ·exact q.1
     ·rcases (e1 u).mp hu with q | q
      ·exact (e1 v).mpr (.inl (cl u v q cu cv t))
      ·exact (e1 v).mpr (.inr (cc.tie q t cv))
     ·have:a1B n (λ u=>(C u/\¬ Y u)/\¬ bitP S1 u) < a1B n λ u=>(C u/\¬ Y u)/\¬ bitP S u:=by
       exact c2Y (λ z hz=>⟨hz.1,λ q=>hz.2 ((e1 z).mpr (.inl q))⟩) (Cn x cx.1) (λ z=>z.2 ((e1 x).mpr (.inr (.refl cx)))) ⟨cx,nx⟩
      omega
    ·exact ⟨S,os,f,λ u=>⟨λ hu=>((e u).mp hu).imp id λ z=>z.2,λ q=>q.elim (λ z=>(e u).mpr (.inl z)) λ cu=>Classical.byContradiction λ nb=>c ⟨u,cu,nb⟩⟩⟩
  obtain ⟨S1,os1,f1,e1⟩:=p1 _ S0 os0 f0 (λ u=>⟨.inl,λ q=>q.elim id λ z=>z.1⟩) (λ u v hu cu _ _=>absurd hu (dis u cu.1)) (Nat.le_refl _)
  have gd:∀ S',(∀ u,bitP S1 u->bitP S' u)->(∀ u,bitP S' u->bitP S1 u\/C u)->S' < 2 ^ n->∀ x,C x->¬ bitP S' x->a2Y n ts A S' x:=λ S' s1 s2 sl x cx nx=>by
   refine DA Y _ (λ u hu=>?_) ok
   have nx':S'.testBit x=false:=Bool.eq_false_iff.mpr nx
   obtain ⟨un,uS,r⟩:=(a5F n10 sl (Cn x cx) nx').mp hu
   have inY:∀ {w},C w->¬ bitP S' w->Y w:=λ {w} cw nw=>Classical.byContradiction λ ny=>nw (s1 w ((e1 w).mpr (.inr ⟨cw,ny⟩)))
   have uS':¬ bitP S' u:=λ z=>by rw [show S'.testBit u=true from z] at uS; cases uS
   rcases r with r | r
   ·rw [<- r]; exact inY cx nx
   ·have pm:∀ w,w∈a0M S'↔bitP S' w:=λ w=>(a2Q n10 sl).2.2 w
    have step:∀ {a w},C a->tieT ts a w=true->bitP S' w->C w:=λ {a w} ca t hw=>by
     rcases s2 w hw with q | q
     ·rcases (e1 w).mp q with q | q
      ·rw [nt a w ca q] at t; cases t
      ·exact q.1
     ·exact q
    have go:∀ {w},PathT ts (a0M S') x w->(bitP S' w->C w)/\(¬ bitP S' w->Y w):=λ {w} p=>by
     have last:∀ {a w},C a->tieT ts a w=true->(bitP S' w->C w)/\(¬ bitP S' w->Y w):=λ {a w} ca t=>by
      refine ⟨step ca t,λ nw=>?_⟩
      by_cases cw:C w
      ·exact inY cw nw
      ·exact near a w ca t cw
     induction p with
     | one t=>exact last cx t
     | step p m t ih2=>exact last (ih2.1 ((pm _).mp m)) t
    exact (go r).2 uS'
  obtain ⟨S2,os2,f2,e2⟩:=a6N (A:=A) Cn _ S1 os1 f1 gd (Nat.le_refl _)
  refine ⟨S2,os2,f2,λ u=>(e2 u).trans ?_⟩
  rw [e1 u]
  constructor
  ·rintro ((q | q) | q)
   ·exact .inl q
   ·exact .inr q.1
   ·exact .inr q
  ·rintro (q | q)
   ·exact .inl (.inl q)
   ·exact .inr q
theorem b0P (n10:n<=10) {B:List Nat} (F:FamM n ts B) {good:Nat->Nat->Prop} {S:Nat} {os:List Nat} (f:FreeP n good S os):(∀ b∈B,∃ x,bitP b x/\¬ bitP S x)\/∃ S' v,S' < 2 ^ n/\v < n/\S'.testBit v=false/\good S' v/\CvM B (bitP (bagN n ts S' v)):=by
 induction f with
 | nil =>
  refine .inl λ b hb=>?_
  obtain ⟨x,hx,_⟩:=F.jn b hb
  exact ⟨x,hx,λ z=>absurd (show (0:Nat).testBit x=true from z) (by rw [Nat.zero_testBit]; exact Bool.false_ne_true)⟩
 | @snoc S v os f vS vn g ih =>
  rcases ih with ih | ih
  ·by_cases c:∀ b∈B,∃ x,bitP b x/\¬ bitP (S ||| 2 ^ v) x
   ·exact .inl c
   ·refine .inr ⟨S,v,f.lt,vn,vS,g,?_⟩
    obtain ⟨b0,hb0⟩:=Classical.not_forall.mp c
    obtain ⟨hb0,all0⟩:=Classical.not_imp.mp hb0
    have inn:∀ {w},bitP b0 w->bitP S w\/w=v:=λ {w} hw=>Classical.byContradiction λ z=>all0 ⟨w,hw,λ q=>z (or_bit.mp q)⟩
    have v0:bitP b0 v:=by
     obtain ⟨x,h1,h2⟩:=ih b0 hb0
     rcases inn h1 with q | q
     ·exact absurd q h2
     ·rw [<- q]; exact h1
    have pm:∀ w,w∈a0M S↔bitP S w:=λ w=>(a2Q n10 f.lt).2.2 w
    have next:∀ {w w'},(v=w\/(bitP S w/\PathT ts (a0M S) v w))->tieT ts w w'=true->PathT ts (a0M S) v w':=λ {w w'} r t=>by
     rcases r with r | ⟨r1,r2⟩
     ·rw [r]; exact .one t
     ·exact .step r2 ((pm w).mpr r1) t
    have rb0:∀ {w},Rc ts (bitP b0) v w->v=w\/(bitP S w/\PathT ts (a0M S) v w):=λ {w} r=>by
     induction r with
     | refl _=>exact .inl rfl
     | @step y z p t hz ih2 =>
      rcases inn hz with q | q
      ·exact .inr ⟨q,next ih2 t⟩
      ·exact .inl q.symm
    intro b hb
    have found:∀ {u},bitP b u->¬ bitP S u->(v=u\/PathT ts (a0M S) v u)->∃ x,bitP b x/\bitP (bagN n ts S v) x:=λ {u} bu nu r=>by
     have un:u < n:=Classical.byContradiction λ c=>by
      have:=F.lt b hb
      have h2:b.testBit u=false:=Nat.testBit_lt_two_pow (Nat.lt_of_lt_of_le this (Nat.pow_le_pow_right (by decide) (by omega)))
      rw [show b.testBit u=true from bu] at h2
      cases h2
     exact ⟨u,bu,(a5F n10 f.lt vn vS).mpr ⟨un,Bool.eq_false_iff.mpr nu,r⟩⟩
    obtain ⟨x,bx,nx⟩:=ih b hb
    obtain ⟨y,y',hy,hy',e⟩:=F.tc b0 hb0 b hb
    have ry:=rb0 ((F.jn b0 hb0).con v0 hy)
    have ry':v=y'\/PathT ts (a0M S) v y':=by
     rcases e with e | t
     ·rw [<- e]; exact ry.imp id λ z=>z.2
     ·exact .inr (next ry t)
    have walk:∀ {w},Rc ts (bitP b) y' w->(∃ x,bitP b x/\bitP (bagN n ts S v) x)\/(bitP S w/\PathT ts (a0M S) v w):=λ {w} r=>by
     have at_:∀ {w},bitP b w->(v=w\/PathT ts (a0M S) v w)->(∃ x,bitP b x/\bitP (bagN n ts S v) x)\/(bitP S w/\PathT ts (a0M S) v w):=λ {w} bw r=>by
      by_cases c:bitP S w
      ·refine .inr ⟨c,r.resolve_left λ z=>?_⟩
       rw [<- z] at c
       rw [show S.testBit v=true from c] at vS
       cases vS
      ·exact .inl (found bw c r)
     induction r with
     | refl h=>exact at_ h ry'
     | @step a w p t hw ih2 =>
      rcases ih2 with ih2 | ih2
      ·exact .inl ih2
      ·exact at_ hw (.inr (next (.inr ih2) t))
    rcases walk ((F.jn b hb).con hy' bx) with q | q
    ·exact q
    ·exact absurd q.1 nx
  ·exact .inr ih
theorem full_bit {n u:Nat}:bitP (2 ^ n - 1) u↔u < n:=by
 show (2 ^ n - 1).testBit u=true↔_
 rw [Nat.testBit_two_pow_sub_one,decide_eq_true_iff]
theorem d2Z {k:Nat} {B:List Nat} (n10:n<=10) (clV:∀ a b,tieT ts a b=true->b < n) (F:FamM n ts B) (no:∀ os,¬ FreeP n (a2Y n ts (AB n k B)) (2 ^ n - 1) os):ExtM n ts k B:=by
 refine Classical.byContradiction λ nE=>?_
 have D:=dual (k:=k) (Nat.pow_pos (by decide)) clV _ B (Nat.lt_succ_self _) F nE
 obtain ⟨S',os',f,e⟩:=c3C n10 (c3A n k B) D (λ x hx=>hx) 0 [] .nil (λ a b _ hb=>absurd (show (0:Nat).testBit b=true from hb) (by rw [Nat.zero_testBit]; exact Bool.false_ne_true)) (λ a _ hb=>absurd (show (0:Nat).testBit a=true from hb) (by rw [Nat.zero_testBit]; exact Bool.false_ne_true))
 have:S'=2 ^ n - 1:=Nat.eq_of_testBit_eq λ u=>by
  rw [Bool.eq_iff_iff]
  refine (e u).trans ((or_iff_right λ z=>?_).trans full_bit.symm)
  exact absurd (show (0:Nat).testBit u=true from z) (by rw [Nat.zero_testBit]; exact Bool.false_ne_true)
 rw [this] at f
 exact no os' f
theorem c9X {k:Nat} {B:List Nat} (n10:n<=10) (n0:0 < n) (F:FamM n ts B) (big:∀ Y,CvM B Y->k < a1B n Y) (os:List Nat):¬ FreeP n (a2Y n ts (AB n k B)) (2 ^ n - 1) os:=λ f=>by
 by_cases e:B=[]
 ·-- no parts: any bag covers them
  have:=big (λ _=>False) (by rw [e]; exact λ b hb=>absurd hb List.not_mem_nil)
  have z:a1B n (λ _=>False)=0:=c2Z λ _ h=>h
  omega
 ·rcases b0P n10 F f with c | ⟨S,v,_,_,_,g,cv⟩
  ·obtain ⟨b,r,eb⟩:=List.exists_cons_of_ne_nil e
   have hb:b∈B:=by rw [eb]; exact List.mem_cons_self
   obtain ⟨x,bx,nx⟩:=c b hb
   refine nx (full_bit.mpr (Classical.byContradiction λ c=>?_))
   have:=F.lt b hb
   have h2:b.testBit x=false:=Nat.testBit_lt_two_pow (Nat.lt_of_lt_of_le this (Nat.pow_le_pow_right (by decide) (by omega)))
   rw [show b.testBit x=true from bx] at h2
   cases h2
  ·exact g (big _ cv) cv
theorem c6E {k X:Nat} {B:List Nat} (n10:n<=10) (n0:0 < n) (clV:∀ a b,tieT ts a b=true->b < n) (F:FamM n ts B) (no:∀ os,¬ FreeP n (a2Y n ts (AB n k B)) (2 ^ n - 1) os) (Xk:a1B n (bitP X)<=k) :
  ∃ C,Comp ts (λ x=>x < n/\¬ bitP X x) C/\∀ cm,(∀ x,bitP cm x↔C x)->∀ os,¬ FreeP n (a2Y n ts (AB n k (cm::B))) (2 ^ n - 1) os:=by
 obtain ⟨B',sub,F',big⟩:=d2Z n10 clV F no
 obtain ⟨d,hd⟩:=Classical.not_forall.mp λ c:CvM B' (bitP X)=>Nat.lt_irrefl k (Nat.lt_of_lt_of_le (big _ c) Xk)
 obtain ⟨hd,miss⟩:=Classical.not_imp.mp hd
 obtain ⟨x,dx,con⟩:=F'.jn d hd
 have dV:∀ {u},bitP d u->u < n/\¬ bitP X u:=λ {u} du=>by
  refine ⟨Classical.byContradiction λ c=>?_,λ z=>miss ⟨u,du,z⟩⟩
  have:=F'.lt d hd
  have h2:d.testBit u=false:=Nat.testBit_lt_two_pow (Nat.lt_of_lt_of_le this (Nat.pow_le_pow_right (by decide) (by omega)))
  rw [show d.testBit u=true from du] at h2
  cases h2
 have cc:Comp ts (λ x=>x < n/\¬ bitP X x) λ y=>Rc ts (λ x=>x < n/\¬ bitP X x) x y:=Comp.at (dV dx)
 refine ⟨_,cc,λ cm hcm os f=>?_⟩
 have dC:∀ {u},bitP d u->bitP cm u:=λ {u} du=>(hcm u).mpr ((con u du).mono λ w hw=>dV hw)
 have cmx:bitP cm x:=dC dx
 have jc:JnM ts cm:=⟨x,cmx,λ y hy=>(cc.con (.refl (dV dx)) ((hcm y).mp hy)).mono λ u hu=>(hcm u).mpr hu⟩
 have tc:∀ b∈B',TcM ts cm b:=λ b hb=>by
  obtain ⟨y,z,hy,hz,e⟩:=F'.tc d hd b hb
  exact ⟨y,z,dC hy,hz,e⟩
 have cl:cm < 2 ^ n:=Nat.lt_pow_two_of_testBit _ λ i hi=>by
  cases c:cm.testBit i with
  | false=>rfl
  | true=>exact absurd (cc.sub ((hcm i).mp c)).1 (by omega)
 have F'':FamM n ts (cm::B'):=by
  refine ⟨λ b hb=>?_,λ b hb=>?_,λ b hb c' hc=>?_⟩
  ·rcases List.mem_cons.mp hb with e | hb
   ·rw [e]; exact cl
   ·exact F'.lt b hb
  ·rcases List.mem_cons.mp hb with e | hb
   ·rw [e]; exact jc
   ·exact F'.jn b hb
  ·rcases List.mem_cons.mp hb with e | hb
   ·rcases List.mem_cons.mp hc with e' | hc
    ·rw [e,e']; exact jc.tch
    ·rw [e]; exact tc c' hc
   ·rcases List.mem_cons.mp hc with e' | hc
    ·rw [e']; exact (tc b hb).symm
    ·exact F'.tc b hb c' hc
 refine c9X n10 n0 F'' (λ Y hY=>big Y λ b hb=>hY b (List.mem_cons_of_mem _ hb)) os (f.weak λ S v _ _ _ g l c=>g l λ b hb=>?_)
 rcases List.mem_cons.mp hb with e | hb
 ·rw [e]; exact c cm List.mem_cons_self
 ·exact c b (List.mem_cons_of_mem _ (sub b hb))
theorem b5R {k cm:Nat} {B:List Nat} (n10:n<=10) (cl:cm < 2 ^ n) (no:∀ os,¬ FreeP n (a2Y n ts (AB n k (cm::B))) (2 ^ n - 1) os):∀ b∈B,TcM ts cm b:=by
 intro b hb
 refine Classical.byContradiction λ nt=>?_
 have cn:∀ x,bitP cm x->x < n:=λ x hx=>Classical.byContradiction λ c=>by
  have h2:cm.testBit x=false:=Nat.testBit_lt_two_pow (Nat.lt_of_lt_of_le cl (Nat.pow_le_pow_right (by decide) (by omega)))
  rw [show cm.testBit x=true from hx] at h2
  cases h2
 obtain ⟨S1,os1,f1,e1⟩:=a6N (A:=AB n k (cm::B)) (C:=bitP cm) cn (good:=a2Y n ts (AB n k (cm::B))) _ 0 [] .nil (λ S' s1 s2 sl x cx nx=>by
  intro _ cv
  obtain ⟨u,bu,hu⟩:=cv b (List.mem_cons_of_mem _ hb)
  obtain ⟨_,_,r⟩:=(a5F n10 sl (cn x cx) (Bool.eq_false_iff.mpr nx)).mp hu
  have inC:∀ {w},bitP S' w->bitP cm w:=λ {w} hw=>(s2 w hw).elim (λ z=>absurd (show (0:Nat).testBit w=true from z) (by rw [Nat.zero_testBit]; exact Bool.false_ne_true)) id
  rcases r with r | r
  ·rw [<- r] at bu
   exact nt ⟨x,x,cx,bu,.inl rfl⟩
  ·cases r with
   | one t=>exact nt ⟨x,u,cx,bu,.inr t⟩
   | step _ m t=>exact nt ⟨_,u,inC (((a2Q n10 sl).2.2 _).mp m),bu,.inr t⟩) (Nat.le_refl _)
 obtain ⟨S2,os2,f2,e2⟩:=a6N (A:=AB n k (cm::B)) (C:=λ x=>x < n) (λ x hx=>hx) (good:=a2Y n ts (AB n k (cm::B))) _ S1 os1 f1 (λ S' s1 s2 sl x cx nx=>by
  intro _ cv
  obtain ⟨u,bu,hu⟩:=cv cm List.mem_cons_self
  obtain ⟨_,h2,_⟩:=(a5F n10 sl cx (Bool.eq_false_iff.mpr nx)).mp hu
  have:=s1 u ((e1 u).mpr (.inr bu))
  rw [show S'.testBit u=true from this] at h2
  cases h2) (Nat.le_refl _)
 have:S2=2 ^ n - 1:=Nat.eq_of_testBit_eq λ u=>by
  rw [Bool.eq_iff_iff]
  refine (e2 u).trans ⟨λ z=>full_bit.mpr (z.elim (λ q=>?_) id),λ z=>.inr (full_bit.mp z)⟩
  exact ((e1 u).mp q).elim (λ z=>absurd (show (0:Nat).testBit u=true from z) (by rw [Nat.zero_testBit]; exact Bool.false_ne_true)) (cn u)
 rw [this] at f2
 exact no os2 f2
end
end K
namespace K
open PySem L2 Lw Bg
abbrev a6O:Stmt:=top 45
theorem a9Q:FnScope ["covers", "part"] ["covers", "part"] (a0F a6O):=⟨rfl,rfl,rfl,by decide +kernel,rfl,by decide +kernel,by decide +kernel⟩
abbrev a6P:Stmt:=top 46
theorem sc_small_cover:FnScope ["covers", "sizes", "wide", "mask", "size"] ["covers", "sizes", "wide"] (a0F a6P):=⟨rfl,rfl,rfl,by decide +kernel,rfl,by decide +kernel,by decide +kernel⟩
abbrev a6Q:Stmt:=top 47
theorem a9R:FnScope ["covers", "sizes", "wide"] ["covers", "sizes", "wide"] (a0F a6Q):=⟨rfl,rfl,rfl,by decide +kernel,rfl,by decide +kernel,by decide +kernel⟩
theorem b1Y {n m:Nat} (n10:n<=10) (ml:m < 2 ^ n):a1B n (bitP m)=popF m:=by
 have a:a1B n (bitP m)=(List.range n).countP m.testBit:=a4D λ x=>Iff.rfl
 have b:popF m=(List.range 10).countP m.testBit:=by
  unfold popF a0M
  rw [List.countP_eq_length_filter]
 rw [a,b]
 obtain ⟨k,e⟩:∃ k,10=n+k:=⟨10 - n,by omega⟩
 rw [e,List.range_add,List.countP_append]
 have z:((List.range k).map λ x=>n+x).countP m.testBit=0:=by
  rw [List.countP_eq_zero]
  intro x hx
  obtain ⟨y,_,rfl⟩:=List.mem_map.mp hx
  rw [a1W ml (by omega)]
  exact Bool.false_ne_true
 omega
def cvL (L:Nat) (f:Nat->Bool):List V:=((List.range L).map f).map V.bl
theorem b1Z (L:Nat) (f:Nat->Bool):(cvL L f).length=L:=by unfold cvL; rw [List.length_map,List.length_map,List.length_range]
theorem c3D {L:Nat} {f:Nat->Bool} {m:Nat} (h:m < L):atI (cvL L f) (m:Int)=some (.bl (f m)):=a1L (by
 unfold cvL
 rw [List.getElem?_map,List.getElem?_map,List.getElem?_range h]; rfl)
def a5C (f:Nat->Bool) (p m:Nat):Bool:=f m && decide (m &&& p≠0)
theorem d3A (a b:Nat):V.int (Builtin.bitAnd (a:Int) (b:Int))=V.int 0↔a &&& b=0:=by
 rw [b1G]
 constructor
 ·intro h; injection h with h; omega
 ·intro h; rw [h]; rfl
theorem c3E {α β:Type} (g:β->V) (f:α->β) (l:List α):l.filterMap (λ x=>some (g (f x)))=(l.map f).map g:=by
 rw [List.map_map]
 exact congrFun (List.filterMap_eq_map' (f:=g ∘ f)) l
def d3B (K:Φρ):Sp:=λ vs H Q _=>∃ (a:Addr) (L p:Nat) (f:Nat->Bool),vs=[.ref a,.int (p:Int)]/\SqL K H a (cvL L f)/\L<=1024/\∀ r H',Same H H'->H r=none->H' r=some (.lst (cvL L (a5C f p)))->Q (.ref r) H'
def c6F (K:Φρ):Sp:=λ vs H Q _=>∃ (a b:Addr) (L:Nat) (f:Nat->Bool) (z:Int),vs=[.ref a,.ref b,.int z]/\SqL K H a (cvL L f)/\SqL K H b (a1N L)/\L<=1024 /\
 (∀ m H',Same H H'->m < L->(popF m:Int)=z->f m=true->Q (.int ((m:Nat):Int)) H')/\∀ H',Same H H'->(∀ m,m < L->(popF m:Int)=z->f m=false)->Q .non H'
def c6G (K:Φρ):Sp:=λ vs H Q _=>∃ (a b:Addr) (L:Nat) (f:Nat->Bool) (z:Int),vs=[.ref a,.ref b,.int z]/\SqL K H a (cvL L f)/\SqL K H b (a1N L)/\L<=1024 /\
 ∀ r H',Same H H'->H r=none->H' r=some (.lst (cvL L λ m=>f m && decide (z < (popF m:Int))))->Q (.ref r) H'
section
variable {P:Program} {w:World} {K:Φρ} {mg:Str->Option Value} {base:Heap}
abbrev DZ15 (K:PySem.W.Frag) (mg:Str->Option Value):=Dn K mg "covers_also" a6O ["covers", "part"]
set_option maxHeartbeats 8000000 in
theorem a5L (B:Bl mg) (dZ15:DZ15 K mg):FnOk P w K mg base CX0 1 dZ15.f dZ15.fd ["covers", "part"] (d3B K):=by
 refine dZ15.F.ok a9Q (λ vs H Q E h=>?_) (λ cdv A outer s H vs Q E hr h=>?_)
 ·obtain ⟨a,L,p,f,rfl,_⟩:=h
  rfl
 obtain ⟨a,L,p,f,rfl,hA,lL,q⟩:=h
 refine ⟨_,(a0D (a0N (a2V ["mask", "covers", "part"] [none,some 0,some 1]  (by kernel_rfl) rfl (a2U rfl B.range (a0A (a0I (a0T (K:=K) rfl) rfl B.len (by decide +kernel) (a0A (pv 0) a0B)) a0B)) (λ _ _ _ _ _=>(a0H (i:=0) (show (["mask", "covers", "part"]:List Str).Nodup by decide +kernel) rfl (Or.inl rfl))) (λ _ _ _ _ _=>a1H) (λ _ _ _ _ _=>(a9W (a0V (a0L (K:=K) rfl) (pv 1) (pv 0) (λ _ _=>rfl)) (a9V (a4E b7W (a0Q b2E (pv 0) (pv 2)) a0E (a0U _)))))))),?_⟩
 refine ⟨_,rfl,a,_,rfl,.inl hA,_,rfl,by rw [b1Z]; omega,by rw [b1Z]; omega,?_⟩
 rw [b1Z,Int.toNat_natCast]
 refine b9W (λ m=>some (.bl (a5C f p m))) (Nat.le_trans (show L<=5000 by omega) (by decide)) (λ i H1 N hi s1 hN=>?_) (λ H1 r s1 hf=>?_)
 ·have ei:(0:Int)+(i:Int)=(i:Int):=by omega
  rw [ei]
  have hN':=hN H1 s1
  refine ⟨_,rfl,_,rfl,a,_,_,_,rfl,rfl,s1.seq hA,c3D hi,f i,rfl,?_⟩
  unfold a5C at hN'
  cases c:f i with
  | false=>rw [c] at hN'; exact iteF hN'
  | true =>
   rw [c] at hN'
   refine iteT ⟨_,rfl,_,rfl,_,_,rfl,rfl,rfl,?_⟩
   dsimp only
   rw [show (!decide (V.int (Builtin.bitAnd (i:Int) (p:Int))=V.int 0))=decide (i &&& p≠0) by
    rw [decide_not]
    exact congrArg not (decide_eq_decide.mpr (d3A i p))]
   exact hN'
 ·have nG:=New.mk0 (o:=HO.lst (List.filterMap (λ m=>some (V.bl (a5C f p m))) (List.range L))) hf
  generalize upd H1 r (HO.lst (List.filterMap (λ m=>some (V.bl (a5C f p m))) (List.range L)))=G at nG ⊢
  refine q r G (s1.trans nG.same) (s1.free hf) ?_
  rw [nG.here,c3E]; rfl
abbrev DZ42 (K:PySem.W.Frag) (mg:Str->Option Value):=Dn K mg "small_cover" a6P ["covers", "sizes", "wide"]
set_option maxHeartbeats 8000000 in
theorem a9S (B:Bl mg) (dZ42:DZ42 K mg):FnOk P w K mg base CX0 1 dZ42.f dZ42.fd ["covers", "sizes", "wide"] (c6F K):=by
 refine dZ42.F.ok sc_small_cover (λ vs H Q E h=>?_) (λ cdv A outer s H vs Q E hr h=>?_)
 ·obtain ⟨a,b,L,f,z,rfl,_⟩:=h
  rfl
 obtain ⟨a,b,L,f,z,rfl,hA,hB,lL,q1,q2⟩:=h
 refine ⟨_,(a0C (a1Q PassesOwn.never rfl (a4X (K:=K) rfl rfl B.enumerate (a0A (pv 1) a0B)) (a2N (K:=K) (n:=2) rfl rfl (a0X (a0H (i:=3) sc_small_cover.nd rfl (Or.inl rfl)) (a0X (a0H (i:=4) sc_small_cover.nd rfl (Or.inl rfl)) a2L)))
   (a0D (a1X (PW.pt (b6A (a0P a3Q (pv 4) (pv 2) (a0U _)) (b0T (a0R (K:=K) rfl (a0V (a0L (K:=K) rfl) (pv 0) (pv 3) (λ _ _=>rfl)) (λ _=>rfl)))))
   (a0D (a0N (pv 3)))
   a0Y)))
   (a0D (a0N a2B))),?_⟩
 have ll:=a4A L
 refine ⟨_,rfl,b,rfl,⟨_,hB⟩,?_⟩
 refine a4I (xs:=a1N L) (λ i σ H'=>(∃ mm ss:Option V,σ=[some (.ref a),some (.ref b),some (.int z),mm,ss])/\Same H H'/\∀ m,m < i->(popF m:Int)=z->f m=false) ⟨⟨_,_,rfl⟩,Same.refl _,λ m h=>absurd h (Nat.not_lt_zero _)⟩ (λ i σ H' _ ⟨_,s,_⟩=>s.seq hB) ?_ ?_
 ·rintro i x σ H4 p H5 hi ⟨⟨mm,ss,rfl⟩,s4,no⟩ nw
  have il:i < L:=by
   have:=(List.getElem?_eq_some_iff.mp hi).1
   rw [ll] at this
   exact this
  obtain rfl:x = .int ((popF i:Nat):Int):=by
   unfold a1N at hi
   rw [List.getElem?_map,List.getElem?_range il] at hi
   injection hi with hi
   exact hi.symm
  have s5:=s4.trans nw.same
  refine ⟨p,_,rfl,SqT.of nw.here,rfl,_,_,rfl,_,_,rfl,rfl,?_⟩
  refine ⟨_,rfl,_,rfl,rfl,_,rfl,?_⟩
  refine ite2 (λ c=>?_) (λ c=>?_)
  ·have c1:(popF i:Int)=z:=by
    have:=of_decide_eq_true c
    injection this
   refine ⟨_,rfl,_,rfl,a,_,_,_,rfl,rfl,s5.seq hA,c3D il,_,rfl,?_⟩
   cases d:f i with
   | true=>exact iteT ⟨_,rfl,q1 i H5 s5 il c1 d⟩
   | false =>
    refine iteF ⟨⟨_,_,rfl⟩,s5,λ m hm e=>?_⟩
    by_cases dm:m=i
    ·rw [dm]; exact d
    ·exact no m (by omega) e
  ·have c1:¬ (popF i:Int)=z:=λ e=>c (decide_eq_true (by rw [e]))
   refine iteF ⟨⟨_,_,rfl⟩,s5,λ m hm e=>?_⟩
   by_cases d:m=i
   ·rw [d] at e; exact absurd e c1
   ·exact no m (by omega) e
 ·rintro σ H4 ⟨⟨mm,ss,rfl⟩,s4,no⟩
  rw [ll] at no
  exact q2 H4 s4 no
abbrev DZ11 (K:PySem.W.Frag) (mg:Str->Option Value):=Dn K mg "barred_bags" a6Q ["covers", "sizes", "wide"]
set_option maxHeartbeats 8000000 in
theorem a9T (B:Bl mg) (dZ11:DZ11 K mg):FnOk P w K mg base CX0 1 dZ11.f dZ11.fd ["covers", "sizes", "wide"] (c6G K):=by
 refine dZ11.F.ok a9R (λ vs H Q E h=>?_) (λ cdv A outer s H vs Q E hr h=>?_)
 ·obtain ⟨a,b,L,f,z,rfl,_⟩:=h
  rfl
 obtain ⟨a,b,L,f,z,rfl,hA,hB,lL,q⟩:=h
 refine ⟨_,(a0D (a0N (a2V ["mask", "size", "covers", "wide"] [none,none,some 0,some 2]  (by kernel_rfl) rfl (a4X (K:=K) rfl rfl B.enumerate (a0A (pv 1) a0B)) (λ _ _ _ _ _=>(a2N (K:=K) (n:=2) rfl rfl (a0X (a0H (i:=0) (show (["mask", "size", "covers", "wide"]:List Str).Nodup by decide +kernel) rfl (Or.inl rfl)) (a0X (a0H (i:=1) (show (["mask", "size", "covers", "wide"]:List Str).Nodup by decide +kernel) rfl (Or.inl rfl)) a2L)))) (λ _ _ _ _ _=>a1H) (λ _ _ _ _ _=>(a9W (a0V (a0L (K:=K) rfl) (pv 2) (pv 0) (λ _ _=>rfl)) (a9V (a4E b4R (pv 1) (pv 3) (a0U _)))))))),?_⟩
 refine ⟨_,rfl,b,rfl,⟨_,hB⟩,?_⟩
 have ll:=a4A L
 refine c5C (K:=K) (a:=b) (xs:=a1N L) (λ i ys G=>Same H G/\ys=cvL i λ m=>f m && decide (z < (popF m:Int))) ⟨Same.refl _,rfl⟩ (λ i ys G hi ⟨s,e⟩=>⟨s.seq hB,?_⟩) (λ i x ys G p G0 hi ⟨s,e⟩ nw=>?_) λ ys G ⟨s,e⟩ r hf=>?_
 ·rw [e,b1Z]
  rw [ll] at hi
  exact Nat.le_trans (show i<=5000 by omega) (by decide)
 ·have il:i < L:=by
   have:=(List.getElem?_eq_some_iff.mp hi).1
   rw [ll] at this
   exact this
  obtain rfl:x = .int ((popF i:Nat):Int):=by
   unfold a1N at hi
   rw [List.getElem?_map,List.getElem?_range il] at hi
   injection hi with hi
   exact hi.symm
  have s5:=s.trans nw.same
  have nxt:∀ b,b=(f i && decide (z < (popF i:Int)))->ys++[V.bl b]=cvL (i+1) λ m=>f m && decide (z < (popF m:Int)):=λ b eb=>by
   rw [e,eb]
   unfold cvL
   rw [List.range_succ,List.map_append,List.map_append]; rfl
  refine ⟨p,_,rfl,SqT.of nw.here,rfl,_,_,rfl,_,_,rfl,rfl,?_⟩
  refine ⟨_,rfl,_,rfl,a,_,_,_,rfl,rfl,s5.seq hA,c3D il,f i,rfl,?_⟩
  cases c:f i with
  | false=>exact iteF ⟨s5,nxt false (by rw [c]; rfl)⟩
  | true=>exact iteT ⟨_,rfl,_,rfl,_,_,rfl,rfl,s5,nxt _ (by rw [c]; rfl)⟩
 ·have nG:=New.mk0 (o:=HO.lst ys) hf
  generalize upd G r (HO.lst ys)=G' at nG ⊢
  refine q r G' (s.trans nG.same) (s.free hf) ?_
  rw [nG.here,e,ll]
end
end K
namespace K
open PySem L2 Lw Bg
theorem c3F {α:Type} {R:α->α->Prop}:∀ {l:List α},l.Pairwise R->∀ {a b:α},a∈l->b∈l->a=b\/R a b\/R b a
 | [],_,_,_,h,_=>absurd h List.not_mem_nil
 | x::l,h,a,b,ha,hb=>by
  obtain ⟨h1,h2⟩:=List.pairwise_cons.mp h
  rcases List.mem_cons.mp ha with e1 | ha1
  ·rcases List.mem_cons.mp hb with e2 | hb1
   ·exact .inl (e1.trans e2.symm)
   ·rw [e1]; exact .inr (.inl (h1 b hb1))
  ·rcases List.mem_cons.mp hb with e2 | hb1
   ·rw [e2]; exact .inr (.inr (h1 a ha1))
   ·exact c3F h2 ha1 hb1
theorem b0Q {ts:List ζζ} {p:List Nat} {T:St'} (hT:∀ x∈p,T x) {x y:Nat} (hx:x∈p) (h:PathT ts p x y):y∈p->Rc ts T x y:=by
 induction h with
 | one t=>exact λ hy=>.step (.refl (hT x hx)) t (hT _ hy)
 | step _ m t ih=>exact λ hy=>.step (ih m) t (hT _ hy)
theorem b4F {ts:List ζζ} {p:List Nat} (h:b0N ts p):JnM ts (a0W p):=by
 have mb:∀ u,bitP (a0W p) u↔u∈p:=λ u=>by
  show (a0W p).testBit u=true↔_
  rw [a1P,decide_eq_true_iff]
 obtain ⟨ne,co⟩:=h
 obtain ⟨x,r,e⟩:=List.exists_cons_of_ne_nil ne
 have xp:x∈p:=by rw [e]; exact List.mem_cons_self
 refine ⟨x,(mb x).mpr xp,λ y hy=>?_⟩
 have yp:=(mb y).mp hy
 rcases co x xp y yp with c | c
 ·rw [<- c]; exact .refl ((mb x).mpr xp)
 ·exact b0Q (λ u hu=>(mb u).mpr hu) xp c yp
theorem b7E {ts:List ζζ} {p q:List Nat} (h:c9T ts p q):TcM ts (a0W p) (a0W q):=by
 obtain ⟨y,hy,x,hx,e⟩:=h
 refine ⟨x,y,?_,?_,e⟩
 ·show (a0W p).testBit x=true
  rw [a1P]; exact decide_eq_true hx
 ·show (a0W q).testBit y=true
  rw [a1P]; exact decide_eq_true hy
theorem b2A {ts:List ζζ} {ls:List Nat} {ps:List (List Nat)} {T:St'} (hT:∀ x,x∈ls↔T x) (PO:Pcs ts ls ps) {p:List Nat} (hp:p∈ps):Comp ts T (bitP (a0W p)):=by
 have mb:∀ u,bitP (a0W p) u↔u∈p:=λ u=>by
  show (a0W p).testBit u=true↔_
  rw [a1P,decide_eq_true_iff]
 obtain ⟨x,r,e⟩:=List.exists_cons_of_ne_nil (PO.ne p hp)
 have xp:x∈p:=by rw [e]; exact List.mem_cons_self
 refine Comp.of ((mb x).mpr xp) (λ y hy=>(hT y).mp ((PO.sub p hp).subset ((mb y).mp hy))) (λ y hy=>?_) λ y z hy t hz=>?_
 ·have yp:=(mb y).mp hy
  rcases PO.con p hp x xp y yp with c | c
  ·rw [<- c]; exact .refl ((mb x).mpr xp)
  ·exact b0Q (λ u hu=>(mb u).mpr hu) xp c yp
 ·refine (mb z).mpr ?_
  have zl:=(hT z).mpr hz
  obtain ⟨q,hq,zq⟩:=PO.all z zl
  have yp:=(mb y).mp hy
  rcases c3F PO.apart hp hq with c | c | c
  ·rw [c]; exact zq
  ·rw [c y yp z zq] at t; cases t
  ·have:=c z zq y yp
   rw [a3K t] at this; cases this
theorem c6H {ts:List ζζ} {ls:List Nat} {ps:List (List Nat)} {T C:St'} (hT:∀ x,x∈ls↔T x) (PO:Pcs ts ls ps) (hC:Comp ts T C):∃ p∈ps,∀ u,bitP (a0W p) u↔C u:=by
 obtain ⟨x,cx⟩:=hC.ne
 obtain ⟨p,hp,xp⟩:=PO.all x ((hT x).mpr (hC.sub cx))
 have cp:=b2A hT PO hp
 have bx:bitP (a0W p) x:=by
  show (a0W p).testBit x=true
  rw [a1P]; exact decide_eq_true xp
 exact ⟨p,hp,λ u=>⟨λ hu=>hC.all cx ((cp.con bx hu).mono λ w hw=>cp.sub hw),λ hu=>cp.all bx ((hC.con cx hu).mono λ w hw=>hC.sub hw)⟩⟩
def b8X (n k:Nat) (B:List Nat) (f:Nat->Bool):Prop:=∀ m,m < 2 ^ n->(f m=true↔k < popF m/\CvM B (bitP m))
theorem c9Y (n:Nat) (ts:List ζζ) (S v:Nat):bagN n ts S v < 2 ^ n:=by
 unfold bagN
 refine Nat.lt_pow_two_of_testBit _ λ i hi=>?_
 rw [a2E,decide_eq_false (by omega)]; rfl
theorem b7F {n k:Nat} {ts:List ζζ} {B:List Nat} {f:Nat->Bool} (n10:n<=10) (hf:b8X n k B f) (S v:Nat):a5S n ts ((List.range (2 ^ n)).map f) S v↔a2Y n ts (AB n k B) S v:=by
 have bl:=c9Y n ts S v
 unfold a5S a2Y AB
 rw [b1Y n10 bl,τα,List.getElem?_map,List.getElem?_range bl]
 show f (bagN n ts S v)=false↔_
 constructor
 ·intro h l c
  rw [(hf _ bl).mpr ⟨l,c⟩] at h
  cases h
 ·intro h
  cases c:f (bagN n ts S v) with
  | false=>rfl
  | true =>
   obtain ⟨a,b⟩:=(hf _ bl).mp c
   exact absurd b (h a)
theorem a8E {n k:Nat} {ts:List ζζ} {B:List Nat} {f:Nat->Bool} (n10:n<=10) (hf:b8X n k B f) {S:Nat} {os:List Nat}:FreeP n (a5S n ts ((List.range (2 ^ n)).map f)) S os↔FreeP n (a2Y n ts (AB n k B)) S os :=
 ⟨λ h=>h.weak λ S v _ _ _ g=>(b7F n10 hf S v).mp g,λ h=>h.weak λ S v _ _ _ g=>(b7F n10 hf S v).mpr g⟩
theorem c3G {B:List Nat} {p m:Nat}:CvM (p::B) (bitP m)↔CvM B (bitP m)/\m &&& p≠0:=by
 have e:m &&& p≠0↔∃ x,bitP p x/\bitP m x:=by
  rw [Ne,and_zero]
  exact ⟨λ h=>Classical.byContradiction λ c=>h λ ⟨u,a,b⟩=>c ⟨u,b,a⟩,λ ⟨x,a,b⟩ h=>h ⟨x,b,a⟩⟩
 rw [e]
 constructor
 ·exact λ h=>⟨λ b hb=>h b (List.mem_cons_of_mem _ hb),h p List.mem_cons_self⟩
 ·rintro ⟨h1,h2⟩ b hb
  rcases List.mem_cons.mp hb with c | hb
  ·rw [c]; exact h2
  ·exact h1 b hb
theorem b7G {n k p:Nat} {B:List Nat} {f:Nat->Bool} (hf:b8X n k B f):b8X n k (p::B) (a5C f p):=λ m ml=>by
 unfold a5C
 rw [Bool.and_eq_true,hf m ml,decide_eq_true_iff,c3G]
 exact ⟨λ h=>⟨h.1.1,h.1.2,h.2⟩,λ h=>⟨⟨h.1,h.2.1⟩,h.2.2⟩⟩
end K
namespace K
open PySem L2 Lw Bg
theorem b8Y (lf p:List Nat):a3S (a1U lf) (a1U p)=a1U (lf.filter λ x=>!decide (x∈p)):=by
 unfold a3S a1U
 rw [List.filter_map]
 refine congrArg _ (List.filter_congr λ x _=>?_)
 show (!decide ((x:Int)∈p.map λ (y:Nat)=>(y:Int)))=_
 rw [show decide ((x:Int)∈p.map λ (y:Nat)=>(y:Int))=decide (x∈p) from decide_eq_decide.mpr (by
  rw [List.mem_map]
  constructor
  ·rintro ⟨y,hy,e⟩
   have:y=x:=by omega
   rw [<- this]; exact hy
  ·exact λ h=>⟨x,h,rfl⟩)]
abbrev a9F:Stmt:=top 48
theorem sc_next_part:FnScope ["graph", "small", "bags", "barred", "rest", "found", "part"] ["graph", "small", "bags", "barred"] (a0F a9F):=⟨rfl,rfl,rfl,by decide +kernel,rfl,by decide +kernel,by decide +kernel⟩
theorem c6I (xs:List V):cutV xs none (some (-1))=xs.take (xs.length - 1):=by
 unfold cutV
 have e:HT.sIx xs.length xs.length (some (-1))=xs.length - 1:=by
  show (if (-1:Int) < 0 then (-1+(xs.length:Int)).toNat else min (-1:Int).toNat xs.length)=xs.length - 1
  rw [if_pos (by decide)]
  omega
 rw [e,show HT.sIx xs.length 0 none=0 from rfl,List.drop_zero,Nat.sub_zero]
theorem d3C {ts:List ζζ} {n:Nat} (ok:∀ t∈ts,0<=t.1/\t.1 < t.2/\t.2 < (n:Int)) {a b:Nat} (h:tieT ts a b=true):b < n:=by
 unfold tieT at h
 rw [Bool.or_eq_true,decide_eq_true_iff,decide_eq_true_iff] at h
 rcases h with h | h
 ·have:=ok _ h
  omega
 ·have:=ok _ h
  omega
def c9Z (K:Φρ):Sp:=λ vs H Q _=>∃ (g:V) (n k X:Nat) (ts:List ζζ) (p pb:Addr) (qs:List Addr) (f:Nat->Bool) (B:List Nat),vs=[g,.int (X:Int),.ref p,.ref pb]/\GraphV K H g n ts/\(∀ t∈ts,0<=t.1/\t.1 < t.2/\t.2 < (n:Int))/\n<=10/\0 < n/\ts.length<=100/\X < 2 ^ n /\
 H p=some (.lst (qs.map V.ref))/\qs.length=2 ^ n/\(∀ (g:Nat) q,qs[g]?=some q->BagQ n ts H q g)/\SqL K H pb (cvL (2 ^ n) f)/\b8X n k B f/\FamM n ts B/\(∀ os,¬ FreeP n (a2Y n ts (AB n k B)) (2 ^ n - 1) os)/\popF X<=k /\
 ∀ cm H',Same H H'->Comp ts (λ x=>x < n/\¬ bitP X x) (bitP cm)->cm < 2 ^ n->(∀ os,¬ FreeP n (a2Y n ts (AB n k (cm::B))) (2 ^ n - 1) os)->Q (.int ((cm:Nat):Int)) H'
theorem BagQ.same {n:Nat} {ts:List ζζ} {H H':Hp} {q:Addr} {g:Nat} (h:BagQ n ts H q g) (s:Same H H'):BagQ n ts H' q g:=by
 obtain ⟨ms,S,h1,h2⟩:=h
 exact ⟨ms,S,s _ _ h1,h2⟩
section
variable {P:Program} {w:World} {K:Φρ} {mg:Str->Option Value} {base:Heap}
abbrev DZ35 (K:PySem.W.Frag) (mg:Str->Option Value):=Dn K mg "next_part" a9F ["graph", "small", "bags", "barred"]
set_option maxHeartbeats 8000000 in
theorem b4G (B:Bl mg) (Bs:mg "sum" = none) (dZ24:DZ24 K mg) (dZ21:DZ21 K mg) (dZ12:DZ12 K mg) (dZ25:DZ25 K mg) (dZ31:DZ31 K mg) (dZ10:DZ10 K mg) (dZ40:DZ40 K mg) (dZ36:DZ36 K mg) (dZ37:DZ37 K mg) (dZ32:DZ32 K mg) (dZ38:DZ38 K mg) (dZ19:DZ19 K mg) (dZ15:DZ15 K mg) (dZ35:DZ35 K mg):FnOk P w K mg base CX0 7 dZ35.f dZ35.fd ["graph", "small", "bags", "barred"] (c9Z K):=by
 have gZ37:FnOk P w K mg base CX0 6 _ _ _ _:=b4B B dZ24 dZ21 dZ12 dZ25 dZ31 dZ10 dZ40 dZ36 dZ37
 have gZ31:FnOk P w K mg base CX0 6 _ _ _ _:=(a8Y B dZ31).mono (by decide)
 have gZ32:FnOk P w K mg base CX0 6 _ _ _ _:=(a7B B Bs dZ32).mono (by decide)
 have gZ38:FnOk P w K mg base CX0 6 _ _ _ _:=(a5B B dZ38).mono (by decide)
 have gZ19:FnOk P w K mg base CX0 6 _ _ _ _:=(a4P B dZ19).mono (by decide)
 have gZ15:FnOk P w K mg base CX0 6 _ _ _ _:=(a5L B dZ15).mono (by decide)
 refine dZ35.F.ok sc_next_part (λ vs H Q E h=>?_) (λ cdv A outer s H vs Q E hr h=>?_)
 ·obtain ⟨g,n,k,X,ts,p,pb,qs,f,B',rfl,_⟩:=h
  rfl
 obtain ⟨g,n,k,X,ts,p,pb,qs,f,B',rfl,hG,okt,n10,n0,l100,Xl,hp,lq,bq,hb,bar,F,no,Xk,q⟩:=h
 obtain ⟨pg,ta,rfl,hP,hT⟩:=id hG
 have X10:X < 2 ^ 10:=Nat.lt_of_lt_of_le Xl (Nat.pow_le_pow_right (by decide) n10)
 have p10:2 ^ n<=1024:=Nat.pow_le_pow_right (show 0 < 2 by decide) n10
 have p0:0 < 2 ^ n:=Nat.pow_pos (by decide)
 refine ⟨_,(a0C (a0J (i:=4) sc_next_part.nd rfl (Or.inl rfl) (a0G gZ31 hr rfl dZ31.m dZ31.F.kp dZ31.b .nil a0S (a0A (b6Q rfl B.list B.range (a0A (a0V (a0Z (K:=K) rfl) (pv 0) a0E (λ _ _=>rfl)) a0B)) (a0A (a0G gZ38 hr rfl dZ38.m dZ38.F.kp dZ38.b .nil a0S (a0A (pv 1) a0B)) a0B))))
   (a0C (a3B (i:=5) ["piece"] [none] sc_next_part.nd rfl rfl (by kernel_rfl) rfl (a0O (K:=K) rfl (a0G gZ37 hr rfl dZ37.m dZ37.F.kp dZ37.b .nil a0S (a0A (pv 0) (a0A (pv 4) a0B)))) (λ _ _ _ _ _=>(a0H (i:=0) (show (["piece"]:List Str).Nodup by decide +kernel) rfl (Or.inl rfl))) (λ _ _ _ _ _=>a1H) (λ _ _ _ _ _=>(a0G gZ32 hr rfl dZ32.m dZ32.F.kp dZ32.b .nil a0S (a0A (pv 0) a0B))) (by rfl))
   (a0C (a1Q PassesOwn.never rfl (a0O (K:=K) rfl (c4C (c4J (K:=K) rfl) (pv 5) c7V (c7W (c3Z b6C a0E)))) (a0H (i:=6) sc_next_part.nd rfl (Or.inl rfl))
   (a0D (a1X (a0P b6D (a0G gZ19 hr rfl dZ19.m dZ19.F.kp dZ19.b .nil a0S (a0A (pv 2) (a0A (a0G gZ15 hr rfl dZ15.m dZ15.F.kp dZ15.b .nil a0S (a0A (pv 3) (a0A (pv 6) a0B))) (a0A (a0Q a3E (a0I (a0T (K:=K) rfl) rfl B.len (by decide +kernel) (a0A (pv 2) a0B)) a0E) a0B)))) a2B (a0U _))
   (a0D (a0N (pv 6)))
   a0Y)))
   (a0D (a0N (a0V (a0L (K:=K) rfl) (pv 5) (c3Z b6C a0E) (λ _ _=>rfl))))))),?_⟩
 refine ⟨_,rfl,pg,_,_,_,rfl,rfl,hP,rfl,n,rfl,by omega,λ p1 H1 n1=>?_⟩
 refine ⟨_,rfl,X,rfl,X10,λ H2 p3 H3 s2 n3=>?_⟩
 have nk:∀ {H':Hp} {a:Addr} {l:List Nat},SqL K H' a (natV l)->SqL K H' a ((a1U l).map V.int):=λ {H' a l} h=>by
  rw [a1D] at h
  exact h
 have s13:=s2.trans n3.same
 refine ⟨p1,p3,_,a1U (a0M X),rfl,nk (SqL.of (s13 _ _ n1.here)),nk (SqL.of n3.here),by unfold a1U; rw [List.length_map,List.length_range]; omega,λ H4 p5 H5 s4 n5=>?_⟩
 obtain ⟨ls,els⟩:∃ ls,ls=(List.range n).filter λ x=>!decide (x∈a0M X):=⟨_,rfl⟩
 rw [b8Y,<- els,show (a1U ls).map V.int=natV ls by rw [a1D]; rfl] at n5
 have s05:=n1.same.trans (s13.trans (s4.trans n5.same))
 have mem:∀ x,x∈ls↔x < n/\¬ bitP X x:=λ x=>by
  rw [els,List.mem_filter,List.mem_range]
  refine and_congr_right λ _=>?_
  rw [show (!decide (x∈a0M X))=decide (¬ x∈a0M X) by rw [decide_not],decide_eq_true_iff]
  exact not_congr (a2K X10)
 have upl:ls.Pairwise (· < ·):=by rw [els]; exact List.pairwise_lt_range.filter _
 refine ⟨_,rfl,_,rfl,.ref pg,n,ts,p5,ls,rfl,hG.same s05,okt,n10,l100,n5.here,upl,λ x hx=>((mem x).mp hx).1,λ r ps H6 s6 f6 hN PO hds=>?_⟩
 obtain ⟨qp,hr6,nr,fq,pq⟩:=hN
 have lqp:=Paired.length pq
 have s06:=s05.trans s6
 have pin:∀ p∈ps,∀ v∈p,v < n:=λ p hp v hv=>((mem v).mp ((PO.sub p hp).subset hv)).1
 have pup:∀ p∈ps,p.Pairwise (· < ·):=λ p hp=>upl.sublist (PO.sub p hp)
 refine ⟨r,rfl,⟨_,SqL.of hr6⟩,?_⟩
 have lps:ps.length<=n:=by
  have nd:(ps.map λ p=>p.headD 0).Nodup:=by
   unfold List.Nodup
   rw [List.pairwise_map]
   exact List.Pairwise.imp (λ {a b} h=>Nat.ne_of_lt h) hds
  have:=a3P nd λ x hx=>by
   obtain ⟨p,hp,rfl⟩:=List.mem_map.mp hx
   obtain ⟨a,b,e⟩:=List.exists_cons_of_ne_nil (PO.ne p hp)
   exact pin p hp _ (by rw [e]; exact List.mem_cons_self)
  rw [List.length_map] at this
  exact this
 refine b2S (λ j=>(ps[j]?).bind λ p=>some (.int ((a0W p:Nat):Int))) (SqL.of hr6) (by rw [List.length_map]; omega) (λ j x H7 N hj s7 hN=>?_) (λ H7 pf H8 s7 n8=>?_)
 ·rw [List.getElem?_map] at hj
  obtain ⟨qj,hqj,rfl⟩:=Option.map_eq_some_iff.mp hj
  obtain ⟨p',hp',h6⟩:=a1A pq hqj
  have pm:=List.mem_of_getElem? hp'
  have hN':∀ H',Same H6 H'->N (some (V.int ((a0W p':Nat):Int))) H':=λ H' s'=>by
   have:=hN H' s'
   rw [hp'] at this
   exact this
  exact ⟨_,rfl,qj,p',n,rfl,SqL.of (s7 _ _ h6),(pup p' pm).imp λ h=>Nat.ne_of_lt h,pin p' pm,n10,λ H9 s9=>hN' H9 (s7.trans s9)⟩
 have e8:(List.range (qp.map V.ref).length).filterMap (λ j=>(ps[j]?).bind λ p=>some (V.int ((a0W p:Nat):Int)))=natV (ps.map a0W):=by
  rw [List.length_map,lqp,a6C,show (λ p=>some (V.int ((a0W p:Nat):Int)))=λ p=>some ((λ x:Nat=>V.int (x:Int)) (a0W p)) from rfl,c3E,a1D,List.map_map,List.map_map,List.map_map]; rfl
 rw [e8] at n8
 have s08:=s06.trans (s7.trans n8.same)
 obtain ⟨C,hC,noC⟩:=c6E n10 n0 (λ a b t=>d3C okt t) F no (by rw [b1Y n10 Xl]; exact Xk)
 obtain ⟨p0',hp0,eC⟩:=c6H (λ x=>mem x) PO hC
 have good0:=noC (a0W p0') eC
 have mlt:∀ p∈ps,a0W p < 2 ^ n:=λ p hp=>a8D (pin p hp)
 have pne:ps≠[]:=List.ne_nil_of_mem hp0
 have lnz:0 < ps.length:=List.length_pos_iff.mpr pne
 refine ⟨_,rfl,_,rfl,_,rfl,pf,_,rfl,SqL.of n8.here,λ pd H9 n9=>?_⟩
 rw [show cutV (natV (ps.map a0W)) none (some (-1))=natV ((ps.take (ps.length - 1)).map a0W) by rw [c6I,List.length_map,List.length_map,List.map_take]; unfold natV; rw [List.map_take]] at n9
 refine ⟨pd,rfl,⟨_,SqL.of n9.here⟩,?_⟩
 have s09:=s08.trans n9.same
 refine a2G (xs:=natV ((ps.take (ps.length - 1)).map a0W)) (λ i σ H'=>(∃ pp:Option V,σ=[some (.ref pg),some (.int (X:Int)),some (.ref p),some (.ref pb),some (.ref p5),some (.ref pf),pp])/\Same H9 H'/\∀ j,j < i->∀ p',ps[j]?=some p'->∃ os,FreeP n (a2Y n ts (AB n k (a0W p'::B'))) (2 ^ n - 1) os) ⟨⟨_,rfl⟩,Same.refl _,λ j hj=>absurd hj (Nat.not_lt_zero _)⟩ (λ i σ H' _ ⟨_,s,_⟩=>SqL.of (s _ _ n9.here)) ?_ ?_
 ·rintro i x σ H10 hx ⟨⟨pp,rfl⟩,s10,done⟩
  rw [List.getElem?_map,List.getElem?_map] at hx
  obtain ⟨m,hm,rfl⟩:=Option.map_eq_some_iff.mp hx
  obtain ⟨pi,hpi,rfl⟩:=Option.map_eq_some_iff.mp hm
  have hpi':ps[i]?=some pi:=by
   have:=List.getElem?_eq_some_iff.mp hpi
   rw [List.getElem?_take] at hpi
   split at hpi
   ·exact hpi
   ·cases hpi
  have pim:=List.mem_of_getElem? hpi'
  have s010:=s09.trans s10
  refine ⟨_,rfl,_,rfl,_,rfl,pb,2 ^ n,a0W pi,f,rfl,s010.seq hb,p10,λ pa H11 s11 f11 h11=>?_⟩
  have s011:=s010.trans s11
  refine ⟨_,rfl,p,_,rfl,.inl (SqL.of (s011 _ _ hp)),_,_,rfl,rfl,?_⟩
  have eM:(((qs.map V.ref).length:Nat):Int) - 1=((2 ^ n - 1:Nat):Int):=by
   rw [List.length_map,lq]; omega
  refine ⟨p,pa,qs,(List.range (2 ^ n)).map (a5C f (a0W pi)),n,2 ^ n - 1,ts,by dsimp only; rw [eM]; rfl,s011 _ _ hp,lq,n10,λ g q hq=>(bq g q hq).same s011,SqL.of h11,by rw [List.length_map,List.length_range],by omega,λ r os H12 s12 f12 h12 fr=>?_,λ H12 s12 nof=>?_⟩
  ·refine ⟨rfl,_,rfl,iteF ⟨⟨_,rfl⟩,s10.trans (s11.trans s12),λ j hj p' hp'=>?_⟩⟩
   by_cases c:j=i
   ·subst c
    rw [hpi'] at hp'
    injection hp' with e
    rw [<- e]
    exact ⟨os,(a8E n10 (b7G bar)).mp fr⟩
   ·exact done j (by omega) p' hp'
  ·refine ⟨rfl,_,rfl,iteT ⟨_,rfl,q (a0W pi) H12 (s011.trans s12) (b2A (λ x=>mem x) PO pim) (mlt pi pim) λ os fr=>nof os ((a8E n10 (b7G bar)).mpr fr)⟩⟩
 ·rintro σ H10 ⟨⟨pp,rfl⟩,s10,done⟩
  rw [a1J,List.length_map,List.length_take,Nat.min_eq_left (by omega)] at done
  obtain ⟨pl,hpl⟩:∃ pl,ps[ps.length - 1]?=some pl:=⟨_,List.getElem?_eq_getElem (by omega)⟩
  have plm:=List.mem_of_getElem? hpl
  have e0:p0'=pl:=by
   obtain ⟨j,hj⟩:=List.mem_iff_getElem?.mp hp0
   have jl:=(List.getElem?_eq_some_iff.mp hj).1
   by_cases c:j < ps.length - 1
   ·obtain ⟨os,fr⟩:=done j c p0' hj
    exact absurd fr (good0 os)
   ·have:j=ps.length - 1:=by omega
    rw [this,hpl] at hj
    injection hj with e
    exact e.symm
  have at1:atI (natV (ps.map a0W)) (-1)=some (.int ((a0W pl:Nat):Int)):=c7I (j:=ps.length - 1) (by rw [a1J,List.length_map]; omega) (by rw [List.getElem?_map,List.getElem?_map,hpl]; rfl)
  refine ⟨_,rfl,_,rfl,pf,_,_,_,rfl,rfl,SqL.of ((n9.same.trans s10) _ _ n8.here),at1,q (a0W pl) H10 (s09.trans s10) (b2A (λ x=>mem x) PO plm) (mlt pl plm) (e0 ▸ good0)⟩
end
end K
namespace K
open PySem L2 Lw Bg
theorem b7H {n:Nat} {ts:List ζζ} {cs:List Int} (C:CostOk n ts cs) {S:Nat} (hS:S < 2 ^ n) {w:Int} (w1 : -1<=w):cs.getD S 0<=w↔∃ os,FreeP n (λ S v=>(degF n ts S v:Int)<=w) S os:=by
 constructor
 ·exact a6H C w S S (Nat.le_refl _) hS
 ·rintro ⟨os,h⟩
  obtain ⟨G,hG,l⟩:=c2H w1 h
  have:=b1S C hG
  omega
theorem b4H {n v:Nat} (vn:v < n) {p:Nat->Bool} (pv:p v=true):(List.range n).countP p=(List.range n).countP (λ u=>p u && !decide (u=v))+1:=by
 have go:∀ l:List Nat,l.Nodup->l.countP p=l.countP (λ u=>p u && !decide (u=v))+(if v∈l then 1 else 0):=λ l=>by
  induction l with
  | nil=>intro _; simp
  | cons x r ih =>
   intro nd
   obtain ⟨n1,n2⟩:=List.nodup_cons.mp nd
   rw [List.countP_cons,List.countP_cons,ih n2]
   by_cases c:x=v
   ·subst c
    rw [if_neg n1,if_pos List.mem_cons_self,pv]
    simp
   ·have e:(v∈x::r)↔v∈r:=by rw [List.mem_cons]; exact or_iff_right (Ne.symm c)
    rw [decide_eq_false c]
    simp only [e,Bool.not_false,Bool.and_true]
    omega
 rw [go _ List.nodup_range,if_pos (List.mem_range.mpr vn)]
theorem b7I {n:Nat} {ts:List ζζ} {S v:Nat} (n10:n<=10) (Sl:S < 2 ^ n) (vn:v < n) (vS:S.testBit v=false):a1B n (bitP (bagN n ts S v))=degF n ts S v+1:=by
 obtain ⟨pn,pl,pm⟩:=a2Q n10 Sl
 have R:=a6F (ts:=ts) pn pl
 have hv:v ∉ a0M S:=λ z=>by have:=(pm v).mp z; rw [vS] at this; cases this
 have e:a1B n (bitP (bagN n ts S v))=(List.range n).countP (runR n ts (a0M S) v):=by
  rw [a4D (f:=(bagN n ts S v).testBit) λ x=>Iff.rfl]
  refine List.countP_congr λ x hx=>?_
  unfold bagN
  rw [a2E,decide_eq_true (List.mem_range.mp hx),Bool.true_and]
 rw [e,b4H vn ((R.path v v vn vn hv hv).mpr (.inl rfl))]
 unfold degF a4C
 rw [List.countP_eq_length_filter]
theorem d0A:∀ k,k < 11->(List.range 1024).countP (λ m=>decide (popF m=k))<=252:=by decide +kernel
theorem c3H {n k:Nat} (n10:n<=10):(List.range (2 ^ n)).countP (λ m=>decide (popF m=k))<=252:=by
 have p10:2 ^ n<=1024:=Nat.pow_le_pow_right (show 0 < 2 by decide) n10
 have l1:(List.range (2 ^ n)).countP (λ m=>decide (popF m=k))<=(List.range 1024).countP (λ m=>decide (popF m=k)):=(List.range_sublist.mpr p10).countP_le
 by_cases c:k < 11
 ·exact Nat.le_trans l1 (d0A k c)
 ·have z:(List.range 1024).countP (λ m=>decide (popF m=k))=0:=by
   rw [List.countP_eq_zero]
   intro m _ h
   have:=of_decide_eq_true h
   have l:popF m<=10:=by
    unfold popF a0M
    exact Nat.le_trans (List.length_filter_le _ _) (by rw [List.length_range]; exact Nat.le_refl _)
   omega
  omega
theorem b7J {n k:Nat} (kn:k<=n):∀ (d m:Nat),m < 2 ^ n->a1B n (bitP m)+d=k->∃ m',m' < 2 ^ n/\a1B n (bitP m')=k/\∀ x,bitP m x->bitP m' x
 | 0,m,ml,e=>⟨m,ml,by omega,λ x h=>h⟩
 | d+1,m,ml,e=>by
  obtain ⟨x,xn,nx⟩:∃ x,x < n/\¬ bitP m x:=Classical.byContradiction λ c=>by
   have:a1B n (λ x=>x < n)<=a1B n (bitP m):=b1X λ x xn _=>Classical.byContradiction λ z=>c ⟨x,xn,z⟩
   have f:a1B n (λ x=>x < n)=n:=by
    rw [a4D (f:=λ x=>decide (x < n)) λ x=>(decide_eq_true_iff).symm,List.countP_eq_length.mpr λ a ha=>decide_eq_true (List.mem_range.mp ha),List.length_range]
   omega
  have ml':(m ||| 2 ^ x) < 2 ^ n:=Nat.or_lt_two_pow ml (Nat.pow_lt_pow_right (by decide) xn)
  have c1:a1B n (bitP (m ||| 2 ^ x))=a1B n (bitP m)+1:=by
   rw [a4D (f:=(m ||| 2 ^ x).testBit) λ x=>Iff.rfl,a4D (f:=m.testBit) λ x=>Iff.rfl,b4H xn (or_bit.mpr (.inr rfl))]
   congr 1
   refine List.countP_congr λ u _=>?_
   rw [Bool.and_eq_true,or_bit]
   constructor
   ·rintro ⟨h,ne⟩
    exact h.resolve_right (by simpa using ne)
   ·intro h
    exact ⟨.inl h,by simpa using λ z:u=x=>nx (z ▸ h)⟩
  obtain ⟨m',a,b,c⟩:=b7J kn d _ ml' (by omega)
  exact ⟨m',a,b,λ u hu=>c u (or_bit.mpr (.inl hu))⟩
open Classical in
theorem d0B {n k:Nat} (kn:k<=n) {Y:St'} (h:a1B n Y<=k):∃ m,m < 2 ^ n/\a1B n (bitP m)=k/\∀ x,x < n->Y x->bitP m x:=by
 have bit:∀ x,bitP (a6Z (λ x=>decide (Y x)) n) x↔x < n/\Y x:=λ x=>by
  show (a6Z (λ x=>decide (Y x)) n).testBit x=true↔_
  rw [a2E,Bool.and_eq_true,decide_eq_true_iff,decide_eq_true_iff]
 have ml:a6Z (λ x=>decide (Y x)) n < 2 ^ n:=by
  refine Nat.lt_pow_two_of_testBit _ λ i hi=>?_
  rw [a2E,decide_eq_false (by omega)]; rfl
 have le:a1B n (bitP (a6Z (λ x=>decide (Y x)) n))<=a1B n Y:=b1X λ x _ hx=>((bit x).mp hx).2
 obtain ⟨m,a,b,c⟩:=b7J kn (k - a1B n (bitP (a6Z (λ x=>decide (Y x)) n))) _ ml (by omega)
 exact ⟨m,a,b,λ x xn yx=>c x ((bit x).mpr ⟨xn,yx⟩)⟩
theorem b7K {B B':List Nat} (h:∀ b,b∈B↔b∈B') {Y:St'}:CvM B Y↔CvM B' Y:=⟨λ c b hb=>c b ((h b).mpr hb),λ c b hb=>c b ((h b).mp hb)⟩
theorem c6J {n k:Nat} {B B':List Nat} (h:∀ b,b∈B↔b∈B'):AB n k B=AB n k B':=funext λ Y=>propext (imp_congr_right λ _=>not_congr (b7K h))
theorem c3I {n:Nat} {ts:List ζζ} {B B':List Nat} (h:∀ b,b∈B↔b∈B') (F:FamM n ts B):FamM n ts B':=⟨λ b hb=>F.lt b ((h b).mpr hb),λ b hb=>F.jn b ((h b).mpr hb),λ b hb c hc=>F.tc b ((h b).mpr hb) c ((h c).mpr hc)⟩
theorem b7L {B:List Nat} {p b:Nat}:b∈p::B↔b∈B++[p]:=by
 rw [List.mem_cons,List.mem_append,List.mem_singleton]
 exact or_comm
def CovL (n:Nat) (B:List Nat) (f:Nat->Bool):Prop:=∀ m,m < 2 ^ n->(f m=true↔CvM B (bitP m))
theorem b7M {n p:Nat} {B:List Nat} {f:Nat->Bool} (h:CovL n B f):CovL n (B++[p]) (a5C f p):=λ m ml=>by
 unfold a5C
 rw [Bool.and_eq_true,h m ml,decide_eq_true_iff,<- c3G]
 exact b7K λ b=>b7L
theorem c3J {n k:Nat} {B:List Nat} {f:Nat->Bool} {z:Int} (ez:z=(k:Int)) (h:CovL n B f):b8X n k B λ m=>f m && decide (z < (popF m:Int)):=λ m ml=>by
 rw [Bool.and_eq_true,h m ml,decide_eq_true_iff,ez]
 exact ⟨λ c=>⟨by have:=c.2; omega,c.1⟩,λ c=>⟨c.2,by have:=c.1; omega⟩⟩
theorem c6K {n k:Nat} {B:List Nat} {f:Nat->Bool} (n10:n<=10) (kn:k<=n) (lt:∀ b∈B,b < 2 ^ n) (h:CovL n B f) (no:∀ m,m < 2 ^ n->(popF m:Int)=(k:Int)->f m=false) (Y:St') (c:CvM B Y):k < a1B n Y:=by
 refine Classical.byContradiction λ l=>?_
 obtain ⟨m,ml,e,s⟩:=d0B kn (Y:=Y) (by omega)
 have:=no m ml (by rw [<- b1Y n10 ml,e])
 rw [(h m ml).mpr λ b hb=>?_] at this
 ·cases this
 ·obtain ⟨x,h1,h2⟩:=c b hb
  refine ⟨x,h1,s x (Classical.byContradiction λ z=>?_) h2⟩
  have:=a1W (lt b hb) (show n<=x by omega)
  rw [show b.testBit x=true from h1] at this
  cases this
theorem d0C {n:Nat} {ts:List ζζ} {cs:List Int} (C:CostOk n ts cs) (n0:0 < n) (n10:n<=10):∃ k:Nat,cs.getD (2 ^ n - 1) 0=(k:Int)/\k < n:=by
 have p0:0 < 2 ^ n:=Nat.pow_pos (by decide)
 have g:=b1T C (2 ^ n - 1) (2 ^ n - 1) (Nat.le_refl _) (by omega)
 have hi:cs.getD (2 ^ n - 1) 0<=(n:Int) - 1:=by
  obtain ⟨os,h⟩:∃ os,FreeP n (λ S v=>(degF n ts S v:Int)<=(n:Int) - 1) (2 ^ n - 1) os:=by
   obtain ⟨S,os,f,e⟩:=a6N (A:=λ _=>True) (C:=λ x=>x < n) (λ x hx=>hx) (good:=λ S v=>(degF n ts S v:Int)<=(n:Int) - 1) _ 0 [] .nil (λ S' s1 s2 sl x cx nx=>by
    have:=b7I (ts:=ts) n10 sl cx (Bool.eq_false_iff.mpr nx)
    have l:a1B n (bitP (bagN n ts S' x))<=n:=by
     unfold a1B
     exact Nat.le_trans List.countP_le_length (by rw [List.length_range]; exact Nat.le_refl _)
    omega) (Nat.le_refl _)
   have:S=2 ^ n - 1:=a9B f.lt λ u un=>(e u).mpr (.inr un)
   rw [this] at f
   exact ⟨os,f⟩
  exact (b7H C (by omega) (by omega)).mpr ⟨os,h⟩
 have lo:0<=cs.getD (2 ^ n - 1) 0:=by
  obtain ⟨v,h1,h2⟩:=C.ex (2 ^ n - 1) (by have:2<=2 ^ n:=Nat.le_self_pow (by omega) 2; omega) (by omega)
  omega
 exact ⟨(cs.getD (2 ^ n - 1) 0).toNat,by omega,by omega⟩
theorem c3K {n k:Nat} {ts:List ζζ} {cs:List Int} (n10:n<=10) (C:CostOk n ts cs) (e:cs.getD (2 ^ n - 1) 0=(k:Int)) (os:List Nat):¬ FreeP n (a2Y n ts (AB n k [])) (2 ^ n - 1) os:=λ f=>by
 have p0:0 < 2 ^ n:=Nat.pow_pos (by decide)
 have:cs.getD (2 ^ n - 1) 0<=(k:Int) - 1:=(b7H C (by omega) (by omega)).mpr ⟨os,f.weak λ S v sl vn vS g=>by
  have cb:=b7I (ts:=ts) n10 sl vn vS
  have:¬ k < a1B n (bitP (bagN n ts S v)):=λ z=>g z λ b hb=>absurd hb List.not_mem_nil
  omega⟩
 omega
end K
namespace K
open PySem L2 Lw Bg
abbrev c3L:Stmt:=top 44
theorem sc_grown:FnScope ["graph", "sets", "wide", "sizes", "bags", "parts", "covers", "part", "small", "order"] ["graph", "sets"] (a0F c3L):=⟨rfl,rfl,rfl,by decide +kernel,rfl,by decide +kernel,by decide +kernel⟩
def ssM (ss:List (List Nat)):List Nat:=ss.map a0W
structure GFam (n:Nat) (ts:List ζζ) (z:Int) (ss rs:List (List Nat)) (more:List Nat):Prop where
 rows:rs=ss++more.map a0M
 fam:FamM n ts (ssM ss++more)
 nd:more.Nodup
 new:∀ m∈more,m ∉ ssM ss
 few:more.length<=252
 big:∀ Y,CvM (ssM ss++more) Y->z < (a1B n Y:Int)
structure SsOk (n:Nat) (ts:List ζζ) (ss:List (List Nat)):Prop where
 ok:SetsOk n ss
 jn:∀ p∈ss,b0N ts p
 tc:∀ j k,j < k->k < ss.length->b4E ts ss j k
def d0D (K:Φρ):Sp:=λ vs H Q _=>∃ (g:V) (n:Nat) (ts:List ζζ) (a:Addr) (ss:List (List Nat)),vs=[g,.ref a]/\GraphV K H g n ts/\(∀ t∈ts,0<=t.1/\t.1 < t.2/\t.2 < (n:Int))/\n<=10/\ts.length<=100/\b8V H a ss/\SsOk n ts ss /\
 (∀ r rp rs more cs H',Same H H'->H' r=some (.tup [.str "family", .ref rp])->PcsN H H' rp rs->H rp=none->CostOk n ts cs->GFam n ts (cs.getD (2 ^ n - 1) 0) ss rs more->Q (.ref r) H') /\
 ∀ r ro os cs k H',Same H H'->H' r=some (.tup [.str "order", .ref ro])->H ro=none->H' ro=some (.lst (natV os))->CostOk n ts cs->0 < n->cs.getD (2 ^ n - 1) 0=((k:Nat):Int)->FreeP n (a2Y n ts (AB n k (ssM ss))) (2 ^ n - 1) os->Q (.ref r) H'
theorem d3D {n:Nat} {ts:List ζζ} {ss:List (List Nat)} (h:SsOk n ts ss):FamM n ts (ssM ss):=by
 refine ⟨λ b hb=>?_,λ b hb=>?_,λ b hb c hc=>?_⟩
 ·obtain ⟨p,hp,rfl⟩:=List.mem_map.mp hb
  exact a8D (h.ok.lt p hp)
 ·obtain ⟨p,hp,rfl⟩:=List.mem_map.mp hb
  exact b4F (h.jn p hp)
 ·obtain ⟨p,hp,rfl⟩:=List.mem_map.mp hb
  obtain ⟨q,hq,rfl⟩:=List.mem_map.mp hc
  obtain ⟨i,hi⟩:=List.mem_iff_getElem?.mp hp
  obtain ⟨j,hj⟩:=List.mem_iff_getElem?.mp hq
  have il:=(List.getElem?_eq_some_iff.mp hi).1
  have jl:=(List.getElem?_eq_some_iff.mp hj).1
  have gi:ss.getD i []=p:=by rw [τα,hi]; rfl
  have gj:ss.getD j []=q:=by rw [τα,hj]; rfl
  rcases Nat.lt_trichotomy i j with c | c | c
  ·have:=h.tc i j c jl
   unfold b4E at this
   rw [gi,gj] at this
   exact b7E this
  ·subst c
   rw [hi] at hj
   injection hj with e
   rw [<- e]
   exact (b4F (h.jn p hp)).tch
  ·have:=h.tc j i c il
   unfold b4E at this
   rw [gi,gj] at this
   exact (b7E this).symm
theorem b5S {n:Nat} {p:List Nat} (n10:n<=10) (up:p.Pairwise (· < ·)) (lt:∀ x∈p,x < n):a0M (a0W p)=p:=by
 have l:a0W p < 2 ^ 10:=Nat.lt_of_lt_of_le (a8D lt) (Nat.pow_le_pow_right (by decide) n10)
 refine List.Perm.eq_of_pairwise (le:=(· < ·)) (λ a b _ _ h1 h2=>by omega) (List.pairwise_lt_range.filter _) up ((List.perm_ext_iff_of_nodup (List.nodup_range.sublist List.filter_sublist) (up.imp λ h=>Nat.ne_of_lt h)).mpr λ x=>?_)
 rw [show (x∈List.filter (a0W p).testBit (List.range 10))↔x∈a0M (a0W p) from Iff.rfl,a2K l,a1P,decide_eq_true_iff]
def cntK (n:Nat) (z:Int) (f:Nat->Bool):Nat:=(List.range (2 ^ n)).countP λ m=>decide ((popF m:Int)=z) && f m
theorem d0E {n:Nat} (n10:n<=10) (z:Int) (f:Nat->Bool):cntK n z f<=252:=by
 unfold cntK
 refine Nat.le_trans (List.countP_mono_left (q:=λ m=>decide (popF m=z.toNat)) λ m _ h=>?_) (c3H n10)
 rw [Bool.and_eq_true] at h
 have:=of_decide_eq_true h.1
 exact decide_eq_true (by omega)
theorem c6L {n p X:Nat} {z:Int} {f:Nat->Bool} (Xl:X < 2 ^ n) (e:(popF X:Int)=z) (h:f X=true) (ms:X &&& p=0):cntK n z (a5C f p) < cntK n z f:=by
 unfold cntK
 refine Srt.countP_lt (λ m hm=>?_) (List.mem_range.mpr Xl) ?_ ?_
 ·unfold a5C at hm
  rw [Bool.and_eq_true,Bool.and_eq_true] at hm
  rw [Bool.and_eq_true]
  exact ⟨hm.1,hm.2.1⟩
 ·unfold a5C
  rw [ms]
  simp
 ·rw [decide_eq_true e,h]; rfl
def b4I (n:Nat) (z:Int) (f:Nat->Bool) (v:V) (nf:Prop):Prop:=(v = .non/\∀ m,m < 2 ^ n->(popF m:Int)=z->f m=false)\/∃ X:Nat,v = .int (X:Int)/\X < 2 ^ n/\(popF X:Int)=z/\f X=true/\nf
section
variable {P:Program} {w:World} {K:Φρ} {mg:Str->Option Value} {base:Heap}
abbrev DZ20 (K:PySem.W.Frag) (mg:Str->Option Value):=Dn K mg "grown" c3L ["graph", "sets"]
set_option maxHeartbeats 8000000 in
theorem c6M (B:Bl mg) (Bs:mg "sum" = none) (dZ24:DZ24 K mg) (dZ21:DZ21 K mg) (dZ23:DZ23 K mg) (dZ12:DZ12 K mg) (dZ25:DZ25 K mg) (dZ31:DZ31 K mg) (dZ10:DZ10 K mg) (dZ22:DZ22 K mg) (dZ37:DZ37 K mg) (dZ36:DZ36 K mg) (dZ40:DZ40 K mg) (dZ32:DZ32 K mg) (dZ38:DZ38 K mg) (dZ33:DZ33 K mg) (dZ17:DZ17 K mg) (dZ44:DZ44 K mg) (dZ8:DZ8 K mg) (dZ13:DZ13 K mg) (dZ14:DZ14 K mg) (dZ19:DZ19 K mg) (dZ30:DZ30 K mg) (dZ18:DZ18 K mg) (dZ34:DZ34 K mg) (dZ15:DZ15 K mg) (dZ42:DZ42 K mg) (dZ11:DZ11 K mg) (dZ35:DZ35 K mg) (dZ20:DZ20 K mg):FnOk P w K mg base CX0 9 dZ20.f dZ20.fd ["graph", "sets"] (d0D K):=by
 have gZ18:FnOk P w K mg base CX0 8 _ _ _ _:=c9V B Bs dZ24 dZ21 dZ23 dZ12 dZ25 dZ31 dZ10 dZ22 dZ37 dZ36 dZ40 dZ32 dZ17 dZ18 dZ34
 have gZ30:FnOk P w K mg base CX0 8 _ _ _ _:=(a5K B dZ33 dZ17 dZ44 dZ8 dZ14 dZ13 dZ30).mono (by decide)
 have gZ33:FnOk P w K mg base CX0 8 _ _ _ _:=(a4O B dZ33).mono (by decide)
 have gZ8:FnOk P w K mg base CX0 8 _ _ _ _:=(a5R B dZ17 dZ44 dZ8).mono (by decide)
 have gZ32:FnOk P w K mg base CX0 8 _ _ _ _:=(a7B B Bs dZ32).mono (by decide)
 have gZ38:FnOk P w K mg base CX0 8 _ _ _ _:=(a5B B dZ38).mono (by decide)
 have gZ19:FnOk P w K mg base CX0 8 _ _ _ _:=(a4P B dZ19).mono (by decide)
 have gZ15:FnOk P w K mg base CX0 8 _ _ _ _:=(a5L B dZ15).mono (by decide)
 have gZ42:FnOk P w K mg base CX0 8 _ _ _ _:=(a9S B dZ42).mono (by decide)
 have gZ11:FnOk P w K mg base CX0 8 _ _ _ _:=(a9T B dZ11).mono (by decide)
 have gZ35:FnOk P w K mg base CX0 8 _ _ _ _:=(b4G B Bs dZ24 dZ21 dZ12 dZ25 dZ31 dZ10 dZ40 dZ36 dZ37 dZ32 dZ38 dZ19 dZ15 dZ35).mono (by decide)
 refine dZ20.F.ok sc_grown (λ vs H Q E h=>?_) (λ cdv A outer s H vs Q E hr h=>?_)
 ·obtain ⟨g,n,ts,a,ss,rfl,_⟩:=h
  rfl
 obtain ⟨g,n,ts,a,ss,rfl,hG,okt,n10,l100,hA,SO,qF,qO⟩:=h
 obtain ⟨pg,ta,rfl,hP,hT⟩:=id hG
 have p10:2 ^ n<=1024:=Nat.pow_le_pow_right (show 0 < 2 by decide) n10
 have p0:0 < 2 ^ n:=Nat.pow_pos (by decide)
 refine ⟨_,(a0C (a1X (a0P a5M (a0G gZ18 hr rfl dZ18.m dZ18.F.kp dZ18.b .nil a0S (a0A (pv 0) (a0A (pv 1) a0B))) a2B (a0U _))
   (a0D b0U)
   a0Y)
   (a0C (a0J (i:=2) sc_grown.nd rfl (Or.inl rfl) (a0G gZ30 hr rfl dZ30.m dZ30.F.kp dZ30.b .nil a0S (a0A (pv 0) a0B)))
   (a0C (a0J (i:=3) sc_grown.nd rfl (Or.inl rfl) (a0G gZ33 hr rfl dZ33.m dZ33.F.kp dZ33.b .nil a0S (a0A (a0V (a0Z (K:=K) rfl) (pv 0) a0E (λ _ _=>rfl)) a0B)))
   (a0C (a0J (i:=4) sc_grown.nd rfl (Or.inl rfl) (a0G gZ8 hr rfl dZ8.m dZ8.F.kp dZ8.b .nil a0S (a0A (pv 0) a0B)))
   (a0C (a3B (i:=5) ["places"] [none] sc_grown.nd rfl rfl (by kernel_rfl) rfl (a0O (K:=K) rfl (pv 1)) (λ _ _ _ _ _=>(a0H (i:=0) (show (["places"]:List Str).Nodup by decide +kernel) rfl (Or.inl rfl))) (λ _ _ _ _ _=>a1H) (λ _ _ _ _ _=>(a0G gZ32 hr rfl dZ32.m dZ32.F.kp dZ32.b .nil a0S (a0A (pv 0) a0B))) (by rfl))
   (a0C (a3B (i:=6) ["mask"] [none] sc_grown.nd rfl rfl (by kernel_rfl) rfl (a0O (K:=K) rfl (pv 3)) (λ _ _ _ _ _=>(a0H (i:=0) (show (["mask"]:List Str).Nodup by decide +kernel) rfl (Or.inl rfl))) (λ _ _ _ _ _=>a1H) (λ _ _ _ _ _=>a6U) (by rfl))
   (a0C (a1Q PassesOwn.never rfl (a0O (K:=K) rfl (pv 5)) (a0H (i:=7) sc_grown.nd rfl (Or.inl rfl))
   (a0D (a0J (i:=6) sc_grown.nd rfl (Or.inl rfl) (a0G gZ15 hr rfl dZ15.m dZ15.F.kp dZ15.b .nil a0S (a0A (pv 6) (a0A (pv 7) a0B))))))
   (a0C (a0J (i:=8) sc_grown.nd rfl (Or.inl rfl) (a0G gZ42 hr rfl dZ42.m dZ42.F.kp dZ42.b .nil a0S (a0A (pv 6) (a0A (pv 3) (a0A (pv 2) a0B)))))
   (a5N (a1X (a0P a5M (pv 8) a2B (a0U _))
   (a0C (a0J (i:=9) sc_grown.nd rfl (Or.inl rfl) (a0G gZ19 hr rfl dZ19.m dZ19.F.kp dZ19.b .nil a0S (a0A (pv 4) (a0A (a0G gZ11 hr rfl dZ11.m dZ11.F.kp dZ11.b .nil a0S (a0A (pv 6) (a0A (pv 3) (a0A (pv 2) a0B)))) (a0A (a0Q a3E (a0I (a0T (K:=K) rfl) rfl B.len (by decide +kernel) (a0A (pv 4) a0B)) a0E) a0B)))))
   (a0D (a1X (a0P a5M (pv 9) a2B (a0U _))
   (a0D (a0N (a2H (a0A b5Z (a0A (pv 9) a0B)))))
   a0Y)))
   a0Y)
   (a0C (a5X PassesOwn.never (a0P a5M (pv 8) a2B (a0U _))
   (a0C (a0J (i:=7) sc_grown.nd rfl (Or.inl rfl) (a0G gZ35 hr rfl dZ35.m dZ35.F.kp dZ35.b .nil a0S (a0A (pv 0) (a0A (pv 8) (a0A (pv 4) (a0A (a0G gZ11 hr rfl dZ11.m dZ11.F.kp dZ11.b .nil a0S (a0A (pv 6) (a0A (pv 3) (a0A (pv 2) a0B)))) a0B))))))
   (a0C (a2D (a3F (K:=K) rfl PySem.F.plainAttrs_list PySem.F.slot_list_append PySem.F.type_list_append a1V (pv 5) (a0A (pv 7) a0B)))
   (a0C (a0J (i:=6) sc_grown.nd rfl (Or.inl rfl) (a0G gZ15 hr rfl dZ15.m dZ15.F.kp dZ15.b .nil a0S (a0A (pv 6) (a0A (pv 7) a0B))))
   (a0D (a0J (i:=8) sc_grown.nd rfl (Or.inl rfl) (a0G gZ42 hr rfl dZ42.m dZ42.F.kp dZ42.b .nil a0S (a0A (pv 6) (a0A (pv 3) (a0A (pv 2) a0B))))))))))
   (a0D (a0N (a2H (a0A b5Z (a0A (a2V ["part"] [none]  (by kernel_rfl) rfl (a0O (K:=K) rfl (pv 5)) (λ _ _ _ _ _=>(a0H (i:=0) (show (["part"]:List Str).Nodup by decide +kernel) rfl (Or.inl rfl))) (λ _ _ _ _ _=>a1H) (λ _ _ _ _ _=>(a0G gZ38 hr rfl dZ38.m dZ38.F.kp dZ38.b .nil a0S (a0A (pv 0) a0B)))) a0B))))))))))))))),?_⟩
 refine ⟨_,rfl,_,rfl,.ref pg,n,ts,a,ss,rfl,hG,okt,n10,l100,hA,SO.ok,λ v r H1 s1 fv isf=>?_⟩
 obtain rfl:r = .ok:=c2W isf ⟨λ i hi=>SO.jn _ (by rw [τα,List.getElem?_eq_getElem hi]; exact List.getElem_mem hi),SO.tc⟩
 obtain rfl:v = .non:=fv
 refine ⟨rfl,_,rfl,iteF ?_⟩
 refine ⟨_,rfl,.ref pg,n,ts,rfl,hG.same s1,okt,n10,λ cs H2 s2 C=>?_⟩
 have s02:=s1.trans s2
 generalize hz:cs.getD (2 ^ n - 1) 0=z
 refine ⟨_,rfl,pg,_,_,_,rfl,rfl,s02.tupq hP,rfl,n,rfl,n10,λ pz H3 n3=>?_⟩
 have s03:=s02.trans n3.same
 refine ⟨_,rfl,.ref pg,n,ts,rfl,hG.same s03,okt,n10,λ pb qs H4 s4 f4 h4 lq bq=>?_⟩
 have s04:=s03.trans s4
 obtain ⟨qa,hA0,pa0⟩:=id hA
 have lss:=Paired.length pa0
 refine ⟨_,rfl,a,rfl,⟨_,SqL.of (s04 _ _ hA0)⟩,?_⟩
 have sl:=SO.ok.len
 refine b2S (λ j=>(ss[j]?).bind λ p=>some (.int ((a0W p:Nat):Int))) (SqL.of (s04 _ _ hA0)) (by rw [List.length_map]; omega) (λ j x H5 N hj s5 hN=>?_) (λ H5 pp H6 s5 n6=>?_)
 ·rw [List.getElem?_map] at hj
  obtain ⟨qj,hqj,rfl⟩:=Option.map_eq_some_iff.mp hj
  obtain ⟨p',hp',h6⟩:=a1A pa0 hqj
  have pm:=List.mem_of_getElem? hp'
  have hN':∀ H',Same H4 H'->N (some (V.int ((a0W p':Nat):Int))) H':=λ H' s'=>by
   have:=hN H' s'
   rw [hp'] at this
   exact this
  exact ⟨_,rfl,qj,p',n,rfl,SqL.of ((s04.trans s5) _ _ h6),(SO.ok.up p' pm).imp λ h=>Nat.ne_of_lt h,SO.ok.lt p' pm,n10,λ H9 s9=>hN' H9 (s5.trans s9)⟩
 have e6:(List.range (qa.map V.ref).length).filterMap (λ j=>(ss[j]?).bind λ p=>some (V.int ((a0W p:Nat):Int)))=natV (ssM ss):=by
  unfold ssM
  rw [List.length_map,lss,a6C,show (λ p=>some (V.int ((a0W p:Nat):Int)))=λ p=>some ((λ x:Nat=>V.int (x:Int)) (a0W p)) from rfl,c3E,a1D,List.map_map,List.map_map,List.map_map]; rfl
 rw [e6] at n6
 have s46:=s5.trans n6.same
 have s06:=s04.trans s46
 have kz:(z = -1/\n=0)\/∃ k:Nat,z=(k:Int)/\k < n/\0 < n:=by
  rcases Nat.eq_zero_or_pos n with c | c
  ·refine .inl ⟨?_,c⟩
   subst c
   rw [<- hz]
   exact C.nil
  ·obtain ⟨k,h1,h2⟩:=d0C C c n10
   exact .inr ⟨k,by rw [<- hz]; exact h1,h2,c⟩
 have hz3:H3 pz=some (.lst (a1N (2 ^ n))):=n3.here
 have szA:∀ {H':Hp},Same H5 H'->SqL K H' pz (a1N (2 ^ n)):=λ {H'} s=>SqL.of (s _ _ (s5 _ _ (s4 _ _ hz3)))
 have bgA:∀ {H':Hp},Same H5 H'->H' pb=some (.lst (qs.map V.ref)):=λ {H'} s=>s _ _ (s5 _ _ h4)
 have bqA:∀ {H':Hp},Same H5 H'->∀ (g:Nat) q,qs[g]?=some q->BagQ n ts H' q g:=λ {H'} s g q hq=>(bq g q hq).same (s5.trans s)
 have s05:=s04.trans s5
 have fpp:H5 pp=none:=n6.fresh
 have szl:=a4A (2 ^ n)
 refine ⟨_,rfl,pz,rfl,⟨_,szA n6.same⟩,?_⟩
 refine c4G (λ _=>some (.bl true)) (szA n6.same) (by rw [szl]; exact Nat.le_trans (show 2 ^ n<=5000 by omega) (by decide)) (λ x H7 N hx s7 hN=>hN H7 s7) (λ H7 pc s7 hfree=>?_)
 have n8:=New.mk0 (o:=HO.lst ((a1N (2 ^ n)).filterMap λ _=>some (V.bl true))) hfree
 generalize upd H7 pc (HO.lst ((a1N (2 ^ n)).filterMap λ _=>some (V.bl true)))=H8 at n8 ⊢
 have e8:(a1N (2 ^ n)).filterMap (λ _=>some (V.bl true))=cvL (2 ^ n) λ _=>true:=by
  unfold a1N cvL
  rw [List.filterMap_map,List.map_map]
  exact congrFun (List.filterMap_eq_map' (f:=V.bl ∘ λ _=>true)) _
 rw [e8] at n8
 have s68:=s7.trans n8.same
 have s58:=n6.same.trans s68
 have hp8:H8 pp=some (.lst (natV (ssM ss))):=s68 _ _ n6.here
 have pcn:pc≠pp:=λ e=>by
  have:=n8.fresh
  rw [e,s7 _ _ n6.here] at this
  cases this
 refine ⟨_,rfl,pp,rfl,⟨_,SqL.of hp8⟩,?_⟩
 have lM:(ssM ss).length=ss.length:=List.length_map _
 refine a2G (xs:=natV (ssM ss)) (λ i σ H'=>∃ (cv:Addr) (f:Nat->Bool) (pt:Option V),σ=[some (.ref pg),some (.ref a),some (.int z),some (.ref pz),some (.ref pb),some (.ref pp),some (.ref cv),pt,none,none]/\Same H8 H'/\H' cv=some (.lst (cvL (2 ^ n) f))/\cv≠pp/\CovL n ((ssM ss).take i) f)
  ⟨pc,_,none,rfl,Same.refl _,n8.here,pcn,λ m _=>⟨λ _ b hb=>absurd hb List.not_mem_nil,λ _=>rfl⟩⟩ (λ i σ H' _ ⟨_,_,_,_,s,_⟩=>SqL.of (s _ _ hp8)) ?_ ?_
 ·rintro i x σ H9 hx ⟨cv,f,pt,rfl,s9,hc9,cvn,cov⟩
  rw [List.getElem?_map] at hx
  obtain ⟨m,hm,rfl⟩:=Option.map_eq_some_iff.mp hx
  obtain ⟨hil,him⟩:=List.getElem?_eq_some_iff.mp hm
  refine ⟨_,rfl,_,rfl,cv,2 ^ n,m,f,rfl,SqL.of hc9,p10,λ r H10 s10 f10 h10=>?_⟩
  refine ⟨r,_,_,rfl,s9.trans s10,h10,λ e=>?_,?_⟩
  ·rw [e,s9 _ _ hp8] at f10; cases f10
  ·rw [List.take_succ_eq_append_getElem hil,him]
   exact b7M cov
 rintro σ H9 ⟨cv,f,pt,rfl,s9,hc9,cvn,cov⟩
 rw [a1J,List.take_length] at cov
 have s59:=s58.trans s9
 have F0:=d3D SO
 have eM:(((qs.map V.ref).length:Nat):Int) - 1=((2 ^ n - 1:Nat):Int):=by
  rw [List.length_map,lq]; omega
 refine ⟨_,rfl,_,rfl,_,rfl,cv,pz,2 ^ n,f,z,rfl,SqL.of hc9,szA s59,p10,λ X H10 s10 Xl eX fX=>?some,λ H10 s10 no=>?none⟩
 case' none =>
  refine ⟨λ σ' H'=>∃ (sm:V) (od:Option V),σ'=[some (.ref pg),some (.ref a),some (.int z),some (.ref pz),some (.ref pb),some (.ref pp),some (.ref cv),pt,some sm,od]/\Same H9 H'/\b4I n z f sm (∀ k:Nat,z=(k:Int)->∀ os,¬ FreeP n (a2Y n ts (AB n k (ssM ss))) (2 ^ n - 1) os),?_,?_⟩
  ·exact ⟨_,rfl,rfl,_,rfl,iteF ⟨.non,none,rfl,s10,.inl ⟨rfl,no⟩⟩⟩
 case' some =>
  refine ⟨λ σ' H'=>∃ (sm:V) (od:Option V),σ'=[some (.ref pg),some (.ref a),some (.int z),some (.ref pz),some (.ref pb),some (.ref pp),some (.ref cv),pt,some sm,od]/\Same H9 H'/\b4I n z f sm (∀ k:Nat,z=(k:Int)->∀ os,¬ FreeP n (a2Y n ts (AB n k (ssM ss))) (2 ^ n - 1) os),?_,?_⟩
  ·refine ⟨_,rfl,rfl,_,rfl,iteT ?_⟩
   obtain ⟨k,ek,kn,n0⟩:∃ k:Nat,z=(k:Int)/\k < n/\0 < n:=kz.resolve_left λ c=>by omega
   refine ⟨_,rfl,_,rfl,_,rfl,_,rfl,cv,pz,2 ^ n,f,z,rfl,SqL.of (s10 _ _ hc9),szA (s59.trans s10),p10,λ rb H11 s11 f11 h11=>?_⟩
   have s511:=s59.trans (s10.trans s11)
   have bar:=c3J (k:=k) ek cov
   refine ⟨_,rfl,pb,_,rfl,.inl (SqL.of (bgA s511)),_,_,rfl,rfl,?_⟩
   refine ⟨pb,rb,qs,(List.range (2 ^ n)).map (λ m=>f m && decide (z < (popF m:Int))),n,2 ^ n - 1,ts,by dsimp only; rw [eM]; rfl,bgA s511,lq,n10,bqA s511,SqL.of h11,by rw [List.length_map,List.length_range],by omega,λ ro os H12 s12 f12 h12 fr=>?_,λ H12 s12 nof=>?_⟩
   ·refine ⟨_,rfl,rfl,_,rfl,iteT ⟨_,rfl,(by show 2<=1000; decide),λ rt H13 n13=>?_⟩⟩
    exact qO rt ro os cs k H13 (s05.trans (s511.trans (s12.trans n13.same))) n13.here (s05.free (s511.free f12)) (n13.same _ _ h12) C n0 (hz.trans ek) ((a8E n10 bar).mp fr)
   ·refine ⟨_,rfl,rfl,_,rfl,iteF ⟨_,_,rfl,s10.trans (s11.trans s12),.inr ⟨X,rfl,Xl,eX,fX,λ k' ek' os fr=>?_⟩⟩⟩
    have:k'=k:=by omega
    subst this
    exact nof os ((a8E n10 bar).mpr fr)
 all_goals
  rintro σ H11 ⟨sm,od,rfl,s11,SV⟩
  have s511:=s59.trans s11
  let Iw:Nat->St->Hp->Prop:=λ m σ H'=>∃ (cv:Addr) (f:Nat->Bool) (more:List Nat) (sm:V) (pt od:Option V),σ=[some (.ref pg),some (.ref a),some (.int z),some (.ref pz),some (.ref pb),some (.ref pp),some (.ref cv),pt,some sm,od]/\Same H5 H'/\H' pp=some (.lst (natV (ssM ss++more)))/\H' cv=some (.lst (cvL (2 ^ n) f))/\cv≠pp/\m=cntK n z f/\more.length+cntK n z f<=252/\CovL n (ssM ss++more) f/\FamM n ts (ssM ss++more)/\more.Nodup/\(∀ x∈more,x ∉ ssM ss)/\b4I n z f sm (∀ k:Nat,z=(k:Int)->∀ os,¬ FreeP n (a2Y n ts (AB n k (ssM ss++more))) (2 ^ n - 1) os)
  refine ⟨Iw,⟨_,cv,f,[],sm,pt,od,rfl,s511,?_,s11 _ _ hc9,cvn,rfl,?_,?_,?_,.nil,λ x hx=>absurd hx List.not_mem_nil,?_⟩,?_⟩
  ·rw [List.append_nil]; exact s11 _ _ (s9 _ _ hp8)
  ·have:=d0E n10 z f
   show 0+_<=252
   omega
  ·rw [List.append_nil]; exact cov
  ·rw [List.append_nil]; exact F0
  ·rw [List.append_nil]; exact SV
  rintro m σ H12 ⟨cv,f,more,sm,pt,od,rfl,s12,hp12,hc12,cvn,rfl,few,cov,Fm,ndm,newm,SV⟩
  have lmore:(natV (ssM ss++more)).length<=700:=by rw [a1J,List.length_append,lM]; omega
  refine ⟨_,rfl,rfl,_,rfl,?_⟩
  rcases SV with ⟨rfl,no⟩ | ⟨X,rfl,Xl,eX,fX,nof⟩
  ·refine iteF ?_
   have s012:=s05.trans s12
   have mlt:∀ m∈ssM ss++more,m < 2 ^ 10:=λ m hm=>Nat.lt_of_lt_of_le (Fm.lt m hm) (Nat.pow_le_pow_right (by decide) n10)
   refine ⟨_,rfl,pp,rfl,⟨_,SqL.of hp12⟩,?_⟩
   refine a4G (K:=K) (a:=pp) (xs:=natV (ssM ss++more)) (λ i ys G=>Same H12 G/\∃ qr:List Addr,ys=qr.map V.ref/\(∀ q∈qr,H q=none)/\(∀ q∈qr,∃ l,G q=some (.lst l))/\qr.length=i/\Paired (λ q l=>G q=some (.lst (natV l))) qr (((ssM ss++more).take i).map a0M)) ⟨Same.refl _,[],rfl,λ q h=>absurd h List.not_mem_nil,λ q h=>absurd h List.not_mem_nil,rfl,.nil⟩ (λ i ys G hi ⟨s,qr,e,_,_,l,_⟩=>⟨SqL.of (s _ _ hp12),?_⟩) (λ i x ys G hi ⟨s,qr,e,fr,al,l,pr⟩=>?_) ?_
   ·rw [e,List.length_map,l]
    exact Nat.le_of_lt (a1E (by omega))
   ·rw [List.getElem?_map] at hi
    obtain ⟨m,hm,rfl⟩:=Option.map_eq_some_iff.mp hi
    obtain ⟨hil,him⟩:=List.getElem?_eq_some_iff.mp hm
    refine ⟨_,rfl,m,rfl,mlt m (List.mem_of_getElem? hm),λ G0 q2 G2 s2 n2=>?_⟩
    have sG:Same G G2:=s2.trans n2.same
    refine ⟨s.trans sG,qr++[q2],by rw [e,List.map_append]; rfl,λ q hq=>?_,λ q hq=>?_,by rw [List.length_append,l]; rfl,?_⟩
    ·rcases List.mem_append.mp hq with hq | hq
     ·exact fr q hq
     ·rw [List.mem_singleton.mp hq]
      exact s012.free (s.free (s2.free n2.fresh))
    ·rcases List.mem_append.mp hq with hq | hq
     ·obtain ⟨l,h⟩:=al q hq
      exact ⟨l,sG _ _ h⟩
     ·rw [List.mem_singleton.mp hq]
      exact ⟨_,n2.here⟩
    ·rw [List.take_succ_eq_append_getElem hil,him,List.map_append]
     exact a1T (Paired.mapP pr λ _ _ h=>sG _ _ h) n2.here
   intro ys G ⟨s,qr,e,fr,al,l,pr⟩ rp hrp
   rw [a1J,List.take_length] at pr
   have nG:=New.mk0 (o:=HO.lst ys) hrp
   generalize upd G rp (HO.lst ys)=G2 at nG ⊢
   refine ⟨(by show 2<=1000; decide),λ rt H14 n14=>?_⟩
   have sG2:Same G H14:=nG.same.trans n14.same
   refine qF rt rp (ss++more.map a0M) more cs H14 (s012.trans (s.trans sG2)) n14.here ⟨qr,by rw [n14.same _ _ nG.here,e],λ z=>?_,fr,?_⟩ (s012.free (s.free hrp)) C ⟨rfl,Fm,ndm,newm,by omega,λ Y hY=>?_⟩
   ·obtain ⟨l,h⟩:=al rp z
    rw [hrp] at h
    cases h
   ·have e2:(ssM ss++more).map a0M=ss++more.map a0M:=by
     rw [List.map_append]
     congr 1
     unfold ssM
     rw [List.map_map]
     conv=>rhs; rw [<- List.map_id ss]
     exact List.map_congr_left λ p hp=>b5S n10 (SO.ok.up p hp) (SO.ok.lt p hp)
    rw [e2] at pr
    exact Paired.mapP pr λ _ _ h=>sG2 _ _ h
   ·rw [hz]
    rcases kz with ⟨h1,_⟩ | ⟨k,ek,kn,_⟩
    ·rw [h1]; omega
    ·rw [ek] at no ⊢
     have:=c6K n10 (Nat.le_of_lt kn) Fm.lt cov no Y hY
     omega
  ·refine iteT ⟨λ σ H'=>∃ m,m < cntK n z f/\Iw m σ H',λ σ' H' h=>h,?_⟩
   obtain ⟨k,ek,kn,n0⟩:∃ k:Nat,z=(k:Int)/\k < n/\0 < n:=kz.resolve_left λ c=>by omega
   have s012:=s05.trans s12
   refine ⟨_,rfl,_,rfl,_,rfl,_,rfl,_,rfl,_,rfl,cv,pz,2 ^ n,f,z,rfl,SqL.of hc12,szA s12,p10,λ rb H13 s13 f13 h13=>?_⟩
   have s513:=s12.trans s13
   have bar:=c3J (k:=k) ek cov
   refine ⟨.ref pg,n,k,X,ts,pb,rb,qs,_,ssM ss++more,rfl,hG.same (s05.trans s513),okt,n10,n0,l100,Xl,bgA s513,lq,bqA s513,SqL.of h13,bar,Fm,nof k ek,by omega,λ cm H14 s14 Cc cl nfc=>?_⟩
   have s514:=s513.trans s14
   have hp14:=s14 _ _ (s13 _ _ hp12)
   have hc14:=s14 _ _ (s13 _ _ hc12)
   refine ⟨_,rfl,.inl ⟨rfl,_,SqL.of hp14⟩,_,rfl,pp,_,_,rfl,rfl,hp14,by omega,λ H15 c15=>?_⟩
   have s515:Same H5 H15:=s514.chg fpp c15
   have hc15:H15 cv=some (.lst (cvL (2 ^ n) f)):=(c15.rest cv cvn).trans hc14
   have hp15:H15 pp=some (.lst (natV (ssM ss++(more++[cm])))):=by
    rw [c15.here,<- List.append_assoc]
    unfold natV
    rw [List.map_append (l₁:=ssM ss++more)]; rfl
   refine ⟨_,rfl,_,rfl,cv,2 ^ n,cm,f,rfl,SqL.of hc15,p10,λ r2 H16 s16 f16 h16=>?_⟩
   have s516:=s515.trans s16
   have miss:X &&& cm=0:=and_zero.mpr λ ⟨u,h1,h2⟩=>(Cc.sub h2).2 h1
   have less:=c6L Xl eX fX miss
   have nin:cm ∉ ssM ss++more:=λ zz=>by
    obtain ⟨u,h1,h2⟩:=(cov X Xl).mp fX cm zz
    exact (Cc.sub h1).2 h2
   have cov':CovL n (ssM ss++(more++[cm])) (a5C f cm):=by rw [<- List.append_assoc]; exact b7M cov
   have same1:∀ b,b∈cm::(ssM ss++more)↔b∈ssM ss++(more++[cm]):=λ b=>by rw [<- List.append_assoc]; exact b7L
   obtain ⟨c0,hc0⟩:=Cc.ne
   have Fm':FamM n ts (ssM ss++(more++[cm])):=c3I same1 (by
    have jc:JnM ts cm:=⟨c0,hc0,λ y hy=>Cc.con hc0 hy⟩
    have tc:=b5R n10 cl nfc
    refine ⟨λ b hb=>?_,λ b hb=>?_,λ b hb c' hc=>?_⟩
    ·rcases List.mem_cons.mp hb with e | hb
     ·rw [e]; exact cl
     ·exact Fm.lt b hb
    ·rcases List.mem_cons.mp hb with e | hb
     ·rw [e]; exact jc
     ·exact Fm.jn b hb
    ·rcases List.mem_cons.mp hb with e | hb
     ·rcases List.mem_cons.mp hc with e' | hc
      ·rw [e,e']; exact jc.tch
      ·rw [e]; exact tc c' hc
     ·rcases List.mem_cons.mp hc with e' | hc
      ·rw [e']; exact (tc b hb).symm
      ·exact Fm.tc b hb c' hc)
   have nof':∀ k:Nat,z=(k:Int)->∀ os,¬ FreeP n (a2Y n ts (AB n k (ssM ss++(more++[cm])))) (2 ^ n - 1) os:=λ k' ek'=>by
    have:k'=k:=by omega
    subst this
    rw [<- c6J same1]
    exact nfc
   have fin:∀ (sm:V) H17,Same H16 H17->b4I n z (a5C f cm) sm (∀ k:Nat,z=(k:Int)->∀ os,¬ FreeP n (a2Y n ts (AB n k (ssM ss++(more++[cm])))) (2 ^ n - 1) os)->∃ m,m < cntK n z f/\∃ (cv':Addr) (f:Nat->Bool) (more:List Nat) (sm':V) (pt' od':Option V),[some (.ref pg),some (.ref a),some (.int z),some (.ref pz),some (.ref pb),some (.ref pp),some (.ref r2),some (.int (cm:Int)),some sm,od]=[some (.ref pg),some (.ref a),some (.int z),some (.ref pz),some (.ref pb),some (.ref pp),some (.ref cv'),pt',some sm',od']/\Same H5 H17/\H17 pp=some (.lst (natV (ssM ss++more)))/\H17 cv'=some (.lst (cvL (2 ^ n) f))/\cv'≠pp/\m=cntK n z f/\more.length+cntK n z f<=252/\CovL n (ssM ss++more) f/\FamM n ts (ssM ss++more)/\more.Nodup/\(∀ x∈more,x ∉ ssM ss)/\b4I n z f sm' (∀ k:Nat,z=(k:Int)->∀ os,¬ FreeP n (a2Y n ts (AB n k (ssM ss++more))) (2 ^ n - 1) os):=λ sm H17 s17 sv=>by
    refine ⟨_,less,r2,a5C f cm,more++[cm],sm,_,_,rfl,s516.trans s17,s17 _ _ (s16 _ _ hp15),s17 _ _ h16,λ zz=>?_,rfl,?_,cov',Fm',?_,λ x hx=>?_,sv⟩
    ·rw [zz,hp15] at f16; cases f16
    ·rw [List.length_append]
     show more.length+1+_<=252
     omega
    ·refine List.nodup_append.mpr ⟨ndm,List.nodup_cons.mpr ⟨List.not_mem_nil,.nil⟩,λ x hx y hy e=>?_⟩
     rw [List.mem_singleton.mp hy] at e
     exact nin (List.mem_append_right _ (e ▸ hx))
    ·rcases List.mem_append.mp hx with hx | hx
     ·exact newm x hx
     ·rw [List.mem_singleton.mp hx]
      exact λ zz=>nin (List.mem_append_left _ zz)
   exact ⟨_,rfl,_,rfl,_,rfl,r2,pz,2 ^ n,a5C f cm,z,rfl,SqL.of h16,szA s516,p10,λ X' H17 s17 X'l eX' fX'=>fin _ H17 s17 (.inr ⟨X',rfl,X'l,eX',fX',nof'⟩),λ H17 s17 no=>fin _ H17 s17 (.inl ⟨rfl,no⟩)⟩
end
end K
namespace K
open PySem L2 Lw Bg
abbrev b7N:Stmt:=top 43
theorem c3M:FnScope ["graph"] ["graph"] (a0F b7N):=⟨rfl,rfl,rfl,by decide +kernel,rfl,by decide +kernel,by decide +kernel⟩
def c6N (K:Φρ):Sp:=λ vs H Q _=>∃ (g:V) (n:Nat) (ts:List ζζ),vs=[g]/\GraphV K H g n ts/\(∀ t∈ts,0<=t.1/\t.1 < t.2/\t.2 < (n:Int))/\n<=10/\ts.length<=100 /\
 ∀ rp rs more cs H',Same H H'->H rp=none->PcsN H H' rp rs->CostOk n ts cs->GFam n ts (cs.getD (2 ^ n - 1) 0) [] rs more->Q (.ref rp) H'
section
variable {P:Program} {w:World} {K:Φρ} {mg:Str->Option Value} {base:Heap}
abbrev DZ16 (K:PySem.W.Frag) (mg:Str->Option Value):=Dn K mg "family" b7N ["graph"]
set_option maxHeartbeats 8000000 in
theorem c3N (B:Bl mg) (Bs:mg "sum" = none) (dZ24:DZ24 K mg) (dZ21:DZ21 K mg) (dZ23:DZ23 K mg) (dZ12:DZ12 K mg) (dZ25:DZ25 K mg) (dZ31:DZ31 K mg) (dZ10:DZ10 K mg) (dZ22:DZ22 K mg) (dZ37:DZ37 K mg) (dZ36:DZ36 K mg) (dZ40:DZ40 K mg) (dZ32:DZ32 K mg) (dZ38:DZ38 K mg) (dZ33:DZ33 K mg) (dZ17:DZ17 K mg) (dZ44:DZ44 K mg) (dZ8:DZ8 K mg) (dZ13:DZ13 K mg) (dZ14:DZ14 K mg) (dZ19:DZ19 K mg) (dZ30:DZ30 K mg) (dZ18:DZ18 K mg) (dZ34:DZ34 K mg) (dZ15:DZ15 K mg) (dZ42:DZ42 K mg) (dZ11:DZ11 K mg) (dZ35:DZ35 K mg) (dZ20:DZ20 K mg) (dZ16:DZ16 K mg):FnOk P w K mg base CX0 10 dZ16.f dZ16.fd ["graph"] (c6N K):=by
 have gZ20:FnOk P w K mg base CX0 9 _ _ _ _:=c6M B Bs dZ24 dZ21 dZ23 dZ12 dZ25 dZ31 dZ10 dZ22 dZ37 dZ36 dZ40 dZ32 dZ38 dZ33 dZ17 dZ44 dZ8 dZ13 dZ14 dZ19 dZ30 dZ18 dZ34 dZ15 dZ42 dZ11 dZ35 dZ20
 refine dZ16.F.ok c3M (λ vs H Q E h=>?_) (λ cdv A outer s H vs Q E hr h=>?_)
 ·obtain ⟨g,n,ts,rfl,_⟩:=h
  rfl
 obtain ⟨g,n,ts,rfl,hG,okt,n10,l100,q⟩:=h
 refine ⟨_,(a0D (a0N (a0V (a0Z (K:=K) rfl) (a0G gZ20 hr rfl dZ20.m dZ20.F.kp dZ20.b .nil a0S (a0A (pv 0) (a0A (a1M a0B) a0B))) a0E (λ _ _=>rfl)))),?_⟩
 refine ⟨_,rfl,(by show 0<=1000; decide),λ pe H1 n1=>?_⟩
 have SO:SsOk n ts []:=⟨⟨λ p hp=>absurd hp List.not_mem_nil,λ p hp=>absurd hp List.not_mem_nil,Nat.zero_le _⟩,λ p hp=>absurd hp List.not_mem_nil,λ j k _ h=>absurd h (Nat.not_lt_zero _)⟩
 refine ⟨g,n,ts,pe,[],rfl,hG.same n1.same,okt,n10,l100,⟨[],n1.here,.nil⟩,SO,λ r rp rs more cs H2 s2 h2 hN fr0 C GF=>?_,λ r ro os cs k H2 s2 h2 f2 h3 C n0 ek fr=>?_⟩
 ·have hN':PcsN H H2 rp rs:=by
   obtain ⟨qs,a1,a2,a3,a4⟩:=hN
   exact ⟨qs,a1,a2,λ x hx=>n1.same.free (a3 x hx),a4⟩
  have frp:H rp=none:=n1.same.free fr0
  exact ⟨r,_,_,_,rfl,rfl,SqT.of h2,a1L (j:=1) rfl,q rp rs more cs H2 (n1.same.trans s2) frp hN' C GF⟩
 ·exact absurd fr (c3K n10 C ek os)
end
end K
namespace K
open PySem L2 Lw Bg
theorem b5T {m:Nat} (h:m < 2 ^ 10):a0W (a0M m)=m:=Nat.eq_of_testBit_eq λ u=>by
 rw [a1P,Bool.eq_iff_iff,decide_eq_true_iff,a2K h]
theorem cv_hits {rs:List (List Nat)} {Y:St'}:CvM (rs.map a0W) Y↔∀ s∈rs,∃ v∈s,Y v:=by
 have mb:∀ (p:List Nat) (u:Nat),bitP (a0W p) u↔u∈p:=λ p u=>by
  show (a0W p).testBit u=true↔_
  rw [a1P,decide_eq_true_iff]
 constructor
 ·intro h s hs
  obtain ⟨x,h1,h2⟩:=h (a0W s) (List.mem_map.mpr ⟨s,hs,rfl⟩)
  exact ⟨x,(mb s x).mp h1,h2⟩
 ·intro h b hb
  obtain ⟨s,hs,rfl⟩:=List.mem_map.mp hb
  obtain ⟨v,h1,h2⟩:=h s hs
  exact ⟨v,(mb s v).mpr h1,h2⟩
structure Told (n:Nat) (ts:List ζζ) (z:Int) (rs:List (List Nat)):Prop where
 fam:FamM n ts (rs.map a0W)
 up:∀ p∈rs,p.Pairwise (· < ·)
 lt:∀ p∈rs,∀ x∈p,x < n
 ne:∀ p∈rs,p≠[]
 few:rs.length<=252
 nd:(rs.map a0W).Nodup
 big:∀ Y,CvM (rs.map a0W) Y->z < (a1B n Y:Int)
theorem d0F {n:Nat} {ts:List ζζ} {z:Int} {rs:List (List Nat)} {more:List Nat} (n10:n<=10) (G:GFam n ts z [] rs more):Told n ts z rs:=by
 have e0:rs=more.map a0M:=G.rows
 have F:FamM n ts more:=G.fam
 have l10:∀ m∈more,m < 2 ^ 10:=λ m hm=>Nat.lt_of_lt_of_le (F.lt m hm) (Nat.pow_le_pow_right (by decide) n10)
 have em:rs.map a0W=more:=by
  rw [e0,List.map_map]
  conv=>rhs; rw [<- List.map_id more]
  exact List.map_congr_left λ m hm=>b5T (l10 m hm)
 refine ⟨by rw [em]; exact F,λ p hp=>?_,λ p hp x hx=>?_,λ p hp=>?_,by rw [e0,List.length_map]; exact G.few,by rw [em]; exact G.nd,by rw [em]; exact G.big⟩
 ·rw [e0] at hp
  obtain ⟨m,hm,rfl⟩:=List.mem_map.mp hp
  exact List.pairwise_lt_range.filter _
 ·rw [e0] at hp
  obtain ⟨m,hm,rfl⟩:=List.mem_map.mp hp
  refine Classical.byContradiction λ c=>?_
  have:=(a2K (l10 m hm)).mp hx
  rw [a1W (F.lt m hm) (by omega)] at this
  cases this
 ·rw [e0] at hp
  obtain ⟨m,hm,rfl⟩:=List.mem_map.mp hp
  obtain ⟨x,hx,_⟩:=F.jn m hm
  exact List.ne_nil_of_mem ((a2K (l10 m hm)).mpr hx)
theorem a6R {n:Nat} {c:List Nat} (nd:c.Nodup) (lt:∀ x∈c,x < n):a1B n (λ x=>x∈c)=c.length:=by
 rw [a4D (f:=λ x=>decide (x∈c)) λ x=>decide_eq_true_iff.symm,List.countP_eq_length_filter]
 refine List.Perm.length_eq ((List.perm_ext_iff_of_nodup (List.nodup_range.filter _) nd).mpr λ x=>?_)
 rw [List.mem_filter,List.mem_range,decide_eq_true_iff]
 exact ⟨λ h=>h.2,λ h=>⟨lt x h,h⟩⟩
abbrev b4J:Stmt:=top 49
theorem b8Z:FnScope ["graph"] ["graph"] (a0F b4J):=⟨rfl,rfl,rfl,by decide +kernel,rfl,by decide +kernel,by decide +kernel⟩
def c3O (K:Φρ):Sp:=λ vs H Q _=>∃ (g:V) (n:Nat) (ts:List ζζ),vs=[g]/\GraphV K H g n ts/\(∀ t∈ts,0<=t.1/\t.1 < t.2/\t.2 < (n:Int))/\n<=10/\ts.length<=100 /\
 ∀ f p q z xs R rs H',Same H H'->H' f=some (.tup [.int z,.ref p,.ref q])->H p=none->H' p=some (.lst xs)->Paired (RowF H [p] H') xs R->Tree n R->(∀ t∈ts,∃ r∈R,t.1∈r.2/\t.2∈r.2)->R.length<=max 1 n ->
  (∀ r∈R,((r.2.length:Nat):Int)<=z+1)->(∃ r∈R,((r.2.length:Nat):Int)=z+1)->H q=none->PcsN H H' q rs->Told n ts z rs->Q (.ref f) H'
section
variable {P:Program} {w:World} {K:Φρ} {mg:Str->Option Value} {base:Heap}
abbrev DZ41 (K:PySem.W.Frag) (mg:Str->Option Value):=Dn K mg "settled" b4J ["graph"]
set_option maxHeartbeats 8000000 in
theorem b9A (B:Bl mg) (Bs:mg "sum" = none) (dZ32:DZ32 K mg) (dZ38:DZ38 K mg) (dZ33:DZ33 K mg) (dZ17:DZ17 K mg) (dZ44:DZ44 K mg) (dZ8:DZ8 K mg) (dZ24:DZ24 K mg) (dZ21:DZ21 K mg) (dZ23:DZ23 K mg) (dZ12:DZ12 K mg) (dZ25:DZ25 K mg) (dZ31:DZ31 K mg) (dZ10:DZ10 K mg) (dZ22:DZ22 K mg) (dZ37:DZ37 K mg) (dZ36:DZ36 K mg) (dZ40:DZ40 K mg) (dZ26:DZ26 K mg) (dZ39:DZ39 K mg) (dZ46:DZ46 K mg) (dZ45:DZ45 K mg) (dZ9:DZ9 K mg) (dZ13:DZ13 K mg) (dZ14:DZ14 K mg) (dZ43:DZ43 K mg) (dZ19:DZ19 K mg) (dZ30:DZ30 K mg) (dZ28:DZ28 K mg) (dZ29:DZ29 K mg) (dZ18:DZ18 K mg) (dZ34:DZ34 K mg) (dZ16:DZ16 K mg) (dZ20:DZ20 K mg) (dZ15:DZ15 K mg) (dZ42:DZ42 K mg) (dZ11:DZ11 K mg) (dZ35:DZ35 K mg) (dZ41:DZ41 K mg):FnOk P w K mg base CX0 12 dZ41.f dZ41.fd ["graph"] (c3O K):=by
 have gZ30:FnOk P w K mg base CX0 11 _ _ _ _:=(a5K B dZ33 dZ17 dZ44 dZ8 dZ14 dZ13 dZ30).mono (by decide)
 have gZ29:FnOk P w K mg base CX0 11 _ _ _ _:=(b1V B Bs dZ32 dZ38 dZ33 dZ17 dZ44 dZ8 dZ24 dZ21 dZ23 dZ25 dZ31 dZ26 dZ39 dZ46 dZ45 dZ9 dZ14 dZ43 dZ19 dZ28 dZ29).mono (by decide)
 have gZ16:FnOk P w K mg base CX0 11 _ _ _ _:=(c3N B Bs dZ24 dZ21 dZ23 dZ12 dZ25 dZ31 dZ10 dZ22 dZ37 dZ36 dZ40 dZ32 dZ38 dZ33 dZ17 dZ44 dZ8 dZ13 dZ14 dZ19 dZ30 dZ18 dZ34 dZ15 dZ42 dZ11 dZ35 dZ20 dZ16).mono (by decide)
 refine dZ41.F.ok b8Z (λ vs H Q E h=>?_) (λ cdv A outer s H vs Q E hr h=>?_)
 ·obtain ⟨g,n,ts,rfl,_⟩:=h
  rfl
 obtain ⟨g,n,ts,rfl,hG,okt,n10,l100,q⟩:=h
 refine ⟨_,(a0D (a0N (a2H (a0A (a0G gZ30 hr rfl dZ30.m dZ30.F.kp dZ30.b .nil a0S (a0A (pv 0) a0B)) (a0A (a0G gZ29 hr rfl dZ29.m dZ29.F.kp dZ29.b .nil a0S (a0A (pv 0) a0B)) (a0A (a0G gZ16 hr rfl dZ16.m dZ16.F.kp dZ16.b .nil a0S (a0A (pv 0) a0B)) a0B)))))),?_⟩
 refine ⟨_,rfl,g,n,ts,rfl,hG,okt,n10,λ cs1 H1 s1 C1=>?_⟩
 refine ⟨_,rfl,g,n,ts,rfl,hG.same s1,okt,n10,λ p xs R cs H2 s2 f2 h2 d2 T cov fw C2 g1 g2=>?_⟩
 have s02:=s1.trans s2
 refine ⟨_,rfl,g,n,ts,rfl,hG.same s02,okt,n10,l100,λ rp rs more cs3 H3 s3 f3 pc C3 GF=>⟨(by show 3<=1000; decide),λ pf H4 n4=>?_⟩⟩
 have e2:=b3Q C2 C1
 have e3:=b3Q C3 C1
 subst e2
 subst e3
 have s34:=s3.trans n4.same
 have s04:=s02.trans s34
 have up:∀ {v:V} {r:Row},RowF H1 [p] H2 v r->RowF H [p] H4 v r:=λ {v r} h=>by
  obtain ⟨pp,b,e,q1,q2,q3,q4,q5⟩:=RowF.same s34 h
  exact ⟨pp,b,e,q1,q2,q3,s1.free q4,q5⟩
 refine q pf p rp _ xs R rs H4 s04 n4.here (s1.free f2) (s34 _ _ h2) (Paired.mapP d2 λ _ _ h=>up h) T cov fw g1 g2 (s02.free f3) ?_ (d0F n10 GF)
 obtain ⟨qs,a1,a2,a3,a4⟩:=pc
 exact ⟨qs,n4.same _ _ a1,a2,λ q hq=>s02.free (a3 q hq),Paired.mapP a4 λ _ _ h=>n4.same _ _ h⟩
end
end K
namespace K
open PySem L2 Lw Bg
abbrev a5T:Stmt:=top 51
theorem sc__law_cell:FnScope ["_law_script", "_law_k", "_law_number"] ["_law_script", "_law_k"] (a0F a5T):=⟨rfl,rfl,rfl,by decide +kernel,rfl,by decide +kernel,by decide +kernel⟩
abbrev a5D:Stmt:=top 52
theorem b2B:FnScope ["_law_cell_here", "_law_many"] ["_law_cell_here", "_law_many"] (a0F a5D):=⟨rfl,rfl,rfl,by decide +kernel,rfl,by decide +kernel,by decide +kernel⟩
section
variable {P:Program} {w:World} {K:Φρ} {mg:Str->Option Value} {base:Heap}
set_option maxHeartbeats 4000000 in
theorem b5U (B:Bl mg) (d:Dn K mg "_law_cell" a5T ["_law_script", "_law_k"]):FnOk P w K mg base CX0 1 d.f d.fd ["_law_script", "_law_k"] (d1M K):=by
 refine d.F.ok sc__law_cell (λ vs H Q E h=>?_) (λ cdv A outer s H vs Q E hr h=>?_)
 ·obtain ⟨a,ns,k,rfl,_⟩:=h
  rfl
 obtain ⟨a,ns,k,rfl,hS,h63,h0,h1,q⟩:=h
 refine ⟨_,(a0C (a1X (a0P b7X (pv 1) (a0I (a0T (K:=K) rfl) rfl B.len (by decide +kernel) (a0A (pv 0) a0B)) (a0U _))
   (a0D (a0N (a0V (a0L (K:=K) rfl) (pv 0) (pv 1) (λ _ _=>rfl))))
   a0Y)
   (a0C (a0J (i:=2) sc__law_cell.nd rfl (Or.inl rfl) (a0Q a3M (a0Q a7D (pv 1) a0E) a0E))
   (a5N (a1X (a0P b4R (a0I (a0T (K:=K) rfl) rfl B.len (by decide +kernel) (a0A (pv 0) a0B)) a0E (a0U _))
   (a0D (a0J (i:=2) sc__law_cell.nd rfl (Or.inl rfl) (a0Q a3M (a0Q a7D (a0Q a3N (a0V (a0L (K:=K) rfl) (pv 0) (a0Q a3N (a0Q a7D (pv 1) a0E) (a0I (a0T (K:=K) rfl) rfl B.len (by decide +kernel) (a0A (pv 0) a0B))) (λ _ _=>rfl)) a0E) a0E) (a0Q a7D (pv 1) a0E))))
   a0Y)
   (a0D (a0N (a0Q a3N (a0Q a7D (pv 2) (pv 2)) a0E)))))),?_⟩
 have hl:(ns.map V.int).length=ns.length:=List.length_map _
 refine ⟨_,rfl,_,rfl,a,_,rfl,.inl hS,_,_,rfl,rfl,_,rfl,?_⟩
 refine ite2 (λ c=>?_) (λ c=>?_)
 ·have c':k < (((ns.map V.int).length:Nat):Int):=of_decide_eq_true c
  rw [hl] at c'
  refine ⟨_,rfl,_,rfl,a,_,_,_,rfl,rfl,hS,b0Z h0 c',?_⟩
  have e:a4H ns k=ns.getD k.toNat 0:=by unfold a4H; rw [if_pos c']
  rw [e] at q
  exact q
 ·have c':¬ k < (((ns.map V.int).length:Nat):Int):=of_decide_eq_false (Bool.eq_false_iff.mpr c)
  rw [hl] at c'
  refine ⟨_,rfl,_,_,rfl,rfl,.inr ⟨by decide,by decide⟩,_,_,rfl,rfl,?_⟩
  refine ⟨λ σ' H'=>∃ z:Int,σ'=[some (.ref a),some (.int k),some (.int z)]/\H'=H/\a4H ns k=z*z % 2147483629 /\ -(2 ^ 64) < z/\z < 2 ^ 64,?_,?_⟩
  rotate_left
  ·rintro σ' H' ⟨z,rfl,rfl,e,b1,b2⟩
   refine ⟨_,rfl,_,rfl,_,_,rfl,rfl,.inl ⟨b1,b2⟩,_,_,rfl,rfl,(show (0:Int) < _ by decide),?_⟩
   rw [e] at q
   exact q
  refine ⟨_,rfl,a,_,rfl,.inl hS,_,_,rfl,rfl,_,rfl,?_⟩
  refine ite2 (λ z=>?_) (λ z=>?_)
  ·have z':(0:Int) < (((ns.map V.int).length:Nat):Int):=of_decide_eq_true z
   rw [hl] at z'
   have m0:=Int.emod_nonneg (k*7) (show (ns.length:Int)≠0 by omega)
   have m1:=Int.emod_lt_of_pos (k*7) z'
   have b:=b8C (ns.getD (k*7 % (ns.length:Int)).toNat 0) k h0 h1
   refine ⟨_,rfl,_,rfl,_,_,rfl,rfl,.inr ⟨by decide,by decide⟩,_,rfl,a,_,rfl,.inl hS,_,_,rfl,rfl,(by rw [hl]; exact z'),a,_,_,_,rfl,rfl,hS,(by rw [hl]; exact b0Z m0 m1),_,_,rfl,rfl,(show (0:Int) < _ by decide),_,_,rfl,rfl,.inr ⟨by decide,by decide⟩,_,rfl,_,_,rfl,rfl,.inr ⟨by decide,by decide⟩,_,_,rfl,rfl,?_⟩
   refine ⟨_,rfl,rfl,?_,b.1,b.2⟩
   unfold a4H; rw [if_neg c']; simp only [if_pos z']
  ·have z':¬ (0:Int) < (((ns.map V.int).length:Nat):Int):=of_decide_eq_false (Bool.eq_false_iff.mpr z)
   rw [hl] at z'
   refine ⟨_,rfl,rfl,?_,by omega,by omega⟩
   unfold a4H; rw [if_neg c']; simp only [if_neg z']
set_option maxHeartbeats 4000000 in
theorem b7O (B:Bl mg) (d:Dn K mg "_law_mixed" a5D ["_law_cell_here", "_law_many"]):FnOk P w K mg base CX0 1 d.f d.fd ["_law_cell_here", "_law_many"] d4F:=by
 refine d.F.ok b2B (λ vs H Q E h=>?_) (λ cdv A outer s H vs Q E hr h=>?_)
 ·obtain ⟨c,m,rfl,_⟩:=h
  rfl
 obtain ⟨c,m,rfl,hm,q⟩:=h
 refine ⟨_,(a0D (a0N (a0Q a3N (a0Q a8H (a0Q a3N (a0Q a7D (a0Q a3N (pv 0) (a0Q a8I a0E a0E)) a0E) (a0Q a8I a0E a0E)) (a0Q a8I a0E a0E)) (pv 1)))),?_⟩
 have p64:(0:Int) < 2 ^ 64:=by decide
 have a1:=Int.emod_nonneg c (show (2 ^ 64:Int)≠0 by decide)
 have a2:=Int.emod_lt_of_pos c p64
 refine ⟨_,rfl,_,_,rfl,rfl,⟨by decide,by decide,by decide⟩,_,_,rfl,rfl,(show (0:Int) < _ by decide),_,_,rfl,rfl,.inl ⟨?_,?_⟩,_,_,rfl,rfl,⟨by decide,by decide,by decide⟩,_,_,rfl,rfl,(show (0:Int) < _ by decide),_,_,rfl,rfl,⟨by decide,by decide,by decide⟩,_,_,rfl,rfl,⟨by decide,by decide⟩,_,rfl,_,_,rfl,rfl,hm,?_⟩
 ·show -(2 ^ 64) < c % 2 ^ 64
  omega
 ·exact a2
 ·exact q
end
abbrev a9G:Stmt:=top 53
theorem sc__law_ties:FnScope ["_law_script", "_law_at", "_law_n", "_law_bits", "_law_way", "_law_other", "_law_ties_here", "_law_a", "_law_b"] ["_law_script", "_law_at", "_law_n"] (a0F a9G):=⟨rfl,rfl,rfl,by decide +kernel,rfl,by decide +kernel,by decide +kernel⟩
abbrev lexT (s t:Int × Int):Prop:=s.1 < t.1\/(s.1=t.1/\s.2 < t.2)
structure Web (n:Int) (ts:List ζζ):Prop where
 ok:∀ t∈ts,0<=t.1/\t.1 < t.2/\t.2 < n
 up:ts.Pairwise lexT
def d0G (K:Φρ):Sp:=λ vs H Q _=>∃ (a:Addr) (ns:List Int) (k:Int) (n:Nat),vs=[.ref a,.int k,.int n]/\SqL K H a (ns.map V.int)/\ns.length<=63/\0<=k/\k<=900/\n<=10 /\
 ∀ r xs ts H',Same H H'->H r=none->H' r=some (.lst xs)->Paired (TieL H') xs ts->Web n ts->ts.length<=100->Q (.ref r) H'
section
variable {P:Program} {w:World} {K:Φρ} {mg:Str->Option Value} {base:Heap}
abbrev DZ1 (K:PySem.W.Frag) (mg:Str->Option Value):=Dn K mg "_law_cell" a5T ["_law_script", "_law_k"]
abbrev DZ4 (K:PySem.W.Frag) (mg:Str->Option Value):=Dn K mg "_law_mixed" a5D ["_law_cell_here", "_law_many"]
abbrev DZ5 (K:PySem.W.Frag) (mg:Str->Option Value):=Dn K mg "_law_ties" a9G ["_law_script", "_law_at", "_law_n"]
set_option maxHeartbeats 4000000 in
theorem b4K (B:Bl mg) (dZ1:DZ1 K mg) (dZ4:DZ4 K mg) (dZ5:DZ5 K mg):FnOk P w K mg base CX0 2 dZ5.f dZ5.fd ["_law_script", "_law_at", "_law_n"] (d0G K):=by
 have gZ1:FnOk P w K mg base CX0 1 _ _ _ _:=b5U B dZ1
 have gZ4:FnOk P w K mg base CX0 1 _ _ _ _:=b7O B dZ4
 refine dZ5.F.ok sc__law_ties (λ vs H Q E h=>?_) (λ cdv A outer s H vs Q E hr h=>?_)
 ·obtain ⟨a,ns,k,n,rfl,_⟩:=h
  rfl
 obtain ⟨a,ns,k,n,rfl,hS,h63,k0,k1,hn,q⟩:=h
 refine ⟨_,(a0C (a0J (i:=3) sc__law_ties.nd rfl (Or.inl rfl) (a0G gZ4 hr rfl dZ4.m dZ4.F.kp dZ4.b .nil a0S (a0A (a0G gZ1 hr rfl dZ1.m dZ1.F.kp dZ1.b .nil a0S (a0A (pv 0) (a0A (pv 1) a0B))) (a0A (a0Q a8I a0E a0E) a0B))))
   (a0C (a0J (i:=4) sc__law_ties.nd rfl (Or.inl rfl) (a0Q a3N (a0G gZ1 hr rfl dZ1.m dZ1.F.kp dZ1.b .nil a0S (a0A (pv 0) (a0A (a0Q a3M (pv 1) a0E) a0B))) a0E))
   (a0C (a0J (i:=5) sc__law_ties.nd rfl (Or.inl rfl) (a0G gZ4 hr rfl dZ4.m dZ4.F.kp dZ4.b .nil a0S (a0A (a0G gZ1 hr rfl dZ1.m dZ1.F.kp dZ1.b .nil a0S (a0A (pv 0) (a0A (a0Q a3M (pv 1) a0E) a0B))) (a0A (a0Q a8I a0E a0E) a0B))))
   (a5N (a1X (a0P b7X (pv 4) a0E (a0U _))
   (a0D (a0J (i:=3) sc__law_ties.nd rfl (Or.inl rfl) (a0Q b2E (pv 3) (pv 5))))
   (a0D (a1X (a0P b7X (pv 4) a0E (a0U _))
   (a0D (a0J (i:=3) sc__law_ties.nd rfl (Or.inl rfl) (a0Q b4Q (pv 3) (pv 5))))
   (a0D (a1X (a0P a3Q (pv 4) a0E (a0U _))
   (a0D (a0J (i:=3) sc__law_ties.nd rfl (Or.inl rfl) (a0Q a3E (a0Q a8I a0E a0E) a0E)))
   a0Y)))))
   (a0C (a0J (i:=6) sc__law_ties.nd rfl (Or.inl rfl) (a1M a0B))
   (a0C (a1Q PassesOwn.never rfl (a2U rfl B.range (a0A (pv 2) a0B)) (a0H (i:=7) sc__law_ties.nd rfl (Or.inl rfl))
   (a0D (a1Q PassesOwn.never rfl (a3V rfl B.range (a0A (a0Q a3M (pv 7) a0E) (a0A (pv 2) a0B))) (a0H (i:=8) sc__law_ties.nd rfl (Or.inl rfl))
   (a5N (a1X (a0P a3Q (a0Q a3N (pv 3) a0E) a0E (a0U _))
   (a0D (a2D (a3F (K:=K) rfl PySem.F.plainAttrs_list PySem.F.slot_list_append PySem.F.type_list_append a1V (pv 6) (a0A (a2H (a0A (pv 7) (a0A (pv 8) a0B))) a0B))))
   a0Y)
   (a0D (a0J (i:=3) sc__law_ties.nd rfl (Or.inl rfl) (a0Q a8H (pv 3) a0E)))))))
   (a0D (a0N (pv 6))))))))),?_⟩
 refine ⟨_,rfl,_,rfl,a,ns,k,rfl,hS,h63,k0,(by omega),_,_,rfl,rfl,⟨by decide,by decide,by decide⟩,_,_,rfl,(by decide),?_⟩
 refine ⟨_,rfl,_,rfl,_,_,rfl,rfl,a,ns,k+1,rfl,hS,h63,(by omega),(by omega),_,_,rfl,rfl,(show (0:Int) < _ by decide),?_⟩
 refine ⟨_,rfl,_,rfl,_,_,rfl,rfl,a,ns,k+2,rfl,hS,h63,(by omega),(by omega),_,_,rfl,rfl,⟨by decide,by decide,by decide⟩,_,_,rfl,(by decide),?_⟩
 refine ⟨λ σ' H'=>∃ b x y:Int,σ'=[some (.ref a),some (.int k),some (.int n),some (.int b),some (.int x),some (.int y),none,none,none]/\H'=H,?_,?_⟩
 ·refine ⟨_,rfl,_,_,rfl,rfl,_,rfl,?_⟩
  refine ite2 (λ c=>?_) (λ c=>?_)
  ·exact ⟨_,rfl,_,rfl,_,_,rfl,rfl,_,_,_,rfl,rfl⟩
  ·refine ⟨_,rfl,_,_,rfl,rfl,_,rfl,?_⟩
   refine ite2 (λ c=>?_) (λ c=>?_)
   ·exact ⟨_,rfl,_,rfl,_,_,rfl,rfl,_,_,_,rfl,rfl⟩
   ·refine ⟨_,rfl,rfl,_,rfl,?_⟩
    refine ite2 (λ c=>?_) (λ c=>?_)
    ·exact ⟨_,_,rfl,rfl,⟨by decide,by decide,by decide⟩,_,_,rfl,rfl,_,_,_,rfl,rfl⟩
    ·exact ⟨_,_,_,rfl,rfl⟩
 rintro σ' H' ⟨b0,x0,y0,rfl,rfl⟩
 refine ⟨(by show 0<=1000; decide),λ r H0 nw=>?_⟩
 refine ⟨_,rfl,_,rfl,by omega,by omega,?_⟩
 have en:((n:Nat):Int).toNat=n:=by omega
 rw [en]
 refine a3D (n:=n) (λ i σ H2=>∃ (b:Int) (aa bb:Option V) (xs:List V) (ts:List ζζ),σ=[some (.ref a),some (.int k),some (.int n),some (.int b),some (.int x0),some (.int y0),some (.ref r),aa,bb]/\Same H' H2/\H2 r=some (.lst xs)/\Paired (TieL H2) xs ts/\ts.length<=10*i/\Web n ts/\∀ t∈ts,t.1 < (i:Int))
  ⟨_,none,none,[],[],rfl,nw.same,nw.here,.nil,Nat.zero_le _,⟨λ t h=>absurd h List.not_mem_nil,.nil⟩,λ t h=>absurd h List.not_mem_nil⟩ ?_ ?_
 ·rintro i σ H2 hi ⟨b,aa,bb,xs,ts,rfl,sm,hr2,hp,hz,hw,hlt⟩
  refine ⟨_,rfl,_,_,rfl,rfl,_,rfl,_,_,rfl,⟨by omega,by omega,by omega,by omega⟩,?_⟩
  refine a3D (n:=_) (λ j σ H3=>∃ (b:Int) (bb:Option V) (xs:List V) (ts:List ζζ),σ=[some (.ref a),some (.int k),some (.int n),some (.int b),some (.int x0),some (.int y0),some (.ref r),some (.int (0+(i:Int))),bb]/\Same H' H3/\H3 r=some (.lst xs)/\Paired (TieL H3) xs ts/\ts.length<=10*i+j/\Web n ts/\∀ t∈ts,t.1 < (i:Int)\/(t.1=(i:Int)/\t.2 < (i:Int)+1+j))
   ⟨b,bb,xs,ts,rfl,sm,hr2,hp,by omega,hw,λ t h=>.inl (hlt t h)⟩ ?_ ?_
  ·rintro j σ H3 hj ⟨b,bb,xs,ts,rfl,sm,hr3,hp,hz,hw,hlt⟩
   have jn:(j:Int)+(0+(i:Int)+1) < n:=by omega
   refine ⟨λ σ' H4=>∃ (xs:List V) (ts:List ζζ),σ'=[some (.ref a),some (.int k),some (.int n),some (.int b),some (.int x0),some (.int y0),some (.ref r),some (.int (0+(i:Int))),some (.int (0+(i:Int)+1+(j:Int)))]/\Same H' H4/\H4 r=some (.lst xs)/\Paired (TieL H4) xs ts/\ts.length<=10*i+(j+1)/\Web n ts/\∀ t∈ts,t.1 < (i:Int)\/(t.1=(i:Int)/\t.2 < (i:Int)+1+(j+1:Nat)),?_,?_⟩
   ·refine ⟨_,rfl,_,_,rfl,rfl,(show (0:Int) < _ by decide),rfl,_,rfl,?_⟩
    refine ite2 (λ c=>?_) (λ c=>?_)
    ·refine ⟨_,rfl,.inl ⟨rfl,_,SqL.of hr3⟩,_,rfl,_,rfl,(by show 2<=1000; decide),λ p4 H4 n4=>?_⟩
     have hl:xs.length=ts.length:=Paired.length hp
     refine ⟨r,_,_,rfl,rfl,n4.same _ _ hr3,(by omega),λ H5 c5=>?_⟩
     refine ⟨xs++[.ref p4],ts++[(0+(i:Int),0+(i:Int)+1+(j:Int))],rfl,(sm.trans n4.same).chg nw.fresh c5,c5.here,?_,?_,⟨λ t ht=>?_,?_⟩,λ t ht=>?_⟩
     ·refine a1T (Paired.mapP hp λ v t q=>(q.same n4.same).chg (n4.same _ _ hr3) c5) ?_
      exact TieL.chg (n4.same _ _ hr3) c5 ⟨p4,rfl,n4.here⟩
     ·rw [List.length_append]; show ts.length+1<=_; omega
     ·rcases List.mem_append.mp ht with ht | ht
      ·exact hw.ok t ht
      ·rw [List.mem_singleton.mp ht]
       exact ⟨by show 0<=0+(i:Int); omega,by show 0+(i:Int) < 0+(i:Int)+1+(j:Int); omega,by show 0+(i:Int)+1+(j:Int) < n; omega⟩
     ·refine List.pairwise_append.mpr ⟨hw.up,List.pairwise_singleton _ _,λ t ht u hu=>?_⟩
      rw [List.mem_singleton.mp hu]
      show t.1 < 0+(i:Int)\/(t.1=0+(i:Int)/\t.2 < 0+(i:Int)+1+(j:Int))
      have:=hlt t ht
      omega
     ·rcases List.mem_append.mp ht with ht | ht
      ·have:=hlt t ht
       omega
      ·rw [List.mem_singleton.mp ht]
       show 0+(i:Int) < (i:Int)\/(0+(i:Int)=(i:Int)/\0+(i:Int)+1+(j:Int) < (i:Int)+1+(j+1:Nat))
       omega
    ·exact ⟨xs,ts,rfl,sm,hr3,hp,by omega,hw,λ t ht=>by have:=hlt t ht; omega⟩
   ·rintro σ' H4 ⟨xs,ts,rfl,sm,hr4,hp,hz,hw,hlt⟩
    refine ⟨_,rfl,_,_,rfl,rfl,⟨by decide,by decide⟩,?_⟩
    exact ⟨_,_,xs,ts,rfl,sm,hr4,hp,hz,hw,hlt⟩
  ·rintro σ H3 ⟨b,bb,xs,ts,rfl,sm,hr3,hp,hz,hw,hlt⟩
   exact ⟨b,_,bb,xs,ts,rfl,sm,hr3,hp,by omega,hw,λ t ht=>by have:=hlt t ht; omega⟩
 ·rintro σ H2 ⟨b,aa,bb,xs,ts,rfl,sm,hr2,hp,hz,hw,hlt⟩
  exact ⟨_,rfl,q r xs ts H2 sm nw.fresh hr2 hp hw (by omega)⟩
end
abbrev a6S:Stmt:=top 54
theorem sc__law_turned:FnScope ["_law_script", "_law_at", "_law_n", "_law_first", "_law_keyed"] ["_law_script", "_law_at", "_law_n"] (a0F a6S):=⟨rfl,rfl,rfl,by decide +kernel,rfl,by decide +kernel,by decide +kernel⟩
def b9B (K:Φρ):Sp:=λ vs H Q _=>∃ (a:Addr) (ns:List Int) (k:Int) (n:Nat),vs=[.ref a,.int k,.int n]/\SqL K H a (ns.map V.int)/\ns.length<=63/\0<=k/\k<=900/\n<=10/\∀ r os H',Same H H'->H' r=some (.lst (natV os))->os.Perm (List.range n)->Q (.ref r) H'
section
variable {P:Program} {w:World} {K:Φρ} {mg:Str->Option Value} {base:Heap}
abbrev DZ7 (K:PySem.W.Frag) (mg:Str->Option Value):=Dn K mg "_law_turned" a6S ["_law_script", "_law_at", "_law_n"]
set_option maxHeartbeats 8000000 in
theorem a9U (B:Bl mg) (dZ1:DZ1 K mg) (dZ4:DZ4 K mg) (dZ7:DZ7 K mg):FnOk P w K mg base CX0 3 dZ7.f dZ7.fd ["_law_script", "_law_at", "_law_n"] (b9B K):=by
 have gZ1:FnOk P w K mg base CX0 2 _ _ _ _:=(b5U B dZ1).mono (by decide)
 have gZ4:FnOk P w K mg base CX0 2 _ _ _ _:=(b7O B dZ4).mono (by decide)
 refine dZ7.F.ok sc__law_turned (λ vs H Q E h=>?_) (λ cdv A outer s H vs Q E hr h=>?_)
 ·obtain ⟨a,ns,k,n,rfl,_⟩:=h
  rfl
 obtain ⟨a,ns,k,n,rfl,hS,h63,k0,k9,n10,q⟩:=h
 refine ⟨_,(a0C (a0J (i:=3) sc__law_turned.nd rfl (Or.inr rfl) (a0Q a3N (a0G gZ1 hr rfl dZ1.m dZ1.F.kp dZ1.b .nil a0S (a0A (pv 0) (a0A (pv 1) a0B))) a0E))
   (a0C (a0J (i:=4) sc__law_turned.nd rfl (Or.inl rfl) (a0I (b3A (K:=K) rfl) rfl B.sorted (by decide +kernel) (a0A (a2V ["_law_k", "_law_first"] [none,some 3]  (by kernel_rfl) rfl (a2U rfl B.range (a0A (pv 2) a0B)) (λ _ _ _ _ _=>(a0H (i:=0) (show (["_law_k", "_law_first"]:List Str).Nodup by decide +kernel) rfl (Or.inl rfl))) (λ _ _ _ _ _=>a1H) (λ _ _ _ _ _=>(a2H (a0A (a0G gZ4 hr rfl dZ4.m dZ4.F.kp dZ4.b .nil a0S (a0A (a0Q a3M (a0Q a7D (pv 1) (a0Q a3M (a0Q a7D (pv 0) (pv 0)) a0E)) (pv 0)) (a0A (a0Q a8I a0E a0E) a0B))) (a0A (pv 0) a0B))))) a0B)))
   (a0D (a0N (a2V ["_law_pair"] [none]  (by kernel_rfl) rfl (a0O (K:=K) rfl (pv 4)) (λ _ _ _ _ _=>(a0H (i:=0) (show (["_law_pair"]:List Str).Nodup by decide +kernel) rfl (Or.inl rfl))) (λ _ _ _ _ _=>a1H) (λ _ _ _ _ _=>(a0V (a0Z (K:=K) rfl) (pv 0) a0E (λ _ _=>rfl)))))))),?_⟩
 refine ⟨_,rfl,_,rfl,a,ns,k,rfl,hS,h63,k0,by omega,_,_,rfl,rfl,(show (0:Int) < _ by decide),?_⟩
 dsimp only
 have f0:=Int.emod_nonneg (a4H ns k) (show (1000003:Int)≠0 by decide)
 have f1:=Int.emod_lt_of_pos (a4H ns k) (show (0:Int) < 1000003 by decide)
 generalize a4H ns k % 1000003=f at f0 f1 ⊢
 refine ⟨_,rfl,_,rfl,by omega,by omega,?_⟩
 rw [Int.toNat_natCast]
 refine b0X (λ i ys H'=>∃ (ps:List Addr) (zs:List Int),ys=ps.map V.ref/\ps.length=i/\zs.length=i/\Same H H'/\∀ k p,ps[k]?=some p->H' p=some (.tup [.int (zs.getD k 0),.int (k:Int)])) ⟨[],[],rfl,rfl,rfl,Same.refl _,λ k p h=>by cases h⟩ (λ i ys H' hi ⟨ps,zs,e,l,_⟩=>?_) (λ i ys H1 hi ⟨ps,zs,e,l,lz,s1,hp⟩=>?_) ?_
 ·rw [e,List.length_map,l]; exact Nat.le_of_lt (a1E (by omega))
 ·refine ⟨_,rfl,_,rfl,_,rfl,_,_,rfl,rfl,.inl ⟨by omega,by omega⟩,_,_,rfl,rfl,_,_,rfl,rfl,.inl ⟨by omega,by omega⟩,_,rfl,_,_,rfl,rfl,_,_,rfl,rfl,⟨by decide,by decide,by decide⟩,_,_,rfl,(by decide),_,rfl,(by show 2<=1000; decide),λ p2 H2 n2=>?_⟩
  ·obtain ⟨z,nz⟩:∃ z,New H1 p2 (.tup [.int z,.int (0+(i:Int))]) H2:=⟨_,n2⟩
   refine ⟨ps++[p2],zs++[z],by rw [e,List.map_append]; rfl,by rw [List.length_append,l]; rfl,by rw [List.length_append,lz]; rfl,s1.trans n2.same,λ k p hk=>?_⟩
   by_cases c:k < ps.length
   ·rw [List.getElem?_append_left c] at hk
    have:=n2.same _ _ (hp k p hk)
    rw [τα,List.getElem?_append_left (by omega),<- τα]
    exact this
   ·have k1:=(List.getElem?_eq_some_iff.mp hk).1
    rw [List.length_append] at k1
    have ek:k=i:=by
     have:k < ps.length+1:=k1
     omega
    subst ek
    rw [List.getElem?_append_right (by omega),l,Nat.sub_self] at hk
    cases hk
    rw [τα,List.getElem?_append_right (by omega),lz,Nat.sub_self]
    have:=nz.here
    rw [show (0+(k:Int))=(k:Int) by omega] at this
    exact this
 rintro ys H1 ⟨ps,zs,rfl,l,lz,s1,hp⟩ pk hpk
 have n2:=New.mk0 (H:=H1) (p:=pk) (o:=.lst (ps.map V.ref)) hpk
 generalize upd H1 pk (.lst (ps.map V.ref))=H2 at n2 ⊢
 have s2:Same H H2:=s1.trans n2.same
 refine ⟨pk,ps.map V.ref,(List.range n).map λ k=>[zs.getD k 0,(k:Int)],rfl,SqL.of n2.here,?_,λ ns h=>?_,by rw [List.length_map]; omega,λ qq p3 H3 pq _ n3=>?_⟩
 ·have all:∀ (m:Nat),m<=n->Paired (TupV K H2) ((ps.take m).map V.ref) ((List.range m).map λ k=>[zs.getD k 0,(k:Int)]):=λ m=>by
   induction m with
   | zero=>intro _; exact .nil
   | succ m ih =>
    intro hm
    have hml:m < ps.length:=by omega
    rw [List.take_succ_eq_append_getElem hml,List.map_append,List.range_succ,List.map_append]
    exact a1T (ih (by omega)) ⟨ps[m],rfl,SqT.of (n2.same _ _ (hp m _ (List.getElem?_eq_getElem hml)))⟩
  have:=all n (Nat.le_refl _)
  rw [List.take_of_length_le (by omega)] at this
  exact this
 ·obtain ⟨k,_,rfl⟩:=List.mem_map.mp h
  exact λ z=>by cases z
 have pq':qq.Perm (List.range n):=by rw [List.length_map,l] at pq; exact pq
 have lq:qq.length=n:=by rw [pq'.length_eq,List.length_range]
 refine ⟨_,rfl,p3,rfl,⟨_,SqL.of n3.here⟩,?_⟩
 refine a4G (K:=K) (a:=p3) (xs:=qq.map λ i=>(ps.map V.ref).getD i V.non) (λ i ys H'=>ys=natV (qq.take i)/\Same H3 H') ⟨rfl,Same.refl _⟩ (λ i ys H' hi ⟨e,s⟩=>⟨SqL.of (s _ _ n3.here),?_⟩) (λ i x ys H4 hx ⟨e,s4⟩=>?_) (λ ys H4 ⟨e,s4⟩ p5 hp5=>?_)
 ·rw [e,List.length_map,List.length_take]
  exact Nat.le_of_lt (a1E (by omega))
 ·rw [List.getElem?_map] at hx
  obtain ⟨k,hk,rfl⟩:=Option.map_eq_some_iff.mp hx
  have kn:k < n:=List.mem_range.mp (pq'.mem_iff.mp (List.mem_of_getElem? hk))
  have kl:k < ps.length:=by omega
  have ex:(ps.map V.ref).getD k V.non=V.ref ps[k]:=by rw [τα,List.getElem?_map,List.getElem?_eq_getElem kl]; rfl
  rw [ex]
  have ht:=(n2.same.trans (n3.same.trans s4)) _ _ (hp k _ (List.getElem?_eq_getElem kl))
  refine ⟨_,rfl,ps[k],_,_,_,rfl,rfl,SqT.of ht,rfl,?_,s4⟩
  obtain ⟨hil,hik⟩:=List.getElem?_eq_some_iff.mp hk
  rw [e,List.take_succ_eq_append_getElem hil,hik]
  unfold natV
  rw [List.map_append]
  rfl
 subst e
 rw [List.length_map,List.take_length]
 have n5:New H4 p5 (.lst (natV qq)) (upd H4 p5 (.lst (natV qq))):=New.mk0 hp5
 exact q p5 qq _ (s2.trans (n3.same.trans (s4.trans n5.same))) n5.here pq'
end
end K
namespace K
open PySem L2 Lw Bg
theorem c3P {α β:Type} {l:List α} {f:α->β} (nd:l.Nodup) (inj:∀ x y,x∈l->y∈l->f x=f y->x=y):(l.map f).Nodup:=by
 induction l with
 | nil=>exact .nil
 | cons a r ih =>
  obtain ⟨n1,n2⟩:=List.nodup_cons.mp nd
  refine List.nodup_cons.mpr ⟨λ z=>?_,ih n2 λ x y hx hy=>inj x y (List.mem_cons_of_mem _ hx) (List.mem_cons_of_mem _ hy)⟩
  obtain ⟨b,hb,e⟩:=List.mem_map.mp z
  have:=inj b a (List.mem_cons_of_mem _ hb) List.mem_cons_self e
  exact n1 (this ▸ hb)
theorem pigN {α:Type} [DecidableEq α] {l U:List α} (nd:l.Nodup) (h:∀ x∈l,x∈U):l.length<=U.length:=by
 induction l generalizing U with
 | nil=>exact Nat.zero_le _
 | cons a r ih =>
  obtain ⟨n1,n2⟩:=List.nodup_cons.mp nd
  have am:=h a List.mem_cons_self
  have:=ih (U:=U.erase a) n2 λ x hx=>(List.mem_erase_of_ne (λ e=>n1 (by rw [<- e]; exact hx))).mpr (h x (List.mem_cons_of_mem _ hx))
  rw [List.length_erase_of_mem am] at this
  have:=List.length_pos_of_mem am
  rw [List.length_cons]; omega
theorem b7P {n:Nat} {ts:List ζζ}:∀ (k:Nat) (S:List Nat),S.length=k->∀ x y,runR n ts S x y=true->runR n ts S y x=true
 | 0,S,hl,x,y,h=>by
  rw [List.eq_nil_of_length_eq_zero hl] at h ⊢
  have h':a2W n ts x y=true:=h
  show a2W n ts y x=true
  unfold a2W at h' ⊢
  rw [Bool.and_eq_true,decide_eq_true_iff,Bool.or_eq_true,Bool.or_eq_true,decide_eq_true_iff,decide_eq_true_iff,decide_eq_true_iff] at h' ⊢
  obtain ⟨⟨a,b⟩,h⟩:=h'
  refine ⟨⟨b,a⟩,?_⟩
  rcases h with (h | h) | h
  ·exact .inl (.inl h.symm)
  ·exact .inr h
  ·exact .inl (.inr h)
 | k+1,S,hl,x,y,h=>by
  have hne:S≠[]:=λ z=>by rw [z] at hl; cases hl
  obtain ⟨S',w,rfl⟩:∃ S' w,S=S'++[w]:=⟨S.dropLast,S.getLast hne,(List.dropLast_concat_getLast hne).symm⟩
  have ih:=b7P (n:=n) (ts:=ts) k S' (by rw [List.length_append] at hl; exact Nat.succ.inj hl)
  rw [a3J] at h ⊢
  generalize runR n ts S'=R at ih h ⊢
  have sy:∀ a b,R a b=R b a:=λ a b=>by
   rw [Bool.eq_iff_iff]
   exact ⟨ih a b,ih b a⟩
  unfold a7V at h ⊢
  by_cases xw:x=w
  ·rw [if_pos xw] at h; cases h
  by_cases yw:y=w
  ·rw [if_neg xw,yw] at h
   by_cases c:R x w=true
   ·rw [if_pos c] at h; simp at h
   ·rw [if_neg c] at h; exact absurd h c
  rw [if_neg xw] at h
  rw [if_neg yw]
  rw [sy y w,sy y x,sy w x]
  by_cases c:R x w=true
  ·rw [if_pos c,Bool.and_eq_true,Bool.or_eq_true] at h
   by_cases d:R w y=true
   ·rw [if_pos d,Bool.and_eq_true,Bool.or_eq_true]
    exact ⟨.inr c,by simpa using xw⟩
   ·rw [if_neg d]
    rcases h.1 with h | h
    ·exact h
    ·exact absurd h d
  ·rw [if_neg c] at h
   by_cases d:R w y=true
   ·rw [if_pos d,Bool.and_eq_true,Bool.or_eq_true]
    exact ⟨.inl h,by simpa using xw⟩
   ·rw [if_neg d]; exact h
theorem d3E {n:Nat} {b:List Int} (n10:n<=10) (nd:b.Nodup) (bd:∀ v∈b,0<=v/\v < (n:Int)):b.length<=10:=by
 have:=pigN (U:=(List.range 10).map λ i=>((i:Nat):Int)) nd λ v hv=>by
  have:=bd v hv
  exact List.mem_map.mpr ⟨v.toNat,List.mem_range.mpr (by omega),by omega⟩
 rwa [List.length_map,List.length_range] at this
theorem neI (y o:Int):(!decide (V.int y=V.int o))=decide (y≠o):=by
 by_cases c:y=o
 ·rw [c]; simp
 ·rw [decide_eq_false (λ z=>c (by injection z)),decide_eq_true c]; rfl
theorem c6O {ta tb:TT} {σ:St} {H:Hp} {b1 b2:Bool} {Q:Bool->Hp->Prop} (h1:∀ Q:Bool->Hp->Prop,Q b1 H->ta σ H Q) (h2:∀ Q:Bool->Hp->Prop,Q b2 H->tb σ H Q) (h:Q (b1 && b2) H):tAnd ta tb σ H Q:=by
 refine h1 _ ?_
 cases b1 with
 | true=>exact iteT (h2 _ h)
 | false=>exact iteF h
structure NrL (H:Hp) (pn:Addr) (n:Nat) (rs:List Addr) (N:Nat->List Int):Prop where
 lst:H pn=some (.lst (rs.map V.ref))
 len:rs.length=n
 at_:∀ i,i < n->H (rs.getD i 0)=some (.lst ((N i).map V.int))
theorem NrL.ne {H:Hp} {pn:Addr} {n:Nat} {rs:List Addr} {N:Nat->List Int} (h:NrL H pn n rs N) {i:Nat} (hi:i < n):rs.getD i 0≠pn:=λ e=>by
 have h1:=h.at_ i hi
 rw [e,h.lst] at h1
 injection h1 with h1
 injection h1 with h1
 have l:=h.len
 cases rs with
 | nil=>rw [List.length_nil] at l; omega
 | cons a r =>
  cases hN:N i with
  | nil=>rw [hN] at h1; cases h1
  | cons b s =>
   rw [hN,List.map_cons,List.map_cons] at h1
   injection h1 with h1 _
   cases h1
theorem NrL.same {H H':Hp} {pn:Addr} {n:Nat} {rs:List Addr} {N:Nat->List Int} (h:NrL H pn n rs N) (s:Same H H'):NrL H' pn n rs N:=⟨s _ _ h.lst,h.len,λ i hi=>s _ _ (h.at_ i hi)⟩
theorem NrL.ref {H:Hp} {pn:Addr} {n:Nat} {rs:List Addr} {N:Nat->List Int} (h:NrL H pn n rs N) {i:Nat} (hi:i < n):atI (rs.map V.ref) (i:Int)=some (V.ref (rs.getD i 0)):=by
 have l:=h.len
 refine a1L ?_
 rw [List.getElem?_map,τα,List.getElem?_eq_getElem (by omega)]
 rfl
def c3Q (n:Nat) (V:Int->Prop) (R:Int->Int->Prop) (N:Nat->List Int):Prop:=∀ i:Nat,i < n->V (i:Int)->(N i).Nodup/\∀ u,u∈N i↔V u/\u≠(i:Int)/\R (i:Int) u
theorem NrL.neI {H:Hp} {pn p:Addr} {n:Nat} {rs:List Addr} {N:Nat->List Int} (h:NrL H pn n rs N) {l:List Int} (n0:0 < n) (hp:H p=some (.lst (l.map V.int))):p≠pn:=λ e=>by
 rw [e,h.lst] at hp
 injection hp with h1
 injection h1 with h1
 have ll:=h.len
 cases rs with
 | nil=>rw [List.length_nil] at ll; omega
 | cons a r =>
  cases l with
  | nil=>cases h1
  | cons b s =>
   rw [List.map_cons,List.map_cons] at h1
   injection h1 with h1 _
   cases h1
abbrev a5U:Stmt:=top 55
theorem sc__law_bags:FnScope ["_law_n", "_law_ties_here", "_law_turned_here", "_law_fewest", "_law_near", "_law_v", "_law_left", "_law_bags_here", "_law_least", "_law_u"] ["_law_n", "_law_ties_here", "_law_turned_here", "_law_fewest"] (a0F a5U):=⟨rfl,rfl,rfl,by decide +kernel,rfl,by decide +kernel,by decide +kernel⟩
def b9C (ts:List ζζ) (v:Int):List Int:=(ts.filterMap λ t=>if t.1=v then some t.2 else none)++ts.filterMap λ t=>if t.2=v then some t.1 else none
theorem c3R {ts:List ζζ} {v u:Int}:u∈b9C ts v↔(v,u)∈ts\/(u,v)∈ts:=by
 unfold b9C
 rw [List.mem_append,List.mem_filterMap,List.mem_filterMap]
 constructor
 ·rintro (⟨t,ht,e⟩ | ⟨t,ht,e⟩)
  ·split at e
   ·rename_i c
    injection e with e
    subst e; subst c
    exact .inl ht
   ·cases e
  ·split at e
   ·rename_i c
    injection e with e
    subst e; subst c
    exact .inr ht
   ·cases e
 ·rintro (h | h)
  ·exact .inl ⟨_,h,by simp⟩
  ·exact .inr ⟨_,h,by simp⟩
theorem b5V {ts:List ζζ} {v:Int} (nd:ts.Nodup) (ok:∀ t∈ts,t.1 < t.2):(b9C ts v).Nodup:=by
 have h1:∀ {l:List ζζ},l.Nodup->(l.filterMap λ t=>if t.1=v then some t.2 else none).Nodup:=λ {l} nd=>by
  induction l with
  | nil=>exact .nil
  | cons t r ih =>
   obtain ⟨n1,n2⟩:=List.nodup_cons.mp nd
   rw [List.filterMap_cons]
   by_cases c:t.1=v
   ·simp only [if_pos c]
    refine List.nodup_cons.mpr ⟨λ z=>?_,ih n2⟩
    obtain ⟨u,hu,e⟩:=List.mem_filterMap.mp z
    split at e
    ·rename_i d
     injection e with e
     exact n1 (by rw [show t=u from Prod.ext (c.trans d.symm) e.symm]; exact hu)
    ·cases e
   ·simp only [if_neg c]
    exact ih n2
 have h2:∀ {l:List ζζ},l.Nodup->(l.filterMap λ t=>if t.2=v then some t.1 else none).Nodup:=λ {l} nd=>by
  induction l with
  | nil=>exact .nil
  | cons t r ih =>
   obtain ⟨n1,n2⟩:=List.nodup_cons.mp nd
   rw [List.filterMap_cons]
   by_cases c:t.2=v
   ·simp only [if_pos c]
    refine List.nodup_cons.mpr ⟨λ z=>?_,ih n2⟩
    obtain ⟨u,hu,e⟩:=List.mem_filterMap.mp z
    split at e
    ·rename_i d
     injection e with e
     exact n1 (by rw [show t=u from Prod.ext e.symm (c.trans d.symm)]; exact hu)
    ·cases e
   ·simp only [if_neg c]
    exact ih n2
 refine List.nodup_append.mpr ⟨h1 nd,h2 nd,λ a ha b hb z=>?_⟩
 obtain ⟨t,ht,e⟩:=List.mem_filterMap.mp ha
 obtain ⟨u,hu,e'⟩:=List.mem_filterMap.mp hb
 split at e
 ·split at e'
  ·rename_i c d
   injection e with e
   injection e' with e'
   have:=ok t ht
   have:=ok u hu
   omega
  ·cases e'
 ·cases e
def RZ (n:Nat) (ts:List ζζ) (os:List Nat):Int->Int->Prop:=λ x y=>∃ a b:Nat,x=(a:Int)/\y=(b:Int)/\runR n ts os a b=true
def LZ (n:Nat) (os:List Nat):Int->Prop:=λ x=>∃ k:Nat,x=(k:Int)/\k < n/\k ∉ os
theorem rz_iff {n:Nat} {ts:List ζζ} {os:List Nat} {a b:Nat}:RZ n ts os (a:Int) (b:Int)↔runR n ts os a b=true:=by
 constructor
 ·rintro ⟨x,y,e1,e2,h⟩
  have:a=x:=by omega
  have:b=y:=by omega
  subst a; subst b; exact h
 ·exact λ h=>⟨a,b,rfl,rfl,h⟩
theorem lz_iff {n:Nat} {os:List Nat} {a:Nat}:LZ n os (a:Int)↔a < n/\a ∉ os:=by
 constructor
 ·rintro ⟨k,e,h⟩
  have:a=k:=by omega
  subst a; exact h
 ·exact λ h=>⟨a,rfl,h⟩
theorem d3F {n:Nat} {ts:List ζζ} (ok:∀ t∈ts,0<=t.1/\t.1 < t.2/\t.2 < (n:Int)) (nd:ts.Nodup):c3Q n (LZ n []) (RZ n ts []) (λ i=>b9C ts (i:Int)):=λ i hi _=>by
 refine ⟨b5V nd λ t ht=>(ok t ht).2.1,λ u=>?_⟩
 rw [c3R]
 constructor
 ·intro h
  have ub:∃ k:Nat,u=(k:Int)/\k < n/\k≠i:=by
   rcases h with h | h
   ·have:=ok _ h
    dsimp only at this
    exact ⟨u.toNat,by omega,by omega,by omega⟩
   ·have:=ok _ h
    dsimp only at this
    exact ⟨u.toNat,by omega,by omega,by omega⟩
  obtain ⟨k,rfl,kn,ki⟩:=ub
  refine ⟨lz_iff.mpr ⟨kn,List.not_mem_nil⟩,by omega,rz_iff.mpr ?_⟩
  show a2W n ts i k=true
  unfold a2W
  rw [Bool.and_eq_true,decide_eq_true_iff,Bool.or_eq_true,Bool.or_eq_true,decide_eq_true_iff,decide_eq_true_iff,decide_eq_true_iff]
  exact ⟨⟨hi,kn⟩,h.elim (λ z=>.inl (.inr z)) .inr⟩
 ·rintro ⟨⟨k,rfl,kn,_⟩,ki,h⟩
  have h':a2W n ts i k=true:=rz_iff.mp h
  unfold a2W at h'
  rw [Bool.and_eq_true,decide_eq_true_iff,Bool.or_eq_true,Bool.or_eq_true,decide_eq_true_iff,decide_eq_true_iff,decide_eq_true_iff] at h'
  rcases h'.2 with (z | z) | z
  ·exact absurd (by rw [z]) ki
  ·exact .inl z
  ·exact .inr z
def d0H (N:Nat->List Int) (v i:Nat):List Int:=((N i).filter λ w=>decide (w≠(v:Int)))++(N v).filter λ w=>decide (w≠(i:Int)) && !decide (w∈N i)
theorem c3S {n:Nat} {ts:List ζζ} {os:List Nat} {N:Nat->List Int} {v:Nat} (vn:v < n) (vo:v ∉ os) (h:c3Q n (LZ n os) (RZ n ts os) N):c3Q n (LZ n (os++[v])) (RZ n ts (os++[v])) (λ i=>if (i:Int)∈N v then d0H N v i else N i):=by
 intro i hi hL
 obtain ⟨_,io⟩:=lz_iff.mp hL
 have iv:i≠v:=λ z=>io (List.mem_append_right _ (by rw [z]; exact List.mem_cons_self))
 have io':i ∉ os:=λ z=>io (List.mem_append_left _ z)
 obtain ⟨nd,mem⟩:=h i hi (lz_iff.mpr ⟨hi,io'⟩)
 obtain ⟨ndv,memv⟩:=h v vn (lz_iff.mpr ⟨vn,vo⟩)
 have sym:∀ a b,runR n ts os a b=true->runR n ts os b a=true:=b7P os.length os rfl
 have lz:∀ {k:Nat},LZ n (os++[v]) (k:Int)↔LZ n os (k:Int)/\k≠v:=λ {k}=>by
  rw [lz_iff,lz_iff,List.mem_append,List.mem_singleton,not_or,and_assoc]
 have rn:∀ k:Nat,k≠v->(runR n ts (os++[v]) i k=true↔runR n ts os i k=true\/(runR n ts os i v=true/\runR n ts os v k=true)):=λ k kv=>by
  rw [a3J]
  unfold a7V
  rw [if_neg iv]
  by_cases c:runR n ts os i v=true
  ·rw [if_pos c,Bool.and_eq_true,Bool.or_eq_true]
   constructor
   ·rintro ⟨z | z,_⟩
    ·exact .inl z
    ·exact .inr ⟨c,z⟩
   ·rintro (z | ⟨_,z⟩)
    ·exact ⟨.inl z,by simpa using kv⟩
    ·exact ⟨.inr z,by simpa using kv⟩
  ·rw [if_neg c]
   exact ⟨.inl,λ z=>z.resolve_right λ y=>c y.1⟩
 dsimp only
 by_cases c:(i:Int)∈N v
 ·rw [if_pos c]
  have Riv:runR n ts os i v=true:=sym _ _ (rz_iff.mp ((memv _).mp c).2.2)
  unfold d0H
  refine ⟨List.nodup_append.mpr ⟨nd.sublist List.filter_sublist,ndv.sublist List.filter_sublist,λ a ha b hb z=>?_⟩,λ u=>?_⟩
  ·have h1:=(List.mem_filter.mp ha).1
   have h2:=(List.mem_filter.mp hb).2
   rw [<- z] at h2
   simp at h2
   exact h2.2 h1
  ·rw [List.mem_append,List.mem_filter,List.mem_filter,decide_eq_true_iff,Bool.and_eq_true,decide_eq_true_iff]
   constructor
   ·rintro (⟨h1,h2⟩ | ⟨h1,h2,h3⟩)
    ·obtain ⟨⟨k,rfl,kn,ko⟩,e1,e2⟩:=(mem u).mp h1
     exact ⟨lz.mpr ⟨lz_iff.mpr ⟨kn,ko⟩,by omega⟩,e1,rz_iff.mpr ((rn k (by omega)).mpr (.inl (rz_iff.mp e2)))⟩
    ·obtain ⟨⟨k,rfl,kn,ko⟩,e1,e2⟩:=(memv u).mp h1
     exact ⟨lz.mpr ⟨lz_iff.mpr ⟨kn,ko⟩,by omega⟩,h2,rz_iff.mpr ((rn k (by omega)).mpr (.inr ⟨Riv,rz_iff.mp e2⟩))⟩
   ·rintro ⟨⟨k,rfl,kn,ko⟩,e1,e2⟩
    obtain ⟨l1,kv⟩:=lz.mp (lz_iff.mpr ⟨kn,ko⟩)
    by_cases d:(k:Int)∈N i
    ·exact .inl ⟨d,by omega⟩
    ·rcases (rn k kv).mp (rz_iff.mp e2) with z | ⟨_,z⟩
     ·exact absurd ((mem _).mpr ⟨l1,e1,rz_iff.mpr z⟩) d
     ·exact .inr ⟨(memv _).mpr ⟨l1,by omega,rz_iff.mpr z⟩,e1,by simpa using d⟩
 ·rw [if_neg c]
  have nR:¬ runR n ts os i v=true:=λ z=>c ((memv _).mpr ⟨lz_iff.mpr ⟨hi,io'⟩,by omega,rz_iff.mpr (sym _ _ z)⟩)
  refine ⟨nd,λ u=>?_⟩
  rw [mem]
  constructor
  ·rintro ⟨⟨k,rfl,kn,ko⟩,e1,e2⟩
   have kv:k≠v:=λ z=>nR (by rw [<- z]; exact rz_iff.mp e2)
   exact ⟨lz.mpr ⟨lz_iff.mpr ⟨kn,ko⟩,kv⟩,e1,rz_iff.mpr ((rn k kv).mpr (.inl (rz_iff.mp e2)))⟩
  ·rintro ⟨⟨k,rfl,kn,ko⟩,e1,e2⟩
   obtain ⟨l1,kv⟩:=lz.mp (lz_iff.mpr ⟨kn,ko⟩)
   exact ⟨l1,e1,rz_iff.mpr (((rn k kv).mp (rz_iff.mp e2)).resolve_right λ z=>nR z.1)⟩
def BagG (n:Nat) (ts:List ζζ) (bs:List (List Int)) (S v:Nat):Prop:=∃ l∈bs,l.Nodup/\∀ u:Int,u∈l↔∃ k:Nat,u=(k:Int)/\(bagN n ts S v).testBit k=true
theorem FreeP.good {n:Nat} {g g':Nat->Nat->Prop} {S:Nat} {os:List Nat} (h:FreeP n g S os) (m:∀ S v,g S v->g' S v):FreeP n g' S os:=by
 induction h with
 | nil=>exact .nil
 | snoc _ a b c ih=>exact .snoc ih a b (m _ _ c)
theorem FreeP.ndo {n:Nat} {g:Nat->Nat->Prop} {S:Nat} {os:List Nat} (h:FreeP n g S os):os.Nodup:=by
 induction h with
 | nil=>exact .nil
 | @snoc S v os f vS vn _ ih =>
  refine List.nodup_append.mpr ⟨ih,by simp,λ a ha b hb z=>?_⟩
  rw [List.mem_singleton.mp hb] at z
  have:=(f.mem a).mp ha
  rw [z,vS] at this
  cases this
theorem FreeP.lto {n:Nat} {g:Nat->Nat->Prop} {S:Nat} {os:List Nat} (h:FreeP n g S os):∀ v∈os,v < n:=by
 induction h with
 | nil=>exact λ v hv=>absurd hv List.not_mem_nil
 | @snoc S v os f vS vn _ ih =>
  intro x hx
  rcases List.mem_append.mp hx with hx | hx
  ·exact ih x hx
  ·rw [List.mem_singleton.mp hx]; exact vn
theorem c6P {n:Nat} {ts:List ζζ} {g:Nat->Nat->Prop} {S v:Nat} {os:List Nat} {N:Nat->List Int} (n10:n<=10) (f:FreeP n g S os) (vn:v < n) (vo:v ∉ os) (h:c3Q n (LZ n os) (RZ n ts os) N) (u:Int):u∈(v:Int)::N v↔∃ k:Nat,u=(k:Int)/\(bagN n ts S v).testBit k=true:=by
 have vS:S.testBit v=false:=by
  cases c:S.testBit v with
  | false=>rfl
  | true=>exact absurd ((f.mem v).mpr c) vo
 have R:=a6F (ts:=ts) f.ndo f.lto
 obtain ⟨pn,pl,pm⟩:=a2Q n10 f.lt
 have mm:∀ a,a∈os↔a∈a0M S:=λ a=>(f.mem a).trans (pm a).symm
 have bits:∀ k:Nat,(bagN n ts S v).testBit k=true↔k < n/\S.testBit k=false/\(v=k\/PathT ts (a0M S) v k):=λ k=>a5F n10 f.lt vn vS
 rw [List.mem_cons]
 constructor
 ·rintro (e | e)
  ·exact ⟨v,e,(bits v).mpr ⟨vn,vS,.inl rfl⟩⟩
  ·obtain ⟨⟨k,rfl,kn,ko⟩,e1,e2⟩:=((h v vn (lz_iff.mpr ⟨vn,vo⟩)).2 u).mp e
   refine ⟨k,rfl,(bits k).mpr ⟨kn,?_,?_⟩⟩
   ·cases c:S.testBit k with
    | false=>rfl
    | true=>exact absurd ((f.mem k).mpr c) ko
   ·exact ((R.path v k vn kn vo ko).mp (rz_iff.mp e2)).imp id λ z=>z.mono λ a ha=>(mm a).mp ha
 ·rintro ⟨k,rfl,b⟩
  obtain ⟨kn,kS,z⟩:=(bits k).mp b
  by_cases c:k=v
  ·exact .inl (by rw [c])
  ·have ko:k ∉ os:=λ y=>by have:=(f.mem k).mp y; rw [kS] at this; cases this
   refine .inr (((h v vn (lz_iff.mpr ⟨vn,vo⟩)).2 _).mpr ⟨lz_iff.mpr ⟨kn,ko⟩,by omega,rz_iff.mpr ?_⟩)
   exact (R.path v k vn kn vo ko).mpr (z.imp id λ y=>y.mono λ a ha=>(mm a).mpr ha)
end K
namespace K
open PySem L2 Lw Bg
def c6Q (K:Φρ):Sp:=λ vs H Q _=>∃ (n:Nat) (r o:Addr) (fe:Bool) (xs:List V) (ts:List ζζ) (os:List Nat),vs=[.int n,.ref r,.ref o,.bl fe]/\SqL K H r xs/\Paired (TieV K H) xs ts/\(∀ t∈ts,0<=t.1/\t.1 < t.2/\t.2 < (n:Int))/\ts.Nodup/\ts.length<=100/\n<=10/\SqL K H o (natV os)/\os.Perm (List.range n) /\
 ∀ pb qs bs es H',Same H H'->H' pb=some (.lst (qs.map V.ref))->Paired (λ q l=>H' q=some (.lst (l.map V.int))) qs bs->(∀ l∈bs,l.length<=11)->bs.length<=n->FreeP n (BagG n ts bs) (2 ^ n - 1) es->Q (.ref pb) H'
theorem b0R {K:Φρ} {r:Addr} {xs:List V} {ts:List ζζ} {ix:List (Option Nat)} {g:TG} {tt:TT} {te:TE} {σ:St} {H:Hp} {Q:VK} (f:Int × Int->Option Int) (hx:SqL K H r xs) (p:Paired (TieV K H) xs ts) (l100:ts.length<=100)
  (hs:∀ (pt:Addr) (t:Int × Int) (N:V->Hp->Prop) (R:Hp->Prop),SqT K H pt [.int t.1,.int t.2]->(match f t with | some z=>N (.int z) H | none=>R H)->g (.ref pt) (capt ix σ) H λ σ2 H2=>tt σ2 H2 λ b H3=>if b=true then te σ2 H3 λ v H4=>N v H4 else R H3)
  (hd:∀ p H',New H p (.lst ((ts.filterMap f).map V.int)) H'->Q (.ref p) H'):a5I ix g tt te σ H Q (Itl K r):=by
 have lx:=Paired.length p
 refine a4G (K:=K) (a:=r) (xs:=xs) (λ i ys H'=>H'=H/\ys=((ts.take i).filterMap f).map V.int) ⟨rfl,rfl⟩ (λ i ys H' hi ⟨e,l⟩=>⟨e ▸ hx,?_⟩) (λ i x ys H3 hx3 ⟨e3,e4⟩=>?_) (λ ys H3 ⟨e3,e4⟩ p4 hp4=>?_)
 ·rw [l,List.length_map]
  have:=List.length_filterMap_le f (ts.take i)
  rw [List.length_take] at this
  exact Nat.le_of_lt (a1E (by omega))
 ·subst e3
  obtain ⟨t,ht,⟨pt,rfl,hT⟩⟩:=a1A p hx3
  refine hs pt t (λ v H4=>H4=H3/\ys++[v]=((ts.take (i+1)).filterMap f).map V.int) (λ H4=>H4=H3/\ys=((ts.take (i+1)).filterMap f).map V.int) hT ?_
  have et:(ts.take (i+1)).filterMap f=(ts.take i).filterMap f++(match f t with | some z=>[z] | none=>[]):=by
   rw [List.take_succ,ht,List.filterMap_append]
   congr 1
   show List.filterMap f [t]=_
   rw [List.filterMap_cons]
   cases f t <;> rfl
  rw [et]
  cases f t with
  | some z=>exact ⟨rfl,by rw [e4,List.map_append]; rfl⟩
  | none=>exact ⟨rfl,by rw [e4,List.append_nil]⟩
 ·subst e3
  rw [e4,lx,List.take_length]
  exact hd _ _ (New.mk0 hp4)
def c7L (n:Nat) (ts:List ζζ) (fe:Bool) (r o pn pl pb:Addr) (H:Hp) (m:Nat) (σ:St) (H':Hp):Prop:=∃ (L:List Int) (rs:List Addr) (N:Nat->List Int) (S:Nat) (es:List Nat) (qs:List Addr) (bs:List (List Int)) (v5 v8 v9:Option V),σ=[some (.int n),some (.ref r),some (.ref o),some (.bl fe),some (.ref pn),v5,some (.ref pl),some (.ref pb),v8,v9]/\Same H H'/\H' pl=some (.lst (L.map V.int))/\NrL H' pn n rs N/\(∀ i,i < n->rs.getD i 0≠pl/\rs.getD i 0≠pb)/\L.Nodup/\(∀ x,x∈L↔LZ n es x)/\c3Q n (LZ n es) (RZ n ts es) N/\FreeP n (BagG n ts bs) S es/\H' pb=some (.lst (qs.map V.ref))/\Paired (λ q l=>H' q=some (.lst (l.map V.int))/\q≠pb/\q≠pl) qs bs/\(∀ l∈bs,l.length<=11)/\bs.length=es.length/\m=L.length
theorem b9D (F:List Int) (k:Nat):(F.map V.int).eraseIdx k=(F.eraseIdx k).map V.int:=by
 induction F generalizing k with
 | nil=>rfl
 | cons x r ih =>
  cases k with
  | zero=>rfl
  | succ k =>
   show V.int x::(r.map V.int).eraseIdx k=V.int x::(r.eraseIdx k).map V.int
   rw [ih]
theorem d0I {K:Φρ} {H:Hp} {l:Addr} {T:List Int} {v:Int} {Q:VK} (hl:H l=some (.lst (T.map V.int))) (c:v∈T) (q:∀ H',Chg H l (.lst ((T.erase v).map V.int)) H'->Q .non H'):b5A K (.ref l) [.int v] H Q:=by
 have jl:=List.idxOf_lt_length_of_mem c
 have e1:=List.erase_eq_eraseIdx_of_idxOf (l:=T) (a:=v) (i:=T.idxOf v) rfl
 have eg:∀ m,m < T.length->(T.map PyData.int).getD m .none = .int (T.getD m 0):=λ m hm=>by
  rw [τα,List.getElem?_map,List.getElem?_eq_getElem hm,τα,List.getElem?_eq_getElem hm]; rfl
 refine ⟨l,_,_,.int v,T.map PyData.int,T.idxOf v,rfl,rfl,hl,.int v,IsDs.ints T,rfl,λ e he=>?_,by rw [List.length_map]; exact jl,?_,λ m hm=>?_,λ H' ch=>q H' ?_⟩
 ·obtain ⟨z,_,rfl⟩:=List.mem_map.mp he
  rfl
 ·rw [eg _ jl,τα,List.getElem?_eq_getElem jl,Option.getD_some,List.getElem_idxOf jl,PyData.eqv]
  exact beq_self_eq_true v
 ·have ml:m < T.length:=by omega
  have:=List.not_of_lt_findIdx (p:=λ x=>x == v) (xs:=T) (i:=m) hm
  rw [eg _ ml,τα,List.getElem?_eq_getElem ml,Option.getD_some,PyData.eqv]
  simpa using this
 ·rw [b9D,<- e1] at ch
  exact ch
section
variable {P:Program} {w:World} {K:Φρ} {mg:Str->Option Value} {base:Heap}
abbrev DZ0 (K:PySem.W.Frag) (mg:Str->Option Value):=Dn K mg "_law_bags" a5U ["_law_n", "_law_ties_here", "_law_turned_here", "_law_fewest"]
set_option maxHeartbeats 16000000 in
theorem b4L (B:Bl mg) (dZ0:DZ0 K mg):FnOk P w K mg base CX0 1 dZ0.f dZ0.fd ["_law_n", "_law_ties_here", "_law_turned_here", "_law_fewest"] (c6Q K):=by
 refine dZ0.F.ok sc__law_bags (λ vs H Q E h=>?_) (λ cdv A outer s H vs Q E hr h=>?_)
 ·obtain ⟨n,r,o,fe,xs,ts,os,rfl,_⟩:=h
  rfl
 obtain ⟨n,r,o,fe,xs,ts,os,rfl,hR,pR,okt,ndt,l100,n10,hO,pmo,q⟩:=h
 have hv:(A.deeper (PyProof.Rows.envOfC "_law_bags" (a0F a5U) s.heap.objs.size dZ0.f cdv)).units+65 < cLine:=by have:=hr.un; omega
 have lo:os.length=n:=by have:=pmo.length_eq; rwa [List.length_range] at this
 refine ⟨_,(a0C (a0J (i:=4) sc__law_bags.nd rfl (Or.inr rfl) (d1R ["_law_v", "_law_ties_here"] [none,some 1]  (by kernel_rfl) rfl (a2U rfl B.range (a0A (pv 0) a0B)) (λ _ _ _ _ _=>(a0H (i:=0) (show (["_law_v", "_law_ties_here"]:List Str).Nodup by decide +kernel) rfl (Or.inr rfl))) (λ _ _ _ _ _=>a1H) (λ _ _ _ _ _=>(a0Q b0Y (a2V ["_law_a", "_law_b", "_law_v"] [none,none,some 0]  (by kernel_rfl) rfl (a0O (K:=K) rfl (pv 1)) (λ _ _ _ _ _=>(a2N (K:=K) (n:=2) rfl rfl (a0X (a0H (i:=0) (show (["_law_a", "_law_b", "_law_v"]:List Str).Nodup by decide +kernel) rfl (Or.inl rfl)) (a0X (a0H (i:=1) (show (["_law_a", "_law_b", "_law_v"]:List Str).Nodup by decide +kernel) rfl (Or.inl rfl)) a2L)))) (λ _ _ _ _ _=>(a2S (a0P a3Q (pv 0) (pv 2) (a0U _)))) (λ _ _ _ _ _=>(pv 1))) (a2V ["_law_a", "_law_b", "_law_v"] [none,none,some 0]  (by kernel_rfl) rfl (a0O (K:=K) rfl (pv 1)) (λ _ _ _ _ _=>(a2N (K:=K) (n:=2) rfl rfl (a0X (a0H (i:=0) (show (["_law_a", "_law_b", "_law_v"]:List Str).Nodup by decide +kernel) rfl (Or.inl rfl)) (a0X (a0H (i:=1) (show (["_law_a", "_law_b", "_law_v"]:List Str).Nodup by decide +kernel) rfl (Or.inl rfl)) a2L)))) (λ _ _ _ _ _=>(a2S (a0P a3Q (pv 1) (pv 2) (a0U _)))) (λ _ _ _ _ _=>(pv 0)))))))
   (a0C (a0J (i:=6) sc__law_bags.nd rfl (Or.inl rfl) (a2M (a3Y (K:=K) rfl) rfl B.list (by decide +kernel) (a0A (pv 2) a0B)))
   (a0C (a0J (i:=7) sc__law_bags.nd rfl (Or.inl rfl) (a1M a0B))
   (a0C (a5X PassesOwn.never (a0P b4R (a0I (a0T (K:=K) rfl) rfl B.len (by decide +kernel) (a0A (pv 6) a0B)) a0E (a0U _))
   (a0C (a0J (i:=5) sc__law_bags.nd rfl (Or.inr rfl) (a0V (a0L (K:=K) rfl) (pv 6) a0E (λ _ _=>rfl)))
   (a5N (a1X (a0R (K:=K) rfl (pv 3) (λ _=>rfl))
   (a0C (a0J (i:=8) sc__law_bags.nd rfl (Or.inr rfl) (a0I (c0R (K:=K) rfl rfl) rfl B.min (by decide +kernel) (a0A (a2V ["_law_u", "_law_near"] [none,some 4]  (by kernel_rfl) rfl (a0O (K:=K) rfl (pv 6)) (λ _ _ _ _ _=>(a0H (i:=0) (show (["_law_u", "_law_near"]:List Str).Nodup by decide +kernel) rfl (Or.inl rfl))) (λ _ _ _ _ _=>a1H) (λ _ _ _ _ _=>(a0I (a0T (K:=K) rfl) rfl B.len (by decide +kernel) (a0A (a0V (a0L (K:=K) rfl) (pv 1) (pv 0) (λ _ _=>rfl)) a0B)))) a0B)))
   (a0D (a0J (i:=5) sc__law_bags.nd rfl (Or.inr rfl) (a0V (a0L (K:=K) rfl) (a2V ["_law_u", "_law_least", "_law_near"] [none,some 8,some 4]  (by kernel_rfl) rfl (a0O (K:=K) rfl (pv 6)) (λ _ _ _ _ _=>(a0H (i:=0) (show (["_law_u", "_law_least", "_law_near"]:List Str).Nodup by decide +kernel) rfl (Or.inl rfl))) (λ _ _ _ _ _=>(a2S (a0P a3Q (a0I (a0T (K:=K) rfl) rfl B.len (by decide +kernel) (a0A (a0V (a0L (K:=K) rfl) (pv 2) (pv 0) (λ _ _=>rfl)) a0B)) (pv 1) (a0U _)))) (λ _ _ _ _ _=>(pv 0))) a0E (λ _ _=>rfl)))))
   a0Y)
   (a0C (a2D (a3F (K:=K) rfl PySem.F.plainAttrs_list PySem.F.slot_list_remove PySem.F.type_list_remove (b8H (K:=K) rfl hv) (pv 6) (a0A (pv 5) a0B)))
   (a0C (a2D (a3F (K:=K) rfl PySem.F.plainAttrs_list PySem.F.slot_list_append PySem.F.type_list_append a1V (pv 7) (a0A (a0Q b0Y (a1M (a0A (pv 5) a0B)) (a0V (a0L (K:=K) rfl) (pv 4) (pv 5) (λ _ _=>rfl))) a0B)))
   (a0D (a1Q PassesOwn.never rfl (a0O (K:=K) rfl (a0V (a0L (K:=K) rfl) (pv 4) (pv 5) (λ _ _=>rfl))) (a0H (i:=9) sc__law_bags.nd rfl (Or.inr rfl))
   (a0D (a8G (a0Q b0Y (a2V ["_law_w", "_law_v"] [none,some 5]  (by kernel_rfl) rfl (a0O (K:=K) rfl (a0V (a0L (K:=K) rfl) (pv 4) (pv 9) (λ _ _=>rfl))) (λ _ _ _ _ _=>(a0H (i:=0) (show (["_law_w", "_law_v"]:List Str).Nodup by decide +kernel) rfl (Or.inl rfl))) (λ _ _ _ _ _=>(a2S (a0P b7W (pv 0) (pv 1) (a0U _)))) (λ _ _ _ _ _=>(pv 0))) (a2V ["_law_w", "_law_u", "_law_near"] [none,some 9,some 4]  (by kernel_rfl) rfl (a0O (K:=K) rfl (a0V (a0L (K:=K) rfl) (pv 4) (pv 5) (λ _ _=>rfl))) (λ _ _ _ _ _=>(a0H (i:=0) (show (["_law_w", "_law_u", "_law_near"]:List Str).Nodup by decide +kernel) rfl (Or.inl rfl))) (λ _ _ _ _ _=>(a2S (PW.pt (b6A (a0P b7W (pv 0) (pv 1) (a0U _)) (b0T (a0P (a9Y (K:=K) rfl hv) (pv 0) (a0V (a0L (K:=K) rfl) (pv 2) (pv 1) (λ _ _=>rfl)) (by with_unfolding_all rfl))))))) (λ _ _ _ _ _=>(pv 0)))) (a8F (pv 4) (pv 9) a3H))))))))))
   (a0D (a0N (pv 7))))))),?_⟩
 refine ⟨_,rfl,_,rfl,by omega,by omega,?_⟩
 rw [Int.toNat_natCast]
 refine b0X (lo:=0) (n:=n) (λ i ys G=>Same H G/\∃ qs:List Addr,ys=qs.map V.ref/\qs.length=i/\∀ j,j < i->G (qs.getD j 0)=some (.lst ((b9C ts (j:Int)).map V.int))) ⟨Same.refl _,[],rfl,rfl,λ j h=>absurd h (Nat.not_lt_zero _)⟩ (λ i ys G hi ⟨s,qs,e,l,_⟩=>?_) (λ i ys G hi ⟨s,qs,e,l,at_⟩=>?_) ?_
 ·rw [e,List.length_map,l]
  exact Nat.le_of_lt (a1E (by omega))
 ·have ei:(0:Int)+(i:Int)=((i:Nat):Int):=by omega
  rw [ei]
  have pG:=λ {H':Hp} (s':Same H H')=>Paired.mapP pR λ _ _ h=>(show TieV K H' _ _ from by obtain ⟨p,e,q⟩:=h; exact ⟨p,e,s'.tupq q⟩)
  refine ⟨_,rfl,r,rfl,⟨_,s.seq hR⟩,?_⟩
  refine b0R (λ t=>if t.1=((i:Nat):Int) then some t.2 else none) (s.seq hR) (pG s) l100 (λ pt t N R hT h=>?_) (λ p3 H3 n3=>?_)
  ·refine ⟨pt,_,rfl,hT,rfl,_,_,rfl,_,_,rfl,rfl,?_⟩
   refine ⟨_,rfl,_,rfl,rfl,_,rfl,?_⟩
   by_cases c:t.1=((i:Nat):Int)
   ·rw [decide_eq_true (by rw [c])]
    try dsimp only at h
    rw [if_pos c] at h
    exact iteT ⟨_,rfl,h⟩
   ·rw [decide_eq_false (λ z=>c (by injection z))]
    try dsimp only at h
    rw [if_neg c] at h
    exact iteF h
  have s3:=s.trans n3.same
  refine ⟨_,rfl,r,rfl,⟨_,s3.seq hR⟩,?_⟩
  refine b0R (λ t=>if t.2=((i:Nat):Int) then some t.1 else none) (s3.seq hR) (pG s3) l100 (λ pt t N R hT h=>?_) (λ p4 H4 n4=>?_)
  ·refine ⟨pt,_,rfl,hT,rfl,_,_,rfl,_,_,rfl,rfl,?_⟩
   refine ⟨_,rfl,_,rfl,rfl,_,rfl,?_⟩
   by_cases c:t.2=((i:Nat):Int)
   ·rw [decide_eq_true (by rw [c])]
    try dsimp only at h
    rw [if_pos c] at h
    exact iteT ⟨_,rfl,h⟩
   ·rw [decide_eq_false (λ z=>c (by injection z))]
    try dsimp only at h
    rw [if_neg c] at h
    exact iteF h
  have b1:=List.length_filterMap_le (λ t:Int × Int=>if t.1=((i:Nat):Int) then some t.2 else none) ts
  have b2:=List.length_filterMap_le (λ t:Int × Int=>if t.2=((i:Nat):Int) then some t.1 else none) ts
  refine ⟨p3,p4,_,_,rfl,rfl,n4.same _ _ n3.here,n4.here,(by rw [List.length_map,List.length_map]; exact Nat.le_trans (Nat.add_le_add b1 b2) (by omega)),λ p5 H5 n5=>?_⟩
  rw [<- List.map_append] at n5
  have s5:=n3.same.trans (n4.same.trans n5.same)
  refine ⟨s.trans s5,qs++[p5],by rw [e,List.map_append]; rfl,by rw [List.length_append,l]; rfl,λ j hj=>?_⟩
  by_cases c:j < i
  ·rw [τα,List.getElem?_append_left (by omega),<- τα]
   exact s5 _ _ (at_ j c)
  ·obtain rfl:j=i:=by omega
   rw [τα,List.getElem?_append_right (by omega),l,Nat.sub_self]
   exact n5.here
 rintro ys G0 ⟨s0,rs,rfl,lr,at0⟩ pn hfree
 have nG:New G0 pn (.lst (rs.map V.ref)) (upd G0 pn (.lst (rs.map V.ref))):=New.mk0 hfree
 generalize upd G0 pn (.lst (rs.map V.ref))=G at nG ⊢
 have sG:Same H G:=s0.trans nG.same
 have fpn:H pn=none:=s0.free hfree
 have NL0:NrL G pn n rs (λ i=>b9C ts (i:Int)):=⟨nG.here,lr,λ i hi=>nG.same _ _ (at0 i hi)⟩
 refine ⟨_,rfl,o,_,rfl,.inl (sG.seq hO),λ pl H2 n2=>⟨(by show 0<=1000; decide),λ pb H3 n3=>?_⟩⟩
 have s23:=n2.same.trans n3.same
 have fpl:H pl=none:=sG.free n2.fresh
 have fpb:H pb=none:=sG.free (n2.same.free n3.fresh)
 rw [a1D] at n2
 have hnl:pn≠pl:=n2.ne NL0.lst
 have hnb:pn≠pb:=n3.ne (n2.same _ _ NL0.lst)
 have hlb:pl≠pb:=n3.ne n2.here
 refine ⟨c7L n ts fe r o pn pl pb H,⟨_,os.map (λ (x:Nat)=>(x:Int)),rs,_,0,[],[],[],none,none,none,rfl,sG.trans s23,n3.same _ _ n2.here,NL0.same s23,λ i hi=>⟨n2.ne (NL0.at_ i hi),n3.ne (n2.same _ _ (NL0.at_ i hi))⟩,?_,λ x=>?_,d3F okt ndt,.nil,n3.here,.nil,(λ l h=>absurd h List.not_mem_nil),rfl,rfl⟩,?_⟩
 ·exact c3P (pmo.nodup_iff.mpr List.nodup_range) λ x y _ _ e=>by omega
 ·rw [List.mem_map]
  constructor
  ·rintro ⟨k,hk,rfl⟩
   exact lz_iff.mpr ⟨List.mem_range.mp (pmo.mem_iff.mp hk),List.not_mem_nil⟩
  ·rintro ⟨k,rfl,kn,_⟩
   exact ⟨k,pmo.mem_iff.mpr (List.mem_range.mpr kn),rfl⟩
 rintro m σ H5 ⟨L,rs,N,S,es,qs,bs,v5,v8,v9,rfl,s5,hl,NL,rsn,ndL,mem,NP,fr,hpb,pq,b10,lbs,em⟩
 have bL:∀ x∈L,0<=x/\x < (n:Int):=λ x hx=>by
  obtain ⟨k,rfl,kn,_⟩:=(mem x).mp hx
  omega
 have l10:L.length<=10:=d3E n10 ndL bL
 have les:es.length<=10:=by
  have:=pigN (U:=List.range 10) fr.ndo λ v hv=>List.mem_range.mpr (by have:=fr.lto v hv; omega)
  rwa [List.length_range] at this
 have lqs:=Paired.length pq
 refine ⟨_,rfl,pl,_,rfl,.inl (SqL.of hl),_,_,rfl,rfl,_,rfl,ite2 (λ c=>?_) (λ c=>?_)⟩
 ·have c':(0:Int) < ((((L.map V.int).length:Nat)):Int):=of_decide_eq_true c
  rw [List.length_map] at c'
  refine ⟨λ σ' H'=>∃ m',m' < m/\c7L n ts fe r o pn pl pb H m' σ' H',λ _ _ h=>h,?_⟩
  have n0:0 < n:=by
   cases L with
   | nil=>exact absurd c' (by decide)
   | cons x _=>have:=bL x List.mem_cons_self; omega
  have lN:∀ i:Nat,i < n->LZ n es (i:Int)->(N i).length<=10:=λ i hi hV=>d3E n10 (NP i hi hV).1 λ u hu=>by
   obtain ⟨k,rfl,kn,_⟩:=(((NP i hi hV).2 u).mp hu).1
   omega
  obtain ⟨a0,a0m,at0'⟩:∃ a0:Int,a0∈L/\atI (L.map V.int) 0=some (.int a0):=by
   cases L with
   | nil=>exact absurd c' (by decide)
   | cons x _=>exact ⟨x,List.mem_cons_self,a1L (j:=0) rfl⟩
  refine ⟨_,rfl,pl,_,_,_,rfl,rfl,SqL.of hl,at0',?_⟩
  refine ⟨λ σ' H'=>∃ (k:Nat) (v8 v9:Option V),(k:Int)∈L/\σ'=[some (.int n),some (.ref r),some (.ref o),some (.bl fe),some (.ref pn),some (.int (k:Int)),some (.ref pl),some (.ref pb),v8,v9]/\Same H5 H',?_,?_⟩
  ·refine ⟨_,rfl,_,rfl,?_⟩
   cases fe with
   | false =>
    refine iteF ?_
    obtain ⟨z,rfl⟩:∃ z:Nat,a0=(z:Int):=⟨a0.toNat,by have:=bL a0 a0m; omega⟩
    exact ⟨z,_,_,a0m,rfl,Same.refl _⟩
   | true =>
    refine iteT ?_
    refine ⟨_,rfl,pl,rfl,⟨_,SqL.of hl⟩,?_⟩
    refine a4T (λ x=>match x with | .int v=>some (.int (((N v.toNat).length:Nat):Int)) | _=>none) (SqL.of hl) (by rw [List.length_map]; omega) (λ x H6 M hx s6 hM=>?_) (λ H6 p7 H7 s6 n7=>?_)
    ·obtain ⟨y,hy,rfl⟩:=List.mem_map.mp hx
     have yb:=bL y hy
     obtain ⟨z,rfl⟩:∃ z:Nat,y=(z:Int):=⟨y.toNat,by omega⟩
     have zn:z < n:=by omega
     have hM':=hM H6 s6
     dsimp only at hM'
     rw [Int.toNat_natCast] at hM'
     refine ⟨_,rfl,_,rfl,pn,_,_,_,rfl,rfl,SqL.of (s6 _ _ NL.lst),NL.ref zn,rs.getD z 0,_,rfl,.inl (SqL.of (s6 _ _ (NL.at_ z zn))),?_⟩
     rw [List.length_map]
     exact hM'
    have e7:(L.map V.int).filterMap (λ x=>match x with | .int v=>some (V.int (((N v.toNat).length:Nat):Int)) | _=>none)=(L.map λ v=>(((N v.toNat).length:Nat):Int)).map V.int:=by
     rw [List.map_map]
     exact c0C λ v _=>rfl
    rw [e7] at n7
    have s57:=s6.trans n7.same
    refine ⟨p7,_,rfl,SqL.of n7.here,by rw [List.length_map]; omega,λ M hM allM=>?_⟩
    refine ⟨_,rfl,pl,rfl,⟨_,SqL.of (s57 _ _ hl)⟩,?_⟩
    refine a4T (λ x=>match x with | .int v=>if decide ((((N v.toNat).length:Nat):Int)=M)=true then some (.int v) else none | _=>none) (SqL.of (s57 _ _ hl)) (by rw [List.length_map]; omega) (λ x H8 M8 hx s8 hM8=>?_) (λ H8 p9 H9 s8 n9=>?_)
    ·obtain ⟨y,hy,rfl⟩:=List.mem_map.mp hx
     have yb:=bL y hy
     obtain ⟨z,rfl⟩:∃ z:Nat,y=(z:Int):=⟨y.toNat,by omega⟩
     have zn:z < n:=by omega
     have hM':=hM8 H8 s8
     dsimp only at hM'
     rw [Int.toNat_natCast] at hM'
     refine ⟨_,rfl,_,rfl,pn,_,_,_,rfl,rfl,SqL.of (s8 _ _ (s57 _ _ NL.lst)),NL.ref zn,rs.getD z 0,_,rfl,.inl (SqL.of (s8 _ _ (s57 _ _ (NL.at_ z zn)))),_,rfl,rfl,_,rfl,?_⟩
     by_cases d:(((N z).length:Nat):Int)=M
     ·rw [decide_eq_true d,if_pos rfl] at hM'
      rw [show decide (V.int ((((N z).map V.int).length:Nat):Int)=V.int M)=true from decide_eq_true (by rw [List.length_map,d])]
      exact iteT ⟨_,rfl,hM'⟩
     ·rw [decide_eq_false d,if_neg Bool.false_ne_true] at hM'
      rw [show decide (V.int ((((N z).map V.int).length:Nat):Int)=V.int M)=false from decide_eq_false λ w=>d (by have:=V.int.inj w; rw [List.length_map] at this; exact this)]
      exact iteF hM'
    have e9:(L.map V.int).filterMap (λ x=>match x with | .int v=>if decide ((((N v.toNat).length:Nat):Int)=M)=true then some (V.int v) else none | _=>none)=(L.filter λ v=>decide ((((N v.toNat).length:Nat):Int)=M)).map V.int:=b0I L λ v=>decide ((((N v.toNat).length:Nat):Int)=M)
    rw [e9] at n9
    obtain ⟨y,hy,ey⟩:=List.mem_map.mp hM
    obtain ⟨b0,b0m,bt0⟩:∃ b0:Int,b0∈L/\atI ((L.filter λ v=>decide ((((N v.toNat).length:Nat):Int)=M)).map V.int) 0=some (.int b0):=by
     have hm:y∈L.filter λ v=>decide ((((N v.toNat).length:Nat):Int)=M):=List.mem_filter.mpr ⟨hy,decide_eq_true ey⟩
     cases e:L.filter λ v=>decide ((((N v.toNat).length:Nat):Int)=M) with
     | nil=>rw [e] at hm; cases hm
     | cons x t =>
      refine ⟨x,?_,a1L (j:=0) rfl⟩
      have:x∈L.filter λ v=>decide ((((N v.toNat).length:Nat):Int)=M):=by rw [e]; exact List.mem_cons_self
      exact (List.mem_filter.mp this).1
    obtain ⟨z,rfl⟩:∃ z:Nat,b0=(z:Int):=⟨b0.toNat,by have:=bL b0 b0m; omega⟩
    refine ⟨p9,_,_,_,rfl,rfl,SqL.of n9.here,bt0,?_⟩
    exact ⟨z,_,_,b0m,rfl,s57.trans (s8.trans n9.same)⟩
  rintro σ' H6 ⟨k,v8,v9,km,rfl,s6⟩
  obtain ⟨k',ek',kn,ko⟩:=(mem _).mp km
  obtain rfl:k=k':=by omega
  have Lk:LZ n es (k:Int):=lz_iff.mpr ⟨kn,ko⟩
  have hl6:=s6 _ _ hl
  have NL6:=NL.same s6
  refine ⟨_,rfl,.inl ⟨rfl,_,SqL.of hl6⟩,_,rfl,?_⟩
  dsimp only [tNil]
  refine d0I hl6 km λ H7 c7=>?_
  have NL7:NrL H7 pn n rs N:=⟨(c7.rest pn hnl).trans NL6.lst,NL6.len,λ i hi=>(c7.rest _ (rsn i hi).1).trans (NL6.at_ i hi)⟩
  have s7:Same H H7:=(s5.trans s6).chg fpl c7
  have hpb7:H7 pb=some (.lst (qs.map V.ref)):=(c7.rest pb (Ne.symm hlb)).trans (s6 _ _ hpb)
  have pq7:Paired (λ q l=>H7 q=some (.lst (l.map V.int))/\q≠pb/\q≠pl) qs bs:=Paired.mapP pq λ q l h=>⟨(c7.rest q h.2.2).trans (s6 _ _ h.1),h.2⟩
  have lk:=lN k kn Lk
  refine ⟨_,rfl,.inl ⟨rfl,_,SqL.of hpb7⟩,_,rfl,(by show 1<=1000; decide),λ p8 H8 n8=>?_⟩
  have NL8:=NL7.same n8.same
  refine ⟨_,rfl,_,rfl,pn,_,_,_,rfl,rfl,SqL.of NL8.lst,NL8.ref kn,p8,rs.getD k 0,_,_,rfl,rfl,n8.here,NL8.at_ k kn,by rw [List.length_map]; show 1+_<=_; omega,λ p9 H9 n9=>?_⟩
  have ebag:[V.int (k:Int)]++(N k).map V.int=((k:Int)::N k).map V.int:=rfl
  rw [ebag] at n9
  have NL9:=NL8.same n9.same
  have s79:=n8.same.trans n9.same
  refine ⟨pb,_,_,rfl,rfl,s79 _ _ hpb7,by rw [List.length_map]; omega,λ H10 c10=>?_⟩
  have NL10:NrL H10 pn n rs N:=⟨(c10.rest pn hnb).trans NL9.lst,NL9.len,λ i hi=>(c10.rest _ (rsn i hi).2).trans (NL9.at_ i hi)⟩
  have s10:Same H H10:=(s7.trans s79).chg fpb c10
  have hl10:H10 pl=some (.lst ((L.erase (k:Int)).map V.int)):=(c10.rest pl hlb).trans (s79 _ _ c7.here)
  have p9b:p9≠pb:=λ z=>by
   have:=n9.fresh
   rw [z,n8.same _ _ hpb7] at this
   cases this
  have p9l:p9≠pl:=λ z=>by
   have:=n9.fresh
   rw [z,n8.same _ _ c7.here] at this
   cases this
  have hpb10:H10 pb=some (.lst ((qs++[p9]).map V.ref)):=by rw [c10.here,List.map_append]; rfl
  have pq10:Paired (λ q l=>H10 q=some (.lst (l.map V.int))/\q≠pb/\q≠pl) (qs++[p9]) (bs++[(k:Int)::N k]):=a1T (Paired.mapP pq7 λ q l h=>⟨(c10.rest q h.2.1).trans (s79 _ _ h.1),h.2⟩) ⟨(c10.rest p9 p9b).trans n9.here,p9b,p9l⟩
  refine ⟨_,rfl,_,rfl,pn,_,_,_,rfl,rfl,SqL.of NL10.lst,NL10.ref kn,rs.getD k 0,rfl,⟨_,SqL.of (NL10.at_ k kn)⟩,?_⟩
  have kk:(k:Int) ∉ N k:=λ z=>(((NP k kn Lk).2 _).mp z).2.1 rfl
  refine a2G (xs:=(N k).map V.int) (λ j σ H'=>∃ (rs':List Addr) (v9:Option V),σ=[some (.int n),some (.ref r),some (.ref o),some (.bl fe),some (.ref pn),some (.int (k:Int)),some (.ref pl),some (.ref pb),v8,v9]/\Same H H'/\H' pl=some (.lst ((L.erase (k:Int)).map V.int))/\H' pb=some (.lst ((qs++[p9]).map V.ref))/\Paired (λ q l=>H' q=some (.lst (l.map V.int))/\q≠pb/\q≠pl) (qs++[p9]) (bs++[(k:Int)::N k])/\rs'.getD k 0=rs.getD k 0/\(∀ i,i < n->rs'.getD i 0≠pl/\rs'.getD i 0≠pb)/\NrL H' pn n rs' (λ i=>if (i:Int)∈(N k).take j then d0H N k i else N i)) ⟨rs,_,rfl,s10,hl10,hpb10,pq10,rfl,rsn,NL10⟩ (λ j σ H' _ ⟨rs',_,_,_,_,_,_,e,_,NL'⟩=>by
   have:=NL'.at_ k kn
   rw [if_neg λ z=>kk (List.mem_of_mem_take z),e] at this
   exact SqL.of this) ?_ ?_
  ·rintro j x σ H11 hx ⟨rs',v9,rfl,s11,hl11,hpb11,pq11,erk,rsn',NL11⟩
   rw [List.getElem?_map] at hx
   obtain ⟨u,hu,rfl⟩:=Option.map_eq_some_iff.mp hx
   have um:=List.mem_of_getElem? hu
   have uV:=((NP k kn Lk).2 u).mp um
   obtain ⟨oo,rfl,on,oe⟩:=uV.1
   have et:(N k).take (j+1)=(N k).take j++[(oo:Int)]:=by rw [List.take_succ,hu]; rfl
   have no:(oo:Int) ∉ (N k).take j:=λ z=>by
    have h2:((N k).take (j+1)).Nodup:=(NP k kn Lk).1.sublist (List.take_sublist _ _)
    rw [et] at h2
    exact (List.nodup_append.mp h2).2.2 _ z _ List.mem_cons_self rfl
   have ho:=NL11.at_ oo on
   rw [if_neg no] at ho
   have hk11:=NL11.at_ k kn
   rw [if_neg λ z=>kk (List.mem_of_mem_take z)] at hk11
   have lo':=lN oo on uV.1
   refine ⟨_,rfl,_,rfl,pn,_,_,_,rfl,rfl,SqL.of NL11.lst,NL11.ref on,rs'.getD oo 0,rfl,⟨_,SqL.of ho⟩,?_⟩
   refine a4T (λ x=>match x with | .int v=>if decide (v≠(k:Int))=true then some (.int v) else none | _=>none) (SqL.of ho) (by rw [List.length_map]; omega) (λ x H12 M hx sm hM=>?_) (λ H12 p13 H13 sm n13=>?_)
   ·obtain ⟨y,hy,rfl⟩:=List.mem_map.mp hx
    have hM':=hM H12 sm
    refine ⟨_,rfl,_,rfl,rfl,_,rfl,?_⟩
    rw [neI]
    dsimp only at hM'
    cases d:decide (y≠(k:Int)) with
    | true=>rw [d] at hM'; exact iteT ⟨_,rfl,hM'⟩
    | false=>rw [d] at hM'; exact iteF hM'
   have e13:((N oo).map V.int).filterMap (λ x=>match x with | .int v=>if decide (v≠(k:Int))=true then some (V.int v) else none | _=>none)=((N oo).filter λ u=>decide (u≠(k:Int))).map V.int:=b0I (N oo) λ v=>decide (v≠(k:Int))
   rw [e13] at n13
   have s1113:=sm.trans n13.same
   have NL13:=NL11.same s1113
   refine ⟨_,rfl,_,rfl,pn,_,_,_,rfl,rfl,SqL.of NL13.lst,NL13.ref kn,rs'.getD k 0,rfl,⟨_,SqL.of (s1113 _ _ hk11)⟩,?_⟩
   refine a4T (λ x=>match x with | .int v=>if (decide (v≠(oo:Int)) && !decide (v∈N oo))=true then some (.int v) else none | _=>none) (SqL.of (s1113 _ _ hk11)) (by rw [List.length_map]; omega) (λ x H14 M hx sm2 hM=>?_) (λ H14 p15 H15 sm2 n15=>?_)
   ·obtain ⟨y,hy,rfl⟩:=List.mem_map.mp hx
    have hM':=hM H14 sm2
    have NL14:=NL13.same sm2
    refine c6O (b1:=decide (y≠(oo:Int))) (b2:=!decide (y∈N oo)) (λ Q h=>⟨_,rfl,_,rfl,rfl,_,rfl,by rw [neI]; exact h⟩) (λ Q h=>⟨_,rfl,_,rfl,_,rfl,pn,_,_,_,rfl,rfl,SqL.of NL14.lst,NL14.ref on,b2U (SqL.of (sm2 _ _ (s1113 _ _ ho))) ⟨_,rfl,h⟩⟩) ?_
    dsimp only at hM'
    cases d:(decide (y≠(oo:Int)) && !decide (y∈N oo)) with
    | true=>rw [d] at hM'; exact iteT ⟨_,rfl,hM'⟩
    | false=>rw [d] at hM'; exact iteF hM'
   have e15:((N k).map V.int).filterMap (λ x=>match x with | .int v=>if (decide (v≠(oo:Int)) && !decide (v∈N oo))=true then some (V.int v) else none | _=>none)=((N k).filter λ w=>decide (w≠(oo:Int)) && !decide (w∈N oo)).map V.int:=b0I (N k) λ w=>decide (w≠(oo:Int)) && !decide (w∈N oo)
   rw [e15] at n15
   have s1315:=sm2.trans n15.same
   have f1:=List.length_filter_le (λ u=>decide (u≠(k:Int))) (N oo)
   have f2:=List.length_filter_le (λ w=>decide (w≠(oo:Int)) && !decide (w∈N oo)) (N k)
   refine ⟨p13,p15,_,_,rfl,rfl,s1315 _ _ n13.here,n15.here,by rw [List.length_map,List.length_map]; omega,λ p16 H16 n16=>?_⟩
   rw [<- List.map_append] at n16
   have s1116:=s1113.trans (s1315.trans n16.same)
   have NL16:=NL11.same s1116
   have lr9:=NL11.len
   refine ⟨_,rfl,_,rfl,pn,_,_,oo,rfl,rfl,NL16.lst,a5O (by rw [List.length_map]; omega),λ H17 c17=>?_⟩
   have npl:pl≠pn:=Ne.symm hnl
   have npb:pb≠pn:=Ne.symm hnb
   have p16n:p16≠pn:=NL16.neI n0 n16.here
   have p16l:p16≠pl:=λ z=>by
    have:=n16.fresh
    rw [z,s1113.trans s1315 _ _ hl11] at this
    cases this
   have p16b:p16≠pb:=λ z=>by
    have:=n16.fresh
    rw [z,s1113.trans s1315 _ _ hpb11] at this
    cases this
   have ko':k≠oo:=λ z=>uV.2.1 (by rw [z])
   have egn:∀ i,i≠oo->(rs'.set oo p16).getD i 0=rs'.getD i 0:=λ i d=>by rw [τα,List.getElem?_set_ne (λ z=>d z.symm),<- τα]
   have ego:(rs'.set oo p16).getD oo 0=p16:=by rw [τα,List.getElem?_set_self (by omega)]; rfl
   refine ⟨rs'.set oo p16,_,rfl,(s11.trans s1116).chg fpn c17,(c17.rest pl npl).trans (s1116 _ _ hl11),(c17.rest pb npb).trans (s1116 _ _ hpb11),Paired.mapP pq11 λ q l h=>⟨(c17.rest q (NL11.neI n0 h.1)).trans (s1116 _ _ h.1),h.2⟩,(egn k ko').trans erk,λ i hi=>?_,?_,by rw [List.length_set]; exact lr9,λ i hi=>?_⟩
   ·by_cases d:i=oo
    ·rw [d,ego]; exact ⟨p16l,p16b⟩
    ·rw [egn i d]; exact rsn' i hi
   ·rw [c17.here,List.map_set]
   ·rw [et]
    by_cases d:i=oo
    ·subst d
     rw [ego,if_pos (List.mem_append_right _ List.mem_cons_self)]
     exact (c17.rest p16 p16n).trans n16.here
    ·rw [egn i d]
     refine (c17.rest _ (NL16.ne hi)).trans ((NL16.at_ i hi).trans ?_)
     have:((i:Int)∈(N k).take j++[(oo:Int)])↔(i:Int)∈(N k).take j:=by
      rw [List.mem_append,List.mem_singleton]
      exact ⟨λ z=>z.resolve_right λ y=>d (by omega),.inl⟩
     by_cases f:(i:Int)∈(N k).take j
     ·rw [if_pos f,if_pos (this.mpr f)]
     ·rw [if_neg f,if_neg λ z=>f (this.mp z)]
  ·rintro σ H11 ⟨rs',v9,rfl,s11,hl11,hpb11,pq11,erk,rsn',NL11⟩
   rw [List.length_map,List.take_length] at NL11
   have pos:=List.length_pos_of_mem km
   have le':=List.length_erase_of_mem km
   have kS:S.testBit k=false:=by
    cases c:S.testBit k with
    | false=>rfl
    | true=>exact absurd ((fr.mem k).mpr c) ko
   refine ⟨(L.erase (k:Int)).length,by rw [le']; omega,L.erase (k:Int),rs',_,S ||| 2 ^ k,es++[k],qs++[p9],bs++[(k:Int)::N k],_,_,_,rfl,s11,hl11,NL11,rsn',ndL.erase _,λ x=>?_,c3S kn ko NP,?_,hpb11,pq11,λ l hl=>?_,?_,rfl⟩
   ·rw [ndL.mem_erase_iff,mem]
    constructor
    ·rintro ⟨ne,y,rfl,yn,yo⟩
     refine lz_iff.mpr ⟨yn,λ z=>?_⟩
     rcases List.mem_append.mp z with z | z
     ·exact yo z
     ·exact ne (by rw [List.mem_singleton.mp z])
    ·rintro ⟨y,rfl,yn,yo⟩
     refine ⟨λ z=>yo (List.mem_append_right _ (List.mem_singleton.mpr (by omega))),lz_iff.mpr ⟨yn,λ z=>yo (List.mem_append_left _ z)⟩⟩
   ·refine .snoc (fr.good λ S v ⟨l,hl,nd,m⟩=>⟨l,List.mem_append_left _ hl,nd,m⟩) kS kn ⟨(k:Int)::N k,List.mem_append_right _ (List.mem_singleton.mpr rfl),List.nodup_cons.mpr ⟨kk,(NP k kn Lk).1⟩,λ u=>c6P n10 fr kn ko NP u⟩
   ·rcases List.mem_append.mp hl with z | z
    ·exact b10 l z
    ·rw [List.mem_singleton.mp z,List.length_cons]
     omega
   ·rw [List.length_append,List.length_append,lbs]
    rfl
 ·have c':¬ (0:Int) < ((((L.map V.int).length:Nat)):Int):=of_decide_eq_false (Bool.eq_false_iff.mpr c)
  rw [List.length_map] at c'
  have eL:L=[]:=List.eq_nil_of_length_eq_zero (by omega)
  have all:∀ v,v < n->v∈es:=λ v vn=>Classical.byContradiction λ z=>by
   have:=(mem (v:Int)).mpr (lz_iff.mpr ⟨vn,z⟩)
   rw [eL] at this
   exact absurd this List.not_mem_nil
  have eS:S=2 ^ n - 1:=a9B fr.lt λ v vn=>(fr.mem v).mp (all v vn)
  dsimp only
  rw [eS] at fr
  refine ⟨_,rfl,q pb qs bs es H5 s5 hpb (Paired.mapP pq λ _ _ h=>h.1) b10 ?_ fr⟩
  rw [lbs]
  have:=pigN (U:=List.range n) fr.ndo λ v hv=>List.mem_range.mpr (fr.lto v hv)
  rwa [List.length_range] at this
end
end K
namespace K
open PySem L2 Lw Bg
structure TreeP (n:Nat) (rs:List Row):Prop where
 pos:0 < rs.length
 ok:∀ k < rs.length,a7U n rs k=true
 cov:∀ v:Int,0<=v->v < (n:Int)->∃ r∈rs,v∈r.2
 tops:∀ v:Int,(a5H rs v).length<=1
theorem b7Q {rs:List Row} {v:Int} (h:(a5H rs v).length<=1) {a b:Nat} (al:a < rs.length) (bl:b < rs.length) (ha:a4Y rs v a=true) (hb:a4Y rs v b=true):a=b:=by
 have ma:a∈a5H rs v:=List.mem_filter.mpr ⟨List.mem_range.mpr al,ha⟩
 have mb:b∈a5H rs v:=List.mem_filter.mpr ⟨List.mem_range.mpr bl,hb⟩
 match e:a5H rs v,h with
 | [],_=>rw [e] at ma; exact absurd ma List.not_mem_nil
 | [x],_ =>
  rw [e] at ma mb
  rw [List.mem_singleton.mp ma,List.mem_singleton.mp mb]
theorem Tree.p {n:Nat} {rs:List Row} (T:Tree n rs):TreeP n rs:=⟨T.pos,T.ok,T.cov,T.tops⟩
structure SubR (rs:List Row) (R:Nat->Prop) (t:Nat):Prop where
 lt:t < rs.length
 top:R t
 up:∀ j,j < rs.length->R j->t<=j/\(j≠t->∃ u:Int,(a0K rs j).1=some u/\R u.toNat)
theorem SubR.congr {rs:List Row} {R R':Nat->Prop} {t:Nat} (h:∀ j,R j↔R' j) (A:SubR rs R t):SubR rs R' t :=
 ⟨A.lt,(h t).mp A.top,λ j hj r=>⟨(A.up j hj ((h j).mpr r)).1,λ ne=>by
  obtain ⟨u,e,r'⟩:=(A.up j hj ((h j).mpr r)).2 ne
  exact ⟨u,e,(h _).mp r'⟩⟩⟩
theorem c3T {rs:List Row} {R R':Nat->Prop} {t t':Nat} (U:b5O rs) (A:SubR rs R t) (B:SubR rs R' t') (h:t<=t'):∀ m c,c<=m->c < rs.length->R c->R' c->R t'
 | 0,c,hm,hc,r,r'=>by
  have:=(B.up c hc r').1
  have e:c=t':=by omega
  exact e ▸ r
 | m+1,c,hm,hc,r,r'=>by
  obtain ⟨b1,b2⟩:=B.up c hc r'
  by_cases e:c=t'
  ·exact e ▸ r
  ·obtain ⟨u,eu,ru⟩:=b2 e
   obtain ⟨u',eu',ru'⟩:=(A.up c hc r).2 (by omega)
   have uu:u'=u:=by rw [eu] at eu'; exact (Option.some.inj eu').symm
   rw [uu] at ru'
   have ul:=(U c hc u eu).2
   exact c3T U A B h m u.toNat (by omega) (by omega) ru' ru
theorem c3U {rs:List Row} {R R':Nat->Prop} {t t' c:Nat} (U:b5O rs) (A:SubR rs R t) (B:SubR rs R' t') (h:t<=t') (hc:c < rs.length) (r:R c) (r':R' c):SubR rs (λ j=>R j\/R' j) t where
 lt:=A.lt
 top:=.inl A.top
 up:=λ j hj q=>by
  rcases q with q | q
  ·refine ⟨(A.up j hj q).1,λ ne=>?_⟩
   obtain ⟨u,e,x⟩:=(A.up j hj q).2 ne
   exact ⟨u,e,.inl x⟩
  ·refine ⟨Nat.le_trans h (B.up j hj q).1,λ ne=>?_⟩
   by_cases e:j=t'
   ·have x:=c3T U A B h c c (Nat.le_refl _) hc r r'
    rw [<- e] at x
    obtain ⟨u,e',y⟩:=(A.up j hj x).2 ne
    exact ⟨u,e',.inl y⟩
   ·obtain ⟨u,e',y⟩:=(B.up j hj q).2 e
    exact ⟨u,e',.inr y⟩
theorem d3G {rs:List Row} {R R':Nat->Prop} {t t' c:Nat} (U:b5O rs) (A:SubR rs R t) (B:SubR rs R' t') (hc:c < rs.length) (r:R c) (r':R' c):∃ s,SubR rs (λ j=>R j\/R' j) s:=by
 rcases Nat.le_total t t' with h | h
 ·exact ⟨t,c3U U A B h hc r r'⟩
 ·exact ⟨t',(c3U U B A h hc r' r).congr λ j=>Or.comm⟩
theorem b7R {R:Nat->Prop}:∀ m j,j<=m->R j->∃ t,t<=j/\R t/\∀ i,i < t->¬ R i
 | 0,j,h,r=>⟨j,Nat.le_refl _,r,λ i hi=>by omega⟩
 | m+1,j,h,r=>by
  by_cases c:∃ i,i < j/\R i
  ·obtain ⟨i,hi,ri⟩:=c
   obtain ⟨t,a,b,d⟩:=b7R m i (by omega) ri
   exact ⟨t,by omega,b,d⟩
  ·exact ⟨j,Nat.le_refl _,r,λ i hi ri=>c ⟨i,hi,ri⟩⟩
theorem b4M {n:Nat} {rs:List Row} (T:TreeP n rs) {v:Int} (ex:∃ r∈rs,v∈r.2):∃ t,SubR rs (λ j=>v∈(a0K rs j).2) t:=by
 have U:=b0M T.ok
 obtain ⟨r,hr,hv⟩:=ex
 obtain ⟨k,hk,e⟩:=a3L hr
 obtain ⟨t,tk,rt,tm⟩:=b7R (R:=λ j=>v∈(a0K rs j).2) k k (Nat.le_refl _) (by show v∈(a0K rs k).2; rw [e]; exact hv)
 have tl:t < rs.length:=by omega
 have isT:∀ j,j < rs.length->v∈(a0K rs j).2->(∀ u,(a0K rs j).1=some u->v ∉ (a0K rs u.toNat).2)->a4Y rs v j=true:=λ j hj hv no=>by
  unfold a4Y has b1A
  rw [decide_eq_true hv]
  cases c:(a0K rs j).1 with
  | none=>rfl
  | some u =>
   dsimp only
   unfold has
   rw [decide_eq_false (no u c)]; rfl
 have tT:=isT t tl rt λ u e h=>tm u.toNat (U t tl u e).2 h
 refine ⟨t,tl,rt,λ j hj r=>⟨Nat.le_of_not_lt λ h=>tm j h r,λ ne=>?_⟩⟩
 cases c:(a0K rs j).1 with
 | none =>
  exact absurd (b7Q (T.tops v) hj tl (isT j hj r λ u e=>by rw [c] at e; cases e) tT) ne
 | some u =>
  refine ⟨u,rfl,?_⟩
  by_cases d:v∈(a0K rs u.toNat).2
  ·exact d
  ·exact absurd (b7Q (T.tops v) hj tl (isT j hj r λ u' e=>by rw [c] at e; rw [<- Option.some.inj e]; exact d) tT) ne
def a7T (rs:List Row) (S:List Nat) (j:Nat):Prop:=∃ v∈S,((v:Nat):Int)∈(a0K rs j).2
inductive GPart (rs:List Row):List Nat->Prop
 | one (v:Nat):(∃ r∈rs,(v:Int)∈r.2)->GPart rs [v]
 | more (S:List Nat) (u w:Nat):GPart rs S->u∈S->(∃ r∈rs,(u:Int)∈r.2/\(w:Int)∈r.2)->GPart rs (S++[w])
theorem c6R {n:Nat} {rs:List Row} (T:TreeP n rs) {S:List Nat} (g:GPart rs S):∃ t,SubR rs (a7T rs S) t:=by
 induction g with
 | one v e =>
  obtain ⟨t,A⟩:=b4M T e
  exact ⟨t,A.congr λ j=>⟨λ h=>⟨v,List.mem_singleton.mpr rfl,h⟩,λ ⟨w,hw,h⟩=>by rw [List.mem_singleton.mp hw] at h; exact h⟩⟩
 | more S u w _ hu e ih =>
  obtain ⟨t,A⟩:=ih
  obtain ⟨r,hr,h1,h2⟩:=e
  obtain ⟨t',B⟩:=b4M T (v:=(w:Int)) ⟨r,hr,h2⟩
  obtain ⟨k,hk,e⟩:=a3L hr
  obtain ⟨s,C⟩:=d3G (b0M T.ok) A B hk ⟨u,hu,by rw [e]; exact h1⟩ (by show _∈(a0K rs k).2; rw [e]; exact h2)
  refine ⟨s,C.congr λ j=>?_⟩
  unfold a7T
  constructor
  ·rintro (⟨v,hv,h⟩ | h)
   ·exact ⟨v,List.mem_append_left _ hv,h⟩
   ·exact ⟨w,List.mem_append_right _ (List.mem_singleton.mpr rfl),h⟩
  ·rintro ⟨v,hv,h⟩
   rcases List.mem_append.mp hv with hv | hv
   ·exact .inl ⟨v,hv,h⟩
   ·rw [List.mem_singleton.mp hv] at h
    exact .inr h
theorem b7S {rs:List Row}:∀ {ps:List (List Nat)},ps≠[]->(∀ S∈ps,∃ t,SubR rs (a7T rs S) t)->∃ S0∈ps,∃ t0,SubR rs (a7T rs S0) t0/\∀ S∈ps,∃ t,t<=t0/\SubR rs (a7T rs S) t
 | [],h,_=>absurd rfl h
 | [S],_,f=>by
  obtain ⟨t,A⟩:=f S List.mem_cons_self
  exact ⟨S,List.mem_cons_self,t,A,λ S' h=>by rw [List.mem_singleton.mp h]; exact ⟨t,Nat.le_refl _,A⟩⟩
 | S::S'::r,_,f=>by
  obtain ⟨t,A⟩:=f S List.mem_cons_self
  obtain ⟨S0,h0,t0,B,all⟩:=b7S (ps:=S'::r) (by simp) λ S h=>f S (List.mem_cons_of_mem _ h)
  by_cases c:t<=t0
  ·refine ⟨S0,List.mem_cons_of_mem _ h0,t0,B,λ S2 h=>?_⟩
   rcases List.mem_cons.mp h with h | h
   ·rw [h]; exact ⟨t,c,A⟩
   ·exact all S2 h
  ·refine ⟨S,List.mem_cons_self,t,A,λ S2 h=>?_⟩
   rcases List.mem_cons.mp h with h | h
   ·rw [h]; exact ⟨t,Nat.le_refl _,A⟩
   ·obtain ⟨t2,l2,C⟩:=all S2 h
    exact ⟨t2,by omega,C⟩
theorem d4Z {n:Nat} {rs:List Row} (T:TreeP n rs) {ps:List (List Nat)} (each:∀ S∈ps,∃ S',(∀ v,v∈S↔v∈S')/\GPart rs S') (touch:∀ S∈ps,∀ S'∈ps,∃ r∈rs,(∃ v∈S,((v:Nat):Int)∈r.2)/\∃ v∈S',((v:Nat):Int)∈r.2) :
  ∃ j,j < rs.length/\∀ S∈ps,a7T rs S j:=by
 by_cases e:ps=[]
 ·subst e
  exact ⟨0,T.pos,λ S h=>absurd h List.not_mem_nil⟩
 ·obtain ⟨S0,h0,t0,A,all⟩:=b7S (rs:=rs) e λ S h=>by
   obtain ⟨S',p,g⟩:=each S h
   obtain ⟨t,A⟩:=c6R T g
   exact ⟨t,A.congr λ j=>⟨λ ⟨v,hv,x⟩=>⟨v,(p v).mpr hv,x⟩,λ ⟨v,hv,x⟩=>⟨v,(p v).mp hv,x⟩⟩⟩
  refine ⟨t0,A.lt,λ S h=>?_⟩
  obtain ⟨t,l,B⟩:=all S h
  obtain ⟨r,hr,h1,h2⟩:=touch S h S0 h0
  obtain ⟨k,hk,e⟩:=a3L hr
  exact c3T (b0M T.ok) B A l k k (Nat.le_refl _) hk (by unfold a7T; rw [e]; exact h1) (by unfold a7T; rw [e]; exact h2)
theorem c3V:∀ {xs ys:List Int},xs.Pairwise (· < ·)->ys.Pairwise (· < ·)->(∀ v,v∈xs↔v∈ys)->xs=ys
 | [],[],_,_,_=>rfl
 | [],y::ys,_,_,h=>absurd ((h y).mpr List.mem_cons_self) List.not_mem_nil
 | x::xs,[],_,_,h=>absurd ((h x).mp List.mem_cons_self) List.not_mem_nil
 | x::xs,y::ys,hx,hy,h=>by
  rw [List.pairwise_cons] at hx hy
  have e:x=y:=by
   rcases List.mem_cons.mp ((h x).mp List.mem_cons_self) with h1 | h1
   ·exact h1
   ·rcases List.mem_cons.mp ((h y).mpr List.mem_cons_self) with h2 | h2
    ·exact h2.symm
    ·have a:=hy.1 x h1
     have b:=hx.1 y h2
     omega
  subst e
  rw [c3V hx.2 hy.2 λ v=>⟨λ hv=>?_,λ hv=>?_⟩]
  ·rcases List.mem_cons.mp ((h v).mp (List.mem_cons_of_mem _ hv)) with h1 | h1
   ·exact absurd (hx.1 v hv) (by omega)
   ·exact h1
  ·rcases List.mem_cons.mp ((h v).mpr (List.mem_cons_of_mem _ hv)) with h1 | h1
   ·exact absurd (hy.1 v hv) (by omega)
   ·exact h1
theorem d0J (p:Int->Bool):(upF p).Pairwise (· < ·):=by
 unfold upF
 refine List.Pairwise.filter _ ?_
 rw [List.pairwise_map]
 exact List.pairwise_lt_range.imp λ h=>by omega
theorem d3H {K:Φρ}:PySem.W.kitOne K (.type "tuple") (.type "tuple")=some true:=by rfl
theorem c6S {K:Φρ}:PySem.W.kitOne K (.type "list") (.type "list")=some true:=by rfl
theorem d3I {K:Φρ}:PySem.W.kitOne K (.type "int") (.type "int")=some true:=by rfl
theorem d3J {K:Φρ}:PySem.W.kitOne K (.type "int") (.type "bool")=some false:=by rfl
theorem d3K {b:List Int} (h:b.Pairwise (· < ·)) (s:∀ v∈b,0<=v/\v < 16) {L:List Nat} (hL:∀ u:Nat,u∈L↔(u:Int)∈b):(upF λ v=>decide (v.toNat∈L))=b:=by
 refine c3V (d0J _) h λ v=>?_
 rw [mem_upF,decide_eq_true_iff,hL]
 constructor
 ·rintro ⟨h0,_,h1⟩
  rwa [Int.toNat_of_nonneg h0] at h1
 ·intro hv
  have:=s v hv
  exact ⟨this.1,this.2,by rwa [Int.toNat_of_nonneg this.1]⟩
def a9H (zs:List Int) (ps:List (List Nat)):Prop:=∀ p∈ps,∃ x∈p,((x:Nat):Int)∈zs
theorem a6T (p:List Nat) (u:Nat):bitP (a0W p) u↔u∈p:=by
 show (a0W p).testBit u=true↔_
 rw [a1P,decide_eq_true_iff]
theorem c6T (l:List ζζ) (x y:Nat):tieT l x y=true↔(((x:Int),(y:Int))∈l\/((y:Int),(x:Int))∈l):=by
 unfold tieT
 rw [Bool.or_eq_true,decide_eq_true_iff,decide_eq_true_iff]
theorem c6U {ts:List ζζ} {rs:List Row} {p:List Nat} {x0:Nat} (cov:∀ x y,tieT ts x y=true->∃ r∈rs,(x:Int)∈r.2/\(y:Int)∈r.2) (pl:∀ v∈p,∃ r∈rs,(v:Int)∈r.2) (hx:x0∈p) (jn:∀ y∈p,Rc ts (λ u=>u∈p) x0 y):∃ S,(∀ v,v∈p↔v∈S)/\GPart rs S:=by
 have way:∀ y,Rc ts (λ u=>u∈p) x0 y->∀ S,GPart rs S->x0∈S->(∀ v∈S,v∈p)->∃ S',GPart rs S'/\(∀ v∈S,v∈S')/\(∀ v∈S',v∈p)/\y∈S':=λ y h=>by
  induction h with
  | refl h=>exact λ S g h0 sb=>⟨S,g,λ v hv=>hv,sb,h0⟩
  | @step y z q t hz ih =>
   intro S g h0 sb
   obtain ⟨S',g',s1,s2,hy⟩:=ih S g h0 sb
   refine ⟨S'++[z],.more S' y z g' hy (cov y z t),λ v hv=>List.mem_append_left _ (s1 v hv),λ v hv=>?_,List.mem_append_right _ (List.mem_singleton.mpr rfl)⟩
   rcases List.mem_append.mp hv with hv | hv
   ·exact s2 v hv
   ·rw [List.mem_singleton.mp hv]; exact hz
 have all:∀ L:List Nat,(∀ v∈L,v∈p)->∃ S,GPart rs S/\x0∈S/\(∀ v∈S,v∈p)/\∀ v∈L,v∈S:=λ L=>by
  induction L with
  | nil=>exact λ _=>⟨[x0],.one x0 (pl x0 hx),List.mem_singleton.mpr rfl,λ v hv=>by rw [List.mem_singleton.mp hv]; exact hx,λ v hv=>absurd hv List.not_mem_nil⟩
  | cons y L ih =>
   intro sb
   obtain ⟨S,g,h0,s1,s2⟩:=ih λ v hv=>sb v (List.mem_cons_of_mem _ hv)
   obtain ⟨S',g',t1,t2,hy⟩:=way y (jn y (sb y List.mem_cons_self)) S g h0 s1
   refine ⟨S',g',t1 _ h0,t2,λ v hv=>?_⟩
   rcases List.mem_cons.mp hv with rfl | hv
   ·exact hy
   ·exact t1 v (s2 v hv)
 obtain ⟨S,g,_,s1,s2⟩:=all p λ v hv=>hv
 exact ⟨S,λ v=>⟨s2 v,s1 v⟩,g⟩
theorem b4N {n:Nat} {ts:List ζζ} {z:Int} {rs:List Row} {ps:List (List Nat)} (T:TreeP n rs) (cov:∀ t∈ts,∃ r∈rs,t.1∈r.2/\t.2∈r.2) (F:Told n ts z ps):∃ j,j < rs.length/\a9H (a0K rs j).2 ps:=by
 have cov':∀ x y,tieT ts x y=true->∃ r∈rs,(x:Int)∈r.2/\(y:Int)∈r.2:=λ x y t=>by
  rcases (c6T _ _ _).mp t with h | h
  ·exact cov _ h
  ·obtain ⟨r,hr,h1,h2⟩:=cov _ h
   exact ⟨r,hr,h2,h1⟩
 have pl:∀ v,v < n->∃ r∈rs,((v:Nat):Int)∈r.2:=λ v hv=>T.cov _ (by omega) (by omega)
 obtain ⟨j,jl,h⟩:=d4Z T (ps:=ps) (λ S hS=>by
  obtain ⟨x,hx,jn⟩:=F.fam.jn _ (List.mem_map.mpr ⟨S,hS,rfl⟩)
  have e:bitP (a0W S)=λ u=>u∈S:=funext λ u=>propext (a6T S u)
  rw [e] at jn
  exact c6U cov' (λ v hv=>pl v (F.lt S hS v hv)) ((a6T S x).mp hx) λ y hy=>jn y hy) (λ S hS S' hS'=>by
  obtain ⟨x,y,hx,hy,h⟩:=F.fam.tc _ (List.mem_map.mpr ⟨S,hS,rfl⟩) _ (List.mem_map.mpr ⟨S',hS',rfl⟩)
  have hx:=(a6T S x).mp hx
  have hy:=(a6T S' y).mp hy
  rcases h with rfl | t
  ·obtain ⟨r,hr,m⟩:=pl x (F.lt S hS x hx)
   exact ⟨r,hr,⟨x,hx,m⟩,x,hy,m⟩
  ·obtain ⟨r,hr,m1,m2⟩:=cov' x y t
   exact ⟨r,hr,⟨x,hx,m1⟩,y,hy,m2⟩)
 exact ⟨j,jl,λ p hp=>h p hp⟩
theorem d0K {n:Nat} {ts:List ζζ} {z:Int} {rs:List Row} {ps:List (List Nat)} {j:Nat} (T:TreeP n rs) (F:Told n ts z ps) (jl:j < rs.length) (h:a9H (a0K rs j).2 ps):z < ((a0K rs j).2.length:Int):=by
 have o:=T.ok j jl
 unfold a7U at o
 rw [Bool.and_eq_true] at o
 obtain ⟨s1,s2⟩:=(a4J _ _).mp o.2
 have cv:CvM (ps.map a0W) (λ x=>x∈(a0K rs j).2.map Int.toNat):=cv_hits.mpr λ s hs=>by
  obtain ⟨u,hu,m⟩:=h s hs
  exact ⟨u,hu,List.mem_map.mpr ⟨_,m,Int.toNat_natCast u⟩⟩
 have:=F.big _ cv
 rw [a6R (c:=(a0K rs j).2.map Int.toNat) ?_ ?_,List.length_map] at this
 ·exact this
 ·refine c3P (s2.imp λ h=>by omega) λ x y hx hy e=>?_
  have:=s1 _ hx
  have:=s1 _ hy
  omega
 ·intro x hx
  obtain ⟨v,hv,rfl⟩:=List.mem_map.mp hx
  have:=s1 v hv
  omega
theorem b0S {n:Nat} {ts:List ζζ} {z z':Int} {R:List Row} {ps:List (List Nat)} (T:TreeP n R) (cov:∀ t∈ts,∃ r∈R,t.1∈r.2/\t.2∈r.2) (le:∀ r∈R,((r.2.length:Nat):Int)<=z'+1) (F:Told n ts z ps):z<=z':=by
 obtain ⟨j,jl,m⟩:=b4N T cov F
 have:=d0K T F jl m
 have hm:a0K R j∈R:=by
  unfold a0K
  rw [τα,List.getElem?_eq_getElem jl]
  exact List.getElem_mem _
 have:=le _ hm
 omega
theorem b5W {n:Nat} {ts:List ζζ} {z:Int} {ps:List (List Nat)} {bs:List (List Int)} {es:List Nat} (n10:n<=10) (z0:0<=z) (F:Told n ts z ps) (fr:FreeP n (BagG n ts bs) (2 ^ n - 1) es):∃ l∈bs,a9H l ps/\z < (l.length:Int):=by
 rcases b0P n10 F.fam fr with h | ⟨S',v,Sl,vn,vS,⟨l,hl,nd,mem⟩,cv⟩
 ·have ne:ps≠[]:=λ e=>by
   have:=F.big (λ _=>False) (by rw [e]; exact λ b hb=>absurd hb List.not_mem_nil)
   have c0:a1B n (λ _=>False)=0:=by
    have:=a6R (n:=n) (c:=[]) .nil λ x hx=>absurd hx List.not_mem_nil
    have e0:(λ x:Nat=>x∈([]:List Nat))=λ _=>False:=funext λ x=>propext ⟨λ h=>absurd h List.not_mem_nil,λ h=>h.elim⟩
    rwa [e0] at this
   rw [c0] at this
   omega
  obtain ⟨p,hp⟩:=List.exists_mem_of_ne_nil ps ne
  obtain ⟨x,hx,nx⟩:=h _ (List.mem_map.mpr ⟨p,hp,rfl⟩)
  have xn:=F.lt p hp x ((a6T p x).mp hx)
  refine absurd ?_ nx
  show (2 ^ n - 1).testBit x=true
  rw [Nat.testBit_two_pow_sub_one]
  exact decide_eq_true xn
 ·have hits:=cv_hits.mp cv
  have bdl:∀ u∈l,∃ k:Nat,u=(k:Int)/\k < n:=λ u hu=>by
   obtain ⟨k,e,b⟩:=(mem u).mp hu
   exact ⟨k,e,((a5F n10 Sl vn vS).mp b).1⟩
  refine ⟨l,hl,λ p hp=>?_,?_⟩
  ·obtain ⟨x,hx,b⟩:=hits p hp
   exact ⟨x,hx,(mem _).mpr ⟨x,rfl,b⟩⟩
  ·have cv2:CvM (ps.map a0W) (λ x=>x∈l.map Int.toNat):=cv_hits.mpr λ p hp=>by
    obtain ⟨x,hx,b⟩:=hits p hp
    exact ⟨x,hx,List.mem_map.mpr ⟨(x:Int),(mem _).mpr ⟨x,rfl,b⟩,Int.toNat_natCast x⟩⟩
   have:=F.big _ cv2
   rw [a6R (c:=l.map Int.toNat) ?_ ?_,List.length_map] at this
   ·exact this
   ·refine c3P nd λ x y hx hy e=>?_
    obtain ⟨a,rfl,_⟩:=bdl x hx
    obtain ⟨b,rfl,_⟩:=bdl y hy
    omega
   ·intro x hx
    obtain ⟨u,hu,rfl⟩:=List.mem_map.mp hx
    obtain ⟨a,rfl,an⟩:=bdl u hu
    omega
abbrev a5E:Stmt:=top 56
theorem sc__law_meets:FnScope ["_law_bag", "_law_sets", "_law_part"] ["_law_bag", "_law_sets"] (a0F a5E):=⟨rfl,rfl,rfl,by decide +kernel,rfl,by decide +kernel,by decide +kernel⟩
abbrev a1Z:Stmt:=top 57
theorem sc__law_is_list_of_sets:FnScope ["_law_sets", "_law_n", "_law_part", "_law_v"] ["_law_sets", "_law_n"] (a0F a1Z):=⟨rfl,rfl,rfl,by decide +kernel,rfl,by decide +kernel,by decide +kernel⟩
abbrev a9I:Stmt:=top 58
theorem sc__law_told:FnScope ["_law_web", "_law_n", "_law_found", "_law_row"] ["_law_web", "_law_n"] (a0F a9I):=⟨rfl,rfl,rfl,by decide +kernel,rfl,by decide +kernel,by decide +kernel⟩
def c3W (K:Φρ):Sp:=λ vs H Q _=>∃ (b m:Addr) (zs:List Int) (ps:List (List Nat)),vs=[.ref b,.ref m]/\SqL K H b (zs.map V.int)/\b8V H m ps/\(∀ p∈ps,p.length<=10)/\ps.length<=300/\∀ (t:Bool) H',Same H H'->(t=true↔a9H zs ps)->Q (.bl t) H'
def c6V (K:Φρ):Sp:=λ vs H Q _=>∃ (m:Addr) (n:Nat) (ps:List (List Nat)),vs=[.ref m,.int n]/\b8V H m ps/\n<=10/\ps≠[]/\ps.length<=300/\(∀ p∈ps,p.Pairwise (· < ·))/\(∀ p∈ps,∀ x∈p,x < n)/\(∀ p∈ps,p≠[])/\∀ H',Same H H'->Q (.bl true) H'
def c6W (K:Φρ):Sp:=λ vs H Q _=>∃ (g:V) (n:Nat) (ts:List ζζ),vs=[g,.int n]/\GraphV K H g n ts/\(∀ t∈ts,0<=t.1/\t.1 < t.2/\t.2 < (n:Int))/\n<=10/\0 < n/\ts.length<=100 /\
 ∀ f p q z xs R rs H',Same H H'->H' f=some (.tup [.int z,.ref p,.ref q])->H p=none->H' p=some (.lst xs)->Paired (RowF H [p] H') xs R->Tree n R->(∀ t∈ts,∃ r∈R,t.1∈r.2/\t.2∈r.2)->R.length<=max 1 n ->
  (∀ r∈R,((r.2.length:Nat):Int)<=z+1)->0<=z->H q=none->PcsN H H' q rs->Told n ts z rs->Q (.ref f) H'
section
variable {P:Program} {w:World} {K:Φρ} {mg:Str->Option Value} {base:Heap}
abbrev DZ3 (K:PySem.W.Frag) (mg:Str->Option Value):=Dn K mg "_law_meets" a5E ["_law_bag", "_law_sets"]
set_option maxHeartbeats 4000000 in
theorem b2C (B:Bl mg) (dZ3:DZ3 K mg):FnOk P w K mg base CX0 1 dZ3.f dZ3.fd ["_law_bag", "_law_sets"] (c3W K):=by
 refine dZ3.F.ok sc__law_meets (λ vs H Q E h=>?_) (λ cdv A outer s H vs Q E hr h=>?_)
 ·obtain ⟨b,m,zs,ps,rfl,_⟩:=h
  rfl
 obtain ⟨b,m,zs,ps,rfl,hB,⟨qs,hM,pq⟩,l10,l300,q⟩:=h
 have hv:(A.deeper (PyProof.Rows.envOfC "_law_meets" (a0F a5E) s.heap.objs.size dZ3.f cdv)).units+65 < cLine:=by have:=hr.un; omega
 have lq:=Paired.length pq
 refine ⟨_,(a0C (a1Q PassesOwn.never rfl (a0O (K:=K) rfl (pv 1)) (a0H (i:=2) sc__law_meets.nd rfl (Or.inl rfl))
   (a0D (a1X (a0P a3Q (a0I (a0T (K:=K) rfl) rfl B.len (by decide +kernel) (a0A (a2V ["_law_v", "_law_bag"] [none,some 0]  (by kernel_rfl) rfl (a0O (K:=K) rfl (pv 2)) (λ _ _ _ _ _=>(a0H (i:=0) (show (["_law_v", "_law_bag"]:List Str).Nodup by decide +kernel) rfl (Or.inl rfl))) (λ _ _ _ _ _=>(a2S (a0P (c0A (K:=K) rfl hv) (pv 0) (pv 1) (by with_unfolding_all rfl)))) (λ _ _ _ _ _=>(pv 0))) a0B)) a0E (a0U _))
   (a0D (a0N a6U))
   a0Y)))
   (a0D (a0N a6U))),?_⟩
 refine ⟨_,rfl,m,rfl,⟨_,SqL.of hM⟩,?_⟩
 refine a2G (xs:=qs.map V.ref) (λ i σ H'=>(∃ pp:Option V,σ=[some (.ref b),some (.ref m),pp])/\Same H H'/\a9H zs (ps.take i)) ⟨⟨_,rfl⟩,Same.refl _,λ p hp=>by simp at hp⟩ (λ i σ H' _ ⟨_,s,_⟩=>SqL.of (s _ _ hM)) ?_ ?_
 ·rintro i x σ H1 hx ⟨⟨pp,rfl⟩,s1,me⟩
  rw [List.getElem?_map] at hx
  obtain ⟨qi,hqi,rfl⟩:=Option.map_eq_some_iff.mp hx
  obtain ⟨p,hp,hqp⟩:=a1A pq hqi
  have pm:=List.mem_of_getElem? hp
  have lp:=l10 p pm
  have hq1:SqL K H1 qi ((a1U p).map V.int):=by
   have:=SqL.of (K:=K) (s1 _ _ hqp)
   rw [a1D] at this
   exact this
  refine ⟨_,rfl,qi,rfl,⟨_,hq1⟩,?_⟩
  refine a4T (λ x=>match x with | .int v=>if decide (v∈zs)=true then some (.int v) else none | _=>none) hq1 (by unfold a1U; rw [List.length_map,List.length_map]; omega) (λ x H5 N hx s5 hN=>?_) (λ H5 p6 H6 s5 n6=>?_)
  ·obtain ⟨v,hv',rfl⟩:=List.mem_map.mp hx
   have hN':=hN H5 s5
   dsimp only at hN'
   refine ⟨_,rfl,_,rfl,c7D ((s1.trans s5).seq hB) ⟨_,rfl,?_⟩⟩
   cases d:decide (v∈zs) with
   | true=>rw [d] at hN'; exact iteT ⟨_,rfl,hN'⟩
   | false=>rw [d] at hN'; exact iteF hN'
  ·have efm:((a1U p).map V.int).filterMap (λ x=>match x with | .int v=>if decide (v∈zs)=true then some (V.int v) else none | _=>none)=((a1U p).filter λ v=>decide (v∈zs)).map V.int:=b0I (a1U p) λ v=>decide (v∈zs)
   rw [efm] at n6
   refine ⟨p6,_,rfl,.inl (SqL.of n6.here),rfl,_,rfl,?_⟩
   have s6:=s1.trans (s5.trans n6.same)
   have et:ps.take (i+1)=ps.take i++[p]:=by rw [List.take_succ,hp]; rfl
   by_cases c:∃ x∈p,((x:Nat):Int)∈zs
   ·have pos:0 < ((a1U p).filter λ v=>decide (v∈zs)).length:=by
     obtain ⟨x,hx,hz⟩:=c
     exact List.length_pos_of_mem (List.mem_filter.mpr ⟨mem_natIp.mpr ⟨x,hx,rfl⟩,decide_eq_true hz⟩)
    rw [show decide (V.int (((((a1U p).filter λ v=>decide (v∈zs)).map V.int).length:Nat):Int)=V.int 0)=false from decide_eq_false λ z=>by
     have:=V.int.inj z
     rw [List.length_map] at this
     omega]
    refine iteF ⟨⟨_,rfl⟩,s6,λ y hy=>?_⟩
    rw [et] at hy
    rcases List.mem_append.mp hy with hy | hy
    ·exact me y hy
    ·rw [List.mem_singleton.mp hy]; exact c
   ·have e0:(a1U p).filter (λ v=>decide (v∈zs))=[]:=List.filter_eq_nil_iff.mpr λ v hv' h=>by
     obtain ⟨u,hu,rfl⟩:=mem_natIp.mp hv'
     exact c ⟨u,hu,of_decide_eq_true h⟩
    rw [e0]
    refine iteT ?_
    exact q false H6 s6 ⟨λ z=>absurd z (by decide),λ z=>absurd (z p pm) c⟩
 ·rintro σ H1 ⟨⟨pp,rfl⟩,s1,me⟩
  rw [List.length_map,lq,List.take_length] at me
  exact q true H1 s1 ⟨λ _=>me,λ _=>rfl⟩
abbrev DZ2 (K:PySem.W.Frag) (mg:Str->Option Value):=Dn K mg "_law_is_list_of_sets" a1Z ["_law_sets", "_law_n"]
set_option maxHeartbeats 4000000 in
theorem a4R (B:Bl mg) (dZ2:DZ2 K mg):FnOk P w K mg base CX0 1 dZ2.f dZ2.fd ["_law_sets", "_law_n"] (c6V K):=by
 refine dZ2.F.ok sc__law_is_list_of_sets (λ vs H Q E h=>?_) (λ cdv A outer s H vs Q E hr h=>?_)
 ·obtain ⟨m,n,ps,rfl,_⟩:=h
  rfl
 obtain ⟨m,n,ps,rfl,⟨qs,hM,pq⟩,n10,ne,l300,up,lt,nes,q⟩:=h
 have hu:(A.deeper (PyProof.Rows.envOfC "_law_is_list_of_sets" (a0F a1Z) s.heap.objs.size dZ2.f cdv)).units+64 < cLine:=by have:=hr.un; omega
 have lq:=Paired.length pq
 have lp0:0 < ps.length:=List.length_pos_iff.mpr ne
 refine ⟨_,(a0C (a1X (PW.pt (a4U (a3A (a0R (K:=K) rfl (a0I (a1C (K:=K) rfl) rfl B.isinstance (by decide +kernel) (a0A (pv 0) (a0A (a2Z (v:=.ty "list") (u:=.type "list") rfl B.list (by decide +kernel) rfl) a0B))) (λ _=>rfl))) (a4S (a0P a3Q (a0I (a0T (K:=K) rfl) rfl B.len (by decide +kernel) (a0A (pv 0) a0B)) a0E (a0U _)))))
   (a0D (a0N a6U))
   a0Y)
   (a0C (a1Q PassesOwn.never rfl (a0O (K:=K) rfl (pv 0)) (a0H (i:=2) sc__law_is_list_of_sets.nd rfl (Or.inl rfl))
   (a0C (a1X (PW.pt (a4U (a3A (a0R (K:=K) rfl (a0I (a1C (K:=K) rfl) rfl B.isinstance (by decide +kernel) (a0A (pv 2) (a0A (a2Z (v:=.ty "list") (u:=.type "list") rfl B.list (by decide +kernel) rfl) a0B))) (λ _=>rfl))) (a4U (a0P a3Q (a0I (a0T (K:=K) rfl) rfl B.len (by decide +kernel) (a0A (pv 2) a0B)) a0E (a0U _)) (a4S (a0P (b9Z (K:=K) rfl hu) (pv 2) (a0I (a7K (w:=w) rfl rfl) rfl B.sorted (by decide +kernel) (a0A (a2M (a8W (K:=K) (w:=w) rfl rfl rfl) rfl B.set (by decide +kernel) (a0A (pv 2) a0B)) a0B)) (a0U _))))))
   (a0D (a0N a6U))
   a0Y)
   (a0D (a1Q PassesOwn.never rfl (a0O (K:=K) rfl (pv 2)) (a0H (i:=3) sc__law_is_list_of_sets.nd rfl (Or.inl rfl))
   (a0D (a1X (PW.pt (a4U (a3A (a0R (K:=K) rfl (a0I (a1C (K:=K) rfl) rfl B.isinstance (by decide +kernel) (a0A (pv 3) (a0A (a2Z (v:=.ty "int") (u:=.type "int") rfl B.int (by decide +kernel) rfl) a0B))) (λ _=>rfl))) (a4U (a0R (K:=K) rfl (a0I (a1C (K:=K) rfl) rfl B.isinstance (by decide +kernel) (a0A (pv 3) (a0A (a2Z (v:=.ty "bool") (u:=.type "bool") rfl B.bool (by decide +kernel) rfl) a0B))) (λ _=>rfl)) (a4U (a0P b7X (pv 3) a0E (a0U _)) (a4S (a0P d3Q (pv 3) (pv 1) (a0U _)))))))
   (a0D (a0N a6U))
   a0Y))))))
   (a0D (a0N a6U)))),?_⟩
 refine ⟨_,rfl,_,_,_,_,_,rfl,rfl,TyOf.lst hM,c6S,_,rfl,iteF ?_⟩
 refine ⟨_,rfl,m,_,rfl,.inl (SqL.of hM),rfl,_,rfl,?_⟩
 rw [show decide (V.int (((qs.map V.ref).length:Nat):Int)=V.int 0)=false from decide_eq_false λ z=>by
  have:=V.int.inj z
  rw [List.length_map] at this
  omega]
 refine iteF ?_
 refine ⟨_,rfl,m,rfl,⟨_,SqL.of hM⟩,?_⟩
 refine a2G (xs:=qs.map V.ref) (λ i σ H'=>(∃ pp vv:Option V,σ=[some (.ref m),some (.int n),pp,vv])/\Same H H') ⟨⟨_,_,rfl⟩,Same.refl _⟩ (λ i σ H' _ ⟨_,s⟩=>SqL.of (s _ _ hM)) ?_ ?_
 ·rintro i x σ H1 hx ⟨⟨pp,vv,rfl⟩,s1⟩
  rw [List.getElem?_map] at hx
  obtain ⟨qi,hqi,rfl⟩:=Option.map_eq_some_iff.mp hx
  obtain ⟨p,hp,hqp⟩:=a1A pq hqi
  have pm:=List.mem_of_getElem? hp
  have hq1:SqL K H1 qi ((a1U p).map V.int):=by
   have:=SqL.of (K:=K) (s1 _ _ hqp)
   rw [a1D] at this
   exact this
  have pos:0 < p.length:=List.length_pos_iff.mpr (nes p pm)
  have upI:(a1U p).Pairwise (· < ·):=by
   unfold a1U
   rw [List.pairwise_map]
   exact (up p pm).imp λ h=>by omega
  have sm:∀ v∈a1U p,0<=v/\v < 16:=λ v hv=>by
   obtain ⟨u,hu,rfl⟩:=mem_natIp.mp hv
   have:=lt p pm u hu
   omega
  refine ⟨_,rfl,_,_,_,_,_,rfl,rfl,TyOf.lst (s1 _ _ hqp),c6S,_,rfl,iteF ?_⟩
  refine ⟨_,rfl,qi,_,rfl,.inl hq1,rfl,_,rfl,?_⟩
  rw [show decide (V.int ((((a1U p).map V.int).length:Nat):Int)=V.int 0)=false from decide_eq_false λ z=>by
   have:=V.int.inj z
   unfold a1U at this
   rw [List.length_map,List.length_map] at this
   omega]
  refine iteF ?_
  refine ⟨_,rfl,_,rfl,qi,a1U p,rfl,hq1,sm,λ pS L H2 n2 hm=>?_⟩
  refine ⟨pS,true,L,rfl,n2.here,λ p3 H3 n3=>?_⟩
  rw [d3K upI sm hm] at n3
  refine ⟨_,_,.lst ((n2.same.trans n3.same).seq hq1) (IsDs.ints _),.lst (SqL.of n3.here) (IsDs.ints _),a3G _,a3G _,_,rfl,?_⟩
  rw [if_pos rfl,b1B (a3G _)]
  refine iteF ?_
  have s3:=s1.trans (n2.same.trans n3.same)
  have hq3:=(n2.same.trans n3.same).seq hq1
  refine ⟨_,rfl,qi,rfl,⟨_,hq3⟩,?_⟩
  refine a2G (xs:=(a1U p).map V.int) (λ j σ H'=>(∃ vv:Option V,σ=[some (.ref m),some (.int n),some (.ref qi),vv])/\Same H3 H') ⟨⟨_,rfl⟩,Same.refl _⟩ (λ j σ H' _ ⟨_,s⟩=>s.seq hq3) ?_ ?_
  ·rintro j y σ H4 hy ⟨⟨vv,rfl⟩,s4⟩
   rw [List.getElem?_map] at hy
   obtain ⟨v,hv,rfl⟩:=Option.map_eq_some_iff.mp hy
   obtain ⟨u,hu',rfl⟩:=mem_natIp.mp (List.mem_of_getElem? hv)
   have un:=lt p pm u hu'
   refine ⟨_,rfl,_,_,_,_,_,rfl,rfl,TyOf.int _,d3I,_,rfl,iteF ?_⟩
   refine ⟨_,rfl,_,_,_,_,_,rfl,rfl,TyOf.int _,d3J,_,rfl,iteF ?_⟩
   refine ⟨_,rfl,_,_,rfl,rfl,_,rfl,?_⟩
   rw [show decide (((u:Nat):Int) < 0)=false from decide_eq_false (by omega)]
   refine iteF ?_
   refine ⟨_,rfl,_,rfl,_,_,rfl,rfl,_,rfl,?_⟩
   rw [show decide ((n:Int)<=((u:Nat):Int))=false from decide_eq_false (by omega)]
   exact iteF ⟨⟨_,rfl⟩,s4⟩
  ·rintro σ H4 ⟨⟨vv,rfl⟩,s4⟩
   exact ⟨⟨_,_,rfl⟩,s3.trans s4⟩
 ·rintro σ H1 ⟨⟨pp,vv,rfl⟩,s1⟩
  exact q H1 s1
abbrev DZ6 (K:PySem.W.Frag) (mg:Str->Option Value):=Dn K mg "_law_told" a9I ["_law_web", "_law_n"]
set_option maxHeartbeats 8000000 in
theorem b4O (B:Bl mg) (Bs:mg "sum" = none) (dZ32:DZ32 K mg) (dZ38:DZ38 K mg) (dZ33:DZ33 K mg) (dZ17:DZ17 K mg) (dZ44:DZ44 K mg) (dZ8:DZ8 K mg) (dZ24:DZ24 K mg) (dZ21:DZ21 K mg) (dZ23:DZ23 K mg) (dZ12:DZ12 K mg) (dZ25:DZ25 K mg) (dZ31:DZ31 K mg) (dZ10:DZ10 K mg) (dZ22:DZ22 K mg) (dZ37:DZ37 K mg) (dZ36:DZ36 K mg) (dZ40:DZ40 K mg) (dZ26:DZ26 K mg) (dZ39:DZ39 K mg) (dZ46:DZ46 K mg) (dZ45:DZ45 K mg) (dZ9:DZ9 K mg) (dZ13:DZ13 K mg) (dZ14:DZ14 K mg) (dZ43:DZ43 K mg) (dZ19:DZ19 K mg) (dZ30:DZ30 K mg) (dZ28:DZ28 K mg) (dZ29:DZ29 K mg) (dZ18:DZ18 K mg) (dZ34:DZ34 K mg) (dZ16:DZ16 K mg) (dZ20:DZ20 K mg) (dZ15:DZ15 K mg) (dZ42:DZ42 K mg) (dZ11:DZ11 K mg) (dZ35:DZ35 K mg) (dZ41:DZ41 K mg) (dZ2:DZ2 K mg) (dZ6:DZ6 K mg):FnOk P w K mg base CX0 13 dZ6.f dZ6.fd ["_law_web", "_law_n"] (c6W K):=by
 have gZ41:FnOk P w K mg base CX0 12 _ _ _ _:=b9A B Bs dZ32 dZ38 dZ33 dZ17 dZ44 dZ8 dZ24 dZ21 dZ23 dZ12 dZ25 dZ31 dZ10 dZ22 dZ37 dZ36 dZ40 dZ26 dZ39 dZ46 dZ45 dZ9 dZ13 dZ14 dZ43 dZ19 dZ30 dZ28 dZ29 dZ18 dZ34 dZ16 dZ20 dZ15 dZ42 dZ11 dZ35 dZ41
 have gZ2:FnOk P w K mg base CX0 12 _ _ _ _:=(a4R B dZ2).mono (by decide)
 refine dZ6.F.ok sc__law_told (λ vs H Q E h=>?_) (λ cdv A outer s H vs Q E hr h=>?_)
 ·obtain ⟨g,n,ts,rfl,_⟩:=h
  rfl
 obtain ⟨g,n,ts,rfl,hG,okt,n10,n0,l100,q⟩:=h
 refine ⟨_,(a0C (a0J (i:=2) sc__law_told.nd rfl (Or.inl rfl) (a0G gZ41 hr rfl dZ41.m dZ41.F.kp dZ41.b .nil a0S (a0A (pv 0) a0B)))
   (a0C (a1X (PW.pt (a4U (a3A (a0R (K:=K) rfl (a0I (a1C (K:=K) rfl) rfl B.isinstance (by decide +kernel) (a0A (pv 2) (a0A (a2Z (v:=.ty "tuple") (u:=.type "tuple") rfl B.tuple (by decide +kernel) rfl) a0B))) (λ _=>rfl))) (a4S (a0P b7W (a0I (a0T (K:=K) rfl) rfl B.len (by decide +kernel) (a0A (pv 2) a0B)) a0E (a0U _)))))
   (a0D (a0N a2B))
   a0Y)
   (a0C (a1X (PW.pt (a4U (a3A (a0R (K:=K) rfl (a0I (a1C (K:=K) rfl) rfl B.isinstance (by decide +kernel) (a0A (a0V (a0Z (K:=K) rfl) (pv 2) a0E (λ _ _=>rfl)) (a0A (a2Z (v:=.ty "int") (u:=.type "int") rfl B.int (by decide +kernel) rfl) a0B))) (λ _=>rfl))) (a4U (a0R (K:=K) rfl (a0I (a1C (K:=K) rfl) rfl B.isinstance (by decide +kernel) (a0A (a0V (a0Z (K:=K) rfl) (pv 2) a0E (λ _ _=>rfl)) (a0A (a2Z (v:=.ty "bool") (u:=.type "bool") rfl B.bool (by decide +kernel) rfl) a0B))) (λ _=>rfl)) (a4S (a3A (a0R (K:=K) rfl (a0I (a1C (K:=K) rfl) rfl B.isinstance (by decide +kernel) (a0A (a0V (a0Z (K:=K) rfl) (pv 2) a0E (λ _ _=>rfl)) (a0A (a2Z (v:=.ty "list") (u:=.type "list") rfl B.list (by decide +kernel) rfl) a0B))) (λ _=>rfl)))))))
   (a0D (a0N a2B))
   a0Y)
   (a0C (a1X (PW.pt (a4U (a0P a3Q (a0I (a0T (K:=K) rfl) rfl B.len (by decide +kernel) (a0A (a0V (a0Z (K:=K) rfl) (pv 2) a0E (λ _ _=>rfl)) a0B)) a0E (a0U _)) (a4S (a3A (a0R (K:=K) rfl (a0G gZ2 hr rfl dZ2.m dZ2.F.kp dZ2.b .nil a0S (a0A (a0V (a0Z (K:=K) rfl) (pv 2) a0E (λ _ _=>rfl)) (a0A (pv 1) a0B))) (λ _=>rfl))))))
   (a0D (a0N a2B))
   a0Y)
   (a0C (a1Q PassesOwn.never rfl (a0O (K:=K) rfl (a0V (a0Z (K:=K) rfl) (pv 2) a0E (λ _ _=>rfl))) (a0H (i:=3) sc__law_told.nd rfl (Or.inl rfl))
   (a0D (a1X (PW.pt (a4U (a3A (a0R (K:=K) rfl (a0I (a1C (K:=K) rfl) rfl B.isinstance (by decide +kernel) (a0A (pv 3) (a0A (a2Z (v:=.ty "tuple") (u:=.type "tuple") rfl B.tuple (by decide +kernel) rfl) a0B))) (λ _=>rfl))) (a4U (a0P b7W (a0I (a0T (K:=K) rfl) rfl B.len (by decide +kernel) (a0A (pv 3) a0B)) a0E (a0U _)) (a4U (a3A (a0R (K:=K) rfl (a0I (a1C (K:=K) rfl) rfl B.isinstance (by decide +kernel) (a0A (a0V (a0Z (K:=K) rfl) (pv 3) a0E (λ _ _=>rfl)) (a0A (a2Z (v:=.ty "list") (u:=.type "list") rfl B.list (by decide +kernel) rfl) a0B))) (λ _=>rfl))) (a4S (a0P b4R (a0I (a0T (K:=K) rfl) rfl B.len (by decide +kernel) (a0A (a0V (a0Z (K:=K) rfl) (pv 3) a0E (λ _ _=>rfl)) a0B)) (a0Q a3M (a0V (a0Z (K:=K) rfl) (pv 2) a0E (λ _ _=>rfl)) a0E) (a0U _)))))))
   (a0D (a0N a2B))
   a0Y)))
   (a0D (a0N (pv 2)))))))),?_⟩
 refine ⟨_,rfl,g,n,ts,rfl,hG,okt,n10,l100,λ f p qq z xs R rs H1 s1 hf fp hp pR T cov few le1 ex fq PN F=>?_⟩
 have lx:=Paired.length pR
 have z0:0<=z:=by
  obtain ⟨r,hr,hv⟩:=T.cov 0 (by omega) (by omega)
  have:=le1 r hr
  have:=List.length_pos_of_mem hv
  omega
 have ne:rs≠[]:=λ e=>by
  have:=F.big (λ _=>False) (by rw [e]; exact λ b hb=>absurd hb List.not_mem_nil)
  have c0:a1B n (λ _=>False)=0:=by
   have:=a6R (n:=n) (c:=[]) .nil λ x hx=>absurd hx List.not_mem_nil
   have e0:(λ x:Nat=>x∈([]:List Nat))=λ _=>False:=funext λ x=>propext ⟨λ h=>absurd h List.not_mem_nil,λ h=>h.elim⟩
   rwa [e0] at this
  rw [c0] at this
  omega
 have at0:atI [V.int z,V.ref p,V.ref qq] 0=some (.int z):=rfl
 refine ⟨_,rfl,_,_,_,_,_,rfl,rfl,TyOf.tup hf,d3H,_,rfl,iteF ?_⟩
 refine ⟨_,rfl,f,_,rfl,.inr (SqT.of hf),rfl,_,rfl,iteF ?_⟩
 refine ⟨_,rfl,f,_,_,_,rfl,rfl,SqT.of hf,rfl,_,_,_,_,_,rfl,rfl,TyOf.int _,d3I,_,rfl,iteF ?_⟩
 refine ⟨_,rfl,f,_,_,_,rfl,rfl,SqT.of hf,rfl,_,_,_,_,_,rfl,rfl,TyOf.int _,d3J,_,rfl,iteF ?_⟩
 refine ⟨_,rfl,f,_,_,_,rfl,rfl,SqT.of hf,rfl,_,_,_,_,_,rfl,rfl,TyOf.lst hp,c6S,_,rfl,iteF ?_⟩
 refine ⟨_,rfl,f,_,_,_,rfl,rfl,SqT.of hf,rfl,p,_,rfl,.inl (SqL.of hp),rfl,_,rfl,?_⟩
 have Tp:=T.pos
 rw [show decide (V.int ((xs.length:Nat):Int)=V.int 0)=false from decide_eq_false λ z=>by
  have:=V.int.inj z
  omega]
 refine iteF ?_
 refine ⟨_,rfl,f,_,_,_,rfl,rfl,SqT.of hf,rfl,_,rfl,qq,n,rs,rfl,PN.at,n10,ne,by have:=F.few; omega,F.up,F.lt,F.ne,λ H2 s2=>⟨_,rfl,iteF ?_⟩⟩
 have hp2:=s2 _ _ hp
 have hf2:=s2 _ _ hf
 refine ⟨_,rfl,f,_,_,_,rfl,rfl,SqT.of hf2,rfl,p,rfl,⟨_,SqL.of hp2⟩,?_⟩
 refine a2G (xs:=xs) (λ i σ H'=>(∃ rr:Option V,σ=[some g,some (.int n),some (.ref f),rr])/\Same H2 H') ⟨⟨_,rfl⟩,Same.refl _⟩ (λ i σ H' _ ⟨_,s⟩=>SqL.of (s _ _ hp2)) ?_ ?_
 ·rintro i x σ H3 hx ⟨⟨rr,rfl⟩,s3⟩
  obtain ⟨r,hr,pt,b,rfl,h1,h2,_⟩:=a1A pR hx
  have h13:=s3 _ _ (s2 _ _ h1)
  have h23:=s3 _ _ (s2 _ _ h2)
  have rl:=le1 r (List.mem_of_getElem? hr)
  refine ⟨_,rfl,_,_,_,_,_,rfl,rfl,TyOf.tup h13,d3H,_,rfl,iteF ?_⟩
  refine ⟨_,rfl,pt,_,rfl,.inr (SqT.of h13),rfl,_,rfl,iteF ?_⟩
  refine ⟨_,rfl,pt,_,_,_,rfl,rfl,SqT.of h13,rfl,_,_,_,_,_,rfl,rfl,TyOf.lst h23,c6S,_,rfl,iteF ?_⟩
  refine ⟨_,rfl,pt,_,_,_,rfl,rfl,SqT.of h13,rfl,b,_,rfl,.inl (SqL.of h23),_,rfl,f,_,_,_,rfl,rfl,SqT.of (s3 _ _ hf2),rfl,_,_,rfl,rfl,_,_,rfl,rfl,_,rfl,?_⟩
  rw [show decide (z+1 < (((r.2.map V.int).length:Nat):Int))=false from decide_eq_false (by rw [List.length_map]; omega)]
  exact iteF ⟨⟨_,rfl⟩,s3⟩
 ·rintro σ H3 ⟨⟨rr,rfl⟩,s3⟩
  have s23:=s2.trans s3
  obtain ⟨qs,e1,e2,e3,e4⟩:=PN
  exact ⟨_,rfl,q f p qq z xs R rs H3 (s1.trans s23) (s23 _ _ hf) fp (s23 _ _ hp) (Paired.mapP pR λ _ _ h=>h.same s23) T cov few le1 z0 fq ⟨qs,s23 _ _ e1,e2,e3,Paired.mapP e4 λ _ _ h=>s23 _ _ h⟩ F⟩
end
end K
namespace K
open PySem L2 Lw Bg
abbrev d0L:Stmt:=top 59
theorem sc_law:FnScope ["_law_script", "_law_n", "_law_ties_here", "_law_web", "_law_found", "_law_sets", "_law_least", "_law_k", "_law_bags_here", "_law_again"] ["_law_script"] (a0F d0L):=⟨rfl,rfl,rfl,by decide +kernel,rfl,by decide +kernel,by decide +kernel⟩
section
variable {P:Program} {w:World} {K:Φρ} {mg:Str->Option Value} {base:Heap}
set_option maxHeartbeats 16000000 in
theorem d5A (B:Bl mg) (Bs:mg "sum" = none) (dZ32:DZ32 K mg) (dZ38:DZ38 K mg) (dZ33:DZ33 K mg) (dZ17:DZ17 K mg) (dZ44:DZ44 K mg) (dZ8:DZ8 K mg) (dZ24:DZ24 K mg) (dZ21:DZ21 K mg) (dZ23:DZ23 K mg) (dZ12:DZ12 K mg) (dZ25:DZ25 K mg) (dZ31:DZ31 K mg) (dZ10:DZ10 K mg) (dZ22:DZ22 K mg) (dZ37:DZ37 K mg) (dZ36:DZ36 K mg) (dZ40:DZ40 K mg) (dZ26:DZ26 K mg) (dZ39:DZ39 K mg) (dZ46:DZ46 K mg) (dZ45:DZ45 K mg) (dZ9:DZ9 K mg) (dZ13:DZ13 K mg) (dZ14:DZ14 K mg) (dZ43:DZ43 K mg) (dZ19:DZ19 K mg) (dZ30:DZ30 K mg) (dZ28:DZ28 K mg) (dZ29:DZ29 K mg) (dZ18:DZ18 K mg) (dZ34:DZ34 K mg) (dZ16:DZ16 K mg) (dZ20:DZ20 K mg) (dZ15:DZ15 K mg) (dZ42:DZ42 K mg) (dZ11:DZ11 K mg) (dZ35:DZ35 K mg) (dZ41:DZ41 K mg) (dZ1:DZ1 K mg) (dZ4:DZ4 K mg) (dZ5:DZ5 K mg) (dZ7:DZ7 K mg) (dZ0:DZ0 K mg) (dZ3:DZ3 K mg) (dZ2:DZ2 K mg) (dZ6:DZ6 K mg) (dZ27:Dn K mg "law" d0L ["_law_script"]):FnOk P w K mg base CX0 14 dZ27.f dZ27.fd ["_law_script"] (spLaw K):=by
 have gZ6:FnOk P w K mg base CX0 13 _ _ _ _:=b4O B Bs dZ32 dZ38 dZ33 dZ17 dZ44 dZ8 dZ24 dZ21 dZ23 dZ12 dZ25 dZ31 dZ10 dZ22 dZ37 dZ36 dZ40 dZ26 dZ39 dZ46 dZ45 dZ9 dZ13 dZ14 dZ43 dZ19 dZ30 dZ28 dZ29 dZ18 dZ34 dZ16 dZ20 dZ15 dZ42 dZ11 dZ35 dZ41 dZ2 dZ6
 have gZ1:FnOk P w K mg base CX0 13 _ _ _ _:=(b5U B dZ1).mono (by decide)
 have gZ5:FnOk P w K mg base CX0 13 _ _ _ _:=(b4K B dZ1 dZ4 dZ5).mono (by decide)
 have gZ7:FnOk P w K mg base CX0 13 _ _ _ _:=(a9U B dZ1 dZ4 dZ7).mono (by decide)
 have gZ0:FnOk P w K mg base CX0 13 _ _ _ _:=(b4L B dZ0).mono (by decide)
 have gZ3:FnOk P w K mg base CX0 13 _ _ _ _:=(b2C B dZ3).mono (by decide)
 refine dZ27.F.ok sc_law (λ vs H Q E h=>?_) (λ cdv A outer s H vs Q E hr h=>?_)
 ·obtain ⟨a,ns,rfl,_⟩:=h
  rfl
 obtain ⟨a,ns,rfl,hS,h63,q⟩:=h
 have hu:(A.deeper (PyProof.Rows.envOfC "law" (a0F d0L) s.heap.objs.size dZ27.f cdv)).units+64 < cLine:=hr.units
 refine ⟨_,(a0C (a0J (i:=1) sc_law.nd rfl (Or.inl rfl) (a0Q a3M a0E (a0Q a3N (a0G gZ1 hr rfl dZ1.m dZ1.F.kp dZ1.b .nil a0S (a0A (pv 0) (a0A a0E a0B))) a0E)))
   (a5N (a1X (a0P a3Q (a0Q a3N (a0Q a8H (a0G gZ1 hr rfl dZ1.m dZ1.F.kp dZ1.b .nil a0S (a0A (pv 0) (a0A a0E a0B))) a0E) a0E) a0E (a0U _))
   (a0D (a0J (i:=1) sc_law.nd rfl (Or.inl rfl) (a0Q a3M a0E (a0Q a3N (a0Q a8H (a0G gZ1 hr rfl dZ1.m dZ1.F.kp dZ1.b .nil a0S (a0A (pv 0) (a0A a0E a0B))) a0E) a0E))))
   a0Y)
   (a0C (a0J (i:=2) sc_law.nd rfl (Or.inl rfl) (a0G gZ5 hr rfl dZ5.m dZ5.F.kp dZ5.b .nil a0S (a0A (pv 0) (a0A a0E (a0A (pv 1) a0B)))))
   (a0C (a0J (i:=3) sc_law.nd rfl (Or.inl rfl) (a2H (a0A (pv 1) (a0A (a2M (a3Y (K:=K) rfl) rfl B.list (by decide +kernel) (a0A (pv 2) a0B)) a0B))))
   (a0C (a0J (i:=4) sc_law.nd rfl (Or.inl rfl) (a0G gZ6 hr rfl dZ6.m dZ6.F.kp dZ6.b .nil a0S (a0A (pv 3) (a0A (pv 1) a0B))))
   (a0C (a1X (PW.pt (a4U (a0P b6D (pv 4) a2B (a0U _)) (a4S (a0P (b9Z (K:=K) rfl hu) (pv 3) (a2H (a0A (pv 1) (a0A (pv 2) a0B))) (a0U _)))))
   (a0D (a0N a6U))
   a0Y)
   (a0C (a0J (i:=5) sc_law.nd rfl (Or.inr rfl) (a2V ["_law_part"] [none]  (by kernel_rfl) rfl (a0O (K:=K) rfl (a0V (a0Z (K:=K) rfl) (pv 4) a0E (λ _ _=>rfl))) (λ _ _ _ _ _=>(a0H (i:=0) (show (["_law_part"]:List Str).Nodup by decide +kernel) rfl (Or.inl rfl))) (λ _ _ _ _ _=>a1H) (λ _ _ _ _ _=>(a2M (a3Y (K:=K) rfl) rfl B.list (by decide +kernel) (a0A (pv 0) a0B)))))
   (a0C (a0J (i:=6) sc_law.nd rfl (Or.inl rfl) (a0V (a0Z (K:=K) rfl) (pv 4) a0E (λ _ _=>rfl)))
   (a0C (a1Q PassesOwn.never rfl (a2U rfl B.range (a0A a0E a0B)) (a0H (i:=7) sc_law.nd rfl (Or.inl rfl))
   (a0C (a0J (i:=8) sc_law.nd rfl (Or.inl rfl) (a0G gZ0 hr rfl dZ0.m dZ0.F.kp dZ0.b .nil a0S (a0A (pv 1) (a0A (pv 2) (a0A (a0G gZ7 hr rfl dZ7.m dZ7.F.kp dZ7.b .nil a0S (a0A (pv 0) (a0A (a0Q a3M a0E (pv 7)) (a0A (pv 1) a0B)))) (a0A (a4E a3Q (a0Q a3N (a0Q a8H (a0G gZ1 hr rfl dZ1.m dZ1.F.kp dZ1.b .nil a0S (a0A (pv 0) (a0A a0E a0B))) (a0Q a3M (pv 7) a0E)) a0E) a0E (a0U _)) a0B))))))
   (a0C (a1X (a0P d1A (a0I (c0Q (K:=K) rfl rfl) rfl B.max (by decide +kernel) (a0A (a2V ["_law_bag"] [none]  (by kernel_rfl) rfl (a0O (K:=K) rfl (pv 8)) (λ _ _ _ _ _=>(a0H (i:=0) (show (["_law_bag"]:List Str).Nodup by decide +kernel) rfl (Or.inl rfl))) (λ _ _ _ _ _=>a1H) (λ _ _ _ _ _=>(a0I (a0T (K:=K) rfl) rfl B.len (by decide +kernel) (a0A (pv 0) a0B)))) a0B)) (pv 6) (a0U _))
   (a0D (a0N a6U))
   a0Y)
   (a0D (a1X (a0P a3Q (a0I (a0T (K:=K) rfl) rfl B.len (by decide +kernel) (a0A (a2V ["_law_bag", "_law_sets"] [none,some 5]  (by kernel_rfl) rfl (a0O (K:=K) rfl (pv 8)) (λ _ _ _ _ _=>(a0H (i:=0) (show (["_law_bag", "_law_sets"]:List Str).Nodup by decide +kernel) rfl (Or.inl rfl))) (λ _ _ _ _ _=>(a2S (a0R (K:=K) rfl (a0G gZ3 hr rfl dZ3.m dZ3.F.kp dZ3.b .nil a0S (a0A (pv 0) (a0A (pv 1) a0B))) (λ _=>rfl)))) (λ _ _ _ _ _=>(pv 0))) a0B)) a0E (a0U _))
   (a0D (a0N a6U))
   a0Y)))))
   (a0C (a1X (a0P a3Q (a0I (a0T (K:=K) rfl) rfl B.len (by decide +kernel) (a0A (a2V ["_law_row", "_law_sets"] [none,some 5]  (by kernel_rfl) rfl (a0O (K:=K) rfl (a0V (a0Z (K:=K) rfl) (pv 4) a0E (λ _ _=>rfl))) (λ _ _ _ _ _=>(a0H (i:=0) (show (["_law_row", "_law_sets"]:List Str).Nodup by decide +kernel) rfl (Or.inl rfl))) (λ _ _ _ _ _=>(a2S (a0R (K:=K) rfl (a0G gZ3 hr rfl dZ3.m dZ3.F.kp dZ3.b .nil a0S (a0A (a0V (a0Z (K:=K) rfl) (pv 0) a0E (λ _ _=>rfl)) (a0A (pv 1) a0B))) (λ _=>rfl)))) (λ _ _ _ _ _=>(pv 0))) a0B)) a0E (a0U _))
   (a0D (a0N a6U))
   a0Y)
   (a0C (a1X (a0P b4R (pv 1) a0E (a0U _))
   (a0D (a0N a6U))
   a0Y)
   (a0C (a2D (b4W (K:=K) rfl PySem.F.plainAttrs_list PySem.F.slot_list_clear PySem.F.type_list_clear c0B (a0V (a0Z (K:=K) rfl) (pv 4) a0E (λ _ _=>rfl))))
   (a0C (a2D (a3F (K:=K) rfl PySem.F.plainAttrs_list PySem.F.slot_list_append PySem.F.type_list_append a1V (a0V (a0Z (K:=K) rfl) (pv 4) a0E (λ _ _=>rfl)) (a0A (a2H (a0A a0E (a0A (a1M (a0A (pv 1) a0B)) a0B))) a0B)))
   (a0C (a0J (i:=9) sc_law.nd rfl (Or.inl rfl) (a0G gZ6 hr rfl dZ6.m dZ6.F.kp dZ6.b .nil a0S (a0A (pv 3) (a0A (pv 1) a0B))))
   (a0D (a0N (a9W (a4E a5M (pv 9) a2B (a0U _)) (a9W (a4E a3Q (a0V (a0Z (K:=K) rfl) (pv 9) a0E (λ _ _=>rfl)) (pv 6) (a0U _)) (a9V (a4E (c8C (K:=K) rfl hu) (pv 3) (a2H (a0A (pv 1) (a0A (pv 2) a0B))) (a0U _))))))))))))))))))))),?_⟩
 have c0:=Int.emod_nonneg (a4H ns 0) (show (6:Int)≠0 by decide)
 have c1:=Int.emod_lt_of_pos (a4H ns 0) (show (0:Int) < 6 by decide)
 refine ⟨_,rfl,a,ns,0,rfl,hS.seq,h63,by decide,by decide,_,_,rfl,rfl,(show (0:Int) < 6 by decide),_,_,rfl,rfl,?_⟩
 refine ⟨λ σ' H'=>∃ n:Nat,n<=10/\0 < n/\σ'=[some (.ref a),some (.int (n:Int)),none,none,none,none,none,none,none,none]/\H'=H,?_,?_⟩
 ·refine ⟨_,rfl,a,ns,0,rfl,hS.seq,h63,by decide,by decide,_,_,rfl,rfl,⟨by decide,by decide⟩,_,_,rfl,rfl,(show (0:Int) < 9 by decide),rfl,_,rfl,ite2 (λ c=>?_) (λ c=>?_)⟩
  ·have d0:=Int.emod_nonneg (a4H ns 0 / 54) (show (3:Int)≠0 by decide)
   have d1:=Int.emod_lt_of_pos (a4H ns 0 / 54) (show (0:Int) < 3 by decide)
   refine ⟨_,rfl,a,ns,0,rfl,hS.seq,h63,by decide,by decide,_,_,rfl,rfl,⟨by decide,by decide⟩,_,_,rfl,rfl,(show (0:Int) < 3 by decide),_,_,rfl,rfl,?_⟩
   refine ⟨(7+a4H ns 0 / 54 % 3).toNat,by omega,by omega,?_,rfl⟩
   rw [show (((7+a4H ns 0 / 54 % 3).toNat:Nat):Int)=7+a4H ns 0 / 54 % 3 by omega]
   rfl
  ·refine ⟨(1+a4H ns 0 % 6).toNat,by omega,by omega,?_,rfl⟩
   rw [show (((1+a4H ns 0 % 6).toNat:Nat):Int)=1+a4H ns 0 % 6 by omega]
   rfl
 rintro σ' H' ⟨n,hn,n0,rfl,rfl⟩
 refine ⟨_,rfl,_,rfl,a,ns,1,n,rfl,hS.seq,h63,by decide,by decide,hn,λ rt xs ts H1 s1 f1 h1 p1 w1 z1=>?_⟩
 have lx:=Paired.length p1
 have okt:=w1.ok
 have nd:ts.Nodup:=w1.up.imp λ {a b} h z=>by
  subst z
  unfold lexT at h
  omega
 have pT:∀ {H':Hp},Same H1 H'->Paired (TieL H') xs ts:=λ {H'} s=>Paired.mapP p1 λ _ _ q=>TieL.same s q
 refine ⟨_,rfl,_,rfl,rt,_,rfl,.inl (SqL.of h1),λ rl H2 n2=>⟨(by show 2<=1000; decide),λ pw H3 n3=>?_⟩⟩
 have s13:=n2.same.trans n3.same
 have hG:GraphV K H3 (.ref pw) n ts:=⟨pw,rl,rfl,SqT.of n3.here,xs,SqL.of (n3.same _ _ n2.here),Paired.mapP (pT s13) λ _ _ q=>q.v,by omega⟩
 have web:∀ {H' p},Same H1 H'->H' p=some (.tup [.int (n:Int),.ref rt])->GraphV K H' (.ref p) n ts:=λ {H' p} s h=>⟨p,rt,rfl,SqT.of h,xs,SqL.of (s _ _ h1),Paired.mapP (pT s) λ _ _ q=>q.v,by omega⟩
 refine ⟨_,rfl,_,rfl,.ref pw,n,ts,rfl,hG,okt,hn,n0,z1,λ f p fq z fs R rs H4 s4 hf fp hp dR T cov fw g1 z0 ffq pc TD=>?_⟩
 obtain ⟨qs,hq4,nq,fqs,pq⟩:=pc
 have lf:=Paired.length dR
 have lqr:=Paired.length pq
 have few:=TD.few
 have l20:=T.len
 have Tp:=T.p
 have l10:∀ y∈rs,y.length<=10:=λ y hy=>Nat.le_trans (a3P (m:=n) ((TD.up y hy).imp λ h=>Nat.ne_of_lt h) (TD.lt y hy)) hn
 have s14:=s13.trans s4
 refine ⟨_,rfl,rfl,_,rfl,iteF ?_⟩
 refine ⟨_,rfl,_,rfl,_,rfl,(by show 2<=1000; decide),λ p5 H5 n5=>?_⟩
 have s45:=n5.same
 refine ⟨_,_,((hG.same s4).same s45).isD,(web (s14.trans s45) n5.here).isD,a3C _ _,a3C _ _,_,rfl,?_⟩
 rw [if_pos rfl,b1B (a3C _ _)]
 refine iteF ?_
 have hf5:=s45 _ _ hf
 have hq5:=s45 _ _ hq4
 have pq5:Paired (λ q l=>H5 q=some (.lst (natV l))) qs rs:=Paired.mapP pq λ _ _ h=>s45 _ _ h
 refine ⟨_,rfl,f,_,_,_,rfl,rfl,SqT.of hf5,rfl,fq,rfl,⟨_,SqL.of hq5⟩,?_⟩
 refine a4G (K:=K) (a:=fq) (xs:=qs.map V.ref) (λ i ys G=>Same H5 G/\∃ ws:List Addr,ys=ws.map V.ref/\Paired (λ q l=>G q=some (.lst (natV l))) ws (rs.take i)) ⟨Same.refl _,[],rfl,.nil⟩ (λ i ys G hi ⟨s,ws,e,pw'⟩=>⟨SqL.of (s _ _ hq5),?_⟩) (λ i x ys G hx ⟨s,ws,e,pw'⟩=>?_) ?_
 ·have:=Paired.length pw'
  rw [List.length_take] at this
  rw [e,List.length_map]
  exact Nat.le_of_lt (a1E (by omega))
 ·rw [List.getElem?_map] at hx
  obtain ⟨qi,hqi,rfl⟩:=Option.map_eq_some_iff.mp hx
  obtain ⟨y,hy,hqp⟩:=a1A pq5 hqi
  refine ⟨_,rfl,qi,_,rfl,.inl (SqL.of (s _ _ hqp)),λ pn G2 n3'=>⟨s.trans n3'.same,ws++[pn],by rw [e,List.map_append]; rfl,?_⟩⟩
  obtain ⟨hil,hix⟩:=List.getElem?_eq_some_iff.mp hy
  rw [List.take_succ_eq_append_getElem hil,hix]
  exact a1T (Paired.mapP pw' λ _ _ h=>n3'.same _ _ h) n3'.here
 intro ys H6 ⟨s56,ws,eys,pws⟩ ps hps
 subst eys
 rw [List.length_map,lqr,List.take_length] at pws
 have n7:=New.mk0 (o:=.lst (ws.map V.ref)) hps
 generalize upd H6 ps (.lst (ws.map V.ref))=H7 at n7
 have s47:Same H4 H7:=s45.trans (s56.trans n7.same)
 have hsets:∀ {H'},Same H7 H'->b8V H' ps rs:=λ {H'} s=>⟨ws,s _ _ n7.here,Paired.mapP pws λ _ _ h=>s _ _ (n7.same _ _ h)⟩
 have hf7:=s47 _ _ hf
 refine ⟨_,rfl,f,_,_,_,rfl,rfl,SqT.of hf7,rfl,?_⟩
 have s17:=s14.trans s47
 refine ⟨3,rfl,by decide,by decide,?_⟩
 refine a3D (n:=3) (λ i σ H'=>(∃ kk bb:Option V,σ=[some (.ref a),some (.int (n:Int)),some (.ref rt),some (.ref pw),some (.ref f),some (.ref ps),some (.int z),kk,bb,none])/\Same H7 H') ⟨⟨_,_,rfl⟩,Same.refl _⟩ ?_ ?_
 ·rintro i σ H8 hi ⟨⟨kk,bb,rfl⟩,s8⟩
  have ei:(0+(i:Int))=((i:Nat):Int):=by omega
  rw [ei]
  have s18:=s17.trans s8
  have hS8:=(s1.trans s18).seq hS.seq
  refine ⟨_,rfl,_,rfl,_,rfl,_,rfl,_,_,rfl,rfl,_,rfl,a,ns,5+(i:Int),n,rfl,hS8,h63,by omega,by omega,hn,λ ro os H9 s9 h9 po=>?_⟩
  have hS9:=s9.seq hS8
  refine ⟨_,rfl,a,ns,4,rfl,hS9,h63,by decide,by decide,_,rfl,_,_,rfl,rfl,_,_,rfl,rfl,⟨by omega,by omega⟩,_,_,rfl,rfl,(show (0:Int) < 2 by decide),rfl,?_⟩
  have s19:=s18.trans s9
  refine ⟨n,rt,ro,_,xs,ts,os,rfl,SqL.of (s19 _ _ h1),Paired.mapP (pT s19) λ _ _ q=>q.v,okt,nd,z1,hn,SqL.of h9,po,λ pb bq bs es H10 s10 hb10 pb10 lb lbs fr=>?_⟩
  obtain ⟨l,hl,ml,zl⟩:=b5W hn z0 TD fr
  have lbq:=Paired.length pb10
  have s710:Same H7 H10:=s8.trans (s9.trans s10)
  refine ⟨_,rfl,pb,rfl,⟨_,SqL.of hb10⟩,?_⟩
  refine b2S (λ j=>some (.int (((bs.getD j []).length:Nat):Int))) (SqL.of hb10) (by rw [List.length_map]; omega) (λ j x H11 N hj s11 hN=>?_) (λ H11 p12 H12 s11 n12=>?_)
  ·rw [List.getElem?_map] at hj
   obtain ⟨qj,hqj,rfl⟩:=Option.map_eq_some_iff.mp hj
   obtain ⟨y,hy,hqy⟩:=a1A pb10 hqj
   have hN':=hN H11 s11
   try dsimp only at hN'
   rw [show bs.getD j []=y by rw [τα,hy]; rfl] at hN'
   refine ⟨_,rfl,qj,_,rfl,.inl (SqL.of (s11 _ _ hqy)),?_⟩
   rw [List.length_map]
   exact hN'
  have e12:(List.range (bq.map V.ref).length).filterMap (λ j=>some (V.int (((bs.getD j []).length:Nat):Int)))=(bs.map λ y=>((y.length:Nat):Int)).map V.int:=by
   rw [List.length_map,lbq]
   have:(List.range bs.length).filterMap (λ j=>some (V.int (((bs.getD j []).length:Nat):Int)))=(List.range bs.length).map λ j=>V.int (((bs.getD j []).length:Nat):Int):=a3R λ _ _=>rfl
   rw [this,List.map_map]
   refine List.ext_getElem? λ j=>?_
   rw [List.getElem?_map,List.getElem?_map]
   by_cases c:j < bs.length
   ·rw [List.getElem?_range c,List.getElem?_eq_getElem c]
    show some (V.int (((bs.getD j []).length:Nat):Int))=some (V.int ((bs[j].length:Nat):Int))
    rw [τα,List.getElem?_eq_getElem c]
    rfl
   ·rw [List.getElem?_eq_none (by rw [List.length_range]; omega),List.getElem?_eq_none (by omega)]
    rfl
  rw [e12] at n12
  have s1012:=s11.trans n12.same
  have pos:0 < bs.length:=List.length_pos_of_mem hl
  refine ⟨p12,_,rfl,SqL.of n12.here,by rw [List.length_map]; exact pos,λ M hM allM=>?_⟩
  have Mz:z < M:=by
   have:=allM _ (List.mem_map.mpr ⟨l,hl,rfl⟩)
   omega
  refine ⟨_,rfl,_,_,rfl,rfl,_,rfl,?_⟩
  rw [show decide (M<=z)=false from decide_eq_false (by omega)]
  refine iteF ?_
  have s712:=s710.trans s1012
  refine ⟨_,rfl,pb,rfl,⟨_,SqL.of (s1012 _ _ hb10)⟩,?_⟩
  refine a4G (K:=K) (a:=pb) (xs:=bq.map V.ref) (λ j ys G=>Same H12 G/\ys.length<=j/\((∃ y∈bs.take j,a9H y rs)->0 < ys.length)) ⟨Same.refl _,Nat.le_refl _,λ ⟨y,hy,_⟩=>by simp at hy⟩ (λ j ys G hj ⟨s,e,_⟩=>⟨SqL.of (s _ _ (s1012 _ _ hb10)),Nat.le_of_lt (a1E (by rw [List.length_map] at hj; omega))⟩) (λ j x ys G hx ⟨s,e,ex⟩=>?_) ?_
  ·rw [List.getElem?_map] at hx
   obtain ⟨qj,hqj,rfl⟩:=Option.map_eq_some_iff.mp hx
   obtain ⟨y,hy,hqy⟩:=a1A pb10 hqj
   have et:bs.take (j+1)=bs.take j++[y]:=by rw [List.take_succ,hy]; rfl
   refine ⟨_,rfl,_,rfl,qj,ps,y,rs,rfl,SqL.of (s _ _ (s1012 _ _ hqy)),hsets (s712.trans s),l10,by omega,λ t H' s' ht=>⟨_,rfl,?_⟩⟩
   cases t with
   | true =>
    refine iteT ⟨_,rfl,s.trans s',?_,λ _=>?_⟩
    ·rw [List.length_append]; show _+1<=_; omega
    ·rw [List.length_append]; show 0 < _+1; omega
   | false =>
    refine iteF ⟨s.trans s',by omega,λ ⟨y',hy',m⟩=>?_⟩
    rw [et] at hy'
    rcases List.mem_append.mp hy' with hy' | hy'
    ·exact ex ⟨y',hy',m⟩
    ·rw [List.mem_singleton.mp hy'] at m
     exact absurd (ht.mpr m) (by decide)
  intro ys' H13 ⟨s1213,ly,exy⟩ p14 hp14
  rw [List.length_map,lbq,List.take_length] at exy
  have pos2:=exy ⟨l,hl,ml⟩
  have n14:=New.mk0 (o:=.lst ys') hp14
  generalize upd H13 p14 (.lst ys')=H14 at n14
  refine ⟨p14,_,rfl,.inl (SqL.of n14.here),rfl,_,rfl,?_⟩
  rw [show decide (V.int ((ys'.length:Nat):Int)=V.int 0)=false from decide_eq_false λ w=>by
   have:=V.int.inj w
   omega]
  exact iteF ⟨⟨_,_,rfl⟩,s712.trans (s1213.trans n14.same)⟩
 rintro σ H8 ⟨⟨kk,bb,rfl⟩,s8⟩
 have s48:=s47.trans s8
 have hp8:=s48 _ _ hp
 obtain ⟨j0,j0l,m0⟩:=b4N Tp cov TD
 refine ⟨_,rfl,f,_,_,_,rfl,rfl,SqT.of (s48 _ _ hf),rfl,p,rfl,⟨_,SqL.of hp8⟩,?_⟩
 refine a4G (K:=K) (a:=p) (xs:=fs) (λ j ys G=>Same H8 G/\ys.length<=j/\((∃ y∈R.take j,a9H y.2 rs)->0 < ys.length)) ⟨Same.refl _,Nat.le_refl _,λ ⟨y,hy,_⟩=>by simp at hy⟩ (λ j ys G hj ⟨s,e,_⟩=>⟨SqL.of (s _ _ hp8),Nat.le_of_lt (a1E (by omega))⟩) (λ j x ys G hx ⟨s,e,ex⟩=>?_) ?_
 ·obtain ⟨y,hy,pt,b,rfl,q1,q2,_⟩:=a1A dR hx
  have et:R.take (j+1)=R.take j++[y]:=by rw [List.take_succ,hy]; rfl
  have q1':=s _ _ (s48 _ _ q1)
  refine ⟨_,rfl,pt,_,_,_,rfl,rfl,SqT.of q1',rfl,_,rfl,b,ps,y.2,rs,rfl,SqL.of (s _ _ (s48 _ _ q2)),hsets (s8.trans s),l10,by omega,λ t H' s' ht=>⟨_,rfl,?_⟩⟩
  cases t with
  | true =>
   refine iteT ⟨_,rfl,s.trans s',?_,λ _=>?_⟩
   ·rw [List.length_append]; show _+1<=_; omega
   ·rw [List.length_append]; show 0 < _+1; omega
  | false =>
   refine iteF ⟨s.trans s',by omega,λ ⟨y',hy',m⟩=>?_⟩
   rw [et] at hy'
   rcases List.mem_append.mp hy' with hy' | hy'
   ·exact ex ⟨y',hy',m⟩
   ·rw [List.mem_singleton.mp hy'] at m
    exact absurd (ht.mpr m) (by decide)
 intro ys' H9 ⟨s89,ly,exy⟩ p10 hp10
 rw [lf,List.take_length] at exy
 have hmR:a0K R j0∈R:=by
  unfold a0K
  rw [τα,List.getElem?_eq_getElem j0l]
  exact List.getElem_mem _
 have pos2:=exy ⟨_,hmR,m0⟩
 have n10:=New.mk0 (o:=.lst ys') hp10
 generalize upd H9 p10 (.lst ys')=H10 at n10
 refine ⟨p10,_,rfl,.inl (SqL.of n10.here),rfl,_,rfl,?_⟩
 rw [show decide (V.int ((ys'.length:Nat):Int)=V.int 0)=false from decide_eq_false λ w=>by
  have:=V.int.inj w
  omega]
 refine iteF ?_
 refine ⟨_,rfl,_,_,rfl,rfl,_,rfl,ite2 (λ _=>q _) (λ _=>?_)⟩
 have s410:=s48.trans (s89.trans n10.same)
 have hf10:=s410 _ _ hf
 have hq10:=s410 _ _ hq4
 have hp10':=s410 _ _ hp
 refine ⟨_,rfl,f,_,_,_,rfl,rfl,SqT.of hf10,rfl,.inl ⟨rfl,_,SqL.of hq10⟩,fq,_,rfl,rfl,hq10,λ H11 c11=>?_⟩
 have ffq3:H3 fq=none:=ffq
 have fp3:H3 p=none:=fp
 have s311:Same H3 H11:=(s4.trans s410).chg ffq3 c11
 have nfq:f≠fq:=c3X hf10 hq10 (by intro w; cases w)
 have hf11:H11 f=some (.tup [.int z,.ref p,.ref fq]):=(c11.rest f nfq).trans hf10
 have hp11:∃ xs',H11 p=some (.lst xs')/\xs'.length<=1000 - 1:=by
  by_cases c:p=fq
  ·rw [c]; exact ⟨_,c11.here,by decide⟩
  ·exact ⟨fs,(c11.rest p c).trans hp10',by omega⟩
 obtain ⟨xs',hp11,lxs⟩:=hp11
 refine ⟨_,rfl,f,_,_,_,rfl,rfl,SqT.of hf11,rfl,.inl ⟨rfl,_,SqL.of hp11⟩,_,rfl,(by show 1<=1000; decide),λ p12 H12 n12=>⟨(by show 2<=1000; decide),λ p13 H13 n13=>?_⟩⟩
 have hp13:=n13.same _ _ (n12.same _ _ hp11)
 refine ⟨p,_,_,rfl,rfl,hp13,by omega,λ H14 c14=>?_⟩
 have s314:Same H3 H14:=(s311.trans (n12.same.trans n13.same)).chg fp3 c14
 have hG14:=hG.same s314
 refine ⟨_,rfl,_,rfl,.ref pw,n,ts,rfl,hG14,okt,hn,n0,z1,λ f' p' fq' z' fs' R' rs' H15 s15 hf' fp' hp' dR' T' cov' fw' g1' z0' ffq' pc' TD'=>?_⟩
 have ez:z'=z:=by
  have a1:=b0S Tp cov g1 TD'
  have a2:=b0S T'.p cov' g1' TD
  omega
 subst ez
 refine ⟨_,rfl,rfl,_,rfl,iteT ?_⟩
 refine ⟨_,rfl,f',_,_,_,rfl,rfl,SqT.of hf',rfl,_,rfl,rfl,_,rfl,?_⟩
 rw [decide_eq_true rfl]
 refine iteT ?_
 refine ⟨_,rfl,_,rfl,_,rfl,(by show 2<=1000; decide),λ p16 H16 n16=>?_⟩
 have s316:=s314.trans (s15.trans n16.same)
 refine ⟨_,_,(hG.same s316).isD,(web (s13.trans s316) n16.here).isD,a3C _ _,a3C _ _,?_⟩
 rw [if_neg Bool.false_ne_true,b1B (a3C _ _)]
 exact q _
end
end K
open PySem PySem.W PyProof.Rows
def PySem.W.Fast.tw9337413171736591948 : Unit := ()
def PySem.W.Fast.tw16289339581520125251 : Unit := ()
def PySem.W.Fast.tw12944092773052852165 : Unit := ()
def PySem.W.Fast.tw7917567459179162977 : Unit := ()
def PySem.W.Fast.tw478593218579424796 : Unit := ()
def PySem.W.Fast.tw14031851657011675599 : Unit := ()
def PySem.W.Fast.tw3546900572077806500 : Unit := ()
def PySem.W.Fast.tw17050409194730431427 : Unit := ()
def PySem.W.Fast.tw15418982087868935510 : Unit := ()
def PySem.W.Fast.tw11277784924220556950 : Unit := ()
def PySem.W.Fast.tw9868457887287350702 : Unit := ()
def PySem.W.Fast.tw1660655601809286467 : Unit := ()
def PySem.W.Fast.tw15216132112461758684 : Unit := ()
def PySem.W.Fast.tw3798356522509097477 : Unit := ()
def PySem.W.Fast.tw4342287773566430326 : Unit := ()
def PySem.W.Fast.tw3845746847577748098 : Unit := ()
def PySem.W.Fast.tw15482616921526292865 : Unit := ()
def PySem.W.Fast.tw15237349008941765940 : Unit := ()
def PySem.W.Fast.tw13842118273447699030 : Unit := ()
def PySem.W.Fast.tw1162903739012517596 : Unit := ()
def PySem.W.Fast.tw9795806302719119587 : Unit := ()
def PySem.W.Fast.tw14946127464029156515 : Unit := ()
def PySem.W.Fast.tw3005055047165029674 : Unit := ()
def PySem.W.Fast.tw12420504311979637178 : Unit := ()
set_option maxRecDepth 100000 in
set_option maxHeartbeats 0 in
theorem PySem.Challenge.cw_bagwood_k91_whole_no_tree_is_narrower_holds : PySem.Challenge.rw_bagwood_k91_whole_no_tree_is_narrower.Holds := by
 w_on; o_law; k_head; (case hw => w_witness2)
 k_fill
 refine L2.walk_ofK (l := PySem.Challenge.rw_bagwood_k91_whole_no_tree_is_narrower) (n := 63) (k := 14) (x := "_law_script") (CX := L2.CX0) (sp := Lw.spLaw) rfl (by decide) rfl ⟨rfl, by decide, by decide⟩ (fun w h Y => PySem.W.kIn_of Y) ?F ?S ?C
 case F =>
  intro w mg fa h KX G hmg
  have B : L2.Bl mg := by
   refine' L2.bl_mk KX G ?z1 ?z2 ?z3 ?z4 ?z5 ?z6 ?z7 ?z8 ?z9 ?z10 ?z11 ?z12 ?z13 ?z14 ?z15 ?z16 ?z17
   all_goals k_is
  have Bs : mg "sum" = none := by
   refine' PySem.W.mg_none_of KX G ?z
   k_is
  have dZ32 : Nonempty (L2.Dn (L2.KOf KX) mg "mask_of" K.b3U ["places"]) := by
   dsimp only [L2.KOf]
   refine' L2.dn_mk1 KX G ?a ?l ?c ?k rfl (fun _ _ _ _ _ _ _ => rfl)
   (case a => k_is); (case l => k_is); (case c => k_is); (case k => k_is)
  obtain ⟨dZ32⟩ := dZ32
  have dZ38 : Nonempty (L2.Dn (L2.KOf KX) mg "places_of" K.a8Z ["mask"]) := by
   dsimp only [L2.KOf]
   refine' L2.dn_mk1 KX G ?a ?l ?c ?k rfl (fun _ _ _ _ _ _ _ => rfl)
   (case a => k_is); (case l => k_is); (case c => k_is); (case k => k_is)
  obtain ⟨dZ38⟩ := dZ38
  have dZ33 : Nonempty (L2.Dn (L2.KOf KX) mg "mask_sizes" K.a7N ["n"]) := by
   dsimp only [L2.KOf]
   refine' L2.dn_mk1 KX G ?a ?l ?c ?k rfl (fun _ _ _ _ _ _ _ => rfl)
   (case a => k_is); (case l => k_is); (case c => k_is); (case k => k_is)
  obtain ⟨dZ33⟩ := dZ33
  have dZ17 : Nonempty (L2.Dn (L2.KOf KX) mg "first_bags" K.a7L ["graph"]) := by
   dsimp only [L2.KOf]
   refine' L2.dn_mk1 KX G ?a ?l ?c ?k rfl (fun _ _ _ _ _ _ _ => rfl)
   (case a => k_is); (case l => k_is); (case c => k_is); (case k => k_is)
  obtain ⟨dZ17⟩ := dZ17
  have dZ44 : Nonempty (L2.Dn (L2.KOf KX) mg "taken_out" K.a9A ["bags", "v"]) := by
   dsimp only [L2.KOf]
   refine' L2.dn_mk2 KX G ?a ?l ?c ?k rfl (fun _ _ _ _ _ _ _ _ => rfl)
   (case a => k_is); (case l => k_is); (case c => k_is); (case k => k_is)
  obtain ⟨dZ44⟩ := dZ44
  have dZ8 : Nonempty (L2.Dn (L2.KOf KX) mg "all_bags" K.b0K ["graph"]) := by
   dsimp only [L2.KOf]
   refine' L2.dn_mk1 KX G ?a ?l ?c ?k rfl (fun _ _ _ _ _ _ _ => rfl)
   (case a => k_is); (case l => k_is); (case c => k_is); (case k => k_is)
  obtain ⟨dZ8⟩ := dZ8
  have dZ24 : Nonempty (L2.Dn (L2.KOf KX) mg "is_whole" K.b0G ["thing"]) := by
   dsimp only [L2.KOf]
   refine' L2.dn_mk1 KX G ?a ?l ?c ?k rfl (fun _ _ _ _ _ _ _ => rfl)
   (case a => k_is); (case l => k_is); (case c => k_is); (case k => k_is)
  obtain ⟨dZ24⟩ := dZ24
  have dZ21 : Nonempty (L2.Dn (L2.KOf KX) mg "is_below" K.b0H ["n", "thing"]) := by
   dsimp only [L2.KOf]
   refine' L2.dn_mk2 KX G ?a ?l ?c ?k rfl (fun _ _ _ _ _ _ _ _ => rfl)
   (case a => k_is); (case l => k_is); (case c => k_is); (case k => k_is)
  obtain ⟨dZ21⟩ := dZ21
  have dZ23 : Nonempty (L2.Dn (L2.KOf KX) mg "is_set" K.b6R ["n", "places"]) := by
   dsimp only [L2.KOf]
   refine' L2.dn_mk2 KX G ?a ?l ?c ?k rfl (fun _ _ _ _ _ _ _ _ => rfl)
   (case a => k_is); (case l => k_is); (case c => k_is); (case k => k_is)
  obtain ⟨dZ23⟩ := dZ23
  have dZ12 : Nonempty (L2.Dn (L2.KOf KX) mg "common" K.b1M ["one", "other"]) := by
   dsimp only [L2.KOf]
   refine' L2.dn_mk2 KX G ?a ?l ?c ?k rfl (fun _ _ _ _ _ _ _ _ => rfl)
   (case a => k_is); (case l => k_is); (case c => k_is); (case k => k_is)
  obtain ⟨dZ12⟩ := dZ12
  have dZ25 : Nonempty (L2.Dn (L2.KOf KX) mg "joint" K.c1S ["one", "other"]) := by
   dsimp only [L2.KOf]
   refine' L2.dn_mk2 KX G ?a ?l ?c ?k rfl (fun _ _ _ _ _ _ _ _ => rfl)
   (case a => k_is); (case l => k_is); (case c => k_is); (case k => k_is)
  obtain ⟨dZ25⟩ := dZ25
  have dZ31 : Nonempty (L2.Dn (L2.KOf KX) mg "less" K.c1P ["one", "other"]) := by
   dsimp only [L2.KOf]
   refine' L2.dn_mk2 KX G ?a ?l ?c ?k rfl (fun _ _ _ _ _ _ _ _ => rfl)
   (case a => k_is); (case l => k_is); (case c => k_is); (case k => k_is)
  obtain ⟨dZ31⟩ := dZ31
  have dZ10 : Nonempty (L2.Dn (L2.KOf KX) mg "around" K.b6S ["graph", "v"]) := by
   dsimp only [L2.KOf]
   refine' L2.dn_mk2 KX G ?a ?l ?c ?k rfl (fun _ _ _ _ _ _ _ _ => rfl)
   (case a => k_is); (case l => k_is); (case c => k_is); (case k => k_is)
  obtain ⟨dZ10⟩ := dZ10
  have dZ22 : Nonempty (L2.Dn (L2.KOf KX) mg "is_joined" K.a9E ["graph", "places"]) := by
   dsimp only [L2.KOf]
   refine' L2.dn_mk2 KX G ?a ?l ?c ?k rfl (fun _ _ _ _ _ _ _ _ => rfl)
   (case a => k_is); (case l => k_is); (case c => k_is); (case k => k_is)
  obtain ⟨dZ22⟩ := dZ22
  have dZ37 : Nonempty (L2.Dn (L2.KOf KX) mg "pieces" K.b7B ["graph", "places"]) := by
   dsimp only [L2.KOf]
   refine' L2.dn_mk2 KX G ?a ?l ?c ?k rfl (fun _ _ _ _ _ _ _ _ => rfl)
   (case a => k_is); (case l => k_is); (case c => k_is); (case k => k_is)
  obtain ⟨dZ37⟩ := dZ37
  have dZ36 : Nonempty (L2.Dn (L2.KOf KX) mg "piece_from" K.a7S ["graph", "places", "v"]) := by
   dsimp only [L2.KOf]
   refine' L2.dn_mk3 KX G ?a ?l ?c ?k rfl (fun _ _ _ _ _ _ _ _ _ => rfl)
   (case a => k_is); (case l => k_is); (case c => k_is); (case k => k_is)
  obtain ⟨dZ36⟩ := dZ36
  have dZ40 : Nonempty (L2.Dn (L2.KOf KX) mg "rim" K.d2O ["graph", "places"]) := by
   dsimp only [L2.KOf]
   refine' L2.dn_mk2 KX G ?a ?l ?c ?k rfl (fun _ _ _ _ _ _ _ _ => rfl)
   (case a => k_is); (case l => k_is); (case c => k_is); (case k => k_is)
  obtain ⟨dZ40⟩ := dZ40
  have dZ26 : Nonempty (L2.Dn (L2.KOf KX) mg "later" K.c1Z ["graph", "order"]) := by
   dsimp only [L2.KOf]
   refine' L2.dn_mk2 KX G ?a ?l ?c ?k rfl (fun _ _ _ _ _ _ _ _ => rfl)
   (case a => k_is); (case l => k_is); (case c => k_is); (case k => k_is)
  obtain ⟨dZ26⟩ := dZ26
  have dZ39 : Nonempty (L2.Dn (L2.KOf KX) mg "refuse_no_order" K.a4B ["n", "order"]) := by
   dsimp only [L2.KOf]
   refine' L2.dn_mk2 KX G ?a ?l ?c ?k rfl (fun _ _ _ _ _ _ _ _ => rfl)
   (case a => k_is); (case l => k_is); (case c => k_is); (case k => k_is)
  obtain ⟨dZ39⟩ := dZ39
  have dZ46 : Nonempty (L2.Dn (L2.KOf KX) mg "tree_of" K.b3V ["graph", "order"]) := by
   dsimp only [L2.KOf]
   refine' L2.dn_mk2 KX G ?a ?l ?c ?k rfl (fun _ _ _ _ _ _ _ _ => rfl)
   (case a => k_is); (case l => k_is); (case c => k_is); (case k => k_is)
  obtain ⟨dZ46⟩ := dZ46
  have dZ45 : Nonempty (L2.Dn (L2.KOf KX) mg "tidied" K.b6Z ["tree"]) := by
   dsimp only [L2.KOf]
   refine' L2.dn_mk1 KX G ?a ?l ?c ?k rfl (fun _ _ _ _ _ _ _ => rfl)
   (case a => k_is); (case l => k_is); (case c => k_is); (case k => k_is)
  obtain ⟨dZ45⟩ := dZ45
  have dZ9 : Nonempty (L2.Dn (L2.KOf KX) mg "are_crossed" K.a6L ["one", "other"]) := by
   dsimp only [L2.KOf]
   refine' L2.dn_mk2 KX G ?a ?l ?c ?k rfl (fun _ _ _ _ _ _ _ _ => rfl)
   (case a => k_is); (case l => k_is); (case c => k_is); (case k => k_is)
  obtain ⟨dZ9⟩ := dZ9
  have dZ13 : Nonempty (L2.Dn (L2.KOf KX) mg "costs" K.c2A ["graph"]) := by
   dsimp only [L2.KOf]
   refine' L2.dn_mk1 KX G ?a ?l ?c ?k rfl (fun _ _ _ _ _ _ _ => rfl)
   (case a => k_is); (case l => k_is); (case c => k_is); (case k => k_is)
  obtain ⟨dZ13⟩ := dZ13
  have dZ14 : Nonempty (L2.Dn (L2.KOf KX) mg "costs_along" K.a6G ["bags"]) := by
   dsimp only [L2.KOf]
   refine' L2.dn_mk1 KX G ?a ?l ?c ?k rfl (fun _ _ _ _ _ _ _ => rfl)
   (case a => k_is); (case l => k_is); (case c => k_is); (case k => k_is)
  obtain ⟨dZ14⟩ := dZ14
  have dZ43 : Nonempty (L2.Dn (L2.KOf KX) mg "start" K.c2M ["graph", "places"]) := by
   dsimp only [L2.KOf]
   refine' L2.dn_mk2 KX G ?a ?l ?c ?k rfl (fun _ _ _ _ _ _ _ _ => rfl)
   (case a => k_is); (case l => k_is); (case c => k_is); (case k => k_is)
  obtain ⟨dZ43⟩ := dZ43
  have dZ19 : Nonempty (L2.Dn (L2.KOf KX) mg "free_start" K.a7O ["bags", "barred", "mask"]) := by
   dsimp only [L2.KOf]
   refine' L2.dn_mk3 KX G ?a ?l ?c ?k rfl (fun _ _ _ _ _ _ _ _ _ => rfl)
   (case a => k_is); (case l => k_is); (case c => k_is); (case k => k_is)
  obtain ⟨dZ19⟩ := dZ19
  have dZ30 : Nonempty (L2.Dn (L2.KOf KX) mg "least_width" K.a6I ["graph"]) := by
   dsimp only [L2.KOf]
   refine' L2.dn_mk1 KX G ?a ?l ?c ?k rfl (fun _ _ _ _ _ _ _ => rfl)
   (case a => k_is); (case l => k_is); (case c => k_is); (case k => k_is)
  obtain ⟨dZ30⟩ := dZ30
  have dZ28 : Nonempty (L2.Dn (L2.KOf KX) mg "least_order" K.a6J ["graph"]) := by
   dsimp only [L2.KOf]
   refine' L2.dn_mk1 KX G ?a ?l ?c ?k rfl (fun _ _ _ _ _ _ _ => rfl)
   (case a => k_is); (case l => k_is); (case c => k_is); (case k => k_is)
  obtain ⟨dZ28⟩ := dZ28
  have dZ29 : Nonempty (L2.Dn (L2.KOf KX) mg "least_tree" K.a7R ["graph"]) := by
   dsimp only [L2.KOf]
   refine' L2.dn_mk1 KX G ?a ?l ?c ?k rfl (fun _ _ _ _ _ _ _ => rfl)
   (case a => k_is); (case l => k_is); (case c => k_is); (case k => k_is)
  obtain ⟨dZ29⟩ := dZ29
  have dZ18 : Nonempty (L2.Dn (L2.KOf KX) mg "flaw" K.c7J ["graph", "sets"]) := by
   dsimp only [L2.KOf]
   refine' L2.dn_mk2 KX G ?a ?l ?c ?k rfl (fun _ _ _ _ _ _ _ _ => rfl)
   (case a => k_is); (case l => k_is); (case c => k_is); (case k => k_is)
  obtain ⟨dZ18⟩ := dZ18
  have dZ34 : Nonempty (L2.Dn (L2.KOf KX) mg "nearby" K.b7C ["bags", "places"]) := by
   dsimp only [L2.KOf]
   refine' L2.dn_mk2 KX G ?a ?l ?c ?k rfl (fun _ _ _ _ _ _ _ _ => rfl)
   (case a => k_is); (case l => k_is); (case c => k_is); (case k => k_is)
  obtain ⟨dZ34⟩ := dZ34
  have dZ16 : Nonempty (L2.Dn (L2.KOf KX) mg "family" K.b7N ["graph"]) := by
   dsimp only [L2.KOf]
   refine' L2.dn_mk1 KX G ?a ?l ?c ?k rfl (fun _ _ _ _ _ _ _ => rfl)
   (case a => k_is); (case l => k_is); (case c => k_is); (case k => k_is)
  obtain ⟨dZ16⟩ := dZ16
  have dZ20 : Nonempty (L2.Dn (L2.KOf KX) mg "grown" K.c3L ["graph", "sets"]) := by
   dsimp only [L2.KOf]
   refine' L2.dn_mk2 KX G ?a ?l ?c ?k rfl (fun _ _ _ _ _ _ _ _ => rfl)
   (case a => k_is); (case l => k_is); (case c => k_is); (case k => k_is)
  obtain ⟨dZ20⟩ := dZ20
  have dZ15 : Nonempty (L2.Dn (L2.KOf KX) mg "covers_also" K.a6O ["covers", "part"]) := by
   dsimp only [L2.KOf]
   refine' L2.dn_mk2 KX G ?a ?l ?c ?k rfl (fun _ _ _ _ _ _ _ _ => rfl)
   (case a => k_is); (case l => k_is); (case c => k_is); (case k => k_is)
  obtain ⟨dZ15⟩ := dZ15
  have dZ42 : Nonempty (L2.Dn (L2.KOf KX) mg "small_cover" K.a6P ["covers", "sizes", "wide"]) := by
   dsimp only [L2.KOf]
   refine' L2.dn_mk3 KX G ?a ?l ?c ?k rfl (fun _ _ _ _ _ _ _ _ _ => rfl)
   (case a => k_is); (case l => k_is); (case c => k_is); (case k => k_is)
  obtain ⟨dZ42⟩ := dZ42
  have dZ11 : Nonempty (L2.Dn (L2.KOf KX) mg "barred_bags" K.a6Q ["covers", "sizes", "wide"]) := by
   dsimp only [L2.KOf]
   refine' L2.dn_mk3 KX G ?a ?l ?c ?k rfl (fun _ _ _ _ _ _ _ _ _ => rfl)
   (case a => k_is); (case l => k_is); (case c => k_is); (case k => k_is)
  obtain ⟨dZ11⟩ := dZ11
  have dZ35 : Nonempty (L2.Dn (L2.KOf KX) mg "next_part" K.a9F ["graph", "small", "bags", "barred"]) := by
   dsimp only [L2.KOf]
   refine' L2.dn_mk4 KX G ?a ?l ?c ?k rfl (fun _ _ _ _ _ _ _ _ _ _ => rfl)
   (case a => k_is); (case l => k_is); (case c => k_is); (case k => k_is)
  obtain ⟨dZ35⟩ := dZ35
  have dZ41 : Nonempty (L2.Dn (L2.KOf KX) mg "settled" K.b4J ["graph"]) := by
   dsimp only [L2.KOf]
   refine' L2.dn_mk1 KX G ?a ?l ?c ?k rfl (fun _ _ _ _ _ _ _ => rfl)
   (case a => k_is); (case l => k_is); (case c => k_is); (case k => k_is)
  obtain ⟨dZ41⟩ := dZ41
  have dZ1 : Nonempty (L2.Dn (L2.KOf KX) mg "_law_cell" K.a5T ["_law_script", "_law_k"]) := by
   dsimp only [L2.KOf]
   refine' L2.dn_mk2 KX G ?a ?l ?c ?k rfl (fun _ _ _ _ _ _ _ _ => rfl)
   (case a => k_is); (case l => k_is); (case c => k_is); (case k => k_is)
  obtain ⟨dZ1⟩ := dZ1
  have dZ4 : Nonempty (L2.Dn (L2.KOf KX) mg "_law_mixed" K.a5D ["_law_cell_here", "_law_many"]) := by
   dsimp only [L2.KOf]
   refine' L2.dn_mk2 KX G ?a ?l ?c ?k rfl (fun _ _ _ _ _ _ _ _ => rfl)
   (case a => k_is); (case l => k_is); (case c => k_is); (case k => k_is)
  obtain ⟨dZ4⟩ := dZ4
  have dZ5 : Nonempty (L2.Dn (L2.KOf KX) mg "_law_ties" K.a9G ["_law_script", "_law_at", "_law_n"]) := by
   dsimp only [L2.KOf]
   refine' L2.dn_mk3 KX G ?a ?l ?c ?k rfl (fun _ _ _ _ _ _ _ _ _ => rfl)
   (case a => k_is); (case l => k_is); (case c => k_is); (case k => k_is)
  obtain ⟨dZ5⟩ := dZ5
  have dZ7 : Nonempty (L2.Dn (L2.KOf KX) mg "_law_turned" K.a6S ["_law_script", "_law_at", "_law_n"]) := by
   dsimp only [L2.KOf]
   refine' L2.dn_mk3 KX G ?a ?l ?c ?k rfl (fun _ _ _ _ _ _ _ _ _ => rfl)
   (case a => k_is); (case l => k_is); (case c => k_is); (case k => k_is)
  obtain ⟨dZ7⟩ := dZ7
  have dZ0 : Nonempty (L2.Dn (L2.KOf KX) mg "_law_bags" K.a5U ["_law_n", "_law_ties_here", "_law_turned_here", "_law_fewest"]) := by
   dsimp only [L2.KOf]
   refine' L2.dn_mk4 KX G ?a ?l ?c ?k rfl (fun _ _ _ _ _ _ _ _ _ _ => rfl)
   (case a => k_is); (case l => k_is); (case c => k_is); (case k => k_is)
  obtain ⟨dZ0⟩ := dZ0
  have dZ3 : Nonempty (L2.Dn (L2.KOf KX) mg "_law_meets" K.a5E ["_law_bag", "_law_sets"]) := by
   dsimp only [L2.KOf]
   refine' L2.dn_mk2 KX G ?a ?l ?c ?k rfl (fun _ _ _ _ _ _ _ _ => rfl)
   (case a => k_is); (case l => k_is); (case c => k_is); (case k => k_is)
  obtain ⟨dZ3⟩ := dZ3
  have dZ2 : Nonempty (L2.Dn (L2.KOf KX) mg "_law_is_list_of_sets" K.a1Z ["_law_sets", "_law_n"]) := by
   dsimp only [L2.KOf]
   refine' L2.dn_mk2 KX G ?a ?l ?c ?k rfl (fun _ _ _ _ _ _ _ _ => rfl)
   (case a => k_is); (case l => k_is); (case c => k_is); (case k => k_is)
  obtain ⟨dZ2⟩ := dZ2
  have dZ6 : Nonempty (L2.Dn (L2.KOf KX) mg "_law_told" K.a9I ["_law_web", "_law_n"]) := by
   dsimp only [L2.KOf]
   refine' L2.dn_mk2 KX G ?a ?l ?c ?k rfl (fun _ _ _ _ _ _ _ _ => rfl)
   (case a => k_is); (case l => k_is); (case c => k_is); (case k => k_is)
  obtain ⟨dZ6⟩ := dZ6
  have dZ27 : Nonempty (L2.Dn (L2.KOf KX) mg "law" K.d0L ["_law_script"]) := by
   dsimp only [L2.KOf]
   refine' L2.dn_mk1 KX G ?a ?l ?c ?k rfl (fun _ _ _ _ _ _ _ => rfl)
   (case a => k_is); (case l => k_is); (case c => k_is); (case k => k_is)
  obtain ⟨dZ27⟩ := dZ27
  exact L2.law_at hmg dZ27 fun base => K.d5A B Bs dZ32 dZ38 dZ33 dZ17 dZ44 dZ8 dZ24 dZ21 dZ23 dZ12 dZ25 dZ31 dZ10 dZ22 dZ37 dZ36 dZ40 dZ26 dZ39 dZ46 dZ45 dZ9 dZ13 dZ14 dZ43 dZ19 dZ30 dZ28 dZ29 dZ18 dZ34 dZ16 dZ20 dZ15 dZ42 dZ11 dZ35 dZ41 dZ1 dZ4 dZ5 dZ7 dZ0 dZ3 dZ2 dZ6 dZ27
 case S => exact fun K H a ns hl hO hS => ⟨a, ns, rfl, Lw.Scr.of hO hS, hl, fun _ => rfl⟩
 case C => exact fun _ _ _ _ z => z
