import PyProof.Rows.All
import Wide.All
import OpenK.AllK
import Wide.FinOn
import Lean
import PyProof.EqAt
import PyProof.EqKinds
import PyProof.TupleCall
import PyProof.SetScanFacts
import PyProof.SetKind
import PyProof.DictKinds
import PyProof.FactsAll.set_0
import PyProof.FactsAll.set_1
import PyProof.FactsAll.set_2
import PyProof.FactsAll.set_3
import PyProof.FactsSeq
import PyProof.CollectWalk
import PyProof.ListRange
import PyProof.ZipIter
import PyProof.MeetsSeq
import PyProof.IsRules
import PyProof.Rows.ZipGen
import PyProof.SumWalkG
import PyProof.DictWalks
import PyProof.Rows.SortShell
import PyProof.Rows.SetFrom
import PyProof.SetRoads
import KE.KIntText
import KE.IntTextLaws
import PyProof.StrWalks
import PyProof.StrOps2
import PyProof.SliceStr2
import PyProof.PureStr
import PyProof.StrCalls3
import PyProof.Rows.StrMadeLen
import PyProof.StrLawsIn
import PyProof.CompMap
import PyProof.TupleKey
import PyProof.FactsBase
import PySem.Challenge.RW_bagwood_k04_a_graph_of_pairs
set_option Elab.async false
set_option linter.all false
set_option maxRecDepth 100000
local macro_rules | `(tactic| omega) => `(tactic| first | lia | omega (config := {}))
abbrev Φρ:=PySem.W.Frag
abbrev ζζ:=Int × Int
theorem τα {α:Type} {l:List α} {i:Nat} {a:α}:l.getD i a=l[i]?.getD a:=List.getD_eq_getElem?_getD ..
namespace L2
open PySem PySem.Spec PyProof.Rows
abbrev Key:=Sum Int Str
def b4G:Key->Value->Bool
 | .inl k,v=>Value.isInt k v
 | .inr x,v=>Value.isStrOf x v
def keyH (w:World):Key->Int
 | .inl k=>hashInt k
 | .inr x=>hashStr w x
theorem a0O:∀ {k:Key} {v:Value},b4G k v=true->(∃ i t,k=Sum.inl i/\v=Value.int i t)\/(∃ x t,k=Sum.inr x/\v=Value.str x t)
 | .inl i,v,h=>by
  obtain ⟨t,e⟩:=Value.isInt_shape (k:=i) (v:=v) h
  exact .inl ⟨i,t,rfl,e⟩
 | .inr x,v,h=>by
  obtain ⟨t,e⟩:=Value.isStrOf_shape (x:=x) (v:=v) h
  exact .inr ⟨x,t,rfl,e⟩
theorem b4H (a b:Int):decide ((Sum.inl a:Key)=Sum.inl b)=(a == b):=by
 by_cases e:a=b
 ·subst e; simp
 ·have h:¬ (Sum.inl a:Key)=Sum.inl b:=λ q=>e (Sum.inl.inj q)
  rw [decide_eq_false h]
  exact (beq_eq_false_iff_ne.mpr e).symm
theorem b4I (a b:Str):decide ((Sum.inr a:Key)=Sum.inr b)=decide (a=b):=by
 by_cases e:a=b
 ·subst e; simp
 ·have h:¬ (Sum.inr a:Key)=Sum.inr b:=λ q=>e (Sum.inr.inj q)
  rw [decide_eq_false h,decide_eq_false e]
theorem b4J (a:Int) (b:Str):decide ((Sum.inl a:Key)=Sum.inr b)=false:=decide_eq_false (λ q=>nomatch q)
theorem b4K (a:Str) (b:Int):decide ((Sum.inr a:Key)=Sum.inl b)=false:=decide_eq_false (λ q=>nomatch q)
def a5Z (prog:Program) (w:World):PySem.KeyKind prog w Key where
 is:=b4G
 hash:=keyH w
 inj:=λ v a b ha hb=>by
  rcases a0O ha with ⟨i,t,rfl,rfl⟩ | ⟨x,t,rfl,rfl⟩
  ·rcases a0O hb with ⟨j,u,rfl,e⟩ | ⟨y,u,rfl,e⟩
   ·injection e with e1 _; rw [e1]
   ·exact nomatch e
  ·rcases a0O hb with ⟨j,u,rfl,e⟩ | ⟨y,u,rfl,e⟩
   ·exact nomatch e
   ·injection e with e1 _; rw [e1]
 byValue:=λ k v h=>by
  rcases a0O h with ⟨i,t,rfl,rfl⟩ | ⟨x,t,rfl,rfl⟩ <;> rfl
 pyHash:=λ hv h=>by
  rcases a0O hv with ⟨i,t,rfl,rfl⟩ | ⟨x,t,rfl,rfl⟩
  ·exact wpAny_pyHash_int h
  ·exact wpAny_pyHash_str h
 eqBool:=λ hu hv h=>by
  rcases a0O hu with ⟨i,t,rfl,rfl⟩ | ⟨x,t,rfl,rfl⟩
  ·rcases a0O hv with ⟨j,u,rfl,rfl⟩ | ⟨y,u,rfl,rfl⟩
   ·rw [b4H] at h; exact wpAny_eqBool_int h
   ·rw [b4J] at h; exact SeqAt.EqAt.int_str i t y u _ _ _ _ h
  ·rcases a0O hv with ⟨j,u,rfl,rfl⟩ | ⟨y,u,rfl,rfl⟩
   ·rw [b4K] at h; exact SeqAt.EqAt.str_int x t j u _ _ _ _ h
   ·rw [b4I] at h; exact wpAny_eqBool_str h
 «strs» := λ k x t v h=>by
  rcases a0O h with ⟨i,u,rfl,e⟩ | ⟨y,u,rfl,e⟩
  ·exact nomatch e
  ·injection e with e1 _
   subst e1
   cases v <;> rfl
end L2
namespace L2
open PySem PySem.Spec PyProof.Rows
inductive V where
 | non | bl (b:Bool) | int (i:Int) | str (x:Str) | byt (b:Array UInt8) | flt (b:UInt64) | ref (a:Addr) | ty (n:String)
 deriving DecidableEq
def RelV:V->Value->Prop
 | .non,u=>u=Value.none
 | .bl b,u=>u=Value.bool b
 | .int i,u=>∃ t,u=Value.int i t
 | .str x,u=>∃ t,u=Value.str x t
 | .byt b,u=>∃ t,u=Value.bytes b t
 | .flt b,u=>∃ t,u=Value.float b t
 | .ref a,u=>u=Value.ref a
 | .ty n,u=>u=Value.type n
abbrev Vals:List V->List Value->Prop:=Paired RelV
theorem Vals.length {xs:List V} {us:List Value} (r:Vals xs us):xs.length=us.length:=Paired.length r
theorem Vals.get:∀ {xs:List V} {us:List Value} {i:Nat} {x:V},Vals xs us->xs[i]?=some x->∃ u,us[i]?=some u/\RelV x u
 | _,_,_,_,.nil,e=>by simp at e
 | _,_,0,_,.cons r _,e=>by simp at e; subst e; exact ⟨_,rfl,r⟩
 | _,_,i+1,x,.cons _ t,e=>by
  obtain ⟨u,h1,h2⟩:=Vals.get (i:=i) (x:=x) t (by simpa using e)
  exact ⟨u,by simpa using h1,h2⟩
theorem Vals.append:∀ {xs ys:List V} {us ws:List Value},Vals xs us->Vals ys ws->Vals (xs++ys) (us++ws)
 | _,_,_,_,.nil,s=>s
 | _,_,_,_,.cons r t,s=>.cons r (Vals.append t s)
def RelO:Option V->Option Value->Prop
 | some v,some u=>RelV v u
 | none,none=>True
 | _,_=>False
def KV {κ:Type}:List (κ × V)->List (κ × Value)->Prop:=Paired λ (p:κ × V) (q:κ × Value)=>p.1=q.1/\RelV p.2 q.2
def kV:Key->V
 | .inl i=>.int i
 | .inr x=>.str x
inductive HO where
 | lst (xs:List V)
 | tup (xs:List V)
 | dK (kvs:List (Key × V)) | dT (kvs:List (List Key × V))
 | set (S:Int->Bool) (n:Nat)
 | ins (C dx:Addr) (fs:List (Str × V))
 | own (x:Addr)
 | xd (fs:List (Str × V))
 | met (f x:Addr)
 | rng (lo hi:Int)
 | frz (o:Obj) (u:HO)
 | tbl (ps:Array Value)
 | ext (φ:Heap->Prop)
abbrev Hp:=Addr->Option HO
def upd (H:Hp) (a:Addr) (o:HO):Hp:=λ b=>if b=a then some o else H b
theorem a2B {H:Hp} {a:Addr} {o:HO}:upd H a o a=some o:=by unfold upd; rw [if_pos rfl]
theorem a0P {H:Hp} {a b:Addr} {o:HO} (h:b≠a):upd H a o b=H b:=by unfold upd; rw [if_neg h]
theorem b6D {H:Hp} {a b:Addr} {o u:HO} (h:H a=some o) (h':H b=some u) (d:o≠u):a≠b:=by
 intro e; subst e; rw [h] at h'; exact d (Option.some.inj h')
theorem a0R {H:Hp} {a b:Addr} {o:HO} (h:H a=some o) (h':H b=none):a≠b:=by
 intro e; subst e; rw [h] at h'; cases h'
section
variable (P:Program) (w:World)
def ObjOk (H:Hp) (h:Heap) (a:Addr):HO->Prop
 | .lst xs=>xs.length<=sizeLine/\∃ (its:List Value) (n:Nat),Vals xs its/\h.get? a=some { cls:=.type "list", data:=.seq its.toArray n }
 | .tup xs=>xs.length<=sizeLine/\∃ its:List Value,Vals xs its/\IsTup h a its.toArray
 | .dK kvs=>kvs.length<=sizeLine/\(a == sysModules)=false/\∃ vs,KV kvs vs/\h.DictOf (a5Z P w) a vs
 | .dT kvs=>kvs.length<=sizeLine/\(a == sysModules)=false/\∃ xs:List (List Key × Addr × Value),
   Paired (λ (p:List Key × V) (q:List Key × Addr × Value)=>p.1=q.1/\H q.2.1=some (.tup (p.1.map kV))/\RelV p.2 q.2.2) kvs xs /\
   ∃ o es ep,h.get? a=some o/\o.ExactDict/\o.data = .dict es ep/\es.toList=xs.map (entryOfKey (tupleKind (a5Z P w)))/\(xs.map (·.1)).Nodup
 | .set S n=>h.SetOf (intKind P w) a S n
 | .ins C dx fs=>H dx=some (.own a)/\fs.length<=1000/\dx≠a/\h.get? a=some (PySem.W.instObj C dx) /\
   ∃ mA,h.Ns1 dx mA/\(∀ f,RelO (fs.lookup f) (mA f))/\PySem.Within mA (fs.map (·.1))
 | .own _=>∃ o,h.get? a=some o
 | .xd fs=>∃ mA,h.Ns1 a mA/\∀ f,RelO (fs.lookup f) (mA f)
 | .rng lo hi=>∃ t u v,h.get? a=some { cls:=.type "range", data:=.fields #[.int lo t,.int hi u,.int 1 v] }
 | .frz o u=>h.get? a=some o/\ObjOk H h a u
 | .tbl ps=>h.get? a=some { cls:=.none,data:=.fields ps }
 | .met f x=>h.get? a=some (PySem.W.methodObj (.ref f) (.ref x))
 | .ext φ=>φ h/\(∃ o,h.get? a=some o)/\∀ h1 h2:Heap,φ h1->(∀ o,h1.get? a=some o->h2.get? a=some o)->φ h2
def HOk (H:Hp) (h:Heap):Prop:=∀ a o,H a=some o->ObjOk P w H h a o
end
section
variable {P:Program} {w:World} {H H':Hp} {h h':Heap} {a:Addr} {o:HO}
theorem ObjOk.lt (x:ObjOk P w H h a o):a < h.objs.size:=by
 cases o with
 | lst xs=>obtain ⟨_,_,_,_,e⟩:=x; exact Heap.lt_size e
 | tup xs=>obtain ⟨_,_,_,p⟩:=x; exact p.lt
 | dK kvs=>obtain ⟨_,_,_,_,o,_,_,e,_⟩:=x; exact Heap.lt_size e
 | dT kvs=>obtain ⟨_,_,_,_,o,_,_,e,_⟩:=x; exact Heap.lt_size e
 | set S n=>obtain ⟨o,_,_,_,e,_⟩:=x; exact Heap.lt_size e
 | ins C dx fs=>obtain ⟨_,_,_,e,_⟩:=x; exact Heap.lt_size e
 | own y=>obtain ⟨_,e⟩:=x; exact Heap.lt_size e
 | xd fs=>obtain ⟨_,⟨_,_,_,e,_⟩,_⟩:=x; exact Heap.lt_size e
 | rng lo hi=>obtain ⟨_,_,_,e⟩:=x; exact Heap.lt_size e
 | frz ob u=>obtain ⟨e,_⟩:=x; exact Heap.lt_size e
 | tbl ps=>exact Heap.lt_size (show h.get? a=some _ from x)
 | met f y=>exact Heap.lt_size (show h.get? a=some _ from x)
 | ext φ=>obtain ⟨_,⟨_,e⟩,_⟩:=x; exact Heap.lt_size e
theorem Paired.mapP {α β:Type} {F G:α->β->Prop}:∀ {l₁:List α} {l₂:List β},Paired F l₁ l₂->(∀ a b,F a b->G a b)->Paired G l₁ l₂
 | _,_,.nil,_=>.nil
 | _,_,.cons r t,f=>.cons (f _ _ r) (Paired.mapP t f)
theorem ObjOk.stay (x:ObjOk P w H h a o) (k:∀ b u,(b=a\/H b=some (.own a))->h.get? b=some u->h'.get? b=some u)
  (ho:∀ b,H b=some (.own a)->H' b=some (.own a)) (ht:∀ b xs,H b=some (.tup xs)->H' b=some (.tup xs)):ObjOk P w H' h' a o:=by
 induction o with
 | lst xs=>obtain ⟨z,its,n,r,e⟩:=x; exact ⟨z,its,n,r,k _ _ (.inl rfl) e⟩
 | tup xs=>obtain ⟨z,its,r,ob,e,c⟩:=x; exact ⟨z,its,r,ob,k _ _ (.inl rfl) e,c⟩
 | dK kvs=>obtain ⟨z,y,vs,r,ob,es,ep,e,c⟩:=x; exact ⟨z,y,vs,r,ob,es,ep,k _ _ (.inl rfl) e,c⟩
 | dT kvs =>
  obtain ⟨z,y,xs,r,ob,es,ep,e,c⟩:=x
  exact ⟨z,y,xs,Paired.mapP r λ p q z=>⟨z.1,ht _ _ z.2.1,z.2.2⟩,ob,es,ep,k _ _ (.inl rfl) e,c⟩
 | set S n=>obtain ⟨ob,es,ep,t,e,c⟩:=x; exact ⟨ob,es,ep,t,k _ _ (.inl rfl) e,c⟩
 | ins C dx fs =>
  obtain ⟨d,z,ne,e,mA,⟨od,es,ep,e2,c⟩,r⟩:=x
  exact ⟨ho _ d,z,ne,k _ _ (.inl rfl) e,mA,⟨od,es,ep,k _ _ (.inr d) e2,c⟩,r⟩
 | own y=>obtain ⟨ob,e⟩:=x; exact ⟨ob,k _ _ (.inl rfl) e⟩
 | xd fs=>obtain ⟨mA,⟨od,es,ep,e,c⟩,r⟩:=x; exact ⟨mA,⟨od,es,ep,k _ _ (.inl rfl) e,c⟩,r⟩
 | rng lo hi=>obtain ⟨t,u,v,e⟩:=x; exact ⟨t,u,v,k _ _ (.inl rfl) e⟩
 | frz ob u ih=>obtain ⟨e,q⟩:=x; exact ⟨k _ _ (.inl rfl) e,ih q⟩
 | tbl ps =>
  have e:h.get? a=some { cls:=.none,data:=.fields ps }:=x
  show h'.get? a=some { cls:=.none,data:=.fields ps }
  exact k a _ (.inl rfl) e
 | met f y =>
  have e:h.get? a=some (PySem.W.methodObj (.ref f) (.ref y)):=x
  show h'.get? a=some (PySem.W.methodObj (.ref f) (.ref y))
  exact k a _ (.inl rfl) e
 | ext φ=>obtain ⟨p,⟨o,e⟩,st⟩:=x; exact ⟨st _ _ p λ o q=>k _ _ (.inl rfl) q,⟨o,k _ _ (.inl rfl) e⟩,st⟩
theorem HOk.lt (x:HOk P w H h) (e:H a=some o):a < h.objs.size:=(x a o e).lt
theorem HOk.fresh (x:HOk P w H h) (e:h.objs.size<=a):H a=none:=by
 cases q:H a with
 | none=>rfl
 | some u=>exact absurd (Nat.lt_of_lt_of_le (x.lt q) e) (Nat.lt_irrefl _)
theorem HOk.kept (x:HOk P w H h) (k:∀ b u,h.get? b=some u->h'.get? b=some u):HOk P w H h':=λ a o e =>
 (x a o e).stay (λ b u _ q=>k b u q) (λ _ q=>q) λ _ _ q=>q
theorem HOk.laid (x:HOk P w H h) (k:∀ b u,h.get? b=some u->h'.get? b=some u) (hp:h.objs.size<=a) (new:ObjOk P w (upd H a o) h' a o):HOk P w (upd H a o) h':=λ b u e=>by
 have hn:=x.fresh hp
 by_cases hb:b=a
 ·subst hb; rw [a2B] at e; cases e; exact new
 ·rw [a0P hb] at e
  exact (x b u e).stay (λ c v _ q=>k c v q) (λ c q=>by rw [a0P (a0R q hn)]; exact q) λ c xs q=>by rw [a0P (a0R q hn)]; exact q
end
def Rd (H:Hp) (a:Addr) (u:HO):Prop:=H a=some u\/∃ o,H a=some (.frz o u)
theorem Rd.ok {P:Program} {w:World} {H:Hp} {h:Heap} {a:Addr} {u:HO} (r:Rd H a u) (x:HOk P w H h):ObjOk P w H h a u:=by
 rcases r with r | ⟨o,r⟩
 ·exact x a u r
 ·obtain ⟨_,q⟩:=x a _ r
  exact q
def Mut:Option HO->Prop
 | some (.lst _)=>True
 | some (.dK _)=>True
 | some (.dT _)=>True
 | some (.set _ _)=>True
 | some (.ins _ _ _)=>True
 | some (.ext _)=>True
 | _=>False
section
variable {P:Program} {w:World} {H:Hp} {h h':Heap} {x e:Addr} {o':HO}
theorem HOk.write (ok:HOk P w H h) (mu:Mut (H x)) (he:e=x\/H e=some (.own x)) (k:∀ b u,b≠e->h.get? b=some u->h'.get? b=some u) (heo:∃ u,h'.get? e=some u)
  (new:ObjOk P w (upd H x o') h' x o'):HOk P w (upd H x o') h':=λ b u q=>by
 have nown:∀ c y,H c=some (.own y)->c≠x:=λ c y r z=>by subst z; rw [r] at mu; exact mu
 have ntup:∀ c xs,H c=some (.tup xs)->c≠x:=λ c xs r z=>by subst z; rw [r] at mu; exact mu
 by_cases hb:b=x
 ·subst hb; rw [a2B] at q; cases q; exact new
 ·rw [a0P hb] at q
  by_cases hbe:b=e
  ·have q':H b=some (.own x):=by
    rcases he with z | z
    ·exact absurd (hbe.trans z) hb
    ·rw [hbe]; exact z
   rw [q] at q'; cases q'
   obtain ⟨v,hv⟩:=heo
   exact ⟨v,by rw [hbe]; exact hv⟩
  ·refine (ok b u q).stay (λ c v hc r=>k c v ?_ r) (λ c r=>by rw [a0P (nown c b r)]; exact r) λ c xs r=>by rw [a0P (ntup c xs r)]; exact r
   rcases hc with rfl | hc
   ·exact hbe
   ·rintro rfl
    rcases he with z | z
    ·exact nown c b hc z
    ·rw [hc] at z; cases z; exact hb rfl
end
structure Un (fs ex:List Addr) (H H':Hp) (h h':Heap):Prop where
 keep:∀ b o,h.get? b=some o->H b=none->b ∉ fs->b ∉ ex->h'.get? b=some o
 slot:∀ b o,h.get? b=some o->H b=none->b∈fs->b ∉ ex->∃ sl,h'.get? b=some { o with slots:=sl }
 free:∀ b o,h.get? b=some o->H b=none->b ∉ ex->H' b=none
 there:∀ b o,h.get? b=some o->b ∉ ex->∃ o',h'.get? b=some o'
 tups:∀ b xs,H b=some (.tup xs)->H' b=some (.tup xs)
 frzs:∀ b o u,H b=some (.frz o u)->H' b=some (.frz o u)
 tbls:∀ b ps,H b=some (.tbl ps)->∃ more,H' b=some (.tbl (ps++more))
section
variable {fs fs' ex ex':List Addr} {H H1 H2:Hp} {h h1 h2 h':Heap} {a x e:Addr} {o:HO}
theorem Un.any (u:Un fs ex H H1 h h1) {b:Addr} {ob:Obj} (q:h.get? b=some ob) (n:H b=none) (hx:b ∉ ex):∃ sl,h1.get? b=some { ob with slots:=sl }:=by
 by_cases hb:b∈fs
 ·exact u.slot b ob q n hb hx
 ·exact ⟨ob.slots,u.keep b ob q n hb hx⟩
theorem Un.kept (k:∀ b u,h.get? b=some u->h'.get? b=some u):Un fs ex H H h h' :=
 ⟨λ b ob q _ _ _=>k b ob q,λ b ob q _ _ _=>⟨ob.slots,k b ob q⟩,λ _ _ _ n _=>n,λ b ob q _=>⟨ob,k b ob q⟩,λ _ _ q=>q,λ _ _ _ q=>q,λ _ ps q=>⟨#[],by rw [q]; simp⟩⟩
theorem Un.refl:Un fs ex H H h h:=Un.kept λ _ _ q=>q
theorem Un.laid (k:∀ b u,h.get? b=some u->h'.get? b=some u) (hp:h.objs.size<=a) (hn:H a=none):Un fs ex H (upd H a o) h h' where
 keep:=λ b u q _ _ _=>k b u q
 slot:=λ b u q _ _ _=>⟨u.slots,k b u q⟩
 free:=λ b u q n _=>by rw [a0P (Nat.ne_of_lt (Nat.lt_of_lt_of_le (Heap.lt_size q) hp))]; exact n
 there:=λ b u q _=>⟨u,k b u q⟩
 tups:=λ b xs q=>by rw [a0P (a0R q hn)]; exact q
 frzs:=λ b u xs q=>by rw [a0P (a0R q hn)]; exact q
 tbls:=λ b ps q=>⟨#[],by rw [a0P (a0R q hn),q]; simp⟩
theorem Un.write (mu:Mut (H x)) (he:e=x\/H e=some (.own x)) (k:∀ b u,b≠e->h.get? b=some u->h'.get? b=some u) (heo:∃ u,h'.get? e=some u):Un fs ex H (upd H x o) h h':=by
 have hx:∀ b,H b=none->b≠x:=λ b n z=>by subst z; rw [n] at mu; exact mu
 have hb:∀ b,H b=none->b≠e:=λ b n z=>by
  subst z
  rcases he with r | r
  ·exact hx b n r
  ·rw [n] at r; cases r
 have hm:∀ b u,H b=some u->¬ Mut (some u)->b≠x:=λ b u q nm z=>by subst z; rw [q] at mu; exact nm mu
 refine ⟨λ b u q n _ _=>k b u (hb b n) q,λ b u q n _ _=>⟨u.slots,k b u (hb b n) q⟩,λ b u q n _=>by rw [a0P (hx b n)]; exact n,λ b u q _=>?_,
  λ b xs q=>by rw [a0P (hm b _ q λ z=>z)]; exact q,λ b u xs q=>by rw [a0P (hm b _ q λ z=>z)]; exact q,λ b ps q=>⟨#[],by rw [a0P (hm b _ q λ z=>z),q]; simp⟩⟩
 by_cases hbe:b=e
 ·subst hbe; exact heo
 ·exact ⟨u,k b u hbe q⟩
end
def trk (h:Heap) (H:Hp):List Addr:=(List.range h.objs.size).filter λ a=>(H a).isSome
def hidT (h:Heap) (H:Hp):Heap:=PySem.W.hideAll h (trk h H)
theorem a8A (h:Heap) (H:Hp):(hidT h H).objs.size=h.objs.size:=PySem.W.hideAll_size _ _
theorem b0O {h:Heap} {H:Hp} {b:Addr} {o:Obj} (e:h.get? b=some o) (n:H b=none):(hidT h H).get? b=some o :=
 PySem.W.hideAll_get _ e λ hm=>by
  have q:(H b).isSome=true:=(List.mem_filter.mp hm).2
  rw [n] at q; simp at q
theorem b2D {h:Heap} {H:Hp} {b:Addr} {o:Obj} (e:(hidT h H).get? b=some o):h.get? b=some o/\H b=none:=by
 have e':h.get? b=some o:=PySem.W.of_hideAll (trk h H) e
 refine ⟨e',?_⟩
 cases q:H b with
 | none=>rfl
 | some x =>
  have hm:b∈trk h H:=List.mem_filter.mpr ⟨List.mem_range.mpr (Heap.lt_size e'),by simp [q]⟩
  have z:(hidT h H).get? b=none:=PySem.W.hideAll_none (trk h H) hm
  rw [z] at e; cases e
end L2
namespace L2
open PySem PySem.Spec PyProof.Rows
structure Mod (K:Φρ) (mg:Str->Option Value) (base:Heap):Prop where
 kin:K.In base
 glob:base.Ns mainGlobals mg
 blt:∃ mb,base.Ns builtinsNs mb/\∀ x:Str,x ≠ "__name__" -> mb x=bootBuiltins x
 nolimit:base.NoLimit
structure Cx where
 prog:Program
 w:World
 K:Φρ
 mg:Str->Option Value
 base:Heap
 A:Around
 N:List Str
 s₀:Shared
 H₀:Hp
 env:Env
 outer:List Env
 stack:List Env
 ex:List Addr
 fn:Str->Bool
 calm:Bool
 pn:List (Addr × Obj)
 xe:Value->Shared->Prop
def frs (l:List Env):List Addr:=l.filterMap (·.frame)
abbrev Cx.fs (X:Cx):List Addr:=frs X.outer
def Vis (sc:Scope) (x:Str):Prop:=sc.names.lookup x=some .local\/sc.names.lookup x=some .cell\/sc.names.lookup x=some .free
def Loc (sc:Scope) (x:Str):Prop:=sc.names.lookup x=some .local\/sc.names.lookup x=some .cell
def Look (env:Env) (h:Heap) (m:Str->Option Value) (x:Str) (u:Value):Prop :=
 (env.kindOf x=some .local/\m x=some u)\/((env.kindOf x=some .cell\/env.kindOf x=some .free)/\∃ c,env.cells.lookup x=some c/\h.IsCell c (some u))
structure Cx.Ok (X:Cx):Prop where
 mod:Mod X.K X.mg X.base
 kind:X.env.scope.kind = .function
 glob:X.env.globals=mainGlobals
 blt:X.env.builtins=builtinsNs
 above:X.s₀.heap.objs.size<=X.env.locals
 inj:∀ x y c,X.env.cells.lookup x=some c->X.env.cells.lookup y=some c->x=y
 has:∀ x,(X.env.kindOf x=some .cell\/X.env.kindOf x=some .free)->∃ c,X.env.cells.lookup x=some c
 cab:∀ x c,X.fn x=true->X.env.cells.lookup x=some c->X.s₀.heap.objs.size<=c
 hd:X.calm=true->X.A.handled=none
 frames:X.A.frames=some X.stack
 stk:X.stack=X.outer\/(X.stack=X.env::X.outer/\X.env.frame=some X.env.locals)
 exf:∀ b∈X.ex,b≠X.env.locals/\∀ x c,X.env.cells.lookup x=some c->c≠b
 bs:∀ b o,X.base.get? b=some o->X.s₀.heap.get? b=some o/\X.H₀ b=none
 bsz:X.base.objs.size<=X.s₀.heap.objs.size
 noex:∀ b o,X.base.get? b=some o->b ∉ X.ex
 exfs:∀ b∈X.ex,b ∉ X.fs
 funs:X.s₀.heap.FunFrames X.base X.outer
 frf:∀ b∈X.fs,X.H₀ b=none
structure Inv (X:Cx) (pins:List (Addr × Obj)) (σ:List (Option V)) (H:Hp) (s:Shared):Prop where
 ok:X.Ok
 os:s.os=X.s₀.os
 bare:AllBare s.gens
 base:Un X.fs X.ex X.H₀ H X.s₀.heap s.heap
 loc:∃ m,s.heap.Ns X.env.locals m/\∀ (i:Nat) (x:Str) (v:V),X.N[i]?=some x->σ[i]?=some (some v)->Vis X.env.scope x->∃ u,RelV v u/\Look X.env s.heap m x u
 cell:∀ x c,X.env.cells.lookup x=some c->∃ v,s.heap.IsCell c v
 free:H X.env.locals=none
 freeC:∀ x c,X.env.cells.lookup x=some c->H c=none
 pin:∀ p∈X.pn++pins,s.heap.get? p.1=some p.2/\H p.1=none/\p.1≠X.env.locals/\p.1 ∉ X.fs/\∀ v,p.2.data ≠ .cell v
 hok:HOk X.prog X.w H s.heap
 len:σ.length=X.N.length
section
variable {X:Cx} {pins:List (Addr × Obj)} {σ:List (Option V)} {H H':Hp} {s:Shared} {h':Heap}
theorem Cx.Ok.nofr (ok:X.Ok) {b:Addr} {o:Obj} (e:X.base.get? b=some o):b ∉ X.fs:=λ hb=>by
 have:=(ok.funs.mem hb).1
 rw [e] at this; cases this
theorem Inv.bs (I:Inv X pins σ H s):∀ b o,X.base.get? b=some o->s.heap.get? b=some o/\H b=none:=λ b o e =>
 ⟨I.base.keep b o (I.ok.bs b o e).1 (I.ok.bs b o e).2 (I.ok.nofr e) (I.ok.noex b o e),I.base.free b o (I.ok.bs b o e).1 (I.ok.bs b o e).2 (I.ok.noex b o e)⟩
theorem Inv.bk (I:Inv X pins σ H s):∀ b o,X.base.get? b=some o->s.heap.get? b=some o:=λ b o e=>(I.bs b o e).1
theorem Inv.mod (I:Inv X pins σ H s):Mod X.K X.mg X.base:=I.ok.mod
theorem Inv.kIn (I:Inv X pins σ H s):X.K.In s.heap:=I.ok.mod.kin.keeps I.bk
theorem Inv.lt (I:Inv X pins σ H s):X.env.locals < s.heap.objs.size:=let ⟨_,hn,_⟩:=I.loc; hn.lt
theorem Inv.sz (I:Inv X pins σ H s):X.s₀.heap.objs.size<=s.heap.objs.size:=Nat.le_trans I.ok.above (Nat.le_of_lt I.lt)
theorem Inv.nofs (I:Inv X pins σ H s) {a:Addr} (h:s.heap.objs.size<=a):a ∉ X.fs:=λ hb=>by
 obtain ⟨_,o,ho,_⟩:=I.ok.funs.mem hb
 exact absurd (Nat.lt_of_lt_of_le (Heap.lt_size ho) (Nat.le_trans I.sz h)) (Nat.lt_irrefl _)
theorem Inv.cne (I:Inv X pins σ H s):∀ x c,X.env.cells.lookup x=some c->c≠X.env.locals:=λ x c e z=>by
 obtain ⟨v,o,ho,hd⟩:=I.cell x c e
 obtain ⟨m,⟨o',es,ep,ho',hd',_⟩,_⟩:=I.loc
 rw [z,ho'] at ho; cases ho; rw [hd'] at hd; cases hd
theorem Inv.funs (I:Inv X pins σ H s):s.heap.FunFrames X.base X.outer:=by
 have all:∀ (l:List Env),(∀ b∈frs l,b∈X.fs)->X.s₀.heap.FunFrames X.base l->s.heap.FunFrames X.base l:=by
  intro l
  induction l with
  | nil=>intro _ _; trivial
  | cons env r ih =>
   intro hs hl
   obtain ⟨hk,⟨L,o,hf,hn,ho,hd⟩,hr⟩:=hl
   have hL:L∈X.fs:=hs L (by unfold frs; rw [List.filterMap_cons,hf]; exact List.mem_cons_self)
   obtain ⟨sl,e⟩:=I.base.slot L o ho (I.ok.frf L hL) hL λ z=>I.ok.exfs L z hL
   exact ⟨hk,⟨L,_,hf,hn,e,hd⟩,ih (λ b hb=>hs b (by unfold frs; rw [List.filterMap_cons,hf]; exact List.mem_cons_of_mem _ hb)) hr⟩
 exact all X.outer (λ _ hb=>hb) I.ok.funs
theorem Inv.stack (I:Inv X pins σ H s):s.heap.FunFrames X.base X.stack:=by
 rcases I.ok.stk with e | ⟨e,hf⟩
 ·rw [e]; exact I.funs
 ·rw [e]
  obtain ⟨m,hn,_⟩:=I.loc
  refine .cons (by rw [I.ok.kind]; decide) hf hn ?_ I.funs
  exact Heap.get?_none_of_le (Nat.le_trans I.ok.bsz I.ok.above)
theorem Inv.stkSub (I:Inv X pins σ H s):∀ b∈frs X.stack,b∈X.env.locals::X.fs:=λ b hb=>by
 rcases I.ok.stk with e | ⟨e,hf⟩
 ·rw [e] at hb; exact List.mem_cons_of_mem _ hb
 ·rw [e] at hb
  unfold frs at hb
  rw [List.filterMap_cons,hf] at hb
  exact hb
theorem Inv.stkFree (I:Inv X pins σ H s):∀ b∈frs X.stack,H b=none:=λ b hb=>by
 rcases List.mem_cons.mp (I.stkSub b hb) with e | hb
 ·rw [e]; exact I.free
 ·obtain ⟨_,o,ho,_⟩:=I.ok.funs.mem hb
  exact I.base.free b o ho (I.ok.frf b hb) λ z=>I.ok.exfs b z hb
theorem Inv.step {g':Array GenState} {t':Nat} {d':Drawn} {ch:List Addr} (I:Inv X pins σ H s)
  (hch:∀ b∈ch,(b∈X.ex\/X.s₀.heap.objs.size<=b)/\b≠X.env.locals/\(∀ x c,X.env.cells.lookup x=some c->c≠b)/\∀ p∈X.pn++pins,p.1≠b)
  (keep:∀ b o,b≠X.env.locals->b ∉ X.fs->b ∉ ch->s.heap.get? b=some o->H b=none->h'.get? b=some o)
  (slot:∀ b o,b≠X.env.locals->b∈X.fs->b ∉ ch->s.heap.get? b=some o->H b=none->∃ sl,h'.get? b=some { o with slots:=sl }) (free:∀ b o,b ∉ ch->s.heap.get? b=some o->H b=none->H' b=none)
  (there:∀ b o,b ∉ ch->s.heap.get? b=some o->∃ o',h'.get? b=some o')
  (tups:∀ b xs,H b=some (.tup xs)->H' b=some (.tup xs)) (frzs:∀ b o u,H b=some (.frz o u)->H' b=some (.frz o u)) (tbls:∀ b ps,H b=some (.tbl ps)->∃ more,H' b=some (.tbl (ps++more)))
  (ns:∀ m,s.heap.Ns X.env.locals m->h'.Ns X.env.locals m) (hok:HOk X.prog X.w H' h') (hg:AllBare g') :
  Inv X pins σ H' { s with heap:=h',gens:=g',drawn:=d',toks:=t' }:=by
 have neL:∀ b o,X.s₀.heap.get? b=some o->b≠X.env.locals:=λ b o e=>Nat.ne_of_lt (Nat.lt_of_lt_of_le (Heap.lt_size e) I.ok.above)
 have neC:∀ b o,X.s₀.heap.get? b=some o->b ∉ X.ex->b ∉ ch:=λ b o e hx hb=>by
  rcases (hch b hb).1 with z | z
  ·exact hx z
  ·exact absurd (Nat.lt_of_lt_of_le (Heap.lt_size e) z) (Nat.lt_irrefl _)
 have cellK:∀ x c,X.env.cells.lookup x=some c->∀ v,s.heap.IsCell c v->h'.IsCell c v:=λ x c e v ⟨o,ho,hd⟩=>by
  have nch:c ∉ ch:=λ z=>(hch c z).2.2.1 x c e rfl
  by_cases hc:c∈X.fs
  ·obtain ⟨sl,q⟩:=slot c o (I.cne x c e) hc nch ho (I.freeC x c e)
   exact ⟨_,q,hd⟩
  ·exact ⟨o,keep c o (I.cne x c e) hc nch ho (I.freeC x c e),hd⟩
 refine ⟨I.ok,I.os,hg,⟨λ b o e n hb hx=>?_,λ b o e n hb hx=>?_,λ b o e n hx=>?_,λ b o e hx=>?_,λ b xs e=>tups b xs (I.base.tups b xs e),λ b o xs e=>frzs b o xs (I.base.frzs b o xs e),λ b ps e=>?_⟩,?_,λ x c e=>?_,?_,λ x c e=>?_,λ p hp=>?_,hok,I.len⟩
 ·exact keep b o (neL b o e) hb (neC b o e hx) (I.base.keep b o e n hb hx) (I.base.free b o e n hx)
 ·obtain ⟨sl,e1⟩:=I.base.slot b o e n hb hx
  obtain ⟨sl',e2⟩:=slot b _ (neL b o e) hb (neC b o e hx) e1 (I.base.free b o e n hx)
  exact ⟨sl',e2⟩
 ·obtain ⟨o',e1⟩:=I.base.there b o e hx
  exact free b o' (neC b o e hx) e1 (I.base.free b o e n hx)
 ·obtain ⟨o',e1⟩:=I.base.there b o e hx
  exact there b o' (neC b o e hx) e1
 ·obtain ⟨m1,e1⟩:=I.base.tbls b ps e
  obtain ⟨m2,e2⟩:=tbls b _ e1
  exact ⟨m1++m2,by rw [e2,Array.append_assoc]⟩
 ·obtain ⟨m,hn,hl⟩:=I.loc
  refine ⟨m,ns m hn,λ i x v e1 e2 e3=>?_⟩
  obtain ⟨u,r,l⟩:=hl i x v e1 e2 e3
  refine ⟨u,r,?_⟩
  rcases l with l | ⟨k,c,e,z⟩
  ·exact .inl l
  ·exact .inr ⟨k,c,e,cellK x c e _ z⟩
 ·obtain ⟨v,z⟩:=I.cell x c e
  exact ⟨v,cellK x c e v z⟩
 ·obtain ⟨m,⟨o,_,_,ho,_⟩,_⟩:=I.loc
  exact free _ o (λ z=>(hch _ z).2.1 rfl) ho I.free
 ·obtain ⟨v,o,ho,hd⟩:=I.cell x c e
  exact free c o (λ z=>(hch c z).2.2.1 x c e rfl) ho (I.freeC x c e)
 ·obtain ⟨e,n,ne,nf,d⟩:=I.pin p hp
  have nch:p.1 ∉ ch:=λ z=>(hch p.1 z).2.2.2 p hp rfl
  exact ⟨keep p.1 p.2 ne nf nch e n,free p.1 p.2 nch e n,ne,nf,d⟩
theorem Inv.un {t':Nat} (I:Inv X pins σ H s) (u:Un X.fs [] H H' s.heap h') (hok:HOk X.prog X.w H' h'):Inv X pins σ H' { s with heap:=h',toks:=t' }:=by
 obtain ⟨m,⟨o,es,ep,ho,r⟩,_⟩:=id I.loc
 obtain ⟨sl,hL⟩:=u.any ho I.free (by simp)
 exact I.step (g':=s.gens) (d':=s.drawn) (ch:=[]) (λ _ z=>nomatch z) (λ b o _ hb _ e n=>u.keep b o e n hb (by simp)) (λ b o _ hb _ e n=>u.slot b o e n hb (by simp)) (λ b o _ e n=>u.free b o e n (by simp)) (λ b o _ e=>u.there b o e (by simp)) u.tups u.frzs u.tbls (λ m' hm=>by
  obtain ⟨o',es',ep',ho',r'⟩:=hm
  rw [ho] at ho'; cases ho'
  exact ⟨_,es',ep',hL,r'⟩) hok I.bare
theorem Inv.call {g':Array GenState} {t':Nat} {d':Drawn} {ch:List Addr} (I:Inv X pins σ H s) (u:Un (frs X.stack) ch H H' s.heap h') (hok:HOk X.prog X.w H' h') (hg:AllBare g')
  (hch:∀ b∈ch,(b∈X.ex\/X.s₀.heap.objs.size<=b)/\b≠X.env.locals/\(∀ x c,X.env.cells.lookup x=some c->c≠b)/\∀ p∈X.pn++pins,p.1≠b) :
  Inv X pins σ H' { s with heap:=h',gens:=g',drawn:=d',toks:=t' }:=by
 obtain ⟨m,⟨o,es,ep,ho,r⟩,_⟩:=id I.loc
 obtain ⟨sl,hL⟩:=u.any ho I.free λ z=>(hch _ z).2.1 rfl
 exact I.step (ch:=ch) hch (λ b o hL hb hc e n=>u.keep b o e n (λ z=>(List.mem_cons.mp (I.stkSub b z)).elim hL hb) hc) (λ b o _ _ hc e n=>u.any e n hc) (λ b o hc e n=>u.free b o e n hc) (λ b o hc e=>u.there b o e hc) u.tups u.frzs u.tbls (λ m' hm=>by
  obtain ⟨o',es',ep',ho',r'⟩:=hm
  rw [ho] at ho'; cases ho'
  exact ⟨_,es',ep',hL,r'⟩) hok hg
theorem Inv.turned {t':Nat} {it:Addr} (I:Inv X pins σ H s) (k:∀ b o,b≠it->s.heap.get? b=some o->h'.get? b=some o) (hn:H it=none) (hL:it≠X.env.locals)
  (h1:it∈X.ex\/X.s₀.heap.objs.size<=it) (h2:∀ x c,X.env.cells.lookup x=some c->c≠it) (h3:∀ p∈X.pn++pins,p.1≠it):Inv X pins σ H { s with heap:=h',toks:=t' }:=by
 have nit:∀ b u,H b=some u->b≠it:=λ b u e z=>by rw [z,hn] at e; cases e
 refine I.step (g':=s.gens) (d':=s.drawn) (ch:=[it]) (λ b hb=>?_) (λ b o _ _ hc e _=>k b o (λ z=>hc (by simp [z])) e) (λ b o _ _ hc e _=>⟨o.slots,k b o (λ z=>hc (by simp [z])) e⟩) (λ _ _ _ _ n=>n)
  (λ b o hc e=>⟨o,k b o (λ z=>hc (by simp [z])) e⟩) (λ _ _ e=>e) (λ _ _ _ e=>e) (λ b ps e=>⟨#[],by rw [e]; simp⟩) (λ m hm=>?_) (λ b u e=>?_) I.bare
 ·have e:b=it:=by simpa using hb
  subst e
  exact ⟨h1,hL,h2,h3⟩
 ·obtain ⟨o,es,ep,ho,r⟩:=hm
  exact ⟨o,es,ep,k _ o (Ne.symm hL) ho,r⟩
 ·refine (I.hok b u e).stay (λ c v hc q=>k c v ?_ q) (λ _ q=>q) λ _ _ q=>q
  rcases hc with z | z
  ·rw [z]; exact nit b u e
  ·exact nit c _ z
theorem Inv.tok (I:Inv X pins σ H s) (t:Nat):Inv X pins σ H { s with toks:=t }:=I.un (h':=s.heap) (t':=t) Un.refl I.hok
theorem Inv.kept {t':Nat} (I:Inv X pins σ H s) (k:∀ b u,s.heap.get? b=some u->h'.get? b=some u):Inv X pins σ H { s with heap:=h',toks:=t' }:=I.un (Un.kept k) (I.hok.kept k)
theorem Inv.laid {a:Addr} {o:HO} {t':Nat} (I:Inv X pins σ H s) (k:∀ b u,s.heap.get? b=some u->h'.get? b=some u) (hp:s.heap.objs.size<=a) (new:ObjOk X.prog X.w (upd H a o) h' a o) :
  Inv X pins σ (upd H a o) { s with heap:=h',toks:=t' }:=I.un (Un.laid k hp (I.hok.fresh hp)) (I.hok.laid k hp new)
theorem Inv.write {x e:Addr} {o:HO} {t':Nat} (I:Inv X pins σ H s) (mu:Mut (H x)) (he:e=x\/H e=some (.own x)) (k:∀ b u,b≠e->s.heap.get? b=some u->h'.get? b=some u) (heo:∃ u,h'.get? e=some u)
  (new:ObjOk X.prog X.w (upd H x o) h' x o):Inv X pins σ (upd H x o) { s with heap:=h',toks:=t' }:=I.un (Un.write mu he k heo) (I.hok.write mu he k heo new)
theorem Inv.pins_of {pins':List (Addr × Obj)} (I:Inv X pins σ H s) (h:∀ p∈pins',s.heap.get? p.1=some p.2/\H p.1=none/\p.1≠X.env.locals/\p.1 ∉ X.fs/\∀ v,p.2.data ≠ .cell v):Inv X pins' σ H s :=
 ⟨I.ok,I.os,I.bare,I.base,I.loc,I.cell,I.free,I.freeC,λ p hp=>(List.mem_append.mp hp).elim (λ z=>I.pin p (List.mem_append_left _ z)) (h p),I.hok,I.len⟩
theorem a6Q {N:List Str} (hN:N.Nodup) {i j:Nat} {x:Str} (a:N[i]?=some x) (b:N[j]?=some x):i=j:=by
 obtain ⟨h1,e1⟩:=List.getElem?_eq_some_iff.mp a
 obtain ⟨h2,e2⟩:=List.getElem?_eq_some_iff.mp b
 exact (List.getElem_inj hN).mp (e1.trans e2.symm)
theorem a8B {M:Model} {A:Around} {E:Value->Shared->Prop} {i:Nat} {x:Str} {v:V} {u:Value} {Q:Unit->Shared->Prop} (I:Inv X pins σ H s) (hN:X.N.Nodup) (hi:X.N[i]?=some x) (hx:Loc X.env.scope x) (r:RelV v u)
  (h:∀ s',Inv X pins (σ.set i (some v)) H s'->(∃ a,Heap.SameBut a s.heap s'.heap/\(a=X.env.locals\/X.env.cells.lookup x=some a))->Q () s') (hf:X.fn x=true\/X.env.scope.names.lookup x=some .local:=by first | exact .inl rfl | exact .inr rfl | assumption):wpAny M A (storeName X.env x u) Q E s:=by
 obtain ⟨m,hn,hl⟩:=id I.loc
 have hcls:(X.env.scope.kind == .class || (X.env.scope.kind == .module && X.env.locals != X.env.globals))=false:=by rw [I.ok.kind]; rfl
 have hiσ:i < σ.length:=by rw [I.len]; exact (List.getElem?_eq_some_iff.mp hi).1
 have cne:=I.cne
 have tracked:∀ {a:Addr} {h':Heap},(∃ o,s.heap.get? a=some o/\H a=none)->Heap.SameBut a s.heap h'->HOk X.prog X.w H h':=λ {a h'} ha hs b ob e=>by
  obtain ⟨_,_,hfree⟩:=ha
  refine (I.hok b ob e).stay (λ c w' hc q=>(hs.2 c ?_).trans q) (λ _ q=>q) λ _ _ q=>q
  rintro rfl
  rcases hc with rfl | hc
  ·rw [hfree] at e; cases e
  ·rw [hfree] at hc; cases hc
 rcases hx with hk | hk
 ·refine wpAny_storeName_local hk hn (λ h' hn' hs=>?_) hcls
  obtain ⟨oL,_,_,hoL,_⟩:=id hn
  refine h _ ⟨I.ok,I.os,I.bare,⟨λ b o e n hb hx=>?_,λ b o e n hb hx=>?_,I.base.free,λ b o e hx=>?_,I.base.tups,I.base.frzs,I.base.tbls⟩,⟨_,hn',λ j y v' e1 e2 e3=>?_⟩,λ y c e=>?_,I.free,I.freeC,λ p hp=>?_,tracked ⟨oL,hoL,I.free⟩ hs,by simpa using I.len⟩ ⟨_,hs,.inl rfl⟩
  ·exact (hs.2 b (Nat.ne_of_lt (Nat.lt_of_lt_of_le (Heap.lt_size e) I.ok.above))).trans (I.base.keep b o e n hb hx)
  ·obtain ⟨sl,e1⟩:=I.base.slot b o e n hb hx
   exact ⟨sl,(hs.2 b (Nat.ne_of_lt (Nat.lt_of_lt_of_le (Heap.lt_size e) I.ok.above))).trans e1⟩
  ·obtain ⟨o',e1⟩:=I.base.there b o e hx
   exact ⟨o',(hs.2 b (Nat.ne_of_lt (Nat.lt_of_lt_of_le (Heap.lt_size e) I.ok.above))).trans e1⟩
  ·by_cases hj:j=i
   ·subst hj
    rw [hi] at e1; cases e1
    rw [List.getElem?_set_self hiσ] at e2
    cases e2
    exact ⟨u,r,.inl ⟨hk,by simp⟩⟩
   ·rw [List.getElem?_set_ne (Ne.symm hj)] at e2
    obtain ⟨u',r',q⟩:=hl j y v' e1 e2 e3
    refine ⟨u',r',?_⟩
    rcases q with ⟨k,e⟩ | ⟨k,c,e,z⟩
    ·refine .inl ⟨k,?_⟩
     have:y≠x:=λ e=>hj (a6Q hN e1 (e ▸ hi))
     simp [this,e]
    ·exact .inr ⟨k,c,e,z.sameBut hs (cne y c e)⟩
  ·obtain ⟨w',z⟩:=I.cell y c e
   exact ⟨w',z.sameBut hs (cne y c e)⟩
  ·obtain ⟨e,n,ne,nf,d⟩:=I.pin p hp
   exact ⟨(hs.2 p.1 ne).trans e,n,ne,nf,d⟩
 ·have hfn:X.fn x=true:=by
   rcases hf with z | z
   ·exact z
   ·rw [z] at hk; cases hk
  obtain ⟨c,hc⟩:=I.ok.has x (.inl hk)
  obtain ⟨w',z⟩:=I.cell x c hc
  refine wpAny_storeName_cell I.ok.kind hk hc z (λ h' hc' hs=>?_)
  obtain ⟨oc,hoc,hocd⟩:=id z
  refine h { s with heap:=h' } ⟨I.ok,I.os,I.bare,⟨λ b o e n hb hx=>?_,λ b o e n hb hx=>?_,I.base.free,λ b o e hx=>?_,I.base.tups,I.base.frzs,I.base.tbls⟩,⟨m,hn.sameBut hs (Ne.symm (cne x c hc)),λ j y v' e1 e2 e3=>?_⟩,λ y c' e=>?_,I.free,I.freeC,λ p hp=>?_,tracked ⟨oc,hoc,I.freeC x c hc⟩ hs,by simpa using I.len⟩ ⟨c,hs,.inr hc⟩
  ·exact (hs.2 b (Nat.ne_of_lt (Nat.lt_of_lt_of_le (Heap.lt_size e) (I.ok.cab x c hfn hc)))).trans (I.base.keep b o e n hb hx)
  ·obtain ⟨sl,e1⟩:=I.base.slot b o e n hb hx
   exact ⟨sl,(hs.2 b (Nat.ne_of_lt (Nat.lt_of_lt_of_le (Heap.lt_size e) (I.ok.cab x c hfn hc)))).trans e1⟩
  ·obtain ⟨o',e1⟩:=I.base.there b o e hx
   exact ⟨o',(hs.2 b (Nat.ne_of_lt (Nat.lt_of_lt_of_le (Heap.lt_size e) (I.ok.cab x c hfn hc)))).trans e1⟩
  ·by_cases hj:j=i
   ·subst hj
    rw [hi] at e1; cases e1
    rw [List.getElem?_set_self hiσ] at e2
    cases e2
    exact ⟨u,r,.inr ⟨.inl hk,c,hc,hc'⟩⟩
   ·rw [List.getElem?_set_ne (Ne.symm hj)] at e2
    obtain ⟨u',r',q⟩:=hl j y v' e1 e2 e3
    refine ⟨u',r',?_⟩
    rcases q with q | ⟨k,c',e,z'⟩
    ·exact .inl q
    ·refine .inr ⟨k,c',e,z'.sameBut hs ?_⟩
     rintro rfl
     exact hj (a6Q hN e1 (I.ok.inj _ _ _ e hc ▸ hi))
  ·by_cases hcc:c'=c
   ·subst hcc; exact ⟨_,hc'⟩
   ·obtain ⟨w2,z2⟩:=I.cell y c' e
    exact ⟨w2,z2.sameBut hs hcc⟩
  ·obtain ⟨e,n,ne,nf,d⟩:=I.pin p hp
   refine ⟨(hs.2 p.1 ?_).trans e,n,ne,nf,d⟩
   intro q
   rw [q,hoc] at e
   have q':oc=p.2:=Option.some.inj e
   exact d w' (by rw [<- q']; exact hocd)
theorem a2T {M:Model} {A:Around} {E:Value->Shared->Prop} {i:Nat} {x:Str} {v:V} {u:Value} {Q:Unit->Shared->Prop} (I:Inv X pins σ H s) (hN:X.N.Nodup) (hi:X.N[i]?=some x) (hx:Loc X.env.scope x) (r:RelV v u)
  (h:∀ s',Inv X pins (σ.set i (some v)) H s'->Q () s') (hf:X.fn x=true\/X.env.scope.names.lookup x=some .local:=by first | exact .inl rfl | exact .inr rfl | assumption):wpAny M A (storeName X.env x u) Q E s :=
 a8B I hN hi hx r (λ s' I' _=>h s' I') hf
theorem Inv.call' {s':Shared} {ch:List Addr} (I:Inv X pins σ H s) (ho:s'.os=s.os) (u:Un (frs X.stack) ch H H' s.heap s'.heap) (hok:HOk X.prog X.w H' s'.heap) (hg:AllBare s'.gens)
  (hch:∀ b∈ch,(b∈X.ex\/X.s₀.heap.objs.size<=b)/\b≠X.env.locals/\(∀ x c,X.env.cells.lookup x=some c->c≠b)/\∀ p∈X.pn++pins,p.1≠b):Inv X pins σ H' s':=by
 obtain ⟨h',g',d',t',o'⟩:=s'
 have e:o'=s.os:=ho
 subst e
 exact I.call (g':=g') (t':=t') (d':=d') u hok hg hch
end
abbrev XK:=Value->Option Addr->Hp->Prop
abbrev St:=List (Option V)
abbrev VK:=V->Hp->Prop
abbrev TE:=St->Hp->VK->Prop
abbrev TT:=St->Hp->(Bool->Hp->Prop)->Prop
abbrev TA:=St->Hp->(List V->Hp->Prop)->Prop
structure Ends where
 nx:St->Hp->Prop
 rt:VK
 bk:St->Hp->Prop:=λ _ _=>False
 ct:St->Hp->Prop:=λ _ _=>False
abbrev TS:=Ends->St->Hp->Prop
def EP (X:Cx) (pins:List (Addr × Obj)) (σ:St) (Q:VK) (u:Value) (s':Shared):Prop:=∃ v H',Inv X pins σ H' s'/\RelV v u/\Q v H'
def TP (X:Cx) (pins:List (Addr × Obj)) (σ:St) (Q:Bool->Hp->Prop) (b:Bool) (s':Shared):Prop:=∃ H',Inv X pins σ H' s'/\Q b H'
def AP (X:Cx) (pins:List (Addr × Obj)) (σ:St) (Q:List V->Hp->Prop) (us:List Value) (s':Shared):Prop:=∃ vs H',Inv X pins σ H' s'/\Vals vs us/\Q vs H'
def SP (X:Cx) (pins:List (Addr × Obj)) (D:Ends) (f:Flow) (s':Shared):Prop :=
 match f with
 | .next=>∃ σ' H',Inv X pins σ' H' s'/\D.nx σ' H'
 | .brk=>∃ σ' H',Inv X pins σ' H' s'/\D.bk σ' H'
 | .cont=>∃ σ' H',Inv X pins σ' H' s'/\D.ct σ' H'
 | .ret u=>∃ v σ' H',Inv X pins σ' H' s'/\RelV v u/\D.rt v H'
def PE (X:Cx) (e:Expr) (t:TE):Prop :=
 ∀ (pins:List (Addr × Obj)) (s:Shared) (σ:St) (H:Hp) (Q:VK),Inv X pins σ H s->t σ H Q->wpAny (model X.prog X.w) X.A (eval e X.env) (EP X pins σ Q) X.xe s
def PT (X:Cx) (e:Expr) (t:TT):Prop :=
 ∀ (pins:List (Addr × Obj)) (s:Shared) (σ:St) (H:Hp) (Q:Bool->Hp->Prop),Inv X pins σ H s->t σ H Q->wpAny (model X.prog X.w) X.A (isTrue e X.env (eval e X.env)) (TP X pins σ Q) X.xe s
def PW (X:Cx) (e:Expr) (t:TT):Prop :=
 ∀ (whole:Sem Value) (pins:List (Addr × Obj)) (s:Shared) (σ:St) (H:Hp) (Q:Bool->Hp->Prop),Inv X pins σ H s->t σ H Q->wpAny (model X.prog X.w) X.A (isTrue e X.env whole) (TP X pins σ Q) X.xe s
theorem PW.pt {X:Cx} {e:Expr} {t:TT} (h:PW X e t):PT X e t:=h _
def PA (X:Cx) (es:List Expr) (t:TA):Prop :=
 ∀ (pos:Pos) (pins:List (Addr × Obj)) (s:Shared) (σ:St) (H:Hp) (Q:List V->Hp->Prop),Inv X pins σ H s->t σ H Q->wpAny (model X.prog X.w) X.A (spliced (backTo pos (starEach es X.env))) (AP X pins σ Q) X.xe s
def PS (X:Cx) (st:Stmt) (t:TS):Prop :=
 ∀ (pins:List (Addr × Obj)) (s:Shared) (σ:St) (H:Hp) (D:Ends),Inv X pins σ H s->t D σ H->wpAny (model X.prog X.w) X.A (exec st X.env) (SP X pins D) X.xe s
def PSs (X:Cx) (st:List Stmt) (t:TS):Prop :=
 ∀ (pins:List (Addr × Obj)) (s:Shared) (σ:St) (H:Hp) (D:Ends),Inv X pins σ H s->t D σ H->wpAny (model X.prog X.w) X.A (execs st X.env) (SP X pins D) X.xe s
theorem thn {α:Type} {t:Sem α} {Q Q':α->Shared->Prop} {M:Model} {A:Around} {E:Value->Shared->Prop} {s:Shared} (h:wpAny M A t Q E s) (hQ:∀ a s,Q a s->Q' a s):wpAny M A t Q' E s:=wpAny_mono h hQ λ _ _ x=>x
end L2
namespace L2
open PySem PySem.Spec PyProof.Rows
section
variable {X:Cx}
def tVar (i:Nat):TE:=λ σ H Q=>∃ v,σ[i]?=some (some v)/\Q v H
def tC (v:V):TE:=λ _ H Q=>Q v H
theorem b4L {i:Nat} {x:Str} {pos:Pos} (hN:X.N[i]?=some x) (hv:Vis X.env.scope x) (hd:(x == ("__debug__" : Str))=false:=by decide) (hcd:(x == ("__classdict__" : Str))=false:=by decide):PE X (.Name x pos) (tVar i):=by
 intro pins s σ H Q I h
 obtain ⟨v,e,h⟩:=h
 obtain ⟨m,hn,hl⟩:=I.loc
 obtain ⟨u,r,l⟩:=hl i x v hN e hv
 have fin:EP X pins σ Q u s:=⟨v,H,I,r,h⟩
 rcases l with ⟨hk,hm⟩ | ⟨hk,c,hc,hcell⟩
 ·exact wpAny_Name (wpAny_loadName_local I.ok.kind hk hn hm fin) hd
 ·rcases hk with hk | hk
  ·exact wpAny_Name (wpAny_loadName_cell I.ok.kind hk hc hcell fin) hd
  ·exact wpAny_Name (wpAny_loadName_free I.ok.kind hk hc hcell fin hcd) hd
theorem a0C {i j pos}:PE X (.Constant (.int i) j pos) (tC (.int i)):=λ _ _ _ H _ I h=>wpAny_Constant_int ⟨.int i,H,I.tok _,⟨_,rfl⟩,h⟩
theorem a4Y {b j pos}:PE X (.Constant (.bool b) j pos) (tC (.bl b)):=λ _ _ _ H _ I h=>Constant_bool ⟨.bl b,H,I,rfl,h⟩
theorem a8C {x j pos}:PE X (.Constant (.str x) j pos) (tC (.str x)):=λ _ _ _ H _ I h=>Calls.Constant_str ⟨.str x,H,I.tok _,⟨_,rfl⟩,h⟩
def Gl (X:Cx) (x:Str):Prop:=X.env.kindOf x=some .globalImplicit
theorem a6A {E:Value->Shared->Prop} {pins:List (Addr × Obj)} {s:Shared} {σ:St} {H:Hp} {x:Str} {u:Value} {pos:Pos} {Q:Value->Shared->Prop} (I:Inv X pins σ H s) (hg:Gl X x) (hm:X.mg x=some u) (h:Q u s)
  (hd:(x == ("__debug__" : Str))=false:=by decide):wpAny (model X.prog X.w) X.A (eval (.Name x pos) X.env) Q E s :=
 Calls.Name_function_global I.ok.kind hg (Calls.loadGlobal_global (by rw [I.ok.glob]; exact I.mod.glob.keeps I.bk) hm h) hd
theorem a4Z {E:Value->Shared->Prop} {pins:List (Addr × Obj)} {s:Shared} {σ:St} {H:Hp} {x:Str} {u:Value} {pos:Pos} {Q:Value->Shared->Prop} (I:Inv X pins σ H s) (hg:Gl X x) (hm:X.mg x=none) (hv:bootBuiltins x=some u) (h:Q u s)
  (hn:x ≠ "__name__" := by decide) (hd:(x == ("__debug__" : Str))=false:=by decide):wpAny (model X.prog X.w) X.A (eval (.Name x pos) X.env) Q E s:=by
 obtain ⟨mb,h1,h2⟩:=I.mod.blt
 exact Calls.Name_function_global I.ok.kind hg (Calls.loadGlobal_builtin (by rw [I.ok.glob]; exact I.mod.glob.keeps I.bk) hm (by rw [I.ok.blt]; exact h1.keeps I.bk) ((h2 x hn).trans hv) h) hd
theorem b2E {x:Str} {v:V} {u:Value} {pos:Pos} (hg:Gl X x) (hm:X.mg x=some u) (r:RelV v u) (hd:(x == ("__debug__" : Str))=false:=by decide):PE X (.Name x pos) (tC v) :=
 λ _ _ _ H _ I h=>a6A I hg hm ⟨v,H,I,r,h⟩ hd
theorem a1L {x:Str} {v:V} {u:Value} {pos:Pos} (hg:Gl X x) (hm:X.mg x=none) (hv:bootBuiltins x=some u) (r:RelV v u) (hn:x ≠ "__name__" := by decide) (hd:(x == ("__debug__" : Str))=false:=by decide):PE X (.Name x pos) (tC v) :=
 λ _ _ _ H _ I h=>a4Z I hg hm hv ⟨v,H,I,r,h⟩ hn hd
variable {a b:Expr} {ta tb:TE} {pos:Pos}
variable {tA tB':TT} {rest:List Expr}
def tAnd (t u:TT):TT:=λ σ H Q=>t σ H λ c H1=>if c=true then u σ H1 Q else Q false H1
def tOr (t u:TT):TT:=λ σ H Q=>t σ H λ c H1=>if c=true then Q true H1 else u σ H1 Q
def tNot (t:TT):TT:=λ σ H Q=>t σ H λ c H1=>Q (!c) H1
theorem a6B (ha:PT X a tA):PW X (.BoolOp .And [a] pos) tA:=by
 intro wh pins s σ H Q I h
 refine isTrue_and (thn (ha pins s σ H Q I h) λ c s1 e=>?_)
 cases c with
 | true=>exact isTrue_and_nil e
 | false=>exact e
theorem b1Q (ha:PT X a tA):PW X (.BoolOp .Or [a] pos) tA:=by
 intro wh pins s σ H Q I h
 refine isTrue_or (thn (ha pins s σ H Q I h) λ c s1 e=>?_)
 cases c with
 | false=>exact isTrue_or_nil e
 | true=>exact e
theorem a8D (ha:PT X a tA) (hb:PW X (.BoolOp .And (b::rest) pos) tB'):PW X (.BoolOp .And (a::b::rest) pos) (tAnd tA tB'):=by
 intro wh pins s σ H Q I h
 refine isTrue_and (thn (ha pins s σ H _ I h) λ c s1 ⟨H1,I1,q1⟩=>?_)
 cases c with
 | true=>exact hb wh pins s1 σ H1 Q I1 q1
 | false=>exact ⟨H1,I1,q1⟩
theorem b4M (ha:PT X a tA) (hb:PW X (.BoolOp .Or (b::rest) pos) tB'):PW X (.BoolOp .Or (a::b::rest) pos) (tOr tA tB'):=by
 intro wh pins s σ H Q I h
 refine isTrue_or (thn (ha pins s σ H _ I h) λ c s1 ⟨H1,I1,q1⟩=>?_)
 cases c with
 | true=>exact ⟨H1,I1,q1⟩
 | false=>exact hb wh pins s1 σ H1 Q I1 q1
theorem a2C (ha:PT X a tA):PT X (.UnaryOp .Not a pos) (tNot tA):=by
 intro pins s σ H Q I h
 exact isTrue_not (ha pins s σ H (λ c H1=>Q (!c) H1) I h)
def b6E (ta tb:TE):TE:=λ σ H Q=>ta σ H λ x H1=>∃ c,x = .bl c/\if c=true then tb σ H1 Q else Q (.bl false) H1
def b6F (ta:TE):TE:=λ σ H Q=>ta σ H λ x H1=>∃ c,x = .bl c/\Q (.bl (!c)) H1
theorem a5A {op} {t:TE} (h:PE X a t):PE X (.BoolOp op [a] pos) t:=λ pins s σ H Q I hw=>BoolOp_one (h pins s σ H Q I hw)
theorem a3T (ha:PE X a ta) (hb:PE X (.BoolOp .And (b::rest) pos) tb):PE X (.BoolOp .And (a::b::rest) pos) (b6E ta tb):=by
 intro pins s σ H Q I h
 refine BoolOp_and (thn (ha pins s σ H _ I h) λ v s1 ⟨x,H1,I1,r1,q1⟩=>?_)
 obtain ⟨c,rfl,q1⟩:=q1
 cases r1
 refine wpAny_truthy_bool ?_
 cases c with
 | true=>exact hb pins s1 σ H1 Q I1 q1
 | false=>exact ⟨.bl false,H1,I1,rfl,q1⟩
theorem b1R (ha:PE X a ta):PE X (.UnaryOp .Not a pos) (b6F ta):=by
 intro pins s σ H Q I h
 refine UnaryOp_ (thn (ha pins s σ H _ I h) λ v s1 ⟨x,H1,I1,r1,q1⟩=>?_)
 obtain ⟨c,rfl,q1⟩:=q1
 cases r1
 exact not_of (wpAny_truthy_bool ⟨.bl (!c),H1,I1,rfl,q1⟩)
end
end L2
namespace L2
open PySem PySem.Spec PyProof.Rows
def SqL (K:Φρ) (H:Hp) (a:Addr) (xs:List V):Prop :=
 Rd H a (.lst xs) \/
  ∃ (o:Obj) (its:Array Value) (n:Nat),K.lookup a=some o/\o.cls = .type "list" /\ o.dict=none/\o.data = .seq its n/\its.size<=sizeLine/\Vals xs its.toList
def SqT (K:Φρ) (H:Hp) (a:Addr) (xs:List V):Prop :=
 Rd H a (.tup xs) \/
  ∃ (o:Obj) (its:Array Value) (n:Nat),K.lookup a=some o/\o.cls = .type "tuple" /\ o.data = .seq its n/\its.size<=sizeLine/\Vals xs its.toList
def absV:Value->Option V
 | .none=>some .non
 | .bool b=>some (.bl b)
 | .int i _=>some (.int i)
 | .str x _=>some (.str x)
 | .bytes b _=>some (.byt b)
 | .float b _=>some (.flt b)
 | .ref a=>some (.ref a)
 | .type n=>some (.ty n)
 | _=>none
theorem RelV.abs {x:V} {u:Value} (r:RelV x u):absV u=some x:=by
 cases x with
 | non=>cases r; rfl
 | bl _=>cases r; rfl
 | int _=>obtain ⟨t,rfl⟩:=r; rfl
 | str _=>obtain ⟨t,rfl⟩:=r; rfl
 | byt _=>obtain ⟨t,rfl⟩:=r; rfl
 | flt _=>obtain ⟨t,rfl⟩:=r; rfl
 | ref _=>cases r; rfl
 | ty _=>cases r; rfl
theorem RelV.inj {x y:V} {u:Value} (r:RelV x u) (q:RelV y u):x=y:=Option.some.inj (r.abs.symm.trans q.abs)
theorem Vals.inj:∀ {xs ys:List V} {us:List Value},Vals xs us->Vals ys us->xs=ys
 | _,_,_,.nil,.nil=>rfl
 | _,_,_,.cons r t,.cons r' t'=>by rw [r.inj r',Vals.inj t t']
section
variable {X:Cx} {pins:List (Addr × Obj)} {σ:St} {H:Hp} {s:Shared} {a:Addr} {xs ys:List V}
theorem SqL.of {K:Φρ} (h:H a=some (.lst xs)):SqL K H a xs:=.inl (.inl h)
theorem SqT.of {K:Φρ} (h:H a=some (.tup xs)):SqT K H a xs:=.inl (.inl h)
theorem Inv.list (I:Inv X pins σ H s) (h:SqL X.K H a xs):∃ its:List Value,Vals xs its/\PlainL s.heap a its.toArray/\xs.length<=sizeLine:=by
 rcases h with h | ⟨o,its,n,hk,hc,hd,hs,hz,r⟩
 ·obtain ⟨z,its,n,r,e⟩:=h.ok I.hok
  exact ⟨its,r,⟨_,n,e,rfl,rfl,rfl⟩,z⟩
 ·refine ⟨its.toList,r,⟨o,n,I.kIn a o hk,hc,hd,by simpa using hs⟩,?_⟩
  have e:=r.length
  simp only [Array.length_toList] at e
  omega
theorem Inv.tuple (I:Inv X pins σ H s) (h:SqT X.K H a xs):∃ its:List Value,Vals xs its/\IsTup s.heap a its.toArray/\xs.length<=sizeLine:=by
 rcases h with h | ⟨o,its,n,hk,hc,hs,hz,r⟩
 ·obtain ⟨z,its,r,p⟩:=h.ok I.hok
  exact ⟨its,r,p,z⟩
 ·refine ⟨its.toList,r,⟨o,I.kIn a o hk,hc,n,by simpa using hs⟩,?_⟩
  have e:=r.length
  simp only [Array.length_toList] at e
  omega
theorem Inv.list_inj (I:Inv X pins σ H s) (h:SqL X.K H a xs) (h':SqL X.K H a ys):xs=ys:=by
 obtain ⟨its,r,⟨o,n,e,_,_,d⟩,_⟩:=I.list h
 obtain ⟨its',r',⟨o',n',e',_,_,d'⟩,_⟩:=I.list h'
 rw [e] at e'; cases e'
 rw [d] at d'
 injection d' with d1 _
 have:its=its':=by simpa using congrArg Array.toList d1
 subst this
 exact r.inj r'
end
abbrev Cx.wish (X:Cx) (E:Value->Shared->Prop):Cx:={ X with xe:=E }
abbrev Cx.nox (X:Cx):Cx:=X.wish λ _ _=>False
theorem Cx.Ok.wish {X:Cx} (ok:X.Ok) (E:Value->Shared->Prop):(X.wish E).Ok :=
 ⟨ok.mod,ok.kind,ok.glob,ok.blt,ok.above,ok.inj,ok.has,ok.cab,ok.hd,ok.frames,ok.stk,ok.exf,ok.bs,ok.bsz,ok.noex,ok.exfs,ok.funs,ok.frf⟩
theorem Cx.Ok.unwish {X:Cx} {E:Value->Shared->Prop} (ok:(X.wish E).Ok):X.Ok :=
 ⟨ok.mod,ok.kind,ok.glob,ok.blt,ok.above,ok.inj,ok.has,ok.cab,ok.hd,ok.frames,ok.stk,ok.exf,ok.bs,ok.bsz,ok.noex,ok.exfs,ok.funs,ok.frf⟩
section
variable {X:Cx} {pins:List (Addr × Obj)} {σ:St} {H:Hp} {s:Shared} {E:Value->Shared->Prop}
theorem Inv.wish (I:Inv X pins σ H s) (E:Value->Shared->Prop):Inv (X.wish E) pins σ H s:=⟨I.ok.wish E,I.os,I.bare,I.base,I.loc,I.cell,I.free,I.freeC,I.pin,I.hok,I.len⟩
theorem Inv.unwish (I:Inv (X.wish E) pins σ H s):Inv X pins σ H s:=⟨I.ok.unwish,I.os,I.bare,I.base,I.loc,I.cell,I.free,I.freeC,I.pin,I.hok,I.len⟩
theorem SP.unwish {D:Ends} {f:Flow} {s':Shared} (h:SP (X.wish E) pins D f s'):SP X pins D f s':=by
 cases f with
 | next=>obtain ⟨σ',H',I,q⟩:=h; exact ⟨σ',H',I.unwish,q⟩
 | brk=>obtain ⟨σ',H',I,q⟩:=h; exact ⟨σ',H',I.unwish,q⟩
 | cont=>obtain ⟨σ',H',I,q⟩:=h; exact ⟨σ',H',I.unwish,q⟩
 | ret u=>obtain ⟨v,σ',H',I,r,q⟩:=h; exact ⟨v,σ',H',I.unwish,r,q⟩
theorem PSs.nox {st:List Stmt} {t:TS} (h:PSs X.nox st t):PSs X st t:=λ pins s σ H D I hw =>
 wpAny_mono (h pins s σ H D (I.wish _) hw) (λ _ _ q=>q.unwish) λ _ _ z=>False.elim z
end
section
variable {X:Cx} {st:Stmt} {rest:List Stmt} {t u:TS} {e:Expr} {te:TE} {pos:Pos}
def b6G:TS:=λ D σ H=>D.nx σ H
def tSeq (t u:TS):TS:=λ D σ H=>t { D with nx:=u D } σ H
theorem a0N:PSs X [] b6G:=λ _ _ σ H _ I h=>wpAny_execs_nil ⟨σ,H,I,h⟩
theorem a0E (h1:PS X st t) (h2:PSs X rest u):PSs X (st::rest) (tSeq t u):=by
 intro pins s σ H D I h
 refine wpAny_execs_cons (thn (h1 pins s σ H { D with nx:=u D } I h) λ f s1 q=>?_)
 cases f with
 | next =>
  obtain ⟨σ',H',I',q⟩:=q
  exact h2 pins s1 σ' H' D I' q
 | ret v=>exact q
 | brk=>exact q
 | cont=>exact q
theorem a0F (h1:PS X st t):PSs X [st] t:=by
 intro pins s σ H D I h
 refine wpAny_execs_cons (thn (h1 pins s σ H D I h) λ f s1 q=>?_)
 cases f with
 | next=>exact wpAny_execs_nil q
 | ret v=>exact q
 | brk=>exact q
 | cont=>exact q
theorem Inv.quiet {pins:List (Addr × Obj)} {σ:St} {H:Hp} {s:Shared} (I:Inv X pins σ H s):interactive X.env=false:=by simp [interactive,I.ok.kind]
def b6H (te:TE):TS:=λ D σ H=>te σ H λ _ H1=>D.nx σ H1
theorem a1O (he:PE X e te) (hs:swapsWith e none pos.line X.env=pure false:=by rfl):PS X (.Expr e pos) (b6H te):=by
 intro pins s σ H D I h
 exact wpAny_Expr_any (thn (he pins s σ H _ I h) λ v s1 ⟨x,H1,I1,r1,q1⟩=>⟨σ,H1,I1,q1⟩) I.quiet hs
def tRet (te:TE):TS:=λ D σ H=>te σ H D.rt
theorem a0W (he:PE X e te):PS X (.Return (some e) pos) (tRet te):=by
 intro pins s σ H D I h
 exact wpAny_Return_some (thn (he pins s σ H _ I h) λ v s1 ⟨x,H1,I1,r1,q1⟩=>⟨x,σ,H1,I1,r1,q1⟩)
def tIfS (c:TT) (t u:TS):TS:=λ D σ H=>c σ H λ b H1=>if b=true then t D σ H1 else u D σ H1
theorem a1G {c:Expr} {a b:List Stmt} {tc:TT} (hc:PT X c tc) (ha:PSs X a t) (hb:PSs X b u):PS X (.If c a b pos) (tIfS tc t u):=by
 intro pins s σ H D I h
 refine wpAny_If (thn (hc pins s σ H _ I h) λ d s1 ⟨H1,I1,q1⟩=>?_)
 cases d with
 | true=>exact ha pins s1 σ H1 D I1 q1
 | false=>exact hb pins s1 σ H1 D I1 q1
end
abbrev TG:=V->St->Hp->(St->Hp->Prop)->Prop
abbrev TGs:=List V->St->Hp->(St->Hp->Prop)->Prop
def PG (X:Cx) (target:Expr) (t:TG):Prop :=
 ∀ (pins:List (Addr × Obj)) (s:Shared) (σ:St) (H:Hp) (v:V) (u:Value) (Q:St->Hp->Prop),Inv X pins σ H s->RelV v u->t v σ H Q ->
  wpAny (model X.prog X.w) X.A (assign target X.env u) (λ _ s'=>∃ σ' H',Inv X pins σ' H' s'/\Q σ' H') X.xe s
def PGs (X:Cx) (ts:List Expr) (t:TGs):Prop :=
 ∀ (pins:List (Addr × Obj)) (s:Shared) (σ:St) (H:Hp) (vs:List V) (us:List Value) (Q:St->Hp->Prop),Inv X pins σ H s->Vals vs us->t vs σ H Q ->
  wpAny (model X.prog X.w) X.A (assignInOrder ((assignEach ts X.env).map (·.2)) us) (λ _ s'=>∃ σ' H',Inv X pins σ' H' s'/\Q σ' H') X.xe s
section
variable {X:Cx} {pos:Pos}
def b4N (i:Nat):TG:=λ v σ H Q=>Q (σ.set i (some v)) H
theorem a1M {i:Nat} {x:Str} (hN:X.N.Nodup) (hi:X.N[i]?=some x) (hx:Loc X.env.scope x) (hf:X.fn x=true\/X.env.scope.names.lookup x=some .local:=by first | exact .inl rfl | exact .inr rfl | assumption):PG X (.Name x pos) (b4N i):=by
 intro pins s σ H v u Q I r h
 exact wpAny_assign_Name (a2T I hN hi hx r (λ s' I'=>⟨_,H,I',h⟩) hf)
def gNil:TGs:=λ vs σ H Q=>vs=[]/\Q σ H
def b6I (t:TG) (u:TGs):TGs:=λ vs σ H Q=>∃ v r,vs=v::r/\t v σ H λ σ' H'=>u r σ' H' Q
theorem a8E:PGs X [] gNil:=by
 intro pins s σ H vs us Q I r h
 obtain ⟨e,h⟩:=h
 subst e
 cases r
 exact assignInOrder_nil ⟨σ,H,I,h⟩
theorem a2U {e:Expr} {es:List Expr} {t:TG} {u:TGs} (h1:PG X e t) (h2:PGs X es u)
  (hs:(assignEach (e::es) X.env).map (·.2)=assign e X.env::(assignEach es X.env).map (·.2):=by rfl):PGs X (e::es) (b6I t u):=by
 intro pins s σ H vs us Q I r h
 obtain ⟨v,vr,e1,h⟩:=h
 subst e1
 cases r with
 | cons r rr =>
  rw [hs]
  refine assignInOrder_cons (thn (h1 pins s σ H _ _ _ I r h) λ _ s1 ⟨σ1,H1,I1,q1⟩=>?_)
  exact h2 pins s1 σ1 H1 _ _ Q I1 rr q1
def gTup (K:Φρ) (n:Nat) (t:TGs):TG:=λ v σ H Q=>∃ a xs,v = .ref a/\SqT K H a xs/\xs.length=n/\t xs σ H Q
theorem b4O {es:List Expr} {k:Nat} {t:TGs} {n:Nat} (hc:X.calm=true) (h:PGs X es t)
  (hn:(assignEach es X.env).length=n:=by rfl) (hst:(assignEach es X.env).findIdx? (·.1)=none:=by rfl):PG X (.Tuple es k pos) (gTup X.K n t):=by
 intro pins s σ H v u Q I r hw
 obtain ⟨a,xs,e1,hq,hl,hw⟩:=hw
 subst e1
 cases r
 obtain ⟨its,rv,ht,hz⟩:=I.tuple hq
 refine assign_Tuple_tuple (I.ok.hd hc) ht (by simp [hn,<- hl,rv.length]) hst λ h' hx=>?_
 have I1:Inv X pins σ H { s with heap:=h' }:=I.kept (t':=s.toks) λ b o e=>hx b o (Nat.ne_of_lt (Heap.lt_size e)) e
 exact h pins _ σ H xs _ Q I1 (by simpa using rv) hw
def tAsg (te:TE) (g:TG):TS:=λ D σ H=>te σ H λ x H1=>g x σ H1 D.nx
theorem b4P {tg e:Expr} {te:TE} {g:TG} (he:PE X e te) (hg:PG X tg g) (hs:swapsWithSole [tg] e pos.line X.env=pure false:=by rfl) (hw:swappedStores [tg] e X.env=pure none:=by rfl)
  (h1:(assignEach [tg] X.env).map (·.2)=[assign tg X.env]:=by rfl):PS X (.Assign [tg] e pos) (tAsg te g):=by
 intro pins s σ H D I h
 refine wpAny_Assign_stores (thn (he pins s σ H _ I h) λ v s1 ⟨x,H1,I1,r1,q1⟩=>?_) hs hw
 rw [h1]
 exact thn (hg pins s1 σ H1 x v _ I1 r1 q1) λ _ s2 q=>q
theorem a0Y {i:Nat} {x:Str} {e:Expr} {te:TE} {pos':Pos} (hN:X.N.Nodup) (hi:X.N[i]?=some x) (hx:Loc X.env.scope x) (he:PE X e te) (hs:swapsWith e (some (.Name x pos')) pos.line X.env=pure false:=by rfl) (hf:X.fn x=true\/X.env.scope.names.lookup x=some .local:=by first | exact .inl rfl | exact .inr rfl | assumption) :
  PS X (.Assign [.Name x pos'] e pos) (tAsg te (b4N i)):=by
 intro pins s σ H D I h
 refine wpAny_Assign_Name (thn (he pins s σ H _ I h) λ v s1 ⟨y,H1,I1,r1,q1⟩=>?_) hs
 exact a2T I1 hN hi hx r1 (λ s2 I2=>⟨_,H1,I2,q1⟩) hf
def tPar (i j:Nat) (ta:TA):TS:=λ D σ H=>ta σ H λ vs H1=>∃ v w,vs=[v,w]/\D.nx ((σ.set i (some v)).set j (some w)) H1
theorem b4Q {i j:Nat} {x y:Str} {a b:Expr} {ta:TA} {px py pt:Pos} {kt k2 pt2} (hc:X.calm=true) (hN:X.N.Nodup) (hi:X.N[i]?=some x) (hj:X.N[j]?=some y) (hij:i≠j)
  (hx:X.env.scope.names.lookup x=some .local) (hy:X.env.scope.names.lookup y=some .local) (ha:PA X [a,b] ta)
  (hw:swappedStores [.Tuple [.Name x px,.Name y py] kt pt] (.Tuple [a,b] k2 pt2) X.env=pure (some [x,y]))
  (hs:swapsWithSole [.Tuple [.Name x px,.Name y py] kt pt] (.Tuple [a,b] k2 pt2) pos.line X.env=pure false:=by rfl) :
  PS X (.Assign [.Tuple [.Name x px,.Name y py] kt pt] (.Tuple [a,b] k2 pt2) pos) (tPar i j ta):=by
 intro pins s σ H D I h
 rw [exec_Assign_arm]
 refine wpAny_bind (wpAny_standAt ?_)
 rw [hs]
 refine wpAny_bind (wpAny_pure ?_)
 rw [if_neg (by decide)]
 refine wpAny_bind (Tuple_ (thn (ha _ pins s σ H _ I h) λ us s1 ⟨vs,H1,I1,r1,q1⟩=>?_))
 obtain ⟨v,w,e1,q1⟩:=q1
 subst e1
 obtain ⟨u1,u2,rfl,rv,rw'⟩:∃ u1 u2,us=[u1,u2]/\RelV v u1/\RelV w u2:=by
  cases r1 with
  | cons p q =>
   cases q with
   | cons p' q' =>
    cases q'
    exact ⟨_,_,rfl,p,p'⟩
 refine wpAny_newObj_type ?_ (by show 2<=sizeLine; decide)
 have I2:Inv X pins σ H1 { s1 with heap:=s1.heap.push { cls:=.type "tuple", data:=.seq [u1,u2].toArray } }:=I1.kept (t':=s1.toks) λ b o e=>Heap.get?_push_of_some _ e
 rw [hw]
 refine wpAny_bind (wpAny_pure ?_)
 show wpAny (model X.prog X.w) X.A (do rule "assign.swapped-stores"; let items <- unpackItems (.ref s1.heap.objs.size) 2 none; assignInOrder [λ v=>bindName X.env y v,λ v=>bindName X.env x v] items.reverse; pure Flow.next) _ _ _
 refine wpAny_bind (wpAny_rule (wpAny_bind (unpackItems_tuple (items:=#[u1,u2]) (I.ok.hd hc) (IsTup.new s1.heap _) λ h' hx'=>?_)))
 have I3:=I2.kept (h':=h') (t':=s1.toks) λ b o e=>hx' b o (Nat.ne_of_lt (Heap.lt_size e)) e
 show wpAny _ _ (assignInOrder [λ v=>bindName X.env y v,λ v=>bindName X.env x v] [u2,u1] >>= λ _=>pure Flow.next) _ _ _
 refine wpAny_bind (assignInOrder_cons (wpAny_bindName (a2T I3 hN hj (.inl hy) rw' (λ s2 I4=>?_) (.inr hy))))
 refine assignInOrder_cons (wpAny_bindName (a2T I4 hN hi (.inl hx) rv (λ s3 I5=>assignInOrder_nil (wpAny_pure ?_)) (.inr hx)))
 rw [List.set_comm _ _ (Ne.symm hij)] at I5
 exact ⟨_,H1,I5,q1⟩
end
section
variable {X:Cx} {pos:Pos}
end
structure It where
 go:Nat->Hp->Prop
 yld:Nat->Hp->V->Hp->Prop
 stop:Nat->Hp->Prop
def FpOk (X:Cx) (pins:List (Addr × Obj)) (H:Hp) (b:Addr):Prop :=
 H b=none/\b≠X.env.locals/\b ∉ X.fs/\(b∈X.ex\/X.s₀.heap.objs.size<=b)/\(∀ x c,X.env.cells.lookup x=some c->c≠b)/\∀ p∈X.pn++pins,p.1≠b
theorem Inv.fpOk {X:Cx} {pins:List (Addr × Obj)} {σ:St} {H H':Hp} {s:Shared} {b:Addr} (I:Inv X pins σ H s) (hb:s.heap.objs.size<=b) (hn:H' b=none):FpOk X pins H' b:=by
 refine ⟨hn,Nat.ne_of_gt (Nat.lt_of_lt_of_le I.lt hb),I.nofs hb,.inr (Nat.le_trans I.sz hb),λ x c e z=>?_,λ p hp z=>?_⟩
 ·obtain ⟨v,q⟩:=I.cell x c e
  exact absurd (Nat.lt_of_lt_of_le q.lt (by rw [z]; exact hb)) (Nat.lt_irrefl _)
 ·exact absurd (Nat.lt_of_lt_of_le (Heap.lt_size (I.pin p hp).1) (by rw [z]; exact hb)) (Nat.lt_irrefl _)
structure Turn (P:Program) (w:World) (K:Φρ) (tg:Expr) (J:It) (fp:List Addr) (it:Addr) (tn:Nat->Heap->Prop):Prop where
 mem:it∈fp
 obj:∀ i h,tn i h->∀ b∈fp,∃ o,h.get? b=some o/\∀ v,o.data ≠ .cell v
 keep:∀ i h h',tn i h->(∀ b∈fp,∀ o,h.get? b=some o->h'.get? b=some o)->tn i h'
 item:∀ (X:Cx),X.prog=P->X.w=w->X.K=K->X.calm=true->∀ (i:Nat) (pins:List (Addr × Obj)) (s:Shared) (σ:St) (H:Hp) (E:Value->Shared->Prop),Inv X pins σ H s->(∀ b∈fp,FpOk X pins H b)->tn i s.heap->J.go i H ->
  wpAny (model P w) X.A (pyNext (.ref it)) (λ r s1=>∃ u,r=some u /\
   wpAny (model P w) X.A (letOwnedTupleGo tg (.ref it) u) (λ _ s2=>∃ x H',Inv X pins σ H' s2/\RelV x u/\J.yld i H x H'/\tn (i+1) s2.heap/\∀ b∈fp,H' b=none) E s1) E s
 done:∀ (X:Cx),X.prog=P->X.w=w->X.K=K->X.calm=true->∀ (i:Nat) (pins:List (Addr × Obj)) (s:Shared) (σ:St) (H:Hp) (E:Value->Shared->Prop),Inv X pins σ H s->(∀ b∈fp,FpOk X pins H b)->tn i s.heap->J.stop i H ->
  wpAny (model P w) X.A (pyNext (.ref it)) (λ r s1=>r=none/\Inv X pins σ H s1) E s
 self:∀ (A:Around) (i:Nat) (s:Shared) (Q:Value->Shared->Prop) (E:Value->Shared->Prop),tn i s.heap->Q (.ref it) s->wpAny (model P w) A (pyIter (.ref it)) Q E s
abbrev TI:=St->Hp->(It->Hp->Prop)->Prop
def PIE (X:Cx) (pins:List (Addr × Obj)) (σ:St) (tg:Expr) (R:It->Hp->Prop) (itv:Value) (s2:Shared):Prop :=
 ∃ (it:Addr) (fp:List Addr) (tn:Nat->Heap->Prop) (J:It) (H':Hp),itv = .ref it/\Inv X pins σ H' s2/\Turn X.prog X.w X.K tg J fp it tn/\tn 0 s2.heap/\(∀ b∈fp,FpOk X pins H' b)/\R J H'
def PI (X:Cx) (tg iter:Expr) (wi:TI):Prop :=
 ∀ (pins:List (Addr × Obj)) (s:Shared) (σ:St) (H:Hp) (R:It->Hp->Prop),Inv X pins σ H s->wi σ H R ->
  wpAny (model X.prog X.w) X.A (eval iter X.env) (λ v s1=>wpAny (model X.prog X.w) X.A (pyIter v) (PIE X pins σ tg R) X.xe s1) X.xe s
theorem b4R {M : Model} {A : Around} {E : Value -> Shared -> Prop} {s : Shared} {tg : Expr} {it : Addr} {u : Value} {o : Obj} {n : String} {vs : Array Value} {Q : Unit -> Shared -> Prop} (ho : s.heap.get? it = some o) (hc : o.cls = .type n) (hd : o.data = .fields vs)
    (hn : ["enumerate", "zip", "dict_itemiterator", "dict_reverseitemiterator", "odict_iterator", "itertools.zip_longest", "itertools.pairwise"].contains n = false) (hQ : Q () s) : wpAny M A (letOwnedTupleGo tg (.ref it) u) Q E s := by
  unfold letOwnedTupleGo
  cases tg <;> first
    | exact wpAny_pure hQ
    | (cases u <;> first
        | exact wpAny_pure hQ
        | (refine wpAny_bind (wpAny_load ho ?_)
           rw [hc, hd]
           show wpAny M A (if (["enumerate", "zip", "dict_itemiterator", "dict_reverseitemiterator", "odict_iterator", "itertools.zip_longest", "itertools.pairwise"].contains n && vs[0]? == some (rawInt _)) = true then _ else _) Q E s
           rw [if_neg (by intro h; rw [hn, Bool.false_and] at h; cases h)]
           exact wpAny_pure hQ))
def Itl (K:Φρ) (a:Addr):It :=
 ⟨λ i H=>∃ xs x,SqL K H a xs/\xs[i]?=some x,λ i H x H'=>H'=H/\∀ xs,SqL K H a xs->xs[i]?=some x,λ i H=>∃ xs,SqL K H a xs/\xs.length<=i⟩
def Itr (lo:Int) (n:Nat):It:=⟨λ i _=>i < n,λ i H x H'=>H'=H/\x = .int (lo+i),λ i _=>n<=i⟩
theorem a8F {P:Program} {w:World} {K:Φρ} {tg:Expr} (a it:Addr):Turn P w K tg (Itl K a) [it] it (λ i h=>h.IsListIter it a i) where
 mem:=by simp
 obj:=λ i h st b hb=>by
  have e:b=it:=by simpa using hb
  subst e
  obtain ⟨o,e,c,d⟩:=st
  exact ⟨o,e,λ v z=>by rw [d] at z; cases z⟩
 keep:=λ i h h' st k=>st.at λ o e=>k it (by simp) o e
 item:=by
  intro X hP hw hK hc i pins s σ H E I hf st hg
  subst hP hw hK
  obtain ⟨xs,x,hq,hx⟩:=hg
  obtain ⟨its,rv,p,hz⟩:=I.list hq
  obtain ⟨u,hu,ru⟩:=rv.get hx
  obtain ⟨f0,f1,f2,f3,f4,f5⟩:=hf it (by simp)
  refine wpAny_pyNext_list_item st p.isList (x:=u) (by simpa using hu) λ h' st' sb=>?_
  have I1:Inv X pins σ H { s with heap:=h' }:=I.turned (t':=s.toks) (λ b o hb e=>(sb.2 b hb).trans e) f0 f1 f3 f4 f5
  obtain ⟨o,e,c,d⟩:=id st'
  exact ⟨u,rfl,b4R (s:={ s with heap:=h' }) e c d (by decide) ⟨x,H,I1,ru,⟨rfl,λ ys hy=>by rw [I.list_inj hy hq]; exact hx⟩,st',λ b hb=>(hf b hb).1⟩⟩
 done:=by
  intro X hP hw hK hc i pins s σ H E I hf st hg
  subst hP hw hK
  obtain ⟨xs,hq,hx⟩:=hg
  obtain ⟨its,rv,p,hz⟩:=I.list hq
  obtain ⟨f0,f1,f2,f3,f4,f5⟩:=hf it (by simp)
  have hl:=rv.length
  exact wpAny_pyNext_list_end (I.ok.hd hc) st p.isList (by simp; omega) λ h' eb=>⟨rfl,I.turned (t':=s.toks) (λ b o hb e=>eb b o hb e) f0 f1 f3 f4 f5⟩
 self:=λ _ _ _ _ _ st h=>wpAny_pyIter_listiter st h
theorem a7P {P:Program} {w:World} {K:Φρ} {tg:Expr} (it:Addr) (lo:Int) (n:Nat):Turn P w K tg (Itr lo n) [it] it (λ i h=>IsRangeIter h it (lo+(i:Nat)*1) ((n:Int) - (i:Nat)) 1) where
 mem:=by simp
 obj:=λ i h st b hb=>by
  have e:b=it:=by simpa using hb
  subst e
  exact ⟨_,st,λ v z=>by
   have z':Data.fields _=Data.cell v:=z
   cases z'⟩
 keep:=λ i h h' st k=>k it (by simp) _ st
 item:=by
  intro X hP hw hK hc i pins s σ H E I hf st hg
  subst hP hw hK
  obtain ⟨f0,f1,f2,f3,f4,f5⟩:=hf it (by simp)
  have W:=Walks.range (prog:=X.prog) (w:=X.w) (I.ok.hd hc) it lo 1 n
  refine W.item i s _ _ hg st λ v h' tk hv st' kk=>?_
  obtain ⟨t,rfl⟩:=hv
  have I1:Inv X pins σ H { s with heap:=h',toks:=tk }:=I.turned (λ b o hb e=>kk b o (by simpa using hb) e) f0 f1 f3 f4 f5
  refine ⟨_,rfl,b4R (s:={ s with heap:=h',toks:=tk }) (n:="range_iterator") st' rfl rfl (by decide) ⟨.int (lo+i),H,I1,⟨t,?_⟩,⟨rfl,rfl⟩,st',λ b hb=>(hf b hb).1⟩⟩
  rw [Int.mul_one]
 done:=by
  intro X hP hw hK hc i pins s σ H E I hf st hg
  subst hP hw hK
  obtain ⟨f0,f1,f2,f3,f4,f5⟩:=hf it (by simp)
  exact wpAny_pyNext_range_end (I.ok.hd hc) st (by have:n<=i:=hg; omega) λ h' eb=>⟨rfl,I.turned (t':=s.toks) (λ b o hb e=>eb b o hb e) f0 f1 f3 f4 f5⟩
 self:=λ _ _ _ _ _ st h=>wpAny_pyIter_rangeiter st h
end L2
namespace L2
open PySem PySem.Spec PyProof.Rows
section
variable {X:Cx} {tg:Expr}
def b4S (K:Φρ) (tl:TE):TI:=λ σ H R=>tl σ H λ x H1=>∃ a,x = .ref a/\(∃ xs,SqL K H1 a xs)/\R (Itl K a) H1
theorem b2F {l:Expr} {tl:TE} (hl:PE X l tl):PI X tg l (b4S X.K tl):=by
 intro pins s σ H R I h
 refine thn (hl pins s σ H _ I h) λ v s1 ⟨x,H1,I1,r1,q1⟩=>?_
 obtain ⟨a,e,⟨xs,hq⟩,q⟩:=q1
 subst e
 cases r1
 obtain ⟨its,rv,p,hz⟩:=I1.list hq
 refine wpAny_pyIter_list p.isList ?_
 refine ⟨s1.heap.objs.size,[s1.heap.objs.size],_,_,H1,rfl,I1.kept (t':=s1.toks) λ b o e=>Heap.get?_push_of_some _ e,a8F a _,⟨_,Heap.get?_push_size _ rfl,rfl,rfl⟩,λ b hb=>?_,q⟩
 have e:b=s1.heap.objs.size:=by simpa using hb
 subst e
 exact I1.fpOk (Nat.le_refl _) (I1.hok.fresh (Nat.le_refl _))
theorem a6R {pins:List (Addr × Obj)} {σ:St} {H:Hp} {s:Shared} {R:It->Hp->Prop} {E:Value->Shared->Prop} {lo hi:Int} {t u v:Tok} {tk:Nat} (I:Inv X pins σ H s) (h1 : -(2 ^ 62)<=lo) (h2:lo < 2 ^ 62) (h3 : -(2 ^ 62)<=hi) (h4:hi < 2 ^ 62)
  (q:R (Itr lo (hi - lo).toNat) H):wpAny (model X.prog X.w) X.A (pyIter (.ref s.heap.objs.size)) (PIE X pins σ tg R) E { s with heap:=s.heap.push { cls:=.type "range", data:=.fields #[.int lo t,.int hi u,.int 1 v] },toks:=tk }:=by
 refine wpAny_pyIter_range (IsRange.new ..) (small_one h1 h2 h3 h4) ?_
 have I1:Inv X pins σ H { s with heap:=s.heap.push { cls:=.type "range", data:=.fields #[.int lo t,.int hi u,.int 1 v] },toks:=tk }:=I.kept λ b o e=>Heap.get?_push_of_some _ e
 refine ⟨(s.heap.push { cls:=.type "range", data:=.fields #[.int lo t,.int hi u,.int 1 v] }).objs.size,[(s.heap.push { cls:=.type "range", data:=.fields #[.int lo t,.int hi u,.int 1 v] }).objs.size],_,_,H,rfl,
  I1.kept (t':=tk) λ b o e=>Heap.get?_push_of_some _ e,a7P _ lo (hi - lo).toNat,?_,λ b hb=>?_,q⟩
 ·have e1:lo+((0:Nat):Int)*1=lo:=by simp
  have e2:(((hi - lo).toNat:Nat):Int) - ((0:Nat):Int)=Builtin.Range.rangeSize lo hi 1:=by rw [rangeSize_one]; split <;> omega
  show IsRangeIter _ _ (lo+((0:Nat):Int)*1) ((((hi - lo).toNat:Nat):Int) - ((0:Nat):Int)) 1
  rw [e1,e2]
  exact Heap.get?_push_size _ rfl
 ·have e:b=(s.heap.push { cls:=.type "range", data:=.fields #[.int lo t,.int hi u,.int 1 v] }).objs.size:=by simpa using hb
  subst e
  exact I1.fpOk (Nat.le_refl _) (I1.hok.fresh (Nat.le_refl _))
def b6J (ta:TA):TI:=λ σ H R=>ta σ H λ vs H1=>∃ j:Int,vs=[.int j] /\ -(2 ^ 62)<=j/\j < 2 ^ 62/\R (Itr 0 j.toNat) H1
def b6K (ta:TA):TI:=λ σ H R=>ta σ H λ vs H1=>∃ i j:Int,vs=[.int i,.int j]/\(-(2 ^ 62)<=i/\i < 2 ^ 62 /\ -(2 ^ 62)<=j/\j < 2 ^ 62)/\R (Itr i (j - i).toNat) H1
theorem a2Z {a:Expr} {ta:TA} {p pos:Pos} (hg:Gl X "range") (hm:X.mg "range" = none) (ha:PA X [a] ta) (hs:starEach [a] X.env=[(false,eval a X.env)]:=by rfl):PI X tg (.Call (.Name "range" p) [a] [] pos) (b6J ta):=by
 intro pins s σ H R I h
 refine Call_ (a4Z I hg hm boot_range (PyProof.Rows.callWith_type1 (thn (ha pos pins s σ H _ I h) λ us s1 ⟨vs,H1,I1,r1,q1⟩=>?_) hs rfl))
 obtain ⟨j,e,q1,q2,q⟩:=q1
 subst e
 cases r1 with
 | cons r rr =>
  cases rr
  obtain ⟨t,rfl⟩:=r
  exact call_range_1 (a6R I1 (by omega) (by omega) q1 q2 (by simpa using q))
theorem a8G {a b:Expr} {ta:TA} {p pos:Pos} (hg:Gl X "range") (hm:X.mg "range" = none) (ha:PA X [a,b] ta) (hs:starEach [a,b] X.env=[(false,eval a X.env),(false,eval b X.env)]:=by rfl) (hs2:starEach [b] X.env=[(false,eval b X.env)]:=by rfl) :
  PI X tg (.Call (.Name "range" p) [a,b] [] pos) (b6K ta):=by
 intro pins s σ H R I h
 refine Call_ (a4Z I hg hm boot_range (PyProof.Rows.callWith_type1 (thn (ha pos pins s σ H _ I h) λ us s1 ⟨vs,H1,I1,r1,q1⟩=>?_) (by rw [hs,hs2]) (by rw [hs2]; rfl)))
 obtain ⟨i,j,e,⟨q1,q2,q3,q4⟩,q⟩:=q1
 subst e
 cases r1 with
 | cons r rr =>
  cases rr with
  | cons r' rr =>
   cases rr
   obtain ⟨t,rfl⟩:=r
   obtain ⟨t',rfl⟩:=r'
   exact call_range_2 (a6R I1 q1 q2 q3 q4 q)
def tFor (wi:TI) (g:TG) (tb:TS):TS:=λ D σ H=>wi σ H λ J H1=>∃ W:Nat->Nat->St->Hp->Prop,(∃ m,W 0 m σ H1)/\∀ i m σ H,W i m σ H ->
 (J.stop i H/\D.nx σ H)\/(J.go i H/\∃ N:St->Hp->Prop,(∀ σ' H',N σ' H'->∃ m',m' < m/\W (i+1) m' σ' H')/\∀ x H',J.yld i H x H'->g x σ H' λ σ2 H2=>tb { D with nx:=N,ct:=N,bk:=D.nx } σ2 H2)
def a3U (fp:List Addr) (h:Heap):List (Addr × Obj):=fp.filterMap λ b=>(h.get? b).map λ o=>(b,o)
theorem a1T {fp:List Addr} {h:Heap} {b:Addr} {o:Obj} (hb:b∈fp) (e:h.get? b=some o):(b,o)∈a3U fp h:=List.mem_filterMap.mpr ⟨b,hb,by rw [e]; rfl⟩
theorem a8H {fp:List Addr} {h:Heap} {p:Addr × Obj} (hp:p∈a3U fp h):p.1∈fp/\h.get? p.1=some p.2:=by
 obtain ⟨b,hb,e⟩:=List.mem_filterMap.mp hp
 cases q:h.get? b with
 | none=>rw [q] at e; cases e
 | some o =>
  rw [q] at e
  have e':(b,o)=p:=Option.some.inj e
  subst e'
  exact ⟨hb,q⟩
theorem Inv.pinned {pins:List (Addr × Obj)} {σ:St} {H:Hp} {s:Shared} {fp:List Addr} (I:Inv X pins σ H s) (hf:∀ b∈fp,FpOk X pins H b) (ho:∀ b∈fp,∃ o,s.heap.get? b=some o/\∀ v,o.data ≠ .cell v):Inv X (pins++a3U fp s.heap) σ H s :=
 I.pins_of λ p hp=>(List.mem_append.mp hp).elim (λ z=>I.pin p (List.mem_append_right _ z)) λ z=>by
  obtain ⟨hb,e⟩:=a8H z
  obtain ⟨f0,f1,f2,_⟩:=hf p.1 hb
  obtain ⟨o,e',d⟩:=ho p.1 hb
  rw [e] at e'; cases e'
  exact ⟨e,f0,f1,f2,d⟩
theorem Inv.unpinned {pins pl:List (Addr × Obj)} {σ:St} {H:Hp} {s:Shared} (I:Inv X (pins++pl) σ H s):Inv X pins σ H s:=I.pins_of λ p hp=>I.pin p (List.mem_append_right _ (List.mem_append_left _ hp))
theorem a6S {iter:Expr} {body:List Stmt} {wi:TI} {g:TG} {tb:TS} {pos:Pos} (hp:PassesOwn (model X.prog X.w) X.A X.env X.xe) (hc:X.calm=true) (hi:PI X tg iter wi) (hg:PG X tg g) (hb:PSs X body tb)
  (hs:∀ x,foldedSetIterable iter X.env x=pure x:=by intro _; rfl):PS X (.For tg iter body [] pos) (tFor wi g tb):=by
 intro pins s σ H D I h
 refine wpAny_For (thn (hi pins s σ H _ I h) λ v s1 h1=>thn h1 λ itv s2 h2=>?_) hs
 obtain ⟨it,fp,tn,J,H2,e,I2,T,st2,f2,W,⟨m0,w0⟩,turn⟩:=h2
 subst e
 have stat:∀ {H':Hp},(∀ b∈fp,H' b=none)->∀ b∈fp,FpOk X pins H' b:=λ hn b hb=>⟨hn b hb,(f2 b hb).2⟩
 refine codeAny_forLoop_any (λ n s'=>∃ i σ' H',Inv X pins σ' H' s'/\tn i s'.heap/\(∀ b∈fp,H' b=none)/\W i n σ' H') ?_ m0 ⟨0,σ,H2,I2,st2,λ b hb=>(f2 b hb).1,w0⟩
 rintro n s3 ⟨i,σ3,H3,I3,st3,fr3,w3⟩
 rcases turn i n σ3 H3 w3 with ⟨stop,qn⟩ | ⟨go,N,hN,step⟩
 ·refine wpAny_passesOwn hp (thn (T.done X rfl rfl rfl hc i pins s3 σ3 H3 X.xe I3 (stat fr3) st3 stop) λ r s4 ⟨hr,I4⟩=>?_)
  subst hr
  exact wpAny_execs_nil ⟨σ3,H3,I4,qn⟩
 ·refine wpAny_passesOwn hp (thn (T.item X rfl rfl rfl hc i pins s3 σ3 H3 X.xe I3 (stat fr3) st3 go) λ r s4 ⟨u,hr,h4⟩=>?_)
  subst hr
  refine wpAny_passesOwn hp (thn h4 λ _ s5 ⟨x,H5,I5,r5,y5,st5,fr5⟩=>?_)
  have I5':=I5.pinned (stat fr5) (T.obj _ _ st5)
  refine wpAny_passesOwn hp (thn (hg _ s5 σ3 H5 x u _ I5' r5 (step x H5 y5)) λ _ s6 ⟨σ6,H6,I6,q6⟩=>?_)
  refine wpAny_passesOwn hp (thn (hb _ s6 σ6 H6 _ I6 q6) λ f s7 q7=>?_)
  have again:∀ {σ7:St} {H7:Hp},Inv X (pins++a3U fp s5.heap) σ7 H7 s7->N σ7 H7->∃ m,m < n/\∃ i σ' H',Inv X pins σ' H' s7/\tn i s7.heap/\(∀ b∈fp,H' b=none)/\W i m σ' H':=λ {σ7 H7} I7 n7=>by
   obtain ⟨m',hm,w7⟩:=hN σ7 H7 n7
   refine ⟨m',hm,i+1,σ7,H7,I7.unpinned,T.keep _ _ _ st5 λ b hb o e=>(I7.pin (b,o) (List.mem_append_right _ (List.mem_append_right _ (a1T hb e)))).1,λ b hb=>?_,w7⟩
   obtain ⟨o,e,d⟩:=T.obj _ _ st5 b hb
   exact (I7.pin (b,o) (List.mem_append_right _ (List.mem_append_right _ (a1T hb e)))).2.1
  cases f with
  | next=>obtain ⟨σ7,H7,I7,n7⟩:=q7; exact again I7 n7
  | cont=>obtain ⟨σ7,H7,I7,n7⟩:=q7; exact again I7 n7
  | brk=>obtain ⟨σ7,H7,I7,q7⟩:=q7; exact ⟨σ7,H7,I7.unpinned,q7⟩
  | ret v=>obtain ⟨x7,σ7,H7,I7,r7,q7⟩:=q7; exact ⟨x7,σ7,H7,I7.unpinned,r7,q7⟩
end
theorem a1P {lo:Int} {n:Nat} {g:TG} {tb:TS} {D:Ends} {σ:St} {H:Hp} (Pv:Nat->St->Hp->Prop) (h0:Pv 0 σ H)
  (hs:∀ i σ H,i < n->Pv i σ H->g (.int (lo+i)) σ H λ σ2 H2=>tb { D with nx:=Pv (i+1),ct:=Pv (i+1),bk:=D.nx } σ2 H2) (hd:∀ σ H,Pv n σ H->D.nx σ H) :
  ∃ W:Nat->Nat->St->Hp->Prop,(∃ m,W 0 m σ H)/\∀ i m σ H,W i m σ H ->
   ((Itr lo n).stop i H/\D.nx σ H)\/((Itr lo n).go i H/\∃ N:St->Hp->Prop,(∀ σ' H',N σ' H'->∃ m',m' < m/\W (i+1) m' σ' H')/\∀ x H',(Itr lo n).yld i H x H'->g x σ H' λ σ2 H2=>tb { D with nx:=N,ct:=N,bk:=D.nx } σ2 H2):=by
 refine ⟨λ i m σ H=>m=n - i/\i<=n/\Pv i σ H,⟨n,by simp,Nat.zero_le _,h0⟩,?_⟩
 rintro i m σ H ⟨rfl,hi,p⟩
 by_cases hlt:i < n
 ·refine .inr ⟨hlt,Pv (i+1),λ σ' H' p'=>⟨n - (i+1),by omega,rfl,hlt,p'⟩,λ x H' y=>?_⟩
  obtain ⟨e,y⟩:=y
  subst e y
  exact hs i σ _ hlt p
 ·have e:i=n:=by omega
  subst e
  exact .inl ⟨Nat.le_refl _,hd σ H p⟩
end L2
namespace L2
open PySem PySem.Spec PyProof.Rows
abbrev R2:=V->V->Hp->VK->Prop
def OpR (X:Cx) (f:Value->Value->Sem Value) (r:R2):Prop :=
 ∀ (pins:List (Addr × Obj)) (s:Shared) (σ:St) (H:Hp) (x y:V) (v u:Value) (Q:VK),Inv X pins σ H s->RelV x v->RelV y u->r x y H Q ->
  wpAny (model X.prog X.w) X.A (f v u) (EP X pins σ Q) X.xe s
def CallR (X:Cx) (f:Value) (r:List V->Hp->VK->Prop):Prop :=
 ∀ (pins:List (Addr × Obj)) (s:Shared) (σ:St) (H:Hp) (xs:List V) (us:List Value) (Q:VK),Inv X pins σ H s->Vals xs us->r xs H Q ->
  wpAny (model X.prog X.w) X.A (call f us) (EP X pins σ Q) X.xe s
def TruR (X:Cx) (r:V->Hp->(Bool->Hp->Prop)->Prop):Prop :=
 ∀ (pins:List (Addr × Obj)) (s:Shared) (σ:St) (H:Hp) (x:V) (v:Value) (Q:Bool->Hp->Prop),Inv X pins σ H s->RelV x v->r x H Q ->
  wpAny (model X.prog X.w) X.A (truthy v) (TP X pins σ Q) X.xe s
def tOp (r:R2) (ta tb:TE):TE:=λ σ H Q=>ta σ H λ x H1=>tb σ H1 λ y H2=>r x y H2 Q
def rI (C:Int->Int->Prop) (g:Int->Int->V):R2:=λ x y H Q=>∃ i j,x = .int i/\y = .int j/\C i j/\Q (g i j) H
def rI0 (g:Int->Int->V):R2:=λ x y H Q=>∃ i j,x = .int i/\y = .int j/\Q (g i j) H
section
variable {X:Cx} {a b c:Expr} {ta tb tc:TE} {pos:Pos}
theorem binT (ha:PE X a ta) (hb:PE X b tb) {pins:List (Addr × Obj)} {s:Shared} {σ:St} {H:Hp} {R:V->V->Hp->Prop} (I:Inv X pins σ H s)
  (h:ta σ H λ x H1=>tb σ H1 λ y H2=>R x y H2) {Q:Value->Shared->Prop} {f:Value->Value->Sem Value}
  (hf:∀ v u s2 x y H2,Inv X pins σ H2 s2->RelV x v->RelV y u->R x y H2->wpAny (model X.prog X.w) X.A (f v u) Q X.xe s2) :
  wpAny (model X.prog X.w) X.A (eval a X.env) (λ v s₁=>wpAny (model X.prog X.w) X.A (eval b X.env) (λ u s₂=>wpAny (model X.prog X.w) X.A (f v u) Q X.xe s₂) X.xe s₁) X.xe s:=by
 refine thn (ha pins s σ H _ I h) λ v s1 ⟨x,H1,I1,r1,q1⟩=>?_
 refine thn (hb pins s1 σ H1 _ I1 q1) λ u s2 ⟨y,H2,I2,r2,q2⟩=>?_
 exact hf v u s2 x y H2 I2 r1 r2 q2
theorem a0K {op:Operator} {r:R2} (ho:OpR X (binaryOp op) r) (ha:PE X a ta) (hb:PE X b tb):PE X (.BinOp a op b pos) (tOp r ta tb):=by
 intro pins s σ H Q I h
 exact wpAny_BinOp (binT ha hb I h λ v u s2 x y H2 I2 rx ry q=>ho pins s2 σ H2 x y v u Q I2 rx ry q)
theorem opI {f:Value->Value->Sem Value} {C:Int->Int->Prop} {g:Int->Int->Int}
  (rule:∀ (i j:Int) (t u:Tok) (s:Shared) (Q:Value->Shared->Prop) (E:Value->Shared->Prop),C i j->Q (.int (g i j) s.toks) { s with toks:=s.toks+1 }->wpAny (model X.prog X.w) X.A (f (.int i t) (.int j u)) Q E s) :
  OpR X f (rI C λ i j=>.int (g i j)):=by
 intro pins s σ H x y v u Q I rx ry h
 obtain ⟨i,j,rfl,rfl,hc,q⟩:=h
 obtain ⟨t,rfl⟩:=rx
 obtain ⟨t',rfl⟩:=ry
 exact rule i j t t' s _ _ hc ⟨.int (g i j),H,I.tok _,⟨_,rfl⟩,q⟩
theorem opI0 {f:Value->Value->Sem Value} {g:Int->Int->Int}
  (rule:∀ (i j:Int) (t u:Tok) (s:Shared) (Q:Value->Shared->Prop) (E:Value->Shared->Prop),Q (.int (g i j) s.toks) { s with toks:=s.toks+1 }->wpAny (model X.prog X.w) X.A (f (.int i t) (.int j u)) Q E s) :
  OpR X f (rI0 λ i j=>.int (g i j)):=by
 intro pins s σ H x y v u Q I rx ry h
 obtain ⟨i,j,rfl,rfl,q⟩:=h
 obtain ⟨t,rfl⟩:=rx
 obtain ⟨t',rfl⟩:=ry
 exact rule i j t t' s _ _ ⟨.int (g i j),H,I.tok _,⟨_,rfl⟩,q⟩
theorem opB0 {f:Value->Value->Sem Value} {g:Int->Int->Bool}
  (rule:∀ (i j:Int) (t u:Tok) (s:Shared) (Q:Value->Shared->Prop) (E:Value->Shared->Prop),Q (.bool (g i j)) s->wpAny (model X.prog X.w) X.A (f (.int i t) (.int j u)) Q E s) :
  OpR X f (rI0 λ i j=>.bl (g i j)):=by
 intro pins s σ H x y v u Q I rx ry h
 obtain ⟨i,j,rfl,rfl,q⟩:=h
 obtain ⟨t,rfl⟩:=rx
 obtain ⟨t',rfl⟩:=ry
 exact rule i j t t' s _ _ ⟨.bl (g i j),H,I,rfl,q⟩
def CDiv (i j:Int):Prop:=0 < j/\j < 1073741824
def CPow (i j:Int):Prop:=0<=j/\j<=1000000/\i.natAbs < 2 ^ 64
def CMul (i j:Int):Prop:=(-(2 ^ 64) < i/\i < 2 ^ 64)\/(-(2 ^ 64) < j/\j < 2 ^ 64)
theorem CMul.ok {i j:Int} (h:CMul i j):IntMulOk i j:=by
 rcases h with ⟨h1,h2⟩ | ⟨h1,h2⟩
 ·exact .of_left (intBits_le_64 h1 h2)
 ·exact .of_right (intBits_le_64 h1 h2)
theorem a1U:OpR X (binaryOp .Add) (rI0 λ i j=>.int (i+j)):=opI0 λ _ _ _ _ _ _ _ q=>add_int q
theorem b4T:OpR X (binaryOp .Sub) (rI0 λ i j=>.int (i - j)):=opI0 λ _ _ _ _ _ _ _ q=>sub_int q
theorem a2L:OpR X (binaryOp .Mult) (rI CMul λ i j=>.int (i*j)):=opI λ _ _ _ _ _ _ _ hc q=>mul_int q hc.ok
theorem a3A:OpR X (binaryOp .FloorDiv) (rI CDiv λ i j=>.int (i / j)):=opI λ i j _ _ _ _ _ hc q=>by
 have h1:(0:Int) < j:=hc.1
 have h2:j < 1073741824:=hc.2
 exact floordiv_int (by omega) (by rw [Int.fdiv_eq_ediv_of_nonneg i (by omega)]; exact q) (.inl (PyProof.noPylong_small (by omega)))
theorem a1D:OpR X (binaryOp .Mod) (rI (λ _ j=>0 < j) λ i j=>.int (i % j)):=opI λ i j _ _ _ _ _ hc q=>by
 have h1:(0:Int) < j:=hc
 exact mod_int' (by omega) (by rw [Int.fmod_eq_emod_of_nonneg i (by omega)]; exact q)
theorem a1V:OpR X (binaryOp .Pow) (rI CPow λ i j=>.int (i ^ j.toNat)):=opI λ _ _ _ _ _ _ _ hc q=>pow_int_small hc.1 hc.2.1 hc.2.2 q
theorem b4U:OpR X (binaryOp .BitAnd) (rI0 λ i j=>.int (Builtin.bitAnd i j)):=opI0 λ _ _ _ _ _ _ _ q=>and_int q
theorem b6L:OpR X (binaryOp .BitOr) (rI0 λ i j=>.int (Builtin.bitOr i j)):=opI0 λ _ _ _ _ _ _ _ q=>or_int q
end
def scal:V->V->Bool
 | .non,.non=>true | .non,.int _=>true | .int _,.non=>true | .non,.bl _=>true | .bl _,.non=>true | .non,.str _=>true | .str _,.non=>true
 | .int _,.int _=>true | .bl _,.bl _=>true | .str _,.str _=>true | .byt _,.byt _=>true
 | .int _,.str _=>true | .str _,.int _=>true | .bl _,.str _=>true | .str _,.bl _=>true
 | _,_=>false
def rEq:R2:=λ x y H Q=>scal x y=true/\Q (.bl (decide (x=y))) H
def rNe:R2:=λ x y H Q=>scal x y=true/\Q (.bl (!decide (x=y))) H
theorem a8I {i j:Int}:decide (V.int i=V.int j)=(i == j):=by
 rw [Bool.eq_iff_iff]
 simp
theorem b1S {i j:Bool}:decide (V.bl i=V.bl j)=(i == j):=by
 rw [Bool.eq_iff_iff]
 simp
theorem a8J {i j:Str}:decide (V.str i=V.str j)=(i == j):=by
 rw [Bool.eq_iff_iff]
 simp
theorem a8K {i j:Array UInt8}:decide (V.byt i=V.byt j)=(i.toList == j.toList):=by
 rw [Bool.eq_iff_iff]
 cases i
 cases j
 simp
section
variable {X:Cx} {a b c:Expr} {ta tb tc:TE} {pos:Pos}
theorem a0M {pins:List (Addr × Obj)} {σ:St} {H:Hp} {s:Shared} {Q:VK} {k k':Bool} (I:Inv X pins σ H s) (q:Q (.bl k) H) (e:k=k'):EP X pins σ Q (.bool k') s:=by
 subst e
 exact ⟨.bl k,H,I,rfl,q⟩
theorem a2S:OpR X (compareOp .Eq) rEq:=by
 intro pins s σ H x y v u Q I rx ry h
 obtain ⟨hs,q⟩:=h
 cases x with
 | non =>
  cases rx
  cases y with
  | non=>cases ry; exact PySem.EqNone.eq_none_none (a0M I q (by simp))
  | bl j=>cases ry; exact PySem.EqNone.eq_none_bool (a0M I q (by simp))
  | int j=>obtain ⟨t',rfl⟩:=ry; exact PySem.EqNone.eq_none_int (a0M I q (by simp))
  | str j=>obtain ⟨t',rfl⟩:=ry; exact PySem.EqNone.eq_none_str (a0M I q (by simp))
  | _=>exact absurd (show false=true from hs) Bool.false_ne_true
 | bl i =>
  cases rx
  cases y with
  | non=>cases ry; exact PySem.EqNone.eq_bool_none (a0M I q (by simp))
  | bl j=>cases ry; exact eq_bool (a0M I q b1S)
  | str j=>obtain ⟨t',rfl⟩:=ry; exact PySem.EqMixed.eq_bool_str (a0M I q (by simp))
  | _=>exact absurd (show false=true from hs) Bool.false_ne_true
 | int i =>
  obtain ⟨t,rfl⟩:=rx
  cases y with
  | non=>cases ry; exact PySem.EqNone.eq_int_none (a0M I q (by simp))
  | int j=>obtain ⟨t',rfl⟩:=ry; exact eq_int (a0M I q a8I)
  | str j=>obtain ⟨t',rfl⟩:=ry; exact PySem.EqMixed.eq_int_str (a0M I q (by simp))
  | _=>exact absurd (show false=true from hs) Bool.false_ne_true
 | str i =>
  obtain ⟨t,rfl⟩:=rx
  cases y with
  | non=>cases ry; exact PySem.EqNone.eq_str_none (a0M I q (by simp))
  | bl j=>cases ry; exact PySem.EqMixed.eq_str_bool (a0M I q (by simp))
  | int j=>obtain ⟨t',rfl⟩:=ry; exact PySem.EqMixed.eq_str_int (a0M I q (by simp))
  | str j=>obtain ⟨t',rfl⟩:=ry; exact eq_str (a0M I q a8J)
  | _=>exact absurd (show false=true from hs) Bool.false_ne_true
 | byt i =>
  obtain ⟨t,rfl⟩:=rx
  cases y with
  | byt j=>obtain ⟨t',rfl⟩:=ry; exact PySem.W.eq_bytes (a0M I q a8K)
  | _=>exact absurd (show false=true from hs) Bool.false_ne_true
 | _=>cases y <;> exact absurd (show false=true from hs) Bool.false_ne_true
theorem b6M:OpR X (compareOp .NotEq) rNe:=by
 intro pins s σ H x y v u Q I rx ry h
 obtain ⟨hs,q⟩:=h
 cases x with
 | non =>
  cases rx
  cases y with
  | non=>cases ry; exact PySem.EqNone.ne_none_none (a0M I q (by simp))
  | bl j=>cases ry; exact PySem.EqNone.ne_none_bool (a0M I q (by simp))
  | int j=>obtain ⟨t',rfl⟩:=ry; exact PySem.EqNone.ne_none_int (a0M I q (by simp))
  | str j=>obtain ⟨t',rfl⟩:=ry; exact PySem.EqNone.ne_none_str (a0M I q (by simp))
  | _=>exact absurd (show false=true from hs) Bool.false_ne_true
 | bl i =>
  cases rx
  cases y with
  | non=>cases ry; exact PySem.EqNone.ne_bool_none (a0M I q (by simp))
  | bl j=>cases ry; exact ne_bool (a0M I q (congrArg not b1S))
  | str j=>obtain ⟨t',rfl⟩:=ry; exact PySem.EqMixed.ne_bool_str (a0M I q (by simp))
  | _=>exact absurd (show false=true from hs) Bool.false_ne_true
 | int i =>
  obtain ⟨t,rfl⟩:=rx
  cases y with
  | non=>cases ry; exact PySem.EqNone.ne_int_none (a0M I q (by simp))
  | int j=>obtain ⟨t',rfl⟩:=ry; exact ne_int (a0M I q (congrArg not a8I))
  | str j=>obtain ⟨t',rfl⟩:=ry; exact PySem.EqMixed.ne_int_str (a0M I q (by simp))
  | _=>exact absurd (show false=true from hs) Bool.false_ne_true
 | str i =>
  obtain ⟨t,rfl⟩:=rx
  cases y with
  | non=>cases ry; exact PySem.EqNone.ne_str_none (a0M I q (by simp))
  | bl j=>cases ry; exact PySem.EqMixed.ne_str_bool (a0M I q (by simp))
  | int j=>obtain ⟨t',rfl⟩:=ry; exact PySem.EqMixed.ne_str_int (a0M I q (by simp))
  | str j=>obtain ⟨t',rfl⟩:=ry; exact ne_str (a0M I q (congrArg not a8J))
  | _=>exact absurd (show false=true from hs) Bool.false_ne_true
 | byt i =>
  obtain ⟨t,rfl⟩:=rx
  cases y with
  | byt j=>obtain ⟨t',rfl⟩:=ry; exact PySem.W.ne_bytes (a0M I q (congrArg not a8K))
  | _=>exact absurd (show false=true from hs) Bool.false_ne_true
 | _=>cases y <;> exact absurd (show false=true from hs) Bool.false_ne_true
theorem b0P:OpR X (compareOp .Lt) (rI0 λ i j=>.bl (decide (i < j))):=opB0 λ _ _ _ _ _ _ _ q=>lt_int q
theorem b6N:OpR X (compareOp .LtE) (rI0 λ i j=>.bl (decide (i<=j))):=opB0 λ _ _ _ _ _ _ _ q=>le_int q
theorem b6O:OpR X (compareOp .Gt) (rI0 λ i j=>.bl (decide (j < i))):=opB0 λ _ _ _ _ _ _ _ q=>gt_int q
theorem a1A (b:Expr) {op:CmpOp} (h:op ≠ .In:=by decide) (h2:op ≠ .NotIn:=by decide):behindInMarks op b=false:=by
 have e1:(op == CmpOp.In)=false:=by cases op <;> first | rfl | exact absurd rfl h
 have e2:(op == CmpOp.NotIn)=false:=by cases op <;> first | rfl | exact absurd rfl h2
 cases b <;> simp [behindInMarks,e1,e2]
theorem a8L {op:CmpOp} {r:R2} (ho:OpR X (compareOp op) r) (ha:PE X a ta) (hb:PE X b tb) (hm:behindInMarks op b=false):PE X (.Compare a [op] [b] pos) (tOp r ta tb):=by
 intro pins s σ H Q I h
 exact wpAny_Compare1 (binT ha hb I h λ v u s2 x y H2 I2 rx ry q=>ho pins s2 σ H2 x y v u Q I2 rx ry q) hm
def b6P (t:TE):TT:=λ σ H Q=>t σ H λ x H'=>∃ k,x = .bl k/\Q k H'
theorem a0T {op:CmpOp} {r:R2} (ho:OpR X (compareOp op) r) (ha:PE X a ta) (hb:PE X b tb) (hm:behindInMarks op b=false):PT X (.Compare a [op] [b] pos) (b6P (tOp r ta tb)):=by
 intro pins s σ H Q I h
 refine wpAny_isTrue_Compare1 (thn (ha pins s σ H _ I h) λ v s1 ⟨x,H1,I1,r1,q1⟩=>thn (hb pins s1 σ H1 _ I1 q1) λ u s2 ⟨y,H2,I2,r2,q2⟩ =>
  thn (ho pins s2 σ H2 x y v u _ I2 r1 r2 q2) λ c s3 ⟨z,H3,I3,r3,k,e,q3⟩=>?_) hm
 subst e
 cases r3
 exact wpAny_truthy_bool ⟨H3,I3,q3⟩
def b4V (r r':R2) (ta tb tc:TE):TE:=λ σ H Q=>ta σ H λ x H1=>tb σ H1 λ y H2=>r x y H2 λ z H3=>∃ k,z = .bl k /\
 (if k=true then tc σ H3 λ w' H4=>r' y w' H4 Q else Q (.bl false) H3)
theorem b0Q {op op':CmpOp} {r r':R2} (ho:OpR X (compareOp op) r) (ho':OpR X (compareOp op') r') (ha:PE X a ta) (hb:PE X b tb) (hc:PE X c tc)
  (hm:lastMarks [op,op'] [b,c]=false:=by with_unfolding_all rfl):PE X (.Compare a [op,op'] [b,c] pos) (b4V r r' ta tb tc):=by
 intro pins s σ H Q I h
 refine Compare_chain (thn (ha pins s σ H _ I h) λ v s1 ⟨x,H1,I1,r1,q1⟩=>chain_link (thn (hb pins s1 σ H1 _ I1 q1) λ u s2 ⟨y,H2,I2,r2,q2⟩ =>
  thn (ho pins s2 σ H2 x y v u _ I2 r1 r2 q2) λ d s3 ⟨z,H3,I3,r3,k,e,q3⟩=>?_)) hm
 subst e
 cases r3
 refine wpAny_truthy_bool ?_
 cases k with
 | false=>exact ite_ff ⟨.bl false,H3,I3,rfl,q3⟩
 | true=>exact ite_tt (chain_last (thn (hc pins s3 σ H3 _ I3 q3) λ w' s4 ⟨z',H4,I4,r4,q4⟩=>ho' pins s4 σ H4 y z' u w' Q I4 r2 r4 q4))
def TruV (K:Φρ) (x:V) (H:Hp) (k:Bool):Prop :=
 match x with
 | .non=>k=false
 | .bl b=>k=b
 | .int i=>k=(i != 0)
 | .str y=>y.length<=sizeLine/\k=((y.length:Int) != 0)
 | .byt y=>y.size<=sizeLine/\k=((y.size:Int) != 0)
 | .ref p=>(∃ xs,SqL K H p xs/\k = !xs.isEmpty)\/(∃ xs,SqT K H p xs/\k = !xs.isEmpty)\/∃ kvs,H p=some (.dK kvs)/\k = !kvs.isEmpty
 | _=>False
theorem a7Q {κ:Type} {kvs:List (κ × V)} {vs:List (κ × Value)} (r:KV kvs vs):(!vs.isEmpty) = !kvs.isEmpty:=by
 cases r <;> rfl
theorem a3V {xs:List V} {its:List Value} (r:Vals xs its):(!its.toArray.isEmpty) = !xs.isEmpty:=by
 cases r <;> simp
theorem a6T:(sizeLine:Nat) < 2 ^ 63:=by rw [sizeLine_eq]; decide
theorem b4W:TruR X (λ x H Q=>∃ k,TruV X.K x H k/\Q k H):=by
 intro pins s σ H x v Q I rx h
 obtain ⟨k,e,q⟩:=h
 have hl:=a6T
 have hs:sizeLine=16777216:=sizeLine_eq
 cases x with
 | non =>
  cases rx
  have e':k=false:=e
  subst e'
  exact truthy_none ⟨H,I,q⟩
 | bl b =>
  cases rx
  have e':k=b:=e
  subst e'
  exact wpAny_truthy_bool ⟨H,I,q⟩
 | int i =>
  obtain ⟨t,rfl⟩:=rx
  have e':k=(i != 0):=e
  subst e'
  exact PySem.P.truthy_int ⟨H,I,q⟩
 | str y =>
  obtain ⟨t,rfl⟩:=rx
  obtain ⟨hy,e'⟩:y.length<=sizeLine/\k=((y.length:Int) != 0):=e
  subst e'
  exact PySem.P.truthy_str (by omega) ⟨H,I.tok _,q⟩
 | byt y =>
  obtain ⟨t,rfl⟩:=rx
  obtain ⟨hy,e'⟩:y.size<=sizeLine/\k=((y.size:Int) != 0):=e
  subst e'
  exact PySem.W.truthy_bytes (by omega) ⟨H,I.tok _,q⟩
 | ref p =>
  cases rx
  have e':(∃ xs,SqL X.K H p xs/\k = !xs.isEmpty)\/(∃ xs,SqT X.K H p xs/\k = !xs.isEmpty)\/∃ kvs,H p=some (.dK kvs)/\k = !kvs.isEmpty:=e
  rcases e' with ⟨xs,hx,e'⟩ | ⟨xs,hx,e'⟩ | ⟨kvs,hx,e'⟩
  ·subst e'
   obtain ⟨its,r,pl,hz⟩:=I.list hx
   have hlen:=r.length
   exact wpAny_truthy_list pl.isList (by simp only [List.size_toArray]; omega) ⟨H,I.tok _,by rw [a3V r]; exact q⟩
  ·subst e'
   obtain ⟨its,r,pl,hz⟩:=I.tuple hx
   have hlen:=r.length
   exact truthy_tuple pl (by simp only [List.size_toArray]; omega) ⟨H,I.tok _,by rw [a3V r]; exact q⟩
  ·subst e'
   obtain ⟨hz,hS,vs,r,m⟩:kvs.length<=sizeLine/\(p == sysModules)=false/\∃ vs,KV kvs vs/\s.heap.DictOf (a5Z X.prog X.w) p vs:=I.hok p _ hx
   have hlen:kvs.length=vs.length:=Paired.length r
   exact wpAny_truthy_dict hS m (by omega) ⟨H,I.tok _,by rw [a7Q r]; exact q⟩
 | _=>exact (show False from e).elim
theorem b0R (ha:PE X a ta) (he:∀ whole,isTrue a X.env whole=(do let v <- whole; standAt a.pos; holding [v] (truthy v))) :
  PT X a (λ σ H Q=>ta σ H λ x H'=>∃ k,TruV X.K x H' k/\Q k H'):=by
 intro pins s σ H Q I h
 exact isTrue_plain (thn (ha pins s σ H _ I h) λ v s1 ⟨x,H1,I1,r1,q1⟩=>b4W pins s1 σ H1 x v Q I1 r1 q1) (he _)
theorem a8M {x:V} {us:List Value} (r:Vals [x] us):∃ u,us=[u]/\RelV x u:=by
 cases r with
 | cons r1 r2=>cases r2; exact ⟨_,rfl,r1⟩
theorem b2G {x y:V} {us:List Value} (r:Vals [x,y] us):∃ u w',us=[u,w']/\RelV x u/\RelV y w':=by
 cases r with
 | cons r1 r2 =>
  cases r2 with
  | cons r3 r4=>cases r4; exact ⟨_,_,rfl,r1,r3⟩
theorem a8N (hc:X.calm=true):CallR X (.builtin "max") (λ xs H Q=>∃ i j,xs=[.int i,.int j]/\Q (.int (if j > i then j else i)) H):=by
 intro pins s σ H xs us Q I r h
 obtain ⟨i,j,rfl,q⟩:=h
 obtain ⟨u,w',rfl,⟨t,rfl⟩,⟨t',rfl⟩⟩:=b2G r
 refine max_two_ints (I.ok.hd hc) λ h' tk k=>⟨_,H,I.kept k,?_,q⟩
 by_cases hj:j > i
 ·rw [if_pos hj,if_pos hj]; exact ⟨_,rfl⟩
 ·rw [if_neg hj,if_neg hj]; exact ⟨_,rfl⟩
theorem a8O (hc:X.calm=true):CallR X (.builtin "min") (λ xs H Q=>∃ i j,xs=[.int i,.int j]/\Q (.int (if j < i then j else i)) H):=by
 intro pins s σ H xs us Q I r h
 obtain ⟨i,j,rfl,q⟩:=h
 obtain ⟨u,w',rfl,⟨t,rfl⟩,⟨t',rfl⟩⟩:=b2G r
 refine min_two_ints (I.ok.hd hc) λ h' tk k=>⟨_,H,I.kept k,?_,q⟩
 by_cases hj:j < i
 ·rw [if_pos hj,if_pos hj]; exact ⟨_,rfl⟩
 ·rw [if_neg hj,if_neg hj]; exact ⟨_,rfl⟩
end
end L2
namespace L2
open PySem PySem.Spec PyProof.Rows
structure ObjM (h:Heap) (x dx C:Addr) (mA:Str->Option Value):Prop where
 obj:h.get? x=some (PySem.W.instObj C dx)
 ns:h.Ns1 dx mA
 ne:dx≠x
theorem a8P {h:Heap} {dx:Addr} {mA:Str->Option Value} (n:h.Ns1 dx mA):∃ od,h.get? dx=some od/\∀ name,PySem.W.lookIn name od=some (mA name):=by
 obtain ⟨o,es,ep,ho,hd,hk,_,hm⟩:=n
 refine ⟨o,ho,λ name=>?_⟩
 have e:=hm name
 unfold nsFind findBy at e
 rw [<- Array.find?_toList] at e
 unfold PySem.W.lookIn
 rw [hd]
 dsimp only
 split
 ·rename_i y q
  rw [q] at e
  exact congrArg some e
 ·rename_i q
  rw [q] at e
  have a:es.toList.any (·.refKey)=false:=by
   rw [List.any_eq_false]
   intro y hy
   obtain ⟨z,t,hkey⟩:=hk y (Array.mem_toList_iff.mp hy)
   simp [DictEntry.refKey,hkey]
  have a':¬ es.toList.any (·.refKey)=true:=by rw [a]; exact Bool.false_ne_true
  rw [if_neg a']
  exact congrArg some e
theorem ObjM.look {h:Heap} {x dx C:Addr} {mA:Str->Option Value} (I:ObjM h x dx C mA):∃ od,PySem.W.InstAt h x (PySem.W.instObj C dx) C (some od)/\∀ name,PySem.W.lookIn name od=some (mA name) :=
 let ⟨od,ho,hl⟩:=a8P I.ns
 ⟨od,⟨I.obj,rfl,rfl,ho⟩,hl⟩
section
variable {prog:Program} {w:World} {A:Around} {E:Value->Shared->Prop} {s:Shared} {K:Φρ} {x dx C f:Addr} {mA:Str->Option Value} {name:Str} {v:Value}
end
section
variable {P:Program} {w:World} {H H':Hp} {h h':Heap} {a C dx:Addr} {fs fs':List (Str × V)}
theorem a4H (hok:HOk P w H h) (e:H a=some (.ins C dx fs)):∃ mA,ObjM h a dx C mA/\(∀ f,RelO (fs.lookup f) (mA f))/\PySem.Within mA (fs.map (·.1))/\fs.length<=1000/\H dx=some (.own a):=by
 obtain ⟨d,z,ne,ob,mA,n,r,q⟩:=(show ObjOk P w H h a (.ins C dx fs) from hok a _ e)
 exact ⟨mA,⟨ob,n,ne⟩,r,q,z,d⟩
end
structure Cls (K:Φρ) (C:Addr):Prop where
 pg:PySem.W.plainGet K C Str.empty=true
 hd:PySem.W.hasDictIn K C=true
 po:PySem.W.plainOver K C=true
 sa:PySem.W.findIn K (.ref C) "__setattr__" = some (some (.builtin "object.__setattr__"))
theorem Cls.get {K:Φρ} {C:Addr} (c:Cls K C) (f:Str):PySem.W.plainGet K C f=true:=c.pg
section
variable {X:Cx} {pins:List (Addr × Obj)} {σ:St} {H:Hp} {s:Shared} {a C dx:Addr} {fs:List (Str × V)} {f:Str} {v:V} {A:Around} {E:Value->Shared->Prop}
end
section
variable {X:Cx} {o e value:Expr} {f:Str} {pos pos' tpos:Pos} {ta tv:TE}
end
section
variable {X:Cx} {pins:List (Addr × Obj)} {σ:St} {H:Hp} {s:Shared} {A:Around} {E:Value->Shared->Prop} {Q:Value->Shared->Prop} {c:Value} {b:Bool}
inductive TyOf (K:Φρ) (H:Hp):V->Value->Prop where
 | non:TyOf K H .non (.type "NoneType")
 | bl (x:Bool):TyOf K H (.bl x) (.type "bool")
 | int (i:Int):TyOf K H (.int i) (.type "int")
 | str (x:Str):TyOf K H (.str x) (.type "str")
 | flt (x:UInt64):TyOf K H (.flt x) (.type "float")
 | lst {a:Addr} {xs:List V} (e:H a=some (.lst xs)):TyOf K H (.ref a) (.type "list")
 | frz {a:Addr} {o:Obj} {xs:List V} (e:H a=some (.frz o (.lst xs))):TyOf K H (.ref a) (.type "list")
 | tup {a:Addr} {xs:List V} (e:H a=some (.tup xs)):TyOf K H (.ref a) (.type "tuple")
 | dK {a:Addr} {kvs:List (Key × V)} (e:H a=some (.dK kvs)):TyOf K H (.ref a) (.type "dict")
 | dT {a:Addr} {kvs:List (List Key × V)} (e:H a=some (.dT kvs)):TyOf K H (.ref a) (.type "dict")
 | ins {a C dx:Addr} {fs:List (Str × V)} (e:H a=some (.ins C dx fs)) (cl:Cls K C) (ha:PySem.W.findIn K (.ref C) "__class__" = some (some (.builtin "object.__class__")))
   (hn:PySem.W.specialIn K (.builtin "object.__class__") "__get__" = some (some (.builtin "getset_descriptor.__get__"))) (htk:PySem.W.takesIn K (.builtin "object.__class__")=some true)
   (hm:PySem.W.mroIn K C (.type "object")=some true):TyOf K H (.ref a) (.ref C)
theorem a8Q {x:V} {u t:Value} (I:Inv X pins σ H s) (rx:RelV x u) (ty:TyOf X.K H x t) (e:PySem.W.kitOne X.K t c=some b) (h:∀ tk,Q (.bool b) { s with toks:=tk }) :
  wpAny (model X.prog X.w) A (call (.builtin "isinstance") [u,c]) Q E s:=by
 cases ty with
 | non=>cases (show u=Value.none from rx); exact PySem.W.kia_one PySem.W.kitx_none I.kIn True.intro e (λ z=>nomatch z) h
 | bl y=>cases (show u=Value.bool y from rx); exact PySem.W.kia_one PySem.W.kitx_bool I.kIn True.intro e (λ z=>nomatch z) h
 | int i=>obtain ⟨t,q⟩:=(show ∃ t,u=Value.int i t from rx); cases q; exact PySem.W.kia_one PySem.W.kitx_int I.kIn True.intro e (λ z=>nomatch z) h
 | str y=>obtain ⟨t,q⟩:=(show ∃ t,u=Value.str y t from rx); cases q; exact PySem.W.kia_one PySem.W.kitx_str I.kIn True.intro e (λ z=>nomatch z) h
 | flt y=>obtain ⟨t,q⟩:=(show ∃ t,u=Value.float y t from rx); cases q; exact PySem.W.kia_one PySem.W.kitx_float I.kIn True.intro e (λ z=>nomatch z) h
 | @lst a xs ea =>
  cases (show u=Value.ref a from rx)
  obtain ⟨_,_,n,_,h1⟩:=(show ObjOk X.prog X.w H s.heap a (.lst xs) from I.hok a _ ea)
  exact PySem.W.kia_one PySem.W.kitx_list I.kIn ⟨_,h1,rfl⟩ e (λ z=>nomatch z) h
 | @frz a ob xs ea =>
  cases (show u=Value.ref a from rx)
  obtain ⟨_,_,_,n,_,h1⟩:=(show ObjOk X.prog X.w H s.heap a (.frz ob (.lst xs)) from I.hok a _ ea)
  exact PySem.W.kia_one PySem.W.kitx_list I.kIn ⟨_,h1,rfl⟩ e (λ z=>nomatch z) h
 | @tup a xs ea =>
  cases (show u=Value.ref a from rx)
  obtain ⟨_,_,_,p⟩:=(show ObjOk X.prog X.w H s.heap a (.tup xs) from I.hok a _ ea)
  obtain ⟨o,h1,h2,_⟩:=p
  exact PySem.W.kia_one PySem.W.kitx_tuple I.kIn ⟨o,h1,h2⟩ e (λ z=>nomatch z) h
 | @dK a kvs ea =>
  cases (show u=Value.ref a from rx)
  obtain ⟨_,_,vs,_,p⟩:=(show ObjOk X.prog X.w H s.heap a (.dK kvs) from I.hok a _ ea)
  obtain ⟨o,es,ep,h1,h2,_⟩:=p
  exact PySem.W.kia_one PySem.W.kitx_dict I.kIn ⟨o,h1,h2.1⟩ e (λ z=>nomatch z) h
 | @dT a kvs ea =>
  cases (show u=Value.ref a from rx)
  obtain ⟨_,_,xs,_,o,es,ep,h1,h2,_⟩:=(show ObjOk X.prog X.w H s.heap a (.dT kvs) from I.hok a _ ea)
  exact PySem.W.kia_one PySem.W.kitx_dict I.kIn ⟨o,h1,h2.1⟩ e (λ z=>nomatch z) h
 | @ins a C dx fs ea cl ha hn htk hm =>
  cases (show u=Value.ref a from rx)
  obtain ⟨mA,O,_⟩:=a4H I.hok ea
  obtain ⟨od,J,_⟩:=O.look
  exact PySem.W.kia_one (PySem.W.kitx_own (cl.get _) cl.hd ha hn htk hm) I.kIn J e (λ z=>nomatch z) h
end
end L2
namespace L2
open PySem PySem.Spec PyProof.Rows
structure Room (k:Nat) (A:Around):Prop where
 hd:A.handled=none
 dp:A.depth+3*k+5 < recursionLimit
 un:A.units+16*k+200 < cLine
theorem Room.mono {j k:Nat} {A:Around} (r:Room k A) (h:j<=k):Room j A:=⟨r.hd,by have:=r.dp; omega,by have:=r.un; omega⟩
theorem Room.deeper {k:Nat} {A:Around} (r:Room (k+1) A) (env:Env):Room k (A.deeper env) :=
 ⟨r.hd,by have:=r.dp; show A.depth+1+3*k+5 < _; omega,by have:=r.un; show A.units+3+16*k+200 < _; omega⟩
theorem Room.depth {k:Nat} {A:Around} (r:Room k A):A.depth < recursionLimit:=by have:=r.dp; omega
def tNil:TA:=λ _ H Q=>Q [] H
def b6Q (ta:TE) (tr:TA):TA:=λ σ H Q=>ta σ H λ x H1=>tr σ H1 λ xs H2=>Q (x::xs) H2
section
variable {X:Cx} {e:Expr} {es:List Expr} {te:TE} {t:TA} {pos:Pos}
theorem a0B:PA X [] tNil:=λ _ _ _ _ H Q I h=>Calls.spliced_nil ⟨[],H,I,.nil,h⟩
theorem a0A (ha:PE X e te) (hr:PA X es t) (hs:starEach (e::es) X.env=(false,eval e X.env)::starEach es X.env:=by rfl):PA X (e::es) (b6Q te t):=by
 intro pos pins s σ H Q I h
 rw [hs]
 show wpAny _ _ (spliced ((false,eval e X.env)::backTo pos (starEach es X.env))) _ _ s
 refine Calls.spliced_cons (thn (ha pins s σ H _ I h) λ u s1 ⟨x,H1,I1,r1,q1⟩=>?_)
 exact thn (hr pos pins s1 σ H1 _ I1 q1) λ us s2 ⟨xs,H2,I2,r2,q2⟩=>⟨x::xs,H2,I2,.cons r1 r2,q2⟩
end
abbrev Sp:=List V->Hp->VK->XK->Prop
abbrev CXT:=List Env->Hp->Shared->XK->Value->Shared->Prop
structure Env0 (P:Program) (w:World) (K:Φρ) (mg:Str->Option Value) (base:Heap) (A:Around) (outer:List Env) (s:Shared) (H:Hp):Prop where
 frames:A.frames=some outer
 mod:Mod K mg base
 bs:∀ b o,base.get? b=some o->s.heap.get? b=some o/\H b=none
 bsz:base.objs.size<=s.heap.objs.size
 funs:s.heap.FunFrames base outer
 frf:∀ b∈frs outer,H b=none
 hok:HOk P w H s.heap
 bare:AllBare s.gens
def CE (outer:List Env) (P:Program) (w:World) (H:Hp) (s:Shared) (Q:VK) (u:Value) (s':Shared):Prop :=
 ∃ v H',s'.os=s.os/\AllBare s'.gens/\Un (frs outer) [] H H' s.heap s'.heap/\HOk P w H' s'.heap/\RelV v u/\Q v H'
def CR (CX:CXT) (outer:List Env) (P:Program) (w:World) (H:Hp) (s:Shared) (Q:VK) (E:XK) (r:Result) (s':Shared):Prop :=
 match r with
 | .ok (.ret u)=>CE outer P w H s Q u s'
 | .ok _=>False
 | .error e=>CX outer H s E e s'
structure FnOk (P:Program) (w:World) (K:Φρ) (mg:Str->Option Value) (base:Heap) (CX:CXT) (k:Nat) (f:Addr) (fd:FuncData) (ps:List Str) (sp:Sp):Prop where
 len:∀ vs H Q E,sp vs H Q E->vs.length=ps.length
 run:∀ (A:Around) (outer:List Env) (s:Shared) (H:Hp) (args:Args) (us:List Value) (vs:List V) (Q:VK) (E:XK),Room k A->Env0 P w K mg base A outer s H->BindsTo s fd args (ps.zip us)->Vals vs us->sp vs H Q E ->
  codeAny (model P w) A (.call (.ref f) args) (CR CX outer P w H s Q E) s
theorem FnOk.mono {P:Program} {w:World} {K:Φρ} {mg:Str->Option Value} {base:Heap} {CX:CXT} {j k:Nat} {f:Addr} {fd:FuncData} {ps:List Str} {sp:Sp} (F:FnOk P w K mg base CX j f fd ps sp) (h:j<=k) :
  FnOk P w K mg base CX k f fd ps sp:=⟨F.len,λ A outer s H args us vs Q E hr=>F.run A outer s H args us vs Q E (hr.mono h)⟩
section
variable {X:Cx} {pins:List (Addr × Obj)} {σ:St} {H:Hp} {s s':Shared}
theorem Inv.env0 (I:Inv X pins σ H s):Env0 X.prog X.w X.K X.mg X.base X.A X.stack s H :=
 ⟨I.ok.frames,I.ok.mod,I.bs,Nat.le_trans I.ok.bsz I.sz,I.stack,I.stkFree,I.hok,I.bare⟩
theorem Inv.after {Q:VK} {u:Value} (I:Inv X pins σ H s) (h:CE X.stack X.prog X.w H s Q u s'):EP X pins σ Q u s':=by
 obtain ⟨v,H',os,bare,un,hok,r,q⟩:=h
 obtain ⟨hh,g,d,t,os'⟩:=s'
 obtain rfl:os'=s.os:=os
 exact ⟨v,H',I.call (h':=hh) (g':=g) (d':=d) (t':=t) (ch:=[]) un hok bare (λ b z=>absurd z (by simp)),r,q⟩
end
def b6R (sp:Sp) (dvs:List V) (E:XK) (t:TA):TE:=λ σ H Q=>t σ H λ vs H1=>sp (vs++dvs) H1 Q E
def Binds (K:Φρ) (fd:FuncData) (ps:List Str) (ds:List Value):Prop :=
 ∀ (s:Shared) (us:List Value),K.In s.heap->(us++ds).length=ps.length->BindsTo s fd ⟨us,[]⟩ (ps.zip (us++ds))
theorem Binds.all {K:Φρ} {fd:FuncData} {ps:List Str} (h:∀ us:List Value,us.length=ps.length->bindArgs fd ⟨us,[]⟩=pure (ps.zip us)):Binds K fd ps []:=λ s us _ hl=>by
 rw [List.append_nil] at hl ⊢
 exact .of_eq (h us hl)
def a3W (CX:CXT) (X:Cx) (E:XK):Prop:=∀ (pins:List (Addr × Obj)) (σ:St) (H:Hp) (s:Shared) (e:Value) (s':Shared),Inv X pins σ H s->CX X.stack H s E e s'->X.xe e s'
section
variable {X:Cx} {CX:CXT} {k:Nat} {f C:Addr} {fd:FuncData} {ps:List Str} {sp:Sp} {dvs:List V} {ds:List Value} {E:XK} {x m:Str} {p pos apos:Pos} {e o:Expr} {es:List Expr} {ta:TE} {t:TA}
theorem b4X {pins:List (Addr × Obj)} {σ:St} {H:Hp} {s:Shared} {Q:VK} {us:List Value} {vs:List V} (F:FnOk X.prog X.w X.K X.mg X.base CX k f fd ps sp) (hr:Room k X.A) (hb:Binds X.K fd ps ds) (hd:Vals dvs ds) (hx:a3W CX X E)
  (I:Inv X pins σ H s) (r:Vals vs us) (h:sp (vs++dvs) H Q E):wpAny (model X.prog X.w) X.A (call (.ref f) us) (EP X pins σ Q) X.xe s:=by
 have r2:Vals (vs++dvs) (us++ds):=r.append hd
 have hl:(us++ds).length=ps.length:=by rw [<- r2.length]; exact F.len _ _ _ _ h
 refine wpAny_call (codeAny_mono (F.run X.A X.stack s H ⟨us,[]⟩ (us++ds) (vs++dvs) Q E hr I.env0 (hb s us I.kIn hl) r2 h) λ r s' hq=>?_)
 cases r with
 | error e=>exact hx pins σ H s e s' I hq
 | ok fl =>
  cases fl with
  | ret u=>exact I.after hq
  | next=>exact False.elim hq
  | brk=>exact False.elim hq
  | cont=>exact False.elim hq
theorem a0G (F:FnOk X.prog X.w X.K X.mg X.base CX k f fd ps sp) (hr:Room k X.A) (hg:Gl X x) (hm:X.mg x=some (.ref f)) (hk:PySem.W.keepIn X.K (.ref f)=true) (hb:Binds X.K fd ps ds) (hd:Vals dvs ds) (hx:a3W CX X E)
  (ha:PA X (e::es) t) (hdb:(x == ("__debug__" : Str))=false:=by decide) (he:starEach (e::es) X.env=(false,eval e X.env)::starEach es X.env:=by rfl) (hpl:(backTo pos (starEach es X.env)).any (·.1)=false:=by rfl) :
  PE X (.Call (.Name x p) (e::es) [] pos) (b6R sp dvs E t):=by
 intro pins s σ H Q I h
 refine wpAny_Call_Name_kw (a6A I hg hm ?_ hdb)
 refine PySem.W.callWith_K (h₀:=X.base) I.ok.mod.kin hk (thn (ha pos pins s σ H _ I h) λ us s1 ⟨vs,H1,I1,r,q⟩=>⟨I1.kIn,?_⟩) he hpl
 exact b4X F hr hb hd hx I1 r q
end
section
variable {X:Cx} {CX:CXT} {k:Nat} {f C:Addr} {fd:FuncData} {ps ks:List Str} {sp:Sp} {E:XK} {x m:Str} {p pos apos kpos:Pos} {e o:Expr} {es:List Expr} {kws:List Keyword} {te ta:TE} {t tk:TA} {nm:Option Str}
variable {g:List Value->List Value->List Value} {gV:List V->List V->List V}
end
structure FnScope (N P:List Str) (sc:Scope):Prop where
 kind:sc.kind = .function
 co:sc.isCoroutine=false
 gen:sc.isGenerator=false
 nd:N.Nodup
 pre:N.take P.length=P
 par:∀ x∈P,sc.names.lookup x=some .local\/sc.names.lookup x=some .cell
 nofree:∀ y∈sc.names,y.2 ≠ .free
theorem a5B {kindOf:Str->Option NameKind} {x:Str}:∀ {binds:List (Str × Value)} {m:Str->Option Value},(∀ v,(x,v) ∉ binds)->bindL kindOf binds m x=m x
 | [],_,_=>rfl
 | (n,v)::r,m,h=>by
  unfold bindL
  rw [a5B λ w hw=>h w (List.mem_cons_of_mem _ hw)]
  split
  ·have:x≠n:=by rintro rfl; exact h v List.mem_cons_self
   simp [this]
  ·rfl
theorem a5C {kindOf:Str->Option NameKind} {x:Str}:∀ {binds:List (Str × Value)} {m:Str->Option Value},(∀ v,(x,v) ∉ binds)->bindC kindOf binds m x=m x
 | [],_,_=>rfl
 | (n,v)::r,m,h=>by
  unfold bindC
  rw [a5C λ w hw=>h w (List.mem_cons_of_mem _ hw)]
  split
  ·rfl
  ·have:x≠n:=by rintro rfl; exact h v List.mem_cons_self
   simp [this]
theorem a5D {kindOf:Str->Option NameKind} {x:Str} {v:Value}:∀ {P:List Str} {vs:List Value} {i:Nat} {m:Str->Option Value},P.Nodup->P[i]?=some x->vs[i]?=some v->kindOf x=some .local ->
  bindL kindOf (P.zip vs) m x=some v
 | [],_,_,_,_,h,_,_=>by simp at h
 | _::_,[],_,_,_,_,h,_=>by simp at h
 | p::P,w::vs,0,m,nd,h1,h2,hk=>by
  simp at h1 h2; subst h1; subst h2
  show bindL kindOf ((p,w)::P.zip vs) m p=_
  unfold bindL
  rw [a5B λ v hv=>(List.nodup_cons.mp nd).1 (List.of_mem_zip hv).1,if_pos hk]
  simp
 | p::P,w::vs,i+1,m,nd,h1,h2,hk=>by
  show bindL kindOf ((p,w)::P.zip vs) m x=_
  unfold bindL
  exact a5D (i:=i) (List.nodup_cons.mp nd).2 (by simpa using h1) (by simpa using h2) hk
theorem a5E {kindOf:Str->Option NameKind} {x:Str} {v:Value}:∀ {P:List Str} {vs:List Value} {i:Nat} {m:Str->Option Value},P.Nodup->P[i]?=some x->vs[i]?=some v->kindOf x≠some .local ->
  bindC kindOf (P.zip vs) m x=some v
 | [],_,_,_,_,h,_,_=>by simp at h
 | _::_,[],_,_,_,_,h,_=>by simp at h
 | p::P,w::vs,0,m,nd,h1,h2,hk=>by
  simp at h1 h2; subst h1; subst h2
  show bindC kindOf ((p,w)::P.zip vs) m p=_
  unfold bindC
  rw [a5C λ v hv=>(List.nodup_cons.mp nd).1 (List.of_mem_zip hv).1,if_neg hk]
  simp
 | p::P,w::vs,i+1,m,nd,h1,h2,hk=>by
  show bindC kindOf ((p,w)::P.zip vs) m x=_
  unfold bindC
  exact a5E (i:=i) (List.nodup_cons.mp nd).2 (by simpa using h1) (by simpa using h2) hk
def a4I (N:List Str) (vs:List V):St:=vs.map some++List.replicate (N.length - vs.length) none
def cxOf (CX:CXT) (P:Program) (w:World) (K:Φρ) (mg:Str->Option Value) (base:Heap) (N:List Str) (qual:Str) (scope:Scope) (f:Addr) (cd:Value) (A:Around) (outer:List Env) (s:Shared) (H:Hp) (E:XK):Cx where
 prog:=P
 w:=w
 K:=K
 mg:=mg
 base:=base
 A:=A.deeper (envOfC qual scope s.heap.objs.size f cd)
 N:=N
 s₀:=s
 H₀:=H
 env:=envOfC qual scope s.heap.objs.size f cd
 outer:=outer
 stack:=envOfC qual scope s.heap.objs.size f cd::outer
 ex:=[]
 calm:=true
 fn:=λ _=>true
 pn:=[]
 xe:=λ e s'=>wpAny (model P w) (A.deeper (envOfC qual scope s.heap.objs.size f cd)) (leaving (envOfC qual scope s.heap.objs.size f cd) e) (λ _ s''=>CX outer H s E e s'') (λ e' s''=>CX outer H s E e' s'') s'
theorem a6U {sc:Scope} {n:Nat} {x:Str} (h:sc.names.lookup x=some .cell):∃ c,(cellsFrom n sc.names []).lookup x=some c:=by
 have q:=PySem.W.cellsFrom_some sc.names n [] (.inl h)
 exact Option.isSome_iff_exists.mp q
theorem a8R {CX:CXT} {P:Program} {w:World} {K:Φρ} {mg:Str->Option Value} {base:Heap} {N ps:List Str} {qual:Str} {scope:Scope} {f:Addr} {cd:Value} {A:Around} {outer:List Env} {s s1:Shared} {H:Hp} {E:XK} {us:List Value} {vs:List V}
  (S:FnScope N ps scope) (hd:A.handled=none) (e0:Env0 P w K mg base A outer s H) (hl:vs.length=ps.length) (r:Vals vs us)
  (x:InCallC s s.heap.objs.size (bindL (envOfC qual scope s.heap.objs.size f cd).kindOf (ps.zip us) λ _=>none) (cellsFrom (s.heap.objs.size+1) scope.names []) (bindC (envOfC qual scope s.heap.objs.size f cd).kindOf (ps.zip us) λ _=>none) s1) :
  Inv (cxOf CX P w K mg base N qual scope f cd A outer s H E) [] (a4I N vs) H s1:=by
 have hpl:ps.length<=N.length:=by have:=congrArg List.length S.pre; rw [List.length_take] at this; omega
 obtain ⟨h1,tk,rfl,hk⟩:=x.done
 have noA:∀ b:Addr,b ∉ (cxOf CX P w K mg base N qual scope f cd A outer s H E).ex:=λ b z=>absurd (show b∈([]:List Addr) from z) (by simp)
 refine ⟨⟨e0.mod,S.kind,rfl,rfl,Nat.le_refl _,λ y z c h1 h2=>?_,λ y hy=>?_,λ y c _ h=>?_,λ _=>hd,Around.frames_deeper e0.frames,.inr ⟨rfl,rfl⟩,λ b z=>absurd z (noA b),e0.bs,e0.bsz,λ b _ _=>noA b,λ b z=>absurd z (noA b),e0.funs,e0.frf⟩,
  rfl,e0.bare,Un.kept hk,⟨_,x.toInCall.ns,λ i y v h1 h2 h3=>?_⟩,λ y c h=>⟨_,x.cell y c h⟩,e0.hok.fresh (Nat.le_refl _),λ y c h=>?_,λ p hp=>absurd (show p∈([]:List (Addr × Obj)) from hp) (by simp),e0.hok.kept hk,?_⟩
 ·exact name_of_addr x.apart (PySem.mem_of_lookup h1) (PySem.mem_of_lookup h2)
 ·have hy:scope.names.lookup y=some .cell\/scope.names.lookup y=some .free:=hy
  rcases hy with hy | hy
  ·exact a6U hy
  ·exact absurd rfl (S.nofree _ (PySem.mem_of_lookup hy))
 ·exact Nat.le_of_lt (x.above y c (PySem.mem_of_lookup h))
 ·have hi:i < vs.length:=by
   unfold a4I at h2
   by_cases hi:i < vs.length
   ·exact hi
   ·rw [List.getElem?_append_right (by simpa using hi)] at h2
    rw [List.getElem?_replicate] at h2
    split at h2 <;> cases h2
  have ha:vs[i]?=some v:=by
   unfold a4I at h2
   rw [List.getElem?_append_left (by simpa using hi),List.getElem?_map] at h2
   cases e:vs[i]? with
   | none=>rw [e] at h2; cases h2
   | some a=>rw [e] at h2; cases h2; rfl
  obtain ⟨u,hu,rv⟩:=r.get ha
  have hp:ps[i]?=some y:=by
   rw [<- S.pre,List.getElem?_take_of_lt (by omega)]; exact h1
  have ndP:ps.Nodup:=by rw [<- S.pre]; exact S.nd.sublist (List.take_sublist _ _)
  refine ⟨u,rv,?_⟩
  rcases S.par y (List.mem_of_getElem? hp) with k | k
  ·exact .inl ⟨k,a5D ndP hp hu k⟩
  ·obtain ⟨c,e⟩:=a6U (n:=s.heap.objs.size+1) k
   refine .inr ⟨.inl k,c,e,?_⟩
   have q:=x.cell y c e
   rw [a5E ndP hp hu (by show scope.names.lookup y≠_; rw [k]; decide)] at q
   exact q
 ·exact e0.hok.fresh (Nat.le_of_lt (x.above y c (PySem.mem_of_lookup h)))
 ·unfold a4I
  show _=N.length
  rw [List.length_append,List.length_map,List.length_replicate]
  omega
theorem b4Y {CX:CXT} {P:Program} {w:World} {K:Φρ} {mg:Str->Option Value} {base:Heap} {k:Nat} {f:Addr} {name qual:Str} {params:Arguments} {body:List Stmt} {scope:Scope} {dV kV doc pm cdv ct oc:Value} {an od:Option Addr}
  {osl:Array (Option Value)} {N ps:List Str} {sp:Sp} (lk:K.lookup f=some ⟨oc,od,.func (PySem.W.fnOf name qual params body scope dV kV doc pm an cdv ct),osl⟩) (hcd:PySem.W.codeIn K cdv qual=true) (S:FnScope N ps scope)
  (len:∀ vs H Q E,sp vs H Q E->vs.length=ps.length)
  (hbody:∀ (A:Around) (outer:List Env) (s:Shared) (H:Hp) (vs:List V) (Q:VK) (E:XK),Room k (A.deeper (envOfC qual scope s.heap.objs.size f cdv))->sp vs H Q E ->
   ∃ t,PSs (cxOf CX P w K mg base N qual scope f cdv A outer s H E) body t/\t { nx:=λ _ H'=>Q .non H',rt:=Q } (a4I N vs) H) :
  FnOk P w K mg base CX (k+1) f (PySem.W.fnOf name qual params body scope dV kV doc pm an cdv ct) ps sp:=by
 refine ⟨len,λ A outer s H args us vs Q E hr e0 hb r hsp=>?_⟩
 have hl:=len _ _ _ _ hsp
 have KX:K.In s.heap:=e0.mod.kin.keeps λ b o e=>(e0.bs b o e).1
 have lim:s.heap.NoLimit:=e0.mod.nolimit.keeps λ b o e=>(e0.bs b o e).1
 have hkind:∀ y∈ps.zip us,scope.names.lookup y.1=some .local\/(scope.names.lookup y.1=some .cell/\((cellsFrom (s.heap.objs.size+1) scope.names []).lookup y.1).isSome=true):=λ ⟨n,v⟩ hy=>by
  rcases S.par n (List.of_mem_zip hy).1 with q | q
  ·exact .inl q
  ·exact .inr ⟨q,PySem.W.cellsFrom_some _ _ _ (.inl q)⟩
 refine codeAny_call_function hr.depth (KX _ _ lk) rfl S.co S.gen rfl (PySem.W.codeRec_of KX hcd) (hb _ _ _ _ ?_)
 refine wpAny_newFunctionEnv_cells S.kind hkind λ env he s1 x=>?_
 subst he
 refine ⟨lim.keeps x.toInCall.keep,codeAny_func ?_⟩
 obtain ⟨t,ht,hq⟩:=hbody A outer s H vs Q E (hr.deeper _) hsp
 have I:Inv (cxOf CX P w K mg base N qual scope f cdv A outer s H E) [] (a4I N vs) H s1:=a8R S hr.hd e0 hl r x
 refine wpAny_mono (ht [] s1 (a4I N vs) H _ I hq) (λ fl s' hs=>?_) λ e s' hs=>hs
 have fin:∀ {σ':St} {H':Hp} {v:V} {u:Value},Inv (cxOf CX P w K mg base N qual scope f cdv A outer s H E) [] σ' H' s'->RelV v u->Q v H'->CE outer P w H s Q u s' :=
  λ {σ' H' v u} J rv q=>⟨v,H',J.os,J.bare,J.base,J.hok,rv,q⟩
 cases fl with
 | ret u =>
  obtain ⟨v,σ',H',J,rv,q⟩:=hs
  exact fin J rv q
 | next =>
  obtain ⟨σ',H',J,q⟩:=hs
  exact fin (v:=V.non) (u:=Value.none) J rfl q
 | brk =>
  obtain ⟨_,_,_,q⟩:=hs
  exact False.elim q
 | cont =>
  obtain ⟨_,_,_,q⟩:=hs
  exact False.elim q
end L2
namespace L2
open PySem PySem.Spec PyProof.Rows
section
variable {X:Cx} {x:Str} {p pos:Pos} {e:Expr} {es:List Expr} {t:TA} {id T:String} {r:List V->Hp->VK->Prop}
def tCB (r:List V->Hp->VK->Prop) (t:TA):TE:=λ σ H Q=>t σ H λ vs H1=>r vs H1 Q
theorem a0J (hc:CallR X (.builtin id) r) (hg:Gl X x) (hm:X.mg x=none) (hv:bootBuiltins x=some (.builtin id)) (ha:PA X (e::es) t) (hn:x ≠ "__name__" := by decide) (hdb:(x == ("__debug__" : Str))=false:=by decide)
  (he:starEach (e::es) X.env=(false,eval e X.env)::starEach es X.env:=by rfl) (hpl:(backTo pos (starEach es X.env)).any (·.1)=false:=by rfl):PE X (.Call (.Name x p) (e::es) [] pos) (tCB r t):=by
 intro pins s σ H Q I h
 refine wpAny_Call_Name_kw (a4Z I hg hm hv ?_ hn hdb)
 exact PyProof.Rows.callWith_builtin1 (thn (ha pos pins s σ H _ I h) λ us s1 ⟨vs,H1,I1,r1,q1⟩=>hc pins s1 σ H1 vs us Q I1 r1 q1) he hpl
theorem a3B (hc:CallR X (.type T) r) (hg:Gl X x) (hm:X.mg x=none) (hv:bootBuiltins x=some (.type T)) (ha:PA X (e::es) t) (hn:x ≠ "__name__" := by decide) (hdb:(x == ("__debug__" : Str))=false:=by decide)
  (he:starEach (e::es) X.env=(false,eval e X.env)::starEach es X.env:=by rfl) (hpl:(backTo pos (starEach es X.env)).any (·.1)=false:=by rfl):PE X (.Call (.Name x p) (e::es) [] pos) (tCB r t):=by
 intro pins s σ H Q I h
 refine wpAny_Call_Name_kw (a4Z I hg hm hv ?_ hn hdb)
 exact PyProof.Rows.callWith_type1 (thn (ha pos pins s σ H _ I h) λ us s1 ⟨vs,H1,I1,r1,q1⟩=>hc pins s1 σ H1 vs us Q I1 r1 q1) he hpl
end
end L2
namespace HT
open PySem PyProof.Rows
section
open PySem.SeqAt
open PySem.AutoSeq1 (wpAny_loadPart')
open PySem.MeetsSeq PySem.MeetsSeq2 PySem.MeetsSeq3
end
section
variable {prog:Program} {w:World} {A:Around} {E:Value->Shared->Prop} {s:Shared}
end
end HT
namespace L2
open PySem PySem.Spec PyProof.Rows
section
variable {X:Cx} {e:Expr} {te:TE} {lo hi:Option Expr} {tl th:TO} {pos p2:Pos}
end
end L2
namespace L2
open PySem PySem.Spec PyProof.Rows
def ixN (n:Nat) (i:Int):Option Nat:=if 0<=i then (if i < n then some i.toNat else none) else if -(n:Int)<=i then some (i+n).toNat else none
def atI {α:Type} (xs:List α) (i:Int):Option α:=(ixN xs.length i).bind λ j=>xs[j]?
theorem b2H {n:Nat} {i:Int} {j:Nat} (h:ixN n i=some j):seqIndex? i n=some j/\j < n /\ -(n:Int)<=i/\i < n:=by
 unfold ixN at h
 by_cases h0:0<=i
 ·rw [if_pos h0] at h
  by_cases h1:i < n
  ·rw [if_pos h1] at h
   have e:i.toNat=j:=Option.some.inj h
   exact ⟨by rw [seqIndex_of h0 h1,e],by omega,by omega,h1⟩
  ·rw [if_neg h1] at h; cases h
 ·rw [if_neg h0] at h
  by_cases h1 : -(n:Int)<=i
  ·rw [if_pos h1] at h
   have e:(i+n).toNat=j:=Option.some.inj h
   exact ⟨by rw [seqIndex_neg (by omega) h1,e],by omega,h1,by omega⟩
  ·rw [if_neg h1] at h; cases h
theorem a8S {α:Type} {xs:List α} {i:Int} {v:α} (h:atI xs i=some v):∃ j,seqIndex? i xs.length=some j/\xs[j]?=some v/\j < xs.length /\ -(xs.length:Int)<=i/\i < xs.length:=by
 unfold atI at h
 cases e:ixN xs.length i with
 | none=>rw [e] at h; cases h
 | some j =>
  rw [e] at h
  obtain ⟨h1,h2,h3,h4⟩:=b2H e
  exact ⟨j,h1,h,h2,h3,h4⟩
theorem a2I {α:Type} {xs:List α} {j:Nat} {v:α} (h:xs[j]?=some v):atI xs (j:Int)=some v:=by
 have hj:j < xs.length:=(List.getElem?_eq_some_iff.mp h).1
 have e:ixN xs.length (j:Int)=some j:=by
  unfold ixN
  rw [if_pos (by omega),if_pos (by omega)]; simp
 unfold atI; rw [e]; exact h
def b2I (b:Expr):Prop:=∀ o i,subscripted b false o i=operate [o,i] (getItem o i)
def IxR (X:Cx) (r:R2):Prop :=
 ∀ (value slice:Expr) (pins:List (Addr × Obj)) (s:Shared) (σ:St) (H:Hp) (x y:V) (v u:Value) (Q:VK),Inv X pins σ H s->RelV x v->RelV y u->r x y H Q ->
  subscripted slice false v u=operate [v,u] (getItem v u)->wpAny (model X.prog X.w) X.A (subscriptTail value slice v u) (EP X pins σ Q) X.xe s
def MtR (X:Cx) (id:String) (r:V->List V->Hp->VK->Prop):Prop :=
 ∀ (pins:List (Addr × Obj)) (s:Shared) (σ:St) (H:Hp) (x:V) (xs:List V) (v:Value) (us:List Value) (Q:VK),Inv X pins σ H s->RelV x v->Vals xs us->r x xs H Q ->
  wpAny (model X.prog X.w) X.A (call (.builtin id) (v::us)) (EP X pins σ Q) X.xe s
section
variable {X:Cx} {a b:Expr} {ta tb:TE} {pos:Pos}
theorem a5F {r:R2} (hr:IxR X r) (ha:PE X a ta) (hb:PE X b tb) (hs:b2I b):PE X (.Subscript a b pos) (tOp r ta tb):=by
 intro pins s σ H Q I h
 exact Subscript_ (binT ha hb I h λ v u s2 x y H2 I2 rx ry q=>hr a b pins s2 σ H2 x y v u Q I2 rx ry q (hs _ _))
def rIxL (K:Φρ):R2:=λ x y H Q=>∃ p xs i v,x = .ref p/\y = .int i/\SqL K H p xs/\atI xs i=some v/\Q v H
def rIxT (K:Φρ):R2:=λ x y H Q=>∃ p xs i v,x = .ref p/\y = .int i/\SqT K H p xs/\atI xs i=some v/\Q v H
theorem b2J:IxR X (rIxL X.K):=by
 intro value slice pins s σ H x y v u Q I rx ry h hs
 obtain ⟨p,xs,i,z,rfl,rfl,hq,he,q⟩:=h
 cases rx
 obtain ⟨t,rfl⟩:=ry
 obtain ⟨its,r,pl,hz⟩:=I.list hq
 obtain ⟨j,h1,h2,h3,h4,h5⟩:=a8S he
 obtain ⟨w,ew,rw'⟩:=r.get h2
 have hl:=r.length
 have hn:=a6T
 have fin:EP X pins σ Q w s:=⟨z,H,I,rw',q⟩
 by_cases h0:0<=i
 ·have hj:i.toNat=j:=by
   rw [seqIndex_of h0 h5] at h1
   exact Option.some.inj h1
  exact item_listR pl.isList h0 (by omega) (by rw [hj]; simpa using ew) fin hs
 ·have hj:(i+(its.toArray.size:Int)).toNat=j:=by
   rw [seqIndex_neg (by omega) h4] at h1
   rw [List.size_toArray,<- hl]
   exact Option.some.inj h1
  exact subscriptTail_builtinR (x:=w) pl.isList.typeIs slot_list_getitem.lookup
   (wpAny_getItem_list_neg (Q:=λ r s'=>r=w/\EP X pins σ Q r s') pl.isList (by omega) (by rw [List.size_toArray] <;> omega) (by omega) (by rw [hj]; simpa using ew) ⟨rfl,fin⟩) hs
theorem b4Z:IxR X (rIxT X.K):=by
 intro value slice pins s σ H x y v u Q I rx ry h hs
 obtain ⟨p,xs,i,z,rfl,rfl,hq,he,q⟩:=h
 cases rx
 obtain ⟨t,rfl⟩:=ry
 obtain ⟨its,r,pl,hz⟩:=I.tuple hq
 obtain ⟨j,h1,h2,h3,h4,h5⟩:=a8S he
 obtain ⟨w,ew,rw'⟩:=r.get h2
 have hl:=r.length
 have hn:=a6T
 have fin:EP X pins σ Q w s:=⟨z,H,I,rw',q⟩
 exact subscriptTail_builtinR (x:=w) pl.typeIs slot_tuple_getitem.lookup
  (getItem_tuple (j:=j) (Q:=λ r s'=>r=w/\EP X pins σ Q r s') pl (by omega) (by omega) (by rw [List.size_toArray,<- hl]; exact h1) (by simpa using ew) ⟨rfl,fin⟩) hs
theorem a5G:CallR X (.builtin "len") (λ xs H Q=>∃ p ys,xs=[.ref p]/\(SqL X.K H p ys\/SqT X.K H p ys)/\Q (.int ys.length) H):=by
 intro pins s σ H xs us Q I r h
 obtain ⟨p,ys,rfl,hq,q⟩:=h
 obtain ⟨u,rfl,rx⟩:=a8M r
 cases rx
 have hn:=a6T
 rcases hq with hq | hq
 ·obtain ⟨its,r',pl,hz⟩:=I.list hq
  have hlen:=r'.length
  exact Calls.call_len_list pl.isList (by simp only [List.size_toArray] <;> omega) ⟨.int ys.length,H,I.tok _,⟨s.toks+1,by rw [List.size_toArray,hlen]⟩,q⟩
 ·obtain ⟨its,r',pl,hz⟩:=I.tuple hq
  have hlen:=r'.length
  exact len_tuple pl (by simp only [List.size_toArray] <;> omega) ⟨.int ys.length,H,I.tok _,⟨s.toks+1,by rw [List.size_toArray,hlen]⟩,q⟩
theorem a5H:CallR X (.type "list") (λ xs H Q=>∃ p ys,xs=[.ref p]/\(SqL X.K H p ys\/SqT X.K H p ys)/\∀ l,H l=none->Q (.ref l) (upd H l (.lst ys))):=by
 intro pins s σ H xs us Q I r h
 obtain ⟨p,ys,rfl,hq,q⟩:=h
 obtain ⟨u,rfl,rx⟩:=a8M r
 cases rx
 have fin:∀ (its:List Value),Vals ys its->ys.length<=sizeLine->∀ (h':Heap) (c':Nat),(∀ b o',s.heap.get? b=some o'->h'.get? b=some o') ->
   h'.get? s.heap.objs.size=some { cls:=.type "list", dict:=none,data:=.seq its.toArray c',slots:=#[] }->EP X pins σ Q (.ref s.heap.objs.size) { s with heap:=h' }:=λ its r' hz h' c' kp e =>
  ⟨.ref s.heap.objs.size,_,I.laid (t':=s.toks) kp (Nat.le_refl _) (show ObjOk X.prog X.w _ h' _ (.lst ys) from ⟨hz,its,c',r',e⟩),rfl,q _ (I.hok.fresh (Nat.le_refl _))⟩
 rcases hq with hq | hq
 ·obtain ⟨its,r',pl,hz⟩:=I.list hq
  have hlen:=r'.length
  obtain ⟨o,ho,hc,n,hd⟩:=pl.isList
  exact call_list_seq p (.inl rfl) ho hc hd (λ h' c' kp e=>fin its r' hz h' c' kp e) (by simp only [List.size_toArray] <;> omega)
 ·obtain ⟨its,r',pl,hz⟩:=I.tuple hq
  have hlen:=r'.length
  obtain ⟨o,ho,hc,n,hd⟩:=pl
  exact call_list_seq p (.inr rfl) ho hc hd (λ h' c' kp e=>fin its r' hz h' c' kp e) (by simp only [List.size_toArray] <;> omega)
def tyV (K:Φρ) (T:String) (x:V) (H:Hp):Prop:=match x with
 | .str _=>T = "str"
 | .int _=>T = "int"
 | .ref p=>(T = "list" /\ ∃ xs,SqL K H p xs)\/(T = "tuple" /\ ∃ o,K.lookup p=some o/\o.cls = .type "tuple" /\ o.dict=none) \/
   (T = "dict" /\ ((∃ kvs,H p=some (.dK kvs))\/∃ kvs,H p=some (.dT kvs)))\/(T = "set" /\ ∃ S n,H p=some (.set S n))
 | _=>False
theorem b1T {pins:List (Addr × Obj)} {σ:St} {H:Hp} {s:Shared} {T:String} {x:V} {v:Value} (I:Inv X pins σ H s) (r:RelV x v) (ty:tyV X.K T x H) :
  s.TypeIs v T/\∀ a,v = .ref a->∃ ob,s.heap.get? a=some ob/\ob.dict=none:=by
 cases x with
 | str z =>
  obtain ⟨t,rfl⟩:=r
  cases (show T = "str" from ty)
  exact ⟨typeIs_str s z t,λ _ e=>nomatch e⟩
 | int i =>
  obtain ⟨t,rfl⟩:=r
  cases (show T = "int" from ty)
  exact ⟨typeIs_int s i t,λ _ e=>nomatch e⟩
 | ref p =>
  cases r
  rcases ty with ⟨rfl,xs,hq⟩ | ⟨rfl,o,hk,hc,hd⟩ | ⟨rfl,hk⟩ | ⟨rfl,S,n,hk⟩
  ·obtain ⟨its,_,pl,_⟩:=I.list hq
   refine ⟨pl.isList.typeIs,λ a e=>?_⟩
   cases e
   obtain ⟨o,n,e,c,hd,_⟩:=pl
   exact ⟨o,e,hd⟩
  ·refine ⟨⟨o,I.kIn p o hk,hc⟩,λ a e=>?_⟩
   cases e
   exact ⟨o,I.kIn _ o hk,hd⟩
  ·have z:∃ o,s.heap.get? p=some o/\o.ExactDict:=by
    rcases hk with ⟨kvs,hk⟩ | ⟨kvs,hk⟩
    ·obtain ⟨_,_,_,_,o,_,_,e,ex,_⟩:=I.hok p _ hk
     exact ⟨o,e,ex⟩
    ·obtain ⟨_,_,_,_,o,_,_,e,ex,_⟩:=I.hok p _ hk
     exact ⟨o,e,ex⟩
   obtain ⟨o,e,ex⟩:=z
   refine ⟨⟨o,e,ex.1⟩,λ a e2=>?_⟩
   cases e2
   exact ⟨o,e,ex.2.1⟩
  ·obtain ⟨o,_,_,_,e,ex,_⟩:=I.hok p _ hk
   refine ⟨⟨o,e,ex.1⟩,λ a e2=>?_⟩
   cases e2
   exact ⟨o,e,ex.2.1⟩
 | _=>exact False.elim ty
def tBM0 (K:Φρ) (T:String) (r:V->List V->Hp->VK->Prop) (to:TE):TE:=λ σ H Q=>to σ H λ x H1=>tyV K T x H1/\r x [] H1 Q
def tBM (K:Φρ) (T:String) (r:V->List V->Hp->VK->Prop) (to:TE) (t:TA):TE:=λ σ H Q=>to σ H λ x H1=>tyV K T x H1/\t σ H1 λ xs H2=>r x xs H2 Q
variable {o e:Expr} {es:List Expr} {to:TE} {t:TA} {name:Str} {apos cpos:Pos} {T id:String} {r:V->List V->Hp->VK->Prop}
theorem b5A (pa:PlainAttrs T) (slot:Slot T name id) (hty:typeOf (.builtin id)=pure (.type "method_descriptor")) (hm:MtR X id r) (ho:PE X o to)
  (hbase:attributeBase o name X.env (eval o X.env)=eval o X.env:=by rfl) (hline:(apos.endLine == cpos.line)=true:=by rfl):PE X (.Call (.Attribute o name apos) [] [] cpos) (tBM0 X.K T r to):=by
 intro pins s σ H Q I h
 refine wpAny_Call_method0_late hbase hline (thn (ho pins s σ H _ I h) λ v s1 ⟨x,H1,I1,r1,ty,q1⟩=>?_)
 obtain ⟨h1,h2⟩:=b1T I1 r1 ty
 exact ⟨T,id,pa,slot,hty,h1,h2,Calls.callWith_builtin rfl (PySem.evalArgs_none (hm pins s1 σ H1 x [] v [] Q I1 r1 .nil q1))⟩
theorem b6S (pa:PlainAttrs T) (slot:Slot T name id) (hty:typeOf (.builtin id)=pure (.type "method_descriptor")) (hm:MtR X id r) (ho:PE X o to) (ha:PA X (e::es) t)
  (hbase:attributeBase o name X.env (eval o X.env)=eval o X.env:=by rfl)
  (hfew:((backTo cpos (starEach (e::es) X.env)).all (λ x=>!x.1) && (backToKw cpos (keywordEach [] X.env)).all (λ x=>x.1.isSome)
   && decide ((e::es).length+([]:List Keyword).length+(if ([]:List Keyword).isEmpty then 0 else 1) < 30))=true:=by rfl)
  (hline:(apos.endLine == cpos.line)=true:=by rfl) (hs:starEach (e::es) X.env=(false,eval e X.env)::starEach es X.env:=by rfl) (hplain:(backTo cpos (starEach es X.env)).any (·.1)=false:=by rfl) :
  PE X (.Call (.Attribute o name apos) (e::es) [] cpos) (tBM X.K T r to t):=by
 intro pins s σ H Q I h
 refine wpAny_Call_method_late hbase hfew hline rfl (thn (ho pins s σ H _ I h) λ v s1 ⟨x,H1,I1,r1,ty,q1⟩=>?_)
 obtain ⟨h1,h2⟩:=b1T I1 r1 ty
 refine ⟨T,id,pa,slot,hty,h1,h2,?_⟩
 have hA:=ha cpos pins s1 σ H1 _ I1 q1
 rw [hs] at hA ⊢
 refine Calls.callWith_builtin (by show (false || (backTo cpos (starEach es X.env)).any (·.1))=false; rw [hplain] <;> rfl) (Calls.evalArgs_plain ?_)
 exact thn hA λ us s2 ⟨vs,H2,I2,r2,q2⟩=>hm pins s2 σ H2 x vs v us Q I2 r1 r2 q2
end
end L2
namespace L2
open PySem PySem.Spec PyProof.Rows
def MtM (X:Cx) (id:String) (r:V->List V->Hp->VK->Prop):Prop :=
 ∀ (pins:List (Addr × Obj)) (s:Shared) (σ:St) (H:Hp) (x:V) (xs:List V) (v:Value) (us:List Value) (Q:VK),Inv X pins σ H s->RelV x v->Vals xs us->r x xs H Q ->
  wpAny (model X.prog X.w) X.A (call (.builtin id) (v::us)) (EP X pins σ Q) X.xe s
theorem Vals.one:∀ {x:V} {us:List Value},Vals [x] us->∃ u,us=[u]/\RelV x u
 | _,_,.cons r .nil=>⟨_,rfl,r⟩
theorem Vals.zero:∀ {us:List Value},Vals [] us->us=[]
 | _,.nil=>rfl
section
variable {X:Cx} {pins:List (Addr × Obj)} {σ:St} {H:Hp} {s:Shared} {l b:Addr} {xs ys zs:List V}
theorem Inv.lset {its its':List Value} {n:Nat} {f:Array Value->Array Value} {t':Nat} (I:Inv X pins σ H s) (hH:H l=some (.lst xs))
  (e:s.heap.get? l=some { cls:=.type "list", data:=.seq its.toArray n }) (hf:f its.toArray=its'.toArray) (hv:Vals ys its') (hz:ys.length<=sizeLine) :
  Inv X pins σ (upd H l (.lst ys)) { s with heap:=s.heap.update l (Obj.mapSeq f),toks:=t' }:=by
 have q:=PySem.IsL.update e f
 rw [hf] at q
 refine I.write (x:=l) (e:=l) (by rw [hH]; exact trivial) (.inl rfl) (λ b' u hb hu=>(Heap.get?_update_other s.heap (Obj.mapSeq f) (Ne.symm hb)).trans hu) ⟨_,q⟩ ?_
 exact ⟨hz,its',_,hv,q⟩
theorem Inv.lstM (I:Inv X pins σ H s) (hH:H l=some (.lst xs)):xs.length<=sizeLine/\∃ (its:List Value) (n:Nat),Vals xs its/\xs.length=its.length/\s.heap.get? l=some { cls:=.type "list", data:=.seq its.toArray n }:=by
 obtain ⟨z,its,n,r,e⟩:=I.hok l _ hH
 exact ⟨z,its,n,r,r.length,e⟩
end
section
variable {X:Cx}
def b2K:V->List V->Hp->VK->Prop:=λ x vs H Q=>∃ l xs y,x = .ref l/\vs=[y]/\H l=some (.lst xs)/\xs.length < sizeLine/\Q .non (upd H l (.lst (xs++[y])))
theorem mt_append:MtM X "list.append" b2K:=by
 intro pins s σ H x vs v us Q I rx rv h
 obtain ⟨l,xs,y,rfl,rfl,hH,hz,q⟩:=h
 cases rx
 obtain ⟨u,rfl,ru⟩:=rv.one
 obtain ⟨z,its,n,r,hl,e⟩:=I.lstM hH
 refine call_meets F.slot_list_append ⟨_,e,rfl⟩ F.entry_list_append (F.args_list_append_2 _ _) (PySem.list_append l its.toArray n u (by rw [List.size_toArray]; omega)) ⟨e,?_⟩
 refine ⟨.non,_,I.lset (its':=its++[u]) hH e (by simp) (r.append (.cons ru .nil)) ?_,rfl,q⟩
 rw [List.length_append,List.length_singleton]
 omega
def b5B:V->List V->Hp->VK->Prop:=λ x vs H Q=>∃ l xs,x = .ref l/\vs=[]/\H l=some (.lst xs)/\Q .non (upd H l (.lst []))
theorem mt_clear:MtM X "list.clear" b5B:=by
 intro pins s σ H x vs v us Q I rx rv h
 obtain ⟨l,xs,rfl,rfl,hH,q⟩:=h
 cases rx
 have hus:=rv.zero
 subst hus
 obtain ⟨z,its,n,r,hl,e⟩:=I.lstM hH
 refine call_meets F.slot_list_clear ⟨_,e,rfl⟩ F.entry_list_clear (F.args_list_clear_1 _) (AutoSeq1.list_clear_list_0 l its.toArray n (by rw [List.size_toArray]; omega)) ⟨e,?_⟩
 exact ⟨.non,_,I.lset (its':=[]) (ys:=[]) hH e rfl .nil (Nat.zero_le _),rfl,q⟩
end
section
variable {prog:Program} {w:World} {A:Around} {E:Value->Shared->Prop} {s:Shared}
end
section
variable {X:Cx}
end
end L2
namespace Att
open PySem PySem.W PySem.Calls PyProof.Rows
theorem a3C {P:Params} {h:Heap}:∀ (ns:List Int) (vs:List Value),WellAll P h vs (ns.map WData.int)->IntsAre vs ns:=by
 intro ns
 induction ns with
 | nil =>
  intro vs w
  rw [List.map_nil] at w
  cases w
  exact .nil
 | cons n ns ih =>
  intro vs w
  rw [List.map_cons] at w
  cases w with
  | cons a b =>
   cases a
   exact .cons _ _ (ih _ b)
theorem a8T {l : OpenLaw} {n : Nat} (hn : l.most = some n) {P : Params} {h : Heap} {args : List WData} {vals : List Value}
    (hpre : l.row.toRowW.claim.pre args = true) (hwl : WellAll P h vals args) :
    ∃ a vs ns, vals = [Value.ref a] /\ args = [WData.list (ns.map WData.int)] /\ h.get? a = some { cls := .type "list", data := .seq vs.toArray } /\ IntsAre vs ns /\ ns.length <= n := by
  have hsh : WShape.hasAll [] args [.list .int] = true := (pre_splitW hpre).1
  have hc : l.pre.holds [] { args := args } = true := (pre_splitW hpre).2
  obtain ⟨d, r, rfl, h1, h2⟩ := hasAllW_cons hsh
  obtain rfl := hasAllW_nil h2
  obtain ⟨xs, rfl, h3⟩ := hasW_list h1
  obtain ⟨ns, rfl⟩ := items_int h3
  have hlen : ns.length <= n := by
    unfold OpenLaw.pre at hc
    have h4 : (WTm.not (.lt (.lit (.int (n : Int))) (.len (.arg 0)))).holds [] { args := [.list (ns.map .int)] } = true := by
      have h4 := (holds_andW hc).1
      rw [hn] at h4
      exact h4
    have h5 := condW_of h4 (w_not (w_lt w_lit (w_len_list (w_arg rfl))))
    rw [List.length_map] at h5
    refine Nat.le_of_not_lt fun q => ?_
    have q' : (n : Int) < ((ns.length : Nat) : Int) := by omega
    first
      | (rw [decide_eq_true q'] at h5; exact absurd h5 (by decide))
      | (simp at h5; omega)
  cases hwl with
  | cons w1 w2 =>
    cases w2
    cases w1 with
    | list ho hall => exact ⟨_, _, ns, rfl, rfl, ho, a3C ns _ hall, hlen⟩
theorem a8U (l : OpenLaw) (args : List WData) : l.row.toRowW.claim.post args (.bool true) args = true :=
  postW_of (r := l.row.toRowW) (X := (true == true))
    (show WShape.has [] (.bool true) .bool = true by first | rfl | decide | simp [WShape.has, WShape.arms, WShape.armsAll])
    (show (WTm.eq .res (.lit (.bool true))).value [] { args := args, res := some (.bool true), after := args } = some (.bool (true == true)) from w_eq_bool (w_res rfl) w_lit) rfl
theorem attach_call {l:OpenLaw} {n:Nat} {q:Program} {loose:List Str} {XP:(Str->Option Value)->Heap->Prop} {YP:World->Heap->Prop} {d:DefRec}
  (hn:l.most=some n) (hdf:d.params.defaults=[])
  (call:∀ (w:World) (s₀ s₁:Shared) (mg mb:Str->Option Value) (fa:Addr) (o:Obj) (pm cd doc:Value) (a:Addr) (vs:List Value) (ns:List Int),
   Ground q loose [] XP w s₀ mg mb s₁.heap->YP w s₁.heap ->
   s₁.heap.get? fa=some o->o.data = .func (docDef d.name d.params d.body d.scope pm cd doc)->s₁.heap.CodeRec cd d.name->mg d.name=some (.ref fa) ->
   s₁.heap.get? a=some { cls:=.type "list", data:=.seq vs.toArray }->IntsAre vs ns->ns.length<=n->s₁.gens = #[] ->
   codeAny (model l.prog w) callerA (.call (.ref fa) ⟨[.ref a],[]⟩) (λ r s'=>r = .ok (.ret (.bool true))/\OldK s₁.heap s'.heap/\s'.os=s₁.os/\AllBare s'.gens) s₁) :
  WalkO q loose XP YP l.row.toRowW d [] (λ f vs=>PySem.call f vs):=by
 intro w s₀ s₁ mg mb G Y fa o pm cd doc dV kV ho hd hcd hD hmg hg args vals as hpre hlay hrd hwl hlo
 obtain rfl:dV = .none:=Dflts.none hD hdf
 obtain rfl:kV = .none:=Dflts.noKw hD
 obtain ⟨a,vs,ns,rfl,rfl,hobj,hints,hlen⟩:=a8T hn hpre hwl
 refine enter_call (codeAny_mono (call w s₀ s₁ mg mb fa o pm cd doc a vs ns G Y ho (fd_plain hd) hcd hmg hobj hints hlen hg) λ r s' hq=>?_)
 obtain ⟨rfl,h2,h3,h4⟩:=hq
 exact ⟨.inl ⟨.bool true,.bool true,[],rfl,λ _=>rfl,.bool true,a8U l _,λ _=>⟨List.Pairwise.nil,λ _ hm=>(nomatch hm)⟩⟩,h2,h3,h4⟩
section
variable {prog:Program} {w:World} {A:Around} {E:Value->Shared->Prop} {s:Shared} {K:Frag}
end
end Att
namespace L2
open PySem PySem.Spec PyProof.Rows
theorem a5I:∀ {vs:List Value} {ns:List Int},IntsAre vs ns->Vals (ns.map V.int) vs
 | _,_,.nil=>.nil
 | _,_,.cons n t h=>.cons ⟨t,rfl⟩ (a5I h)
def Only (H:Hp):Prop:=∀ b,H b=none\/∃ o xs,H b=some (.frz o (.lst xs))
theorem b0S {P:Program} {w:World} {K:Φρ} {mg mb:Str->Option Value} {CX:CXT} {k:Nat} {fa a:Addr} {fd:FuncData} {x:Str} {sp:Sp} {s₁:Shared} {vs:List Value} {ns:List Int}
  (KX:K.In s₁.heap) (hns:s₁.heap.Ns mainGlobals mg) (hb:s₁.heap.Ns builtinsNs mb) (hbb:∀ x:Str,x ≠ "__name__" -> mb x=bootBuiltins x) (hlim:s₁.heap.NoLimit) (hg:s₁.gens = #[])
  (ha:s₁.heap.get? a=some { cls:=.type "list", data:=.seq vs.toArray }) (hi:IntsAre vs ns) (hl:ns.length<=sizeLine) (hr:Room k callerA)
  (F:∀ base:Heap,K.In base->base.Ns mainGlobals mg->FnOk P w K mg base CX k fa fd [x] sp) (hbind:∀ (s:Shared) (u:Value),BindsTo s fd ⟨[u],[]⟩ [(x,u)])
  (hsp:∀ H:Hp,Only H->SqL K H a (ns.map V.int)->sp [.ref a] H (λ v _=>v = .bl true) λ _ _ _=>False)
  (hCX:∀ H e s',CX [] H s₁ (λ _ _ _=>False) e s'->False) :
  codeAny (model P w) callerA (.call (.ref fa) ⟨[.ref a],[]⟩) (λ r s'=>r = .ok (.ret (.bool true))/\OldK s₁.heap s'.heap/\s'.os=s₁.os/\AllBare s'.gens) s₁:=by
 have rv:=a5I hi
 have lenV:=hi.length
 have core:∀ H:Hp,Only H->SqL K H a (ns.map V.int)->HOk P w H s₁.heap->(∀ b,H b≠none->b=a)->(H a≠none->K.lookup a=none) ->
   codeAny (model P w) callerA (.call (.ref fa) ⟨[.ref a],[]⟩) (λ r s'=>r = .ok (.ret (.bool true))/\OldK s₁.heap s'.heap/\s'.os=s₁.os/\AllBare s'.gens) s₁:=by
  intro H hO hS hok hA hK
  have base_of:∀ {b:Addr} {o:Obj},s₁.heap.get? b=some o->H b=none->(hidT s₁.heap H).get? b=some o:=λ e n=>b0O e n
  have noA:∀ {b:Addr} {o:Obj} {es:Array DictEntry} {ep:Nat},s₁.heap.get? b=some o->o.data = .dict es ep->H b=none:=λ {b o es ep} e d=>by
   cases q:H b with
   | none=>rfl
   | some u =>
    have e':b=a:=hA b (by rw [q]; simp)
    subst e'
    rw [ha] at e; cases e
    have d':Data.seq vs.toArray _=Data.dict es ep:=d
    cases d'
  have nsK:∀ {b:Addr} {m:Str->Option Value},s₁.heap.Ns b m->(hidT s₁.heap H).Ns b m:=λ {b m} ⟨o,es,ep,e,d,r⟩=>⟨o,es,ep,base_of e (noA e d),d,r⟩
  have hKb:K.In (hidT s₁.heap H):=λ b o e=>base_of (KX b o e) (by
   cases q:H b with
   | none=>rfl
   | some u =>
    have e':b=a:=hA b (by rw [q]; simp)
    subst e'
    rw [hK (by rw [q]; simp)] at e; cases e)
  have hM:Mod K mg (hidT s₁.heap H):=⟨hKb,nsK hns,⟨mb,nsK hb,hbb⟩,let ⟨mc,h1,h2⟩:=hlim; ⟨mc,nsK h1,h2⟩⟩
  have e0:Env0 P w K mg (hidT s₁.heap H) callerA [] s₁ H:=⟨rfl,hM,λ b o e=>b2D e,Nat.le_of_eq (a8A _ _),trivial,λ b hb=>absurd (show b∈([]:List Addr) from hb) (by simp),hok,.of_eq hg⟩
  refine codeAny_mono ((F _ hKb (nsK hns)).run callerA [] s₁ H ⟨[.ref a],[]⟩ [.ref a] [.ref a] _ _ hr e0 (hbind s₁ (.ref a)) (.cons rfl .nil) (hsp H hO hS)) λ r s' h=>?_
  cases r with
  | error e=>exact (hCX H e s' h).elim
  | ok fl =>
   cases fl with
   | next=>exact False.elim h
   | brk=>exact False.elim h
   | cont=>exact False.elim h
   | ret u =>
    obtain ⟨v,H',os,bare,un,hok',r',q⟩:=h
    have q':v = .bl true:=q
    subst q'
    obtain rfl:u=Value.bool true:=r'
    refine ⟨rfl,OldK.of_keep λ b o e=>?_,os,bare⟩
    cases q:H b with
    | none=>exact un.keep b o e q (by intro z; exact absurd (show b∈([]:List Addr) from z) (by simp)) (by simp)
    | some u =>
     rcases hO b with z | ⟨ob,xs,z⟩
     ·rw [q] at z; cases z
     ·have z2:=un.frzs b ob _ z
      obtain ⟨e1,_⟩:=hok b _ z
      obtain ⟨e2,_⟩:=hok' b _ z2
      rw [e] at e1; cases e1
      exact e2
 cases hk:K.lookup a with
 | some o =>
  have e:=KX a o hk
  rw [ha] at e
  cases e
  refine core (λ _=>none) (λ _=>.inl rfl) (.inr ⟨_,vs.toArray,_,hk,rfl,rfl,rfl,by rw [List.size_toArray,lenV]; exact hl,by simpa using rv⟩) (λ b u z=>by have z':(none:Option HO)=some u:=z; cases z') (λ b z=>absurd rfl z) λ z=>absurd rfl z
 | none =>
  refine core (λ b=>if b=a then some (.frz { cls:=.type "list", data:=.seq vs.toArray } (.lst (ns.map V.int))) else none) (λ b=>?_) (.inl (.inr ⟨{ cls:=.type "list", data:=.seq vs.toArray },if_pos rfl⟩)) (λ b u z=>?_) (λ b z=>?_) λ _=>hk
  ·by_cases hb:b=a
   ·exact .inr ⟨_,_,if_pos hb⟩
   ·exact .inl (if_neg hb)
  ·by_cases hb:b=a
   ·have z':=(if_pos hb).symm.trans z
    cases z'
    subst hb
    exact ⟨ha,by rw [List.length_map]; exact hl,vs,_,rv,ha⟩
   ·have z':=(if_neg hb).symm.trans z
    cases z'
  ·by_cases hb:b=a
   ·exact hb
   ·exact absurd (if_neg hb) z
end L2
namespace L2
open PySem PySem.Spec PyProof.Rows
abbrev KOf {K:Φρ} {h:Heap} (_:K.In h):Φρ:=K
theorem b2L {l:PySem.W.OpenLaw} {n k:Nat} {q:Program} {loose:List Str} {XP:(Str->Option Value)->Heap->Prop} {YP:World->Heap->Prop} {d:DefRec} {K:Params->Φρ} {CX:World->CXT} {sp:World->Sp} {x:Str}
  (hn:l.most=some n) (hn2:n<=sizeLine) (hdf:d.params.defaults=[]) (hr:Room k callerA)
  (hY:∀ (w:World) (h:Heap),YP w h->(K w.params).In h)
  (F:∀ (w:World) (mg:Str->Option Value) (fa:Addr) (h:Heap),(K w.params).In h->h.Ns mainGlobals mg->mg d.name=some (.ref fa) ->
   ∃ fd:FuncData,(∀ (s:Shared) (u:Value),BindsTo s fd ⟨[u],[]⟩ [(x,u)]) /\
    ∀ base:Heap,(K w.params).In base->base.Ns mainGlobals mg->FnOk l.prog w (K w.params) mg base (CX w) k fa fd [x] (sp w))
  (hsp:∀ (w:World) (H:Hp) (a:Addr) (ns:List Int),ns.length<=n->Only H->SqL (K w.params) H a (ns.map V.int)->sp w [.ref a] H (λ v _=>v = .bl true) λ _ _ _=>False)
  (hCX:∀ (w:World) (H:Hp) (s:Shared) (e:Value) (s':Shared),CX w [] H s (λ _ _ _=>False) e s'->False) :
  PySem.W.WalkO q loose XP YP l.row.toRowW d [] (λ f vs=>PySem.call f vs):=by
 refine Att.attach_call hn hdf λ w s₀ s₁ mg mb fa o pm cd doc a vs ns G Y ho hd hcd hmg hobj hints hlen hg=>?_
 have KX:=hY w _ Y
 obtain ⟨fd,hb,hF⟩:=F w mg fa _ KX G.T.g hmg
 exact b0S KX G.T.g G.T.b G.T.builtins G.T.nolimit hg hobj hints (Nat.le_trans hlen hn2) hr hF hb (λ H hO hS=>hsp w H a ns hlen hO hS) λ H e s'=>hCX w H s₁ e s'
theorem walk_ofK {l:PySem.W.OpenLaw} {n k:Nat} {q:Program} {loose:List Str} {XP:(Str->Option Value)->Heap->Prop} {YP:World->Heap->Prop} {d:DefRec} {K:Params->Φρ} {CX:CXT} {sp:Φρ->Sp} {x:Str}
  (hn:l.most=some n) (hn2:n<=sizeLine) (hdf:d.params.defaults=[]) (hr:Room k callerA)
  (hY:∀ (w:World) (h:Heap),YP w h->(K w.params).In h)
  (F:∀ (w:World) (mg:Str->Option Value) (fa:Addr) (h:Heap),(K w.params).In h->h.Ns mainGlobals mg->mg d.name=some (.ref fa) ->
   ∃ fd:FuncData,(∀ (s:Shared) (u:Value),BindsTo s fd ⟨[u],[]⟩ [(x,u)]) /\
    ∀ base:Heap,(K w.params).In base->base.Ns mainGlobals mg->FnOk l.prog w (K w.params) mg base CX k fa fd [x] (sp (K w.params)))
  (hsp:∀ (K:Φρ) (H:Hp) (a:Addr) (ns:List Int),ns.length<=n->Only H->SqL K H a (ns.map V.int)->sp K [.ref a] H (λ v _=>v = .bl true) λ _ _ _=>False)
  (hCX:∀ (H:Hp) (s:Shared) (e:Value) (s':Shared),CX [] H s (λ _ _ _=>False) e s'->False) :
  PySem.W.WalkO q loose XP YP l.row.toRowW d [] (λ f vs=>PySem.call f vs) :=
 b2L (K:=K) (CX:=λ _=>CX) (sp:=λ w=>sp (K w.params)) hn hn2 hdf hr hY F (λ w H a ns h1 h2 h3=>hsp (K w.params) H a ns h1 h2 h3) λ _ H s e s'=>hCX H s e s'
end L2
namespace L2
open PySem PySem.Spec PyProof.Rows
def a0U (s:Stmt):Arguments:=match s with
 | .FunctionDef _ a _ _ _ _ _ _ _ _=>a
 | _=>{ posonlyargs:=[],args:=[],vararg:=none,kwonlyargs:=[],kw_defaults:=[],kwarg:=none,defaults:=[] }
def a0S (s:Stmt):List Stmt:=match s with
 | .FunctionDef _ _ b _ _ _ _ _ _ _=>b
 | _=>[]
def a0D (s:Stmt):Scope:=match s with
 | .FunctionDef _ _ _ _ _ _ sc _ _ _=>sc
 | _=>{ kind:=.function,names:=[],isGenerator:=false,isCoroutine:=false }
abbrev CX0:CXT:=λ _ _ _ _ _ _=>False
abbrev E0:XK:=λ _ _ _=>False
theorem a0X {X:Cx}:a3W CX0 X E0:=λ _ _ _ _ _ _ _ h=>h.elim
structure Fun (K:Φρ) (x qual:Str) (st:Stmt) (f:Addr) (fd:FuncData):Prop where
 ex:∃ (oc:Value) (od:Option Addr) (kV doc pm:Value) (an:Option Addr) (cdv ct:Value) (osl:Array (Option Value)),
  fd=PySem.W.fnOf x qual (a0U st) (a0S st) (a0D st) .none kV doc pm an cdv ct/\K.lookup f=some ⟨oc,od,.func fd,osl⟩/\PySem.W.codeIn K cdv qual=true
 kp:PySem.W.keepIn K (.ref f)=true
section
variable {P:Program} {w:World} {K:Φρ} {mg:Str->Option Value} {base:Heap}
theorem Fun.ok {x qual:Str} {st:Stmt} {f:Addr} {fd:FuncData} {N ps:List Str} {k:Nat} {sp:Sp} (F:Fun K x qual st f fd) (S:FnScope N ps (a0D st)) (len:∀ vs H Q E,sp vs H Q E->vs.length=ps.length)
  (hbody:∀ (cdv:Value) (A:Around) (outer:List Env) (s:Shared) (H:Hp) (vs:List V) (Q:VK) (E:XK),Room k (A.deeper (envOfC qual (a0D st) s.heap.objs.size f cdv))->sp vs H Q E ->
   ∃ t,PSs (cxOf CX0 P w K mg base N qual (a0D st) f cdv A outer s H E).nox (a0S st) t/\t { nx:=λ _ H'=>Q .non H',rt:=Q } (a4I N vs) H):FnOk P w K mg base CX0 (k+1) f fd ps sp:=by
 obtain ⟨oc,od,kV,doc,pm,an,cdv,ct,osl,rfl,lk,hcd⟩:=F.ex
 refine b4Y lk hcd S len λ A outer s H vs Q E hr hsp=>?_
 obtain ⟨t,h,q⟩:=hbody cdv A outer s H vs Q E hr hsp
 exact ⟨t,h.nox,q⟩
theorem Fun.binds {x qual:Str} {st:Stmt} {f:Addr} {fd:FuncData} {ps:List Str} (F:Fun K x qual st f fd)
  (h:∀ (kV doc pm:Value) (an:Option Addr) (cdv ct:Value) (us:List Value),us.length=ps.length->bindArgs (PySem.W.fnOf x qual (a0U st) (a0S st) (a0D st) .none kV doc pm an cdv ct) ⟨us,[]⟩=pure (ps.zip us)):Binds K fd ps []:=by
 obtain ⟨oc,od,kV,doc,pm,an,cdv,ct,osl,rfl,lk,hcd⟩:=F.ex
 exact .all (h kV doc pm an cdv ct)
theorem b5C {x qual:Str} {st:Stmt} {f:Addr} {oc:Value} {od an:Option Addr} {osl:Array (Option Value)} {kV doc pm cdv ct:Value} (l:K.lookup f=some ⟨oc,od,.func (PySem.W.fnOf x qual (a0U st) (a0S st) (a0D st) .none kV doc pm an cdv ct),osl⟩)
  (c:PySem.W.codeIn K cdv qual=true) (k:PySem.W.keepIn K (.ref f)=true):Fun K x qual st f (PySem.W.fnOf x qual (a0U st) (a0S st) (a0D st) .none kV doc pm an cdv ct):=⟨⟨oc,od,kV,doc,pm,an,cdv,ct,osl,rfl,l,c⟩,k⟩
end
theorem a1E {n:Nat} (h:n<=1000):n < sizeLine:=Nat.lt_of_le_of_lt h (by decide)
section
variable {X:Cx}
theorem pv (i:Nat) {x:Str} {pos:Pos} (hN:X.N[i]?=some x:=by rfl) (hv:Vis X.env.scope x:=by first | exact Or.inl rfl | exact Or.inr (Or.inl rfl) | exact Or.inr (Or.inr rfl)) (hd:(x == ("__debug__" : Str))=false:=by decide)
  (hcd:(x == ("__classdict__" : Str))=false:=by decide):PE X (.Name x pos) (tVar i):=b4L hN hv hd hcd
end
theorem iteF {A B:Prop} (h:B):if false=true then A else B:=by
 rw [if_neg Bool.false_ne_true]
 exact h
theorem iteT {A B:Prop} (h:A):if true=true then A else B:=by
 rw [if_pos rfl]
 exact h
theorem ite2 {c A B:Prop} [Decidable c] (h1:c->A) (h2:¬ c->B):if c then A else B:=by
 by_cases h:c
 ·rw [if_pos h]
  exact h1 h
 ·rw [if_neg h]
  exact h2 h
def Same (H H':Hp):Prop:=∀ b o,H b=some o->H' b=some o
theorem Same.refl (H:Hp):Same H H:=λ _ _ h=>h
theorem Same.trans {H H1 H2:Hp} (a:Same H H1) (b:Same H1 H2):Same H H2:=λ c o h=>b c o (a c o h)
theorem Same.seq {K:Φρ} {H H':Hp} {a:Addr} {xs:List V} (e:Same H H') (h:SqL K H a xs):SqL K H' a xs:=by
 rcases h with (h | ⟨o,h⟩) | h
 ·exact .inl (.inl (e _ _ h))
 ·exact .inl (.inr ⟨o,e _ _ h⟩)
 ·exact .inr h
end L2
namespace L2
open PySem PySem.Spec PyProof.Rows
def clOf (cells:List (Str × Addr)):List (Str × NameKind)->List (Str × Addr)->List (Str × Addr)
 | [],acc=>acc
 | (n,k)::r,acc=>clOf cells r (if k == .free then (match cells.lookup n with | some c=>(n,c)::acc | none=>acc) else acc)
theorem b1U {env:Env}:∀ (ns:List (Str × NameKind)) (acc:List (Str × Addr)),(∀ x∈ns,x.2 = .free->∃ c,env.cells.lookup x.1=some c) ->
  (forIn ns acc λ (x:Str × NameKind) (cs:List (Str × Addr))=>(if x.2 == NameKind.free then do let a <- cellOf env x.1; pure (ForInStep.yield ((x.1,a)::cs)) else pure (ForInStep.yield cs):Sem (ForInStep (List (Str × Addr)))))=pure (clOf env.cells ns acc)
 | [],acc,_=>by simp [clOf]
 | (n,k)::r,acc,h=>by
  rw [List.forIn_cons]
  have ih:=λ a=>b1U (env:=env) r a λ x hx=>h x (List.mem_cons_of_mem _ hx)
  unfold clOf
  by_cases hk:(k == NameKind.free)=true
  ·obtain ⟨c,hc⟩:=h (n,k) List.mem_cons_self (by grind)
   have hc':env.cells.lookup n=some c:=hc
   have hce:cellOf env n=pure c:=by simp only [cellOf,hc']
   grind
  grind
theorem a3X {scope:Scope} {env:Env} (h:∀ x∈scope.names,x.2 = .free->∃ c,env.cells.lookup x.1=some c):closureFor scope env=pure (clOf env.cells scope.names []):=by
 have q:=b1U (env:=env) scope.names [] h
 unfold closureFor
 grind
theorem a2D {cells:List (Str × Addr)}:∀ (ns:List (Str × NameKind)) (acc:List (Str × Addr)) {x:Str} {c:Addr},(∀ y d,acc.lookup y=some d->cells.lookup y=some d)->(clOf cells ns acc).lookup x=some c->cells.lookup x=some c
 | [],acc,x,c,ha,h=>ha x c h
 | (n,k)::r,acc,x,c,ha,h=>by
  unfold clOf at h
  refine a2D r _ (λ y d hy=>?_) h
  grind
theorem a5J {cells:List (Str × Addr)}:∀ (ns:List (Str × NameKind)) (acc:List (Str × Addr)) {x:Str},(∃ c,acc.lookup x=some c)->∃ c,(clOf cells ns acc).lookup x=some c
 | [],acc,x,h=>h
 | (n,k)::r,acc,x,h=>by
  unfold clOf
  refine a5J r _ ?_
  grind
theorem a4J {cells:List (Str × Addr)}:∀ (ns:List (Str × NameKind)) (acc:List (Str × Addr)) {x:Str},(x,NameKind.free)∈ns->(∃ c,cells.lookup x=some c)->∃ c,(clOf cells ns acc).lookup x=some c
 | [],acc,x,h,_=>nomatch h
 | (n,k)::r,acc,x,h,hc=>by
  unfold clOf
  rcases List.mem_cons.mp h with e | h
  ·cases e
   obtain ⟨c,hc⟩:=hc
   refine a5J r _ ?_
   simp [hc]
  ·exact a4J r _ h hc
end L2
namespace L2
open PySem PySem.Spec PyProof.Rows
theorem Inv.track {X:Cx} {pins:List (Addr × Obj)} {σ:St} {H:Hp} {s:Shared} {a:Addr} {o:HO} (I:Inv X pins σ H s) (hn:H a=none) (h0:X.s₀.heap.objs.size<=a) (hL:a≠X.env.locals)
  (hc:∀ x c,X.env.cells.lookup x=some c->c≠a) (hp:∀ p∈X.pn++pins,p.1≠a) (new:ObjOk X.prog X.w (upd H a o) s.heap a o):Inv X pins σ (upd H a o) s:=by
 have ne:∀ b u,H b=some u->b≠a:=λ b u e=>a0R e hn
 have q:=I.step (g':=s.gens) (d':=s.drawn) (t':=s.toks) (h':=s.heap) (H':=upd H a o) (ch:=[a]) (λ b hb=>?_) (λ b ob _ _ _ e _=>e) (λ b ob _ _ _ e _=>⟨ob.slots,e⟩) (λ b ob hb _ n=>?_)
  (λ b ob _ e=>⟨ob,e⟩) (λ b xs e=>by rw [a0P (ne b _ e)]; exact e) (λ b ob u e=>by rw [a0P (ne b _ e)]; exact e) (λ b ps e=>⟨#[],by rw [a0P (ne b _ e),e]; simp⟩) (λ m hm=>hm) (λ b u e=>?_) I.bare
 ·exact q
 ·grind
 ·rw [a0P (λ z=>hb (by simp [z]))]; exact n
 ·by_cases hb:b=a
  ·subst hb; rw [a2B] at e; grind
  ·rw [a0P hb] at e
   exact (I.hok b u e).stay (λ c v _ q=>q) (λ c q=>by rw [a0P (a0R q hn)]; exact q) λ c xs q=>by rw [a0P (a0R q hn)]; exact q
def a1F (X:Cx) (N':List Str) (scope:Scope) (C:Addr) (s:Shared) (H:Hp) (fp:List Addr) (xe:Value->Shared->Prop):Cx :=
 { X with N:=N',s₀:=s,H₀:=H,env:=compEnvC scope (clOf X.env.cells scope.names []) C X.env,outer:=X.stack,ex:=fp,fn:=λ _=>false,xe:=xe }
structure BlkOk (X:Cx) (N':List Str) (ix:List (Option Nat)) (scope:Scope):Prop where
 kind:scope.kind = .function
 nocell:∀ y∈scope.names,y.2 ≠ .cell
 locs:∀ y∈scope.names,y.2 = .local->scope.names.lookup y.1=some .local
 free:∀ y∈scope.names,y.2 = .free->X.env.kindOf y.1=some .cell\/X.env.kindOf y.1=some .free
 len:ix.length=N'.length
 cap:∀ (i j:Nat),ix[i]?=some (some j)->∃ x,N'[i]?=some x/\X.N[j]?=some x/\scope.names.lookup x=some .free
def capt (ix:List (Option Nat)) (σ:St):St:=ix.map λ o=>o.bind λ j=>(σ[j]?).join
theorem a2M {env:Env} {x:Str}:∀ {names:List (Str × NameKind)},names.lookup x=some .free->(names.map λ (n,k)=>if (k == NameKind.free && env.scope.kind == .function && env.kindOf n == some .cell) then (n,NameKind.cell) else (n,k)).lookup x=some .cell\/(names.map λ (n,k)=>if (k == NameKind.free && env.scope.kind == .function && env.kindOf n == some .cell) then (n,NameKind.cell) else (n,k)).lookup x=some .free
 | [],h=>by simp at h
 | (n,k)::r,h=>by
  have ih:=@a2M env x r
  grind
theorem a2N {env:Env} {x:Str}:∀ {names:List (Str × NameKind)},(∀ y∈names,y.2 ≠ .cell)->((names.map λ (n,k)=>if (k == NameKind.free && env.scope.kind == .function && env.kindOf n == some .cell) then (n,NameKind.cell) else (n,k)).lookup x=some .cell\/(names.map λ (n,k)=>if (k == NameKind.free && env.scope.kind == .function && env.kindOf n == some .cell) then (n,NameKind.cell) else (n,k)).lookup x=some .free)->(x,NameKind.free)∈names
 | [],_,h=>by simp at h
 | (n,k)::r,hn,h=>by
  have ih:=@a2N env x r λ y hy=>hn y (List.mem_cons_of_mem _ hy)
  grind
theorem a3D {X:Cx} {pins:List (Addr × Obj)} {σ:St} {H:Hp} {s:Shared} {N':List Str} {ix:List (Option Nat)} {scope:Scope} {i:Nat} {x:Str} {v:V} (B:BlkOk X N' ix scope) (I:Inv X pins σ H s)
  (h1:N'[i]?=some x) (h2:(capt ix σ)[i]?=some (some v)):∃ u c,RelV v u/\(clOf X.env.cells scope.names []).lookup x=some c/\X.env.cells.lookup x=some c/\s.heap.IsCell c (some u) /\
   ((relabel scope X.env).names.lookup x=some .cell\/(relabel scope X.env).names.lookup x=some .free):=by
 have clB:∀ x c,(clOf X.env.cells scope.names []).lookup x=some c->X.env.cells.lookup x=some c:=λ x c h=>a2D scope.names [] (λ _ _ z=>by simp at z) h
 obtain ⟨j,hj,hv⟩:∃ j,ix[i]?=some (some j)/\σ[j]?=some (some v):=by
  unfold capt at h2
  rw [List.getElem?_map] at h2
  cases e:ix[i]? with
  | none=>grind
  | some o =>
   rw [e] at h2
   cases o with
   | none=>cases h2
   | some j =>
    grind
 obtain ⟨x',hx1,hx2,hx3⟩:=B.cap i j hj
 have exx:x'=x:=by
  grind
 subst exx
 have hmem:=PySem.mem_of_lookup hx3
 have hout:=B.free _ hmem rfl
 obtain ⟨m0,_,hl⟩:=I.loc
 obtain ⟨u,r,l⟩:=hl j x' v hx2 hv (by
  rcases hout with e | e
  ·exact .inr (.inl e)
  ·exact .inr (.inr e))
 rcases l with ⟨k,_⟩ | ⟨k,c,e,z⟩
 ·grind
 ·obtain ⟨c',hc'⟩:=a4J scope.names [] hmem (I.ok.has x' hout)
  have:=clB x' c' hc'
  rw [e] at this; cases this
  exact ⟨u,c,r,hc',e,z,a2M hx3⟩
theorem a5K {X:Cx} {pins:List (Addr × Obj)} {σ:St} {H:Hp} {s s4:Shared} {N':List Str} {ix:List (Option Nat)} {scope:Scope} {C:Addr} {fp:List Addr} {xe:Value->Shared->Prop} {m:Str->Option Value}
  (B:BlkOk X N' ix scope) (I:Inv X pins σ H s) (hf:∀ b∈fp,FpOk X pins H b) (hC:s.heap.objs.size<=C) (hfs:∀ b∈fp,b < s.heap.objs.size)
  (ho:s4.os=s.os) (hg:s4.gens=s.gens) (hk:∀ b o,s.heap.get? b=some o->s4.heap.get? b=some o) (hns:s4.heap.Ns C m) :
  Inv (a1F X N' scope C s H fp xe) pins (capt ix σ) H s4:=by
 have clB:∀ x c,(clOf X.env.cells scope.names []).lookup x=some c->X.env.cells.lookup x=some c:=λ x c h=>a2D scope.names [] (λ _ _ z=>by simp at z) h
 have hfree:H C=none:=I.hok.fresh hC
 have neC:∀ b o,s.heap.get? b=some o->b≠C:=λ b o e=>Nat.ne_of_lt (Nat.lt_of_lt_of_le (Heap.lt_size e) hC)
 refine ⟨⟨I.ok.mod,B.kind,I.ok.glob,I.ok.blt,hC,λ x y c h1 h2=>I.ok.inj x y c (clB x c h1) (clB y c h2),λ x hx=>?_,λ x c h=>absurd (show false=true from h) Bool.false_ne_true,I.ok.hd,I.ok.frames,.inl rfl,λ b hb=>⟨?_,λ x c e=>?_⟩,I.bs,?_,λ b o e hb=>?_,λ b hb z=>?_,I.stack,I.stkFree⟩,
  ho,?_,Un.kept hk,⟨m,hns,λ i x v h1 h2 h3=>?_⟩,λ x c e=>?_,hfree,λ x c e=>I.freeC x c (clB x c e),λ p hp=>?_,I.hok.kept hk,?_⟩
 ·have hx':=a2N (env:=X.env) (x:=x) B.nocell hx
  exact a4J scope.names [] hx' (I.ok.has x (B.free _ hx' rfl))
 ·exact Nat.ne_of_lt (Nat.lt_of_lt_of_le (hfs b hb) hC)
 ·exact (hf b hb).2.2.2.2.1 x c (clB x c e)
 ·exact Nat.le_trans I.ok.bsz I.sz
 ·obtain ⟨_,_,_,q,_⟩:=hf b hb
  rcases q with q | q
  ·exact I.ok.noex b o e q
  ·exact absurd (Nat.lt_of_lt_of_le (Heap.lt_size (I.ok.bs b o e).1) q) (Nat.lt_irrefl _)
 ·obtain ⟨_,q1,q2,_⟩:=hf b hb
  rcases List.mem_cons.mp (I.stkSub b z) with e | e
  ·exact q1 e
  ·exact q2 e
 ·rw [hg]; exact I.bare
 ·obtain ⟨u,c,r,hc1,_,⟨oc,z1,z2⟩,hk'⟩:=a3D B I h1 h2
  exact ⟨u,r,.inr ⟨hk',c,hc1,oc,hk _ _ z1,z2⟩⟩
 ·obtain ⟨v,oc,h1,h2⟩:=I.cell x c (clB x c e)
  exact ⟨v,oc,hk _ _ h1,h2⟩
 ·obtain ⟨e,n,ne,nf,d⟩:=I.pin p hp
  refine ⟨hk _ _ e,n,neC _ _ e,λ z=>?_,d⟩
  rcases List.mem_cons.mp (I.stkSub p.1 z) with e' | e'
  ·exact ne e'
  grind
 ·show (ix.map _).length=N'.length
  rw [List.length_map]; exact B.len
end L2
namespace L2
open PySem PySem.Spec PyProof.Rows
theorem a3E {prog:Program} {w:World} {A:Around} {R:Result->Shared->Prop} {s:Shared} {elt target iter:Expr} {ifs:List Expr} {scope:Scope} {pos:Pos} {it acc:Value} {env:Env} (Iv:Nat->Shared->Prop)
  (turn:∀ n s,Iv n s->wpAny (model prog w) A (pyNext it) (λ r s₁=>match r with
   | none=>R (.ok .next) s₁
   | some v=>wpAny (model prog w) A (letOwnedTupleGo target it v) (λ _ s₁'=>wpAny (model prog w) A (assign target env v) (λ _ s₂ =>
     wpAny (model prog w) A (forIn ifs true λ c r=>if r=true then do let ok <- isTrue c env (eval c env); pure (ForInStep.yield ok) else pure (ForInStep.yield r)) (λ ok s₃ =>
      if ok=true then wpAny (model prog w) A (eval elt env) (λ x s₄ =>
       wpAny (model prog w) A (call (.builtin "list.append") [acc,x]) (λ _ s₅=>∃ m,m < n/\Iv m s₅) (notedBy (model prog w) A env λ e s'=>R (.error e) s') s₄) (notedBy (model prog w) A env λ e s'=>R (.error e) s') s₃
      else ∃ m,m < n/\Iv m s₃) (notedBy (model prog w) A env λ e s'=>R (.error e) s') s₂) (notedBy (model prog w) A env λ e s'=>R (.error e) s') s₁') (notedBy (model prog w) A env λ e s'=>R (.error e) s') s₁) (notedBy (model prog w) A env λ e s'=>R (.error e) s') s)
  (n:Nat) (h:Iv n s) :
  codeAny (model prog w) A (.compLoop (.ListComp elt [⟨target,iter,ifs,0⟩] scope pos) 0 it acc env) R s:=by
 refine codeAny_loop rfl Iv (λ n s hI=>?_) n h
 show wpAny _ A ((compTurn (.ListComp elt [⟨target,iter,ifs,0⟩] scope pos) 0 it acc env).onRaise (λ x=>do noteFrame x env; theTreesLotGoes x)) _ _ s
 refine wpAny_noted ?_
 rw [compTurn_list]
 refine wpAny_bind (wpAny_standAt (wpAny_bind (wpAny_mono (turn n s hI) (λ r s₁ h₁=>?_) λ _ _ h'=>h')))
 cases r with
 | none=>exact wpAny_pure h₁
 | some v =>
  refine wpAny_bind (wpAny_mono h₁ (λ _ s₁' h₁'=>?_) λ _ _ h'=>h')
  refine wpAny_bind (wpAny_mono h₁' (λ _ s₂ h₂=>wpAny_bind (wpAny_mono h₂ (λ ok s₃ h₃=>?_) λ _ _ h'=>h')) λ _ _ h'=>h')
  cases ok with
  | false=>exact wpAny_pure ⟨rfl,h₃⟩
  | true =>
   exact wpAny_bind (wpAny_bind (wpAny_mono h₃ (λ x s₄ h₄=>wpAny_bind (wpAny_mono h₄ (λ _ s₅ h₅=>wpAny_pure (wpAny_pure ⟨rfl,h₅⟩)) λ _ _ h'=>h')) λ _ _ h'=>h'))
def PTs (X:Cx) (ifs:List Expr) (t:TT):Prop :=
 ∀ (pins:List (Addr × Obj)) (s:Shared) (σ:St) (H:Hp) (Q:Bool->Hp->Prop),Inv X pins σ H s->t σ H Q ->
  wpAny (model X.prog X.w) X.A (forIn ifs true λ c r=>if r=true then do let ok <- isTrue c X.env (eval c X.env); pure (ForInStep.yield ok) else pure (ForInStep.yield r)) (TP X pins σ Q) X.xe s
def b6T:TT:=λ _ H Q=>Q true H
theorem a8V {X:Cx}:PTs X [] b6T:=λ _ _ _ H _ I h=>wpAny_tests_nil ⟨H,I,h⟩
def b1V (ix:List (Option Nat)) (g:TG) (tt:TT) (te:TE) (σ:St) (H1:Hp) (Q:VK) (J:It):Prop:=∃ W:Nat->Nat->List V->Hp->Prop,(∃ m,W 0 m [] H1)/\∀ i m ys H,W i m ys H ->
 (J.stop i H/\ys.length<=sizeLine/\∀ p,H p=none->Q (.ref p) (upd H p (.lst ys))) \/
 (J.go i H/\ys.length<=sizeLine/\∃ N:List V->Hp->Prop,(∀ ys' H',N ys' H'->∃ m',m' < m/\W (i+1) m' ys' H')/\∀ x H',J.yld i H x H'->g x (capt ix σ) H' λ σ2 H2=>tt σ2 H2 λ b H3=>if b=true then te σ2 H3 λ v H4=>N (ys++[v]) H4 else N ys H3)
def tLC (ix:List (Option Nat)) (wi:TI) (g:TG) (tt:TT) (te:TE):TE:=λ σ H Q=>wi σ H λ J H1=>b1V ix g tt te σ H1 Q J
section
variable {X:Cx} {elt tg iter:Expr} {ifs:List Expr} {scope:Scope} {pos:Pos} {N':List Str} {ix:List (Option Nat)} {wi:TI} {g:TG} {tt:TT} {te:TE}
theorem b5D (B:BlkOk X N' ix scope) (hc:X.calm=true)
  (hg:∀ C s H fp xe,PG (a1F X N' scope C s H fp xe) tg g) (ht:∀ C s H fp xe,PTs (a1F X N' scope C s H fp xe) ifs tt) (he:∀ C s H fp xe,PE (a1F X N' scope C s H fp xe) elt te)
  {pins:List (Addr × Obj)} {s2:Shared} {σ:St} {H2:Hp} {Q:VK} {it:Addr} {fp:List Addr} {tn:Nat->Heap->Prop} {J:It} {RR:Value->Addr->Result->Shared->Prop} {E:Value->Shared->Prop}
  (I2:Inv X pins σ H2 s2) (T:Turn X.prog X.w X.K tg J fp it tn) (st2:tn 0 s2.heap) (f2:∀ b∈fp,FpOk X pins H2 b)
  (q:∃ W:Nat->Nat->List V->Hp->Prop,(∃ m,W 0 m [] H2)/\∀ i m ys H,W i m ys H ->
   (J.stop i H/\ys.length<=sizeLine/\∀ p,H p=none->Q (.ref p) (upd H p (.lst ys))) \/
   (J.go i H/\ys.length<=sizeLine/\∃ N:List V->Hp->Prop,(∀ ys' H',N ys' H'->∃ m',m' < m/\W (i+1) m' ys' H')/\∀ x H',J.yld i H x H'->g x (capt ix σ) H' λ σ2 H2=>tt σ2 H2 λ b H3=>if b=true then te σ2 H3 λ v H4=>N (ys++[v]) H4 else N ys H3))
  (hRR:∀ D C s' H' ys,Inv X pins σ (upd H' D (.lst ys)) s'->H' D=none->Q (.ref D) (upd H' D (.lst ys))->(∃ m,s'.heap.Ns C m)->upd H' D (.lst ys) C=none->C≠X.env.locals->X.s₀.heap.objs.size<=C->(∀ x c,X.env.cells.lookup x=some c->c≠C)->(∀ p∈X.pn++pins,p.1≠C)->RR (.ref D) C (.ok .next) s') :
  wpAny (model X.prog X.w) X.A (newList []) (λ acc s₃=>wpAny (model X.prog X.w) X.A (newFunctionEnv scope X.env.globals (clOf X.env.cells scope.names []) [] X.env.qual none .none (some X.env)) (λ cenv s₄ =>
   codeAny (model X.prog X.w) X.A (.compStart (.ListComp elt [⟨tg,iter,ifs,0⟩] scope pos) 0 (.ref it) acc { cenv with scope:=relabel scope X.env }) (RR acc cenv.locals) s₄) E s₃) E s2:=by
 have hfs:∀ b∈fp,b < s2.heap.objs.size:=λ b hb=>by
  obtain ⟨o,e,_⟩:=T.obj _ _ st2 b hb
  exact Heap.lt_size e
 refine wpAny_newObj_type (wpAny_newFunctionEnv B.nocell (by intro y hy; simp at hy) (λ h₁ hns₁ hsb₁=>?_) B.kind)
 dsimp only at hns₁ hsb₁ ⊢
 generalize hH3:s2.heap.push { cls:=.type "list", dict:=none,data:=.seq ([]:List Value).toArray }=H3 at hns₁ hsb₁ ⊢
 have hC:H3.objs.size=s2.heap.objs.size+1:=by rw [<- hH3,Heap.size_push]
 have hDC:s2.heap.objs.size≠H3.objs.size:=by rw [hC]; exact Nat.ne_of_lt (Nat.lt_succ_self _)
 have below:∀ b,b < s2.heap.objs.size->b≠H3.objs.size/\b≠s2.heap.objs.size:=λ b hb=>⟨by rw [hC]; exact Nat.ne_of_lt (Nat.lt_succ_of_lt hb),Nat.ne_of_lt hb⟩
 have old:∀ b o,s2.heap.get? b=some o->h₁.get? b=some o:=λ b o e=>hsb₁.extBut b o (below b (Heap.lt_size e)).1 (Heap.get?_push_of_some _ (hH3 ▸ Heap.get?_push_of_some _ e))
 have hacc:h₁.get? s2.heap.objs.size=some { cls:=.type "list", data:=.seq ([]:List Value).toArray 0 }:=hsb₁.extBut _ _ hDC (Heap.get?_push_of_some _ (hH3 ▸ Heap.get?_push_size _ rfl))
 have hCle:s2.heap.objs.size<=H3.objs.size:=by rw [hC]; exact Nat.le_succ _
 generalize hD:s2.heap.objs.size=D at *
 generalize hCC:H3.objs.size=C at *
 obtain ⟨W,⟨m0,w0⟩,turn⟩:=q
 let xe:Value->Shared->Prop:=notedBy (model X.prog X.w) X.A (compEnvC scope (clOf X.env.cells scope.names []) C X.env) λ e s'=>RR (.ref D) C (.error e) s'
 let X':Cx:=a1F X N' scope C s2 H2 fp xe
 have DL:D ∉ frs X.stack:=λ z=>by
  rcases List.mem_cons.mp (I2.stkSub D z) with e | e
  ·exact absurd I2.lt (by rw [<- e,hD]; exact Nat.lt_irrefl _)
  ·exact I2.nofs (by rw [hD]; exact Nat.le_refl _) e
 have cellLt:∀ x c,X.env.cells.lookup x=some c->c < D:=λ x c e=>by
  obtain ⟨v,oc,h,_⟩:=I2.cell x c e
  rw [<- hD]; exact Heap.lt_size h
 have clB:∀ x c,(clOf X.env.cells scope.names []).lookup x=some c->X.env.cells.lookup x=some c:=λ x c h=>a2D scope.names [] (λ _ _ z=>by simp at z) h
 have pinLt:∀ p∈X.pn++pins,p.1 < D:=λ p hp=>by rw [<- hD]; exact Heap.lt_size (I2.pin p hp).1
 have fpX:∀ {pl:List (Addr × Obj)} {H':Hp},(∀ b∈fp,H' b=none)->(∀ p∈pl,p∈pins\/p.1=D)->∀ b∈fp,FpOk X' pl H' b:=λ {pl H'} hn hpl b hb=>by
  obtain ⟨_,q1,q2,q3,q4,q5⟩:=f2 b hb
  refine ⟨hn b hb,(below b (hfs b hb)).1,λ z=>?_,.inl hb,λ x c e=>q4 x c (clB x c e),λ p hp=>?_⟩
  ·rcases List.mem_cons.mp (I2.stkSub b z) with e | e
   ·exact q1 e
   ·exact q2 e
  ·rcases List.mem_append.mp hp with hp | hp
   ·exact q5 p (List.mem_append_left _ hp)
   ·rcases hpl p hp with z | z
    ·exact q5 p (List.mem_append_right _ z)
    ·rw [z]; exact Ne.symm (below b (hfs b hb)).2
 have loop:∀ s₃:Shared,s₃={ s2 with heap:=h₁,toks:=s2.toks+([]:List (Str × Value)).length } ->
   codeAny (model X.prog X.w) X.A (.compLoop (.ListComp elt [⟨tg,iter,ifs,0⟩] scope pos) 0 (.ref it) (.ref D) (compEnvC scope (clOf X.env.cells scope.names []) C X.env)) (RR (.ref D) C) s₃:=by
  rintro s₃ rfl
  refine a3E (λ n s'=>∃ i H' ys its k,Inv X' pins (capt ix σ) H' s'/\tn i s'.heap/\(∀ b∈fp,H' b=none)/\H' D=none/\s'.heap.get? D=some { cls:=.type "list", data:=.seq (List.toArray its) k }/\Vals ys its/\W i n ys H') ?_ m0
   ⟨0,H2,[],[],0,a5K B I2 f2 (by rw [hD]; exact hCle) (λ b hb=>by rw [hD]; exact hfs b hb) rfl rfl old hns₁,T.keep _ _ _ st2 λ b _ o e=>old b o e,λ b hb=>(f2 b hb).1,I2.hok.fresh (by rw [hD]; exact Nat.le_refl _),hacc,.nil,w0⟩
  rintro n s' ⟨i,H',ys,its,k,I',st',fr',hDn,hDo,rv,w'⟩
  have hDX:∀ v,({ cls:=.type "list", data:=.seq (List.toArray its) k }:Obj).data ≠ .cell v:=λ v z=>by
   have z':Data.seq (List.toArray its) k=Data.cell v:=z
   cases z'
  have pinD:∀ {σ':St} {H'':Hp} {s'':Shared} {its':List Value} {k':Nat},Inv X' pins σ' H'' s''->H'' D=none->s''.heap.get? D=some { cls:=.type "list", data:=.seq (List.toArray its') k' }->Inv X' (pins++[(D,{ cls:=.type "list", data:=.seq (List.toArray its') k' })]) σ' H'' s'':=λ {σ' H'' s'' its' k'} J hn ho =>
   J.pins_of λ p hp=>(List.mem_append.mp hp).elim (λ z=>J.pin p (List.mem_append_right _ z)) λ z=>by
    have e:p=(D,{ cls:=.type "list", data:=.seq (List.toArray its') k' }):=by simpa using z
    subst e
    exact ⟨ho,hn,hDC,DL,λ v z=>by
     have z':Data.seq (List.toArray its') k'=Data.cell v:=z
     cases z'⟩
  have plD:∀ {its':List Value} {k':Nat},∀ p∈pins++[(D,({ cls:=.type "list", data:=.seq (List.toArray its') k' }:Obj))],p∈pins\/p.1=D:=λ {its' k'} p hp=>(List.mem_append.mp hp).elim .inl λ z=>by
   have e:p=(D,{ cls:=.type "list", data:=.seq (List.toArray its') k' }):=by simpa using z
   subst e
   exact .inr rfl
  have unD:∀ {pl:List (Addr × Obj)} {σ':St} {H'':Hp} {s'':Shared},Inv X' (pins++pl) σ' H'' s''->Inv X' pins σ' H'' s'':=λ J=>J.pins_of λ p hp=>J.pin p (List.mem_append_right _ (List.mem_append_left _ hp))
  have I'p:=pinD I' hDn hDo
  rcases turn i n ys H' w' with ⟨stop,hsz,fin⟩ | ⟨go,hsz,N,hN,step⟩
  ·refine wpAny_mono (T.done X' rfl rfl rfl hc i _ s' (capt ix σ) H' X'.xe I'p (fpX fr' plD) st' stop) (λ r s5 ⟨hr,I5⟩=>?_) λ _ _ z=>z
   subst hr
   have hDo5:s5.heap.get? D=some { cls:=.type "list", data:=.seq (List.toArray its) k }:=(I5.pin (D,_) (List.mem_append_right _ (List.mem_append_right _ (List.mem_singleton.mpr rfl)))).1
   have sz0:X.s₀.heap.objs.size<=D:=by rw [<- hD]; exact I2.sz
   have J:Inv X pins σ H' s5:=I2.call' (ch:=fp) I5.os I5.base I5.hok I5.bare λ b hb=>by
    obtain ⟨_,q1,_,q3,q4,q5⟩:=f2 b hb
    exact ⟨q3,q1,q4,q5⟩
   have nL:X.env.locals < D:=by rw [<- hD]; exact I2.lt
   have J2:Inv X pins σ (upd H' D (.lst ys)) s5:=Inv.track J hDn sz0 (Nat.ne_of_gt nL) (λ x c e=>Nat.ne_of_lt (cellLt x c e)) (λ p hp=>Nat.ne_of_lt (pinLt p hp)) ⟨hsz,its,k,rv,hDo5⟩
   obtain ⟨mC,hnC,_⟩:=I5.loc
   have DltC:D < C:=Nat.lt_of_le_of_ne hCle hDC
   refine hRR D C s5 H' ys J2 hDn (fin D hDn) ⟨mC,hnC⟩ ?_ (Nat.ne_of_gt (Nat.lt_trans nL DltC)) (Nat.le_trans sz0 hCle) (λ x c e=>Nat.ne_of_lt (Nat.lt_trans (cellLt x c e) DltC)) λ p hp=>Nat.ne_of_lt (Nat.lt_trans (pinLt p hp) DltC)
   rw [a0P (Ne.symm hDC)]
   exact I5.free
  ·refine wpAny_mono (T.item X' rfl rfl rfl hc i _ s' (capt ix σ) H' X'.xe I'p (fpX fr' plD) st' go) (λ r s5 ⟨u,hr,h5⟩=>?_) λ _ _ z=>z
   subst hr
   refine wpAny_mono h5 (λ _ s6 ⟨x,H6,I6,r6,y6,st6,fr6⟩=>?_) λ _ _ z=>z
   have I6':=I6.pinned (fpX fr6 plD) (T.obj _ _ st6)
   refine wpAny_mono (hg C s2 H2 fp xe _ s6 (capt ix σ) H6 x u _ I6' r6 (step x H6 y6)) (λ _ s7 ⟨σ7,H7,I7,q7⟩=>?_) λ _ _ z=>z
   have after:∀ {σ8:St} {H8:Hp} {s8:Shared},Inv X' ((pins++[(D,{ cls:=.type "list", data:=.seq (List.toArray its) k })])++a3U fp s6.heap) σ8 H8 s8 ->
     Inv X' pins (capt ix σ) H8 s8/\tn (i+1) s8.heap/\(∀ b∈fp,H8 b=none)/\H8 D=none/\s8.heap.get? D=some { cls:=.type "list", data:=.seq (List.toArray its) k }:=λ {σ8 H8 s8} I8=>by
    have pD:=I8.pin (D,{ cls:=.type "list", data:=.seq (List.toArray its) k }) (List.mem_append_right _ (List.mem_append_left _ (List.mem_append_right _ (List.mem_singleton.mpr rfl))))
    have fpP:∀ b∈fp,∀ o,s6.heap.get? b=some o->s8.heap.get? b=some o/\H8 b=none:=λ b hb o e=>by
     have z:=I8.pin (b,o) (List.mem_append_right _ (List.mem_append_right _ (a1T hb e)))
     exact ⟨z.1,z.2.1⟩
    refine ⟨⟨I8.ok,I8.os,I8.bare,I8.base,?_,I8.cell,I8.free,I8.freeC,λ p hp=>?_,I8.hok,?_⟩,T.keep _ _ _ st6 λ b hb o e=>(fpP b hb o e).1,λ b hb=>?_,pD.2.1,pD.1⟩
    ·obtain ⟨m8,hn8,_⟩:=I8.loc
     refine ⟨m8,hn8,λ i x v h1 h2 h3=>?_⟩
     obtain ⟨u,c,r,hc1,hc2,⟨oc,z1,z2⟩,hk'⟩:=a3D B I2 h1 h2
     obtain ⟨sl,e8⟩:=I8.base.any z1 (I2.freeC x c hc2) λ z=>(f2 c z).2.2.2.2.1 x c hc2 rfl
     exact ⟨u,r,.inr ⟨hk',c,hc1,_,e8,z2⟩⟩
    ·rcases List.mem_append.mp hp with hp | hp
     ·exact I8.pin p (List.mem_append_left _ hp)
     ·exact I8.pin p (List.mem_append_right _ (List.mem_append_left _ (List.mem_append_left _ hp)))
    ·show (capt ix σ).length=N'.length
     unfold capt
     rw [List.length_map]; exact B.len
    ·obtain ⟨o,e,_⟩:=T.obj _ _ st6 b hb
     exact (fpP b hb o e).2
   refine wpAny_mono (ht C s2 H2 fp xe _ s7 σ7 H7 _ I7 q7) (λ b s8 ⟨H8,I8,q8⟩=>?_) λ _ _ z=>z
   cases b with
   | false =>
    rw [if_neg Bool.false_ne_true] at q8 ⊢
    obtain ⟨m',hm,w8⟩:=hN _ _ q8
    obtain ⟨J,tn8,f8,d8,o8⟩:=after I8
    exact ⟨m',hm,i+1,H8,ys,its,k,J,tn8,f8,d8,o8,rv,w8⟩
   | true =>
    rw [if_pos rfl] at q8 ⊢
    refine wpAny_mono (he C s2 H2 fp xe _ s8 σ7 H8 _ I8 q8) (λ v s9 ⟨y,H9,I9,r9,q9⟩=>?_) λ _ _ z=>z
    obtain ⟨J,tn9,f9,d9,o9⟩:=after I9
    obtain ⟨m',hm,w9⟩:=hN _ _ q9
    refine append_at (hsz:=by rw [List.size_toArray,<- rv.length]; exact hsz) o9 λ h10 hs10 hD10=>?_
    refine ⟨m',hm,i+1,H9,ys++[y],its++[v],k+1,?_,T.keep _ _ _ tn9 λ b hb o e=>hs10.extBut b o (λ z=>?_) e,f9,d9,by rw [List.push_toArray] at hD10; exact hD10,rv.append (.cons r9 .nil),w9⟩
    ·refine J.turned (t':=s9.toks) (it:=D) (λ b o hb e=>hs10.extBut b o hb e) d9 hDC (.inr (by show s2.heap.objs.size<=D; rw [hD]; exact Nat.le_refl _)) (λ x c e=>Nat.ne_of_lt (cellLt x c (clB x c e))) λ p hp=>Nat.ne_of_lt (pinLt p hp)
    ·exact (below b (hfs b hb)).2 z
 exact codeAny_compStart_list (loop _ rfl) (T.self X.A 0 _ _ _ (T.keep _ _ _ st2 λ b _ o e=>old b o e) (loop _ rfl))
end
end L2
namespace L2
open PySem PySem.Spec PyProof.Rows
def a2V (outer:Scope) (N N':List Str) (ix:List (Option Nat)) (scope:Scope):Bool :=
 (scope.kind == .function) && (scope.names.all λ y=>y.2 != .cell) && (scope.names.all λ y=>y.2 != .local || scope.names.lookup y.1 == some .local) &&
 (scope.names.all λ y=>y.2 != .free || outer.names.lookup y.1 == some .cell || outer.names.lookup y.1 == some .free) && (ix.length == N'.length) &&
 (List.range ix.length).all λ i=>match ix[i]? with
  | some (some j)=>(match N'[i]? with | some x=>N[j]? == some x && scope.names.lookup x == some .free | none=>false)
  | _=>true
theorem b1W {X:Cx} {N':List Str} {ix:List (Option Nat)} {scope:Scope} (h:a2V X.env.scope X.N N' ix scope=true):BlkOk X N' ix scope:=by
 unfold a2V at h
 simp only [Bool.and_eq_true] at h
 obtain ⟨⟨⟨⟨⟨h1,h2⟩,h3⟩,h4⟩,h5⟩,h6⟩:=h
 refine ⟨?_,λ y hy=>?_,λ y hy hl=>?_,λ y hy hl=>?_,by grind,λ i j e=>?_⟩
 ·grind
 ·grind
 ·grind
 ·have:=List.all_eq_true.mp h4 y hy
  rw [hl] at this
  simp at this
  exact this
 grind
section
variable {X:Cx} {elt tg iter:Expr} {ifs:List Expr} {scope:Scope} {pos:Pos} {N':List Str} {ix:List (Option Nat)} {wi:TI} {g:TG} {tt:TT} {te:TE}
theorem b6U (N':List Str) (ix:List (Option Nat)) (hB:a2V X.env.scope X.N N' ix scope=true) (hc:X.calm=true) (hi:PI X tg iter wi)
  (hg:∀ C s H fp xe,PG (a1F X N' scope C s H fp xe) tg g) (ht:∀ C s H fp xe,PTs (a1F X N' scope C s H fp xe) ifs tt) (he:∀ C s H fp xe,PE (a1F X N' scope C s H fp xe) elt te)
  (hs:∀ x,foldedSetIterable iter X.env x=pure x:=by intro _; rfl):PE X (.ListComp elt [⟨tg,iter,ifs,0⟩] scope pos) (tLC ix wi g tt te):=by
 intro pins s σ H Q I h
 have B:=b1W hB
 rw [eval_ListComp]
 refine wpAny_comprehension_free (use:=none) rfl hs (a3X λ y hy hf=>I.ok.has y.1 (B.free y hy hf)) B.kind B.locs (thn (hi pins s σ H _ I h) λ v s1 h1=>thn h1 λ itv s2 h2=>?_)
 obtain ⟨it,fp,tn,J,H2,e,I2,T,st2,f2,q⟩:=h2
 subst e
 refine b5D B hc hg ht he I2 T st2 f2 q ?_
 intro D C s' H' ys J2 hDn hq ⟨m,hn⟩ hC1 hC2 hC3 hC4 hC5
 refine ⟨m,hn,λ h' hs'=>?_⟩
 exact ⟨.ref D,_,J2.turned (t':=s'.toks) (it:=C) (λ b o hb e=>hs'.extBut b o hb e) hC1 hC2 (.inr hC3) hC4 hC5,rfl,hq⟩
end
section
variable {K:Φρ} {a:Addr} {xs:List V} {ix:List (Option Nat)} {g:TG} {tt:TT} {te:TE} {σ:St} {H1:Hp} {Q:VK}
theorem a8W (Pv:Nat->List V->Hp->Prop) (h0:Pv 0 [] H1) (hl:∀ i ys H,i<=xs.length->Pv i ys H->SqL K H a xs/\ys.length<=sizeLine)
  (hs:∀ i x ys H,xs[i]?=some x->Pv i ys H->g x (capt ix σ) H λ σ2 H2=>tt σ2 H2 λ b H3=>if b=true then te σ2 H3 λ v H4=>Pv (i+1) (ys++[v]) H4 else Pv (i+1) ys H3)
  (hd:∀ ys H,Pv xs.length ys H->∀ p,H p=none->Q (.ref p) (upd H p (.lst ys))):b1V ix g tt te σ H1 Q (Itl K a):=by
 refine ⟨λ i m ys H=>m=xs.length - i/\i<=xs.length/\Pv i ys H,⟨xs.length,by simp,Nat.zero_le _,h0⟩,?_⟩
 rintro i m ys H ⟨rfl,hi,p⟩
 obtain ⟨q,z⟩:=hl i ys H hi p
 by_cases hlt:i < xs.length
 ·refine .inr ⟨⟨xs,xs[i],q,by simp [hlt]⟩,z,Pv (i+1),λ ys' H' p'=>⟨xs.length - (i+1),by omega,rfl,hlt,p'⟩,λ x H' y=>?_⟩
  obtain ⟨e,y⟩:=y
  grind
 ·have e:i=xs.length:=by omega
  subst e
  exact .inl ⟨⟨xs,q,Nat.le_refl _⟩,z,hd ys H p⟩
end
end L2
namespace L2
open PySem PySem.Spec PyProof.Rows
mutual
inductive IsD (K:Φρ) (H:Hp):V->PyData->Prop
 | non:IsD K H .non .none
 | bl (b:Bool):IsD K H (.bl b) (.bool b)
 | int (i:Int):IsD K H (.int i) (.int i)
 | str (x:Str):IsD K H (.str x) (.str x)
 | lst {a:Addr} {xs:List V} {ds:List PyData}:SqL K H a xs->IsDs K H xs ds->IsD K H (.ref a) (.list ds)
 | tup {a:Addr} {xs:List V} {ds:List PyData}:SqT K H a xs->IsDs K H xs ds->IsD K H (.ref a) (.tuple ds)
inductive IsDs (K:Φρ) (H:Hp):List V->List PyData->Prop
 | nil:IsDs K H [] []
 | cons {x:V} {xs:List V} {d:PyData} {ds:List PyData}:IsD K H x d->IsDs K H xs ds->IsDs K H (x::xs) (d::ds)
end
theorem Same.tupq {K:Φρ} {H H':Hp} {a:Addr} {xs:List V} (e:Same H H') (h:SqT K H a xs):SqT K H' a xs:=by
 rcases h with (h | ⟨o,h⟩) | h
 ·exact .inl (.inl (e _ _ h))
 ·exact .inl (.inr ⟨o,e _ _ h⟩)
 ·exact .inr h
mutual
theorem IsD.reads {X:Cx} {pins:List (Addr × Obj)} {σ:St} {H:Hp} {s:Shared} (I:Inv X pins σ H s):∀ {v:V} {d:PyData} {u:Value},IsD X.K H v d->RelV v u->∃ as,Reads s.heap u d as
 | _,_,_,.non,r=>by cases r; exact ⟨_,.none⟩
 | _,_,_,.bl b,r=>by cases r; exact ⟨_,.bool b⟩
 | _,_,_,.int i,r=>by obtain ⟨t,rfl⟩:=r; exact ⟨_,.int i t⟩
 | _,_,_,.str x,r=>by obtain ⟨t,rfl⟩:=r; exact ⟨_,.str x t⟩
 | _,_,_,.lst h q,r=>by
  cases r
  obtain ⟨its,rv,⟨o,n,e,c,_,d⟩,_⟩:=I.list h
  obtain ⟨as,ra⟩:=IsDs.reads I q rv
  exact ⟨_,.list e c d (by simpa using ra)⟩
 | _,_,_,.tup h q,r=>by
  cases r
  obtain ⟨its,rv,⟨o,e,c,n,d⟩,_⟩:=I.tuple h
  obtain ⟨as,ra⟩:=IsDs.reads I q rv
  exact ⟨_,.tuple e c d (by simpa using ra)⟩
theorem IsDs.reads {X:Cx} {pins:List (Addr × Obj)} {σ:St} {H:Hp} {s:Shared} (I:Inv X pins σ H s):∀ {xs:List V} {ds:List PyData} {us:List Value},IsDs X.K H xs ds->Vals xs us->∃ as,ReadsAll s.heap us ds as
 | _,_,_,.nil,.nil=>⟨_,.nil⟩
 | _,_,_,.cons h q,.cons r t=>by
  obtain ⟨as,ra⟩:=IsD.reads I h r
  obtain ⟨bs,rb⟩:=IsDs.reads I q t
  exact ⟨_,.cons ra rb⟩
end
section
variable {X:Cx}
def rEqD (K:Φρ) (neg:Bool):R2:=λ x y H Q=>∃ d d',IsD K H x d/\IsD K H y d'/\SeqAt.shaped d=true/\SeqAt.shaped d'=true/\Q (.bl (if neg then !PyData.eqv d d' else PyData.eqv d d')) H
theorem b5E (hu:X.A.units+64 < cLine):OpR X (compareOp .NotEq) (rEqD X.K true):=by
 intro pins s σ H x y v u Q I rx ry h
 obtain ⟨d,d',h1,h2,s1,s2,q⟩:=h
 obtain ⟨as,ra⟩:=h1.reads I rx
 obtain ⟨bs,rb⟩:=h2.reads I ry
 exact ne_dataH ra rb s1 s2 hu ⟨.bl _,H,I,rfl,q⟩
def clsV:V->Option Value
 | .ty n=>some (.type n)
 | .ref a=>some (.ref a)
 | _=>none
theorem b0T {c:V} {cv u:Value} (h:clsV c=some cv) (r:RelV c u):u=cv:=by
 cases c with
 | ty n=>cases h; exact r
 | ref a=>cases h; exact r
 | _=>cases h
theorem a6C:CallR X (.builtin "isinstance") (λ xs H Q=>∃ x c cv t b,xs=[x,c]/\clsV c=some cv/\TyOf X.K H x t/\PySem.W.kitOne X.K t cv=some b/\Q (.bl b) H):=by
 intro pins s σ H xs us Q I r h
 obtain ⟨x,c,cv,t,b,rfl,hc,ty,hk,q⟩:=h
 obtain ⟨u1,u2,rfl,r1,r2⟩:=b2G r
 obtain rfl:=b0T hc r2
 exact a8Q I r1 ty hk λ tk=>⟨.bl b,H,I.tok tk,rfl,q⟩
end
end L2
namespace L2
open PySem PySem.Spec PyProof.Rows
structure Dn (K:Φρ) (mg:Str->Option Value) (x:Str) (st:Stmt) (ps:List Str) where
 f:Addr
 fd:FuncData
 F:Fun K x x st f fd
 b:Binds K fd ps []
 m:mg x=some (.ref f)
 bd:∀ (s:Shared) (us:List Value),us.length=ps.length->BindsTo s fd ⟨us,[]⟩ (ps.zip us)
structure Bl (mg:Str->Option Value):Prop where
 get:∀ x:Str,x∈(["len", "range", "list", "isinstance", "int", "bool", "str", "all", "any", "sorted", "set", "min", "max", "tuple", "enumerate", "dict", "ValueError"]:List Str)->mg x=none
theorem Bl.len {mg:Str->Option Value} (B:Bl mg):mg "len" = none:=B.get _ (by grind)
theorem Bl.range {mg:Str->Option Value} (B:Bl mg):mg "range" = none:=B.get _ (by grind)
theorem Bl.list {mg:Str->Option Value} (B:Bl mg):mg "list" = none:=B.get _ (by grind)
theorem Bl.isinstance {mg:Str->Option Value} (B:Bl mg):mg "isinstance" = none:=B.get _ (by grind)
theorem Bl.int {mg:Str->Option Value} (B:Bl mg):mg "int" = none:=B.get _ (by grind)
theorem Bl.bool {mg:Str->Option Value} (B:Bl mg):mg "bool" = none:=B.get _ (by decide +kernel)
theorem Bl.sorted {mg:Str->Option Value} (B:Bl mg):mg "sorted" = none:=B.get _ (by decide +kernel)
theorem Bl.set {mg:Str->Option Value} (B:Bl mg):mg "set" = none:=B.get _ (by decide +kernel)
theorem Bl.min {mg:Str->Option Value} (B:Bl mg):mg "min" = none:=B.get _ (by decide +kernel)
theorem Bl.max {mg:Str->Option Value} (B:Bl mg):mg "max" = none:=B.get _ (by decide +kernel)
theorem Bl.tuple {mg:Str->Option Value} (B:Bl mg):mg "tuple" = none:=B.get _ (by decide +kernel)
theorem a1W {K:Φρ}:PySem.W.kitOne K (.type "int") (.type "int")=some true:=by rfl
theorem a1Q {K:Φρ}:PySem.W.kitOne K (.type "int") (.type "bool")=some false:=by rfl
theorem a6D {K:Φρ}:PySem.W.kitOne K (.type "NoneType") (.type "int")=some false:=by rfl
theorem a5L {K:Φρ}:PySem.W.kitOne K (.type "NoneType") (.type "bool")=some false:=by rfl
end L2
namespace L2
open PySem PySem.Spec PyProof.Rows
section
variable {X:Cx} {K:Φρ}
theorem a2E (e:X.K=K):IxR X (rIxL K):=by subst e; exact b2J
theorem a3F (e:X.K=K):IxR X (rIxT K):=by subst e; exact b4Z
theorem b2M (e:X.K=K) (hu:X.A.units+64 < cLine):OpR X (compareOp .NotEq) (rEqD K true):=by subst e; exact b5E hu
def rLen (K:Φρ):List V->Hp->VK->Prop:=λ xs H Q=>∃ p ys,xs=[.ref p]/\(SqL K H p ys\/SqT K H p ys)/\Q (.int ys.length) H
theorem a1H (e:X.K=K):CallR X (.builtin "len") (rLen K):=by subst e; exact a5G
def b2N (K:Φρ):List V->Hp->VK->Prop:=λ xs H Q=>∃ p ys,xs=[.ref p]/\(SqL K H p ys\/SqT K H p ys)/\∀ l,H l=none->Q (.ref l) (upd H l (.lst ys))
theorem a7R (e:X.K=K):CallR X (.type "list") (b2N K):=by subst e; exact a5H
def b6V (K:Φρ):List V->Hp->VK->Prop:=λ xs H Q=>∃ x c cv t b,xs=[x,c]/\clsV c=some cv/\TyOf K H x t/\PySem.W.kitOne K t cv=some b/\Q (.bl b) H
theorem a0L (e:X.K=K):CallR X (.builtin "isinstance") (b6V K):=by subst e; exact a6C
theorem a6V {tg l:Expr} {tl:TE} (e:X.K=K) (hl:PE X l tl):PI X tg l (b4S K tl):=by subst e; exact b2F hl
def tTru (K:Φρ) (ta:TE):TT:=λ σ H Q=>ta σ H λ x H'=>∃ k,TruV K x H' k/\Q k H'
theorem a0Q {a:Expr} {ta:TE} (e:X.K=K) (ha:PE X a ta) (he:∀ whole,isTrue a X.env whole=(do let v <- whole; standAt a.pos; holding [v] (truthy v))):PT X a (tTru K ta):=by subst e; exact b0R ha he
theorem a8X {es:List Expr} {k:Nat} {t:TGs} {n:Nat} {pos:Pos} (e:X.K=K) (hc:X.calm=true) (h:PGs X es t)
  (hn:(assignEach es X.env).length=n:=by rfl) (hst:(assignEach es X.env).findIdx? (·.1)=none:=by rfl):PG X (.Tuple es k pos) (gTup K n t):=by subst e; exact b4O hc h hn hst
theorem b2O {o:Expr} {to:TE} {name:Str} {apos cpos:Pos} {T id:String} {r:V->List V->Hp->VK->Prop} (e:X.K=K) (pa:PlainAttrs T) (slot:Slot T name id) (hty:typeOf (.builtin id)=pure (.type "method_descriptor")) (hm:MtR X id r) (ho:PE X o to)
  (hbase:attributeBase o name X.env (eval o X.env)=eval o X.env:=by rfl) (hline:(apos.endLine == cpos.line)=true:=by rfl):PE X (.Call (.Attribute o name apos) [] [] cpos) (tBM0 K T r to):=by subst e; exact b5A pa slot hty hm ho hbase hline
theorem a3G {o e:Expr} {es:List Expr} {to:TE} {t:TA} {name:Str} {apos cpos:Pos} {T id:String} {r:V->List V->Hp->VK->Prop} (e0:X.K=K) (pa:PlainAttrs T) (slot:Slot T name id) (hty:typeOf (.builtin id)=pure (.type "method_descriptor")) (hm:MtR X id r) (ho:PE X o to) (ha:PA X (e::es) t)
  (hbase:attributeBase o name X.env (eval o X.env)=eval o X.env:=by rfl)
  (hfew:((backTo cpos (starEach (e::es) X.env)).all (λ x=>!x.1) && (backToKw cpos (keywordEach [] X.env)).all (λ x=>x.1.isSome)
   && decide ((e::es).length+([]:List Keyword).length+(if ([]:List Keyword).isEmpty then 0 else 1) < 30))=true:=by rfl)
  (hline:(apos.endLine == cpos.line)=true:=by rfl) (hs:starEach (e::es) X.env=(false,eval e X.env)::starEach es X.env:=by rfl) (hplain:(backTo cpos (starEach es X.env)).any (·.1)=false:=by rfl) :
  PE X (.Call (.Attribute o name apos) (e::es) [] cpos) (tBM K T r to t):=by subst e0; exact b6S pa slot hty hm ho ha hbase hfew hline hs hplain
end
end L2
namespace L2
open PySem PySem.Spec PyProof.Rows
def tCut (t u:TS):TS:=λ D σ H=>∃ J:St->Hp->Prop,t { D with nx:=J } σ H/\∀ σ' H',J σ' H'->u D σ' H'
theorem a1X {X:Cx} {st:Stmt} {rest:List Stmt} {t u:TS} (h1:PS X st t) (h2:PSs X rest u):PSs X (st::rest) (tCut t u):=by
 intro pins s σ H D I h
 obtain ⟨J,q1,q2⟩:=h
 refine wpAny_execs_cons (thn (h1 pins s σ H { D with nx:=J } I q1) λ f s1 q=>?_)
 cases f with
 | next =>
  obtain ⟨σ',H',I',q⟩:=q
  exact h2 pins s1 σ' H' D I' (q2 σ' H' q)
 | ret v=>exact q
 | brk=>exact q
 | cont=>exact q
end L2
namespace L2
open PySem PySem.Spec PyProof.Rows
structure New (H:Hp) (p:Addr) (o:HO) (H':Hp):Prop where
 fresh:H p=none
 here:H' p=some o
 rest:∀ b,b≠p->H' b=H b
theorem New.mk0 {H:Hp} {p:Addr} {o:HO} (h:H p=none):New H p o (upd H p o):=⟨h,a2B,λ _ hb=>a0P hb⟩
theorem New.same {H H':Hp} {p:Addr} {o:HO} (n:New H p o H'):Same H H':=λ b u e=>(n.rest b (a0R e n.fresh)).trans e
structure Chg (H:Hp) (l:Addr) (o:HO) (H':Hp):Prop where
 here:H' l=some o
 rest:∀ b,b≠l->H' b=H b
theorem Chg.mk0 {H:Hp} {l:Addr} {o:HO}:Chg H l o (upd H l o):=⟨a2B,λ _ hb=>a0P hb⟩
section
variable {X:Cx} {K:Φρ} {es:List Expr} {t:TA} {pos:Pos}
def b6W (t:TA):TE:=λ σ H Q=>t σ H λ xs H1=>xs.length<=1000/\∀ p H',New H1 p (.tup xs) H'->Q (.ref p) H'
def b6X (t:TA):TE:=λ σ H Q=>t σ H λ xs H1=>xs.length<=1000/\∀ p H',New H1 p (.lst xs) H'->Q (.ref p) H'
theorem a0V {x1} (h:PA X es t):PE X (.Tuple es x1 pos) (b6W t):=by
 intro pins s σ H Q I hq
 refine wpAny_Tuple_spliced (thn (h pos pins s σ H _ I hq) λ us s1 ⟨xs,H1,I1,r,z,q⟩=>?_)
 have z':xs.length<=sizeLine:=Nat.le_of_lt (a1E z)
 refine ⟨by rw [<- r.length]; exact z',?_⟩
 have hf:H1 s1.heap.objs.size=none:=I1.hok.fresh (Nat.le_refl _)
 refine ⟨.ref s1.heap.objs.size,upd H1 s1.heap.objs.size (.tup xs),I1.laid (t':=s1.toks) (λ b u e=>Heap.get?_push_of_some _ e) (Nat.le_refl _) ?_,rfl,q _ _ (New.mk0 hf)⟩
 exact ⟨z',us,r,⟨_,Heap.get?_push_size _ rfl,rfl,_,rfl⟩⟩
theorem a6E (h:PA X es t):PE X (.List es pos) (b6X t):=by
 intro pins s σ H Q I hq
 refine wpAny_List_spliced (thn (h pos pins s σ H _ I hq) λ us s1 ⟨xs,H1,I1,r,z,q⟩=>?_)
 have z':xs.length<=sizeLine:=Nat.le_of_lt (a1E z)
 refine ⟨by rw [<- r.length]; exact z',?_⟩
 have hf:H1 s1.heap.objs.size=none:=I1.hok.fresh (Nat.le_refl _)
 refine ⟨.ref s1.heap.objs.size,upd H1 s1.heap.objs.size (.lst xs),I1.laid (t':=s1.toks) (λ b u e=>Heap.get?_push_of_some _ e) (Nat.le_refl _) ?_,rfl,q _ _ (New.mk0 hf)⟩
 exact ⟨z',us,0,r,Heap.get?_push_size _ rfl⟩
theorem CallR.weak {f:Value} {r r':List V->Hp->VK->Prop} (h:CallR X f r) (m:∀ xs H Q,r' xs H Q->r xs H Q):CallR X f r':=λ pins s σ H xs us Q I rs q=>h pins s σ H xs us Q I rs (m xs H Q q)
def b5F (K:Φρ):List V->Hp->VK->Prop:=λ xs H Q=>∃ p ys,xs=[.ref p]/\(SqL K H p ys\/SqT K H p ys)/\∀ l H',New H l (.lst ys) H'->Q (.ref l) H'
theorem a3Y (e:X.K=K):CallR X (.type "list") (b5F K):=(a7R e).weak λ xs H Q ⟨p,ys,e,h,q⟩=>⟨p,ys,e,h,λ l hl=>q l _ (New.mk0 hl)⟩
theorem MtM.weak {id:String} {r r':V->List V->Hp->VK->Prop} (h:MtM X id r) (m:∀ x xs H Q,r' x xs H Q->r x xs H Q):MtM X id r':=λ pins s σ H x xs v us Q I rx rs q=>h pins s σ H x xs v us Q I rx rs (m x xs H Q q)
def b6Y:V->List V->Hp->VK->Prop:=λ x vs H Q=>∃ l xs y,x = .ref l/\vs=[y]/\H l=some (.lst xs)/\xs.length < 1000/\∀ H',Chg H l (.lst (xs++[y])) H'->Q .non H'
theorem a1C:MtM X "list.append" b6Y:=mt_append.weak λ x vs H Q ⟨l,xs,y,e1,e2,h,z,q⟩=>⟨l,xs,y,e1,e2,h,a1E (Nat.le_of_lt z),q _ Chg.mk0⟩
def b6Z:V->List V->Hp->VK->Prop:=λ x vs H Q=>∃ l xs,x = .ref l/\vs=[]/\H l=some (.lst xs)/\∀ H',Chg H l (.lst []) H'->Q .non H'
theorem a8Y:MtM X "list.clear" b6Z:=mt_clear.weak λ x vs H Q ⟨l,xs,e1,e2,h,q⟩=>⟨l,xs,e1,e2,h,q _ Chg.mk0⟩
end
end L2
namespace Lw
open PySem L2
def a2F (ns:List Int) (k:Int):Int :=
 if k < (ns.length:Int) then ns.getD k.toNat 0
 else
  let z:Int:=if (ns.length:Int) > 0 then (ns.getD (k*7 % (ns.length:Int)).toNat 0) % 2147483647*48271+k*7919 else k*7919+5
  z*z % 2147483629
def mixF (c m:Int):Int:=c % 2 ^ 64*11400714819323198485 % 2 ^ 64 / 2 ^ 11 % m
theorem a8Z {ns:List Int} {k:Int} (h0:0<=k) (h:k < (ns.length:Int)):atI (ns.map V.int) k=some (.int (ns.getD k.toNat 0)):=by
 have hk:k.toNat < ns.length:=by omega
 have ek:k=((k.toNat:Nat):Int):=by omega
 have q:atI (ns.map V.int) ((k.toNat:Nat):Int)=some (.int (ns.getD k.toNat 0)):=a2I (by
  grind)
 grind
def Scr (K:Φρ) (H:Hp) (a:Addr) (ns:List Int):Prop:=(∃ o,H a=some (.frz o (.lst (ns.map V.int)))) \/
 ∃ (o:Obj) (its:Array Value) (n:Nat),K.lookup a=some o/\o.cls = .type "list" /\ o.dict=none/\o.data = .seq its n/\its.size<=sizeLine/\Vals (ns.map V.int) its.toList
theorem Scr.seq {K:Φρ} {H:Hp} {a:Addr} {ns:List Int} (h:Scr K H a ns):SqL K H a (ns.map V.int):=by
 rcases h with ⟨o,h⟩ | h
 ·exact .inl (.inr ⟨o,h⟩)
 ·exact .inr h
theorem Scr.of {K:Φρ} {H:Hp} {a:Addr} {ns:List Int} (hO:Only H) (h:SqL K H a (ns.map V.int)):Scr K H a ns:=by
 rcases h with (h | ⟨o,h⟩) | h
 ·rcases hO a with z | ⟨ob,xs,z⟩
  ·grind
  grind
 ·exact .inl ⟨o,h⟩
 ·exact .inr h
def b5G (K:Φρ):Sp:=λ vs H Q _=>∃ (a:Addr) (ns:List Int) (k:Int),vs=[.ref a,.int k]/\SqL K H a (ns.map V.int)/\ns.length<=63/\0<=k/\k<=1000/\Q (.int (a2F ns k)) H
def b7A:Sp:=λ vs H Q _=>∃ (c m:Int),vs=[.int c,.int m]/\0 < m/\Q (.int (mixF c m)) H
def spLaw (K:Φρ):Sp:=λ vs H Q _=>∃ (a:Addr) (ns:List Int),vs=[.ref a]/\Scr K H a ns/\ns.length<=63/\∀ H',Q (.bl true) H'
theorem a7S (c k:Int) (h0:0<=k) (h1:k<=1000) : -(2 ^ 64) < c % 2147483647*48271+k*7919/\c % 2147483647*48271+k*7919 < 2 ^ 64:=by
 have a1:=Int.emod_nonneg c (show (2147483647:Int)≠0 by decide)
 have a2:=Int.emod_lt_of_pos c (show (0:Int) < 2147483647 by decide)
 omega
end Lw
namespace L2
open PySem PySem.Spec PyProof.Rows
theorem b2P {K:Φρ} {h:Heap} {mg:Str->Option Value} {x:Str} {st:Stmt} {ps:List Str} {f:Addr} {oc:Value} {od an:Option Addr} {osl:Array (Option Value)} {kV doc pm cdv ct:Value} (X:K.In h) (G:h.Ns mainGlobals mg)
  (a:PySem.W.nsIn K mainGlobals x=some (some (.ref f))) (l:K.lookup f=some ⟨oc,od,.func (PySem.W.fnOf x x (a0U st) (a0S st) (a0D st) .none kV doc pm an cdv ct),osl⟩) (c:PySem.W.codeIn K cdv x=true) (k:PySem.W.keepIn K (.ref f)=true)
  (hb:∀ (kV doc pm:Value) (an:Option Addr) (cdv ct:Value) (us:List Value),us.length=ps.length->bindArgs (PySem.W.fnOf x x (a0U st) (a0S st) (a0D st) .none kV doc pm an cdv ct) ⟨us,[]⟩=pure (ps.zip us)) :
  Nonempty (Dn K mg x st ps) :=
 have F:=b5C (st:=st) l c k
 ⟨⟨f,_,F,F.binds hb,PySem.W.mg_of X G a,λ s us hl=>.of_eq (hb _ _ _ _ _ _ us hl)⟩⟩
theorem bl_mk {K:Φρ} {h:Heap} {mg:Str->Option Value} (X:K.In h) (G:h.Ns mainGlobals mg)
  (z1:PySem.W.nsIn K mainGlobals "len" = some none) (z2:PySem.W.nsIn K mainGlobals "range" = some none) (z3:PySem.W.nsIn K mainGlobals "list" = some none) (z4:PySem.W.nsIn K mainGlobals "isinstance" = some none) (z5:PySem.W.nsIn K mainGlobals "int" = some none)
  (z6:PySem.W.nsIn K mainGlobals "bool" = some none) (z7:PySem.W.nsIn K mainGlobals "str" = some none) (z8:PySem.W.nsIn K mainGlobals "all" = some none) (z9:PySem.W.nsIn K mainGlobals "any" = some none) (z10:PySem.W.nsIn K mainGlobals "sorted" = some none)
  (z11:PySem.W.nsIn K mainGlobals "set" = some none) (z12:PySem.W.nsIn K mainGlobals "min" = some none) (z13:PySem.W.nsIn K mainGlobals "max" = some none) (z14:PySem.W.nsIn K mainGlobals "tuple" = some none) (z15:PySem.W.nsIn K mainGlobals "enumerate" = some none)
  (z16:PySem.W.nsIn K mainGlobals "dict" = some none) (z17:PySem.W.nsIn K mainGlobals "ValueError" = some none):Bl mg:=by
 refine ⟨λ x hx=>?_⟩
 simp only [List.mem_cons,List.not_mem_nil,or_false] at hx
 rcases hx with rfl | rfl | rfl | rfl | rfl | rfl | rfl | rfl | rfl | rfl | rfl | rfl | rfl | rfl | rfl | rfl | rfl
 ·exact PySem.W.mg_none_of X G z1
 ·exact PySem.W.mg_none_of X G z2
 ·exact PySem.W.mg_none_of X G z3
 ·exact PySem.W.mg_none_of X G z4
 ·exact PySem.W.mg_none_of X G z5
 ·exact PySem.W.mg_none_of X G z6
 ·exact PySem.W.mg_none_of X G z7
 ·exact PySem.W.mg_none_of X G z8
 ·exact PySem.W.mg_none_of X G z9
 ·exact PySem.W.mg_none_of X G z10
 ·exact PySem.W.mg_none_of X G z11
 ·exact PySem.W.mg_none_of X G z12
 ·exact PySem.W.mg_none_of X G z13
 ·exact PySem.W.mg_none_of X G z14
 ·exact PySem.W.mg_none_of X G z15
 ·exact PySem.W.mg_none_of X G z16
 ·exact PySem.W.mg_none_of X G z17
theorem law_at {P:Program} {w:World} {K:Φρ} {mg:Str->Option Value} {fa:Addr} {st:Stmt} {k:Nat} {sp:Sp} {x:Str} (hfa:mg "law" = some (.ref fa)) (d:Dn K mg "law" st [x]) (F:∀ base:Heap,FnOk P w K mg base CX0 k d.f d.fd [x] sp) :
  ∃ fd:FuncData,(∀ (s:Shared) (u:Value),BindsTo s fd ⟨[u],[]⟩ [(x,u)])/\∀ base:Heap,K.In base->base.Ns mainGlobals mg->FnOk P w K mg base CX0 k fa fd [x] sp:=by
 have e:fa=d.f:=by
  have:=hfa.symm.trans d.m
  have:=Option.some.inj this
  cases this
  rfl
 subst e
 exact ⟨d.fd,λ s u=>d.bd s [u] rfl,λ base _ _=>F base⟩
end L2
namespace L2
open PySem PySem.Spec PyProof.Rows
section
variable {X:Cx} {K:Φρ}
end
end L2
namespace Bg
open PySem L2 Lw
def a1B (n:Int):Option Int->Bool
 | none=>false
 | some i=>decide (0<=i/\i < n)
inductive Flt where
 | ok | row (k:Nat) | place (v:Nat) | tie (a b:Int) | apart (v j k:Nat)
 deriving DecidableEq
def upV:Option Int->V
 | none=>.non
 | some i=>.int i
def TieV (K:Φρ) (H:Hp) (v:V) (t:Int × Int):Prop:=∃ p,v = .ref p/\SqT K H p [.int t.1,.int t.2]
def TiesAt (K:Φρ) (H:Hp) (a:Addr) (ts:List ζζ):Prop:=∃ xs,SqL K H a xs/\Paired (TieV K H) xs ts/\ts.length<=1000
theorem paired_get {α β:Type} {F:α->β->Prop}:∀ {xs:List α} {ys:List β} {i:Nat} {x:α},Paired F xs ys->xs[i]?=some x->∃ y,ys[i]?=some y/\F x y
 | _,_,_,_,.nil,h=>by simp at h
 | _,_,0,_,.cons h r,e=>by
  grind
 | _,_,i+1,_,.cons h r,e=>by
  obtain ⟨d,e1,q⟩:=paired_get (i:=i) r (by simpa using e)
  grind
theorem a3H {α β:Type} {F:α->β->Prop}:∀ {xs:List α} {ys:List β} {i:Nat} {y:β},Paired F xs ys->ys[i]?=some y->∃ x,xs[i]?=some x/\F x y
 | _,_,_,_,.nil,h=>by simp at h
 | _,_,0,_,.cons h r,e=>by
  grind
 | _,_,i+1,_,.cons h r,e=>by
  obtain ⟨d,e1,q⟩:=a3H (i:=i) r (by simpa using e)
  grind
end Bg
namespace L2
open PySem PySem.Spec PyProof.Rows
theorem Same.chg {H H':Hp} {l:Addr} {o:HO} {H0:Hp} (s:Same H0 H) (h0:H0 l=none) (c:Chg H l o H'):Same H0 H':=λ b u e=>(c.rest b (a0R e h0)).trans (s b u e)
end L2
namespace Bg
open PySem L2 Lw
def TieL (H:Hp) (v:V) (t:Int × Int):Prop:=∃ p,v = .ref p/\H p=some (.tup [.int t.1,.int t.2])
theorem TieL.v {K:Φρ} {H:Hp} {v:V} {t:Int × Int} (h:TieL H v t):TieV K H v t:=by
 obtain ⟨p,e,q⟩:=h
 exact ⟨p,e,SqT.of q⟩
theorem TieL.same {H H':Hp} {v:V} {t:Int × Int} (s:Same H H') (h:TieL H v t):TieL H' v t:=by
 obtain ⟨p,e,q⟩:=h
 exact ⟨p,e,s _ _ q⟩
theorem TieL.chg {H H':Hp} {l:Addr} {xs ys:List V} {v:V} {t:Int × Int} (hl:H l=some (.lst xs)) (c:Chg H l (.lst ys) H') (h:TieL H v t):TieL H' v t:=by
 obtain ⟨p,e,q⟩:=h
 exact ⟨p,e,(c.rest p (b6D q hl (by grind))).trans q⟩
theorem a1I {α β:Type} {F:α->β->Prop}:∀ {xs:List α} {ys:List β} {x:α} {y:β},Paired F xs ys->F x y->Paired F (xs++[x]) (ys++[y])
 | _,_,_,_,.nil,h=>.cons h .nil
 | _,_,_,_,.cons h r,q=>.cons h (a1I r q)
def tieD (t:Int × Int):PyData:=.tuple [.int t.1,.int t.2]
theorem TieV.isD {K:Φρ} {H:Hp} {v:V} {t:Int × Int} (h:TieV K H v t):IsD K H v (tieD t):=by
 obtain ⟨p,rfl,q1⟩:=h
 exact .tup q1 (.cons (.int _) (.cons (.int _) .nil))
theorem a9A {K:Φρ} {H:Hp} {α:Type} {F:V->α->Prop} {f:α->PyData} (hf:∀ v x,F v x->IsD K H v (f x)):∀ {xs:List V} {ys:List α},Paired F xs ys->IsDs K H xs (ys.map f)
 | _,_,.nil=>.nil
 | _,_,.cons h r=>.cons (hf _ _ h) (a9A hf r)
def a9B (ts:List ζζ):PyData:=.list (ts.map tieD)
theorem TiesAt.isD {K:Φρ} {H:Hp} {a:Addr} {ts:List ζζ} (h:TiesAt K H a ts):IsD K H (.ref a) (a9B ts):=by
 obtain ⟨xs,h1,h2,_⟩:=h
 exact .lst h1 (a9A (λ v x q=>q.isD) h2)
theorem a9C {α:Type} {f:α->PyData} (h:∀ x,(f x).canLay0=true):∀ l:List α,PyData.canLayAll0 (l.map f)=true
 | []=>rfl
 | x::r=>by rw [List.map_cons,PyData.canLayAll0,h x,a9C h r]; rfl
theorem a5M {α:Type} {f:α->PyData} {k:Nat} (h:∀ x,(f x).depth<=k):∀ l:List α,PyData.depthAll (l.map f)<=k
 | []=>Nat.zero_le _
 | x::r=>by
  rw [List.map_cons,PyData.depthAll]
  exact Nat.max_le.mpr ⟨h x,a5M h r⟩
theorem b2Q (t:Int × Int):(tieD t).canLay0=true:=rfl
theorem a9D (t:Int × Int):(tieD t).depth<=1:=by
 unfold tieD
 simp [PyData.depth,PyData.depthAll]
theorem a1Y (ts:List ζζ):SeqAt.shaped (a9B ts)=true:=by
 unfold SeqAt.shaped a9B
 rw [PyData.canLay0,a9C b2Q,PyData.depth,Bool.true_and]
 exact decide_eq_true (by have:=a5M a9D ts; omega)
theorem b0U {d:PyData} (h:SeqAt.shaped d=true):PyData.eqv d d=true:=SeqAt.eqv_refl d (SeqAt.canLay_of_shaped h)
end Bg
namespace L2
open PySem PySem.Spec PySem.Calls PyProof.Rows PySem.Builtin
def Ctx0 (h:Heap) (e:Addr):Prop:=∃ o vs,h.get? e=some o/\o.data = .fields vs/\vs[2]?=some .none
theorem Ctx0.keep {h g:Heap} {e:Addr} (c:Ctx0 h e) (k:∀ o,h.get? e=some o->g.get? e=some o):Ctx0 g e:=by
 obtain ⟨o,vs,a,b,d⟩:=c
 exact ⟨o,vs,k o a,b,d⟩
theorem Ctx0.at {h:Heap} {e:Addr} (c:Ctx0 h e) {o:Obj} {vs:Array Value} (a:h.get? e=some o) (b:o.data = .fields vs):vs[2]?=some .none:=by
 obtain ⟨o',vs',a',b',d⟩:=c
 rw [a] at a'
 cases a'
 rw [b] at b'
 cases b'
 exact d
section
variable {M:Model} {A:Around} {E:Value->Shared->Prop} {s:Shared} {base:Heap} {env:Env} {outer:List Env} {L e:Addr} {cls a0:Value}
theorem a9E {ob : Obj} {fs : Array Value} {first : Value} {nx : Bool} {Q : Unit -> Shared -> Prop} (fr : A.frames = some (env :: outer)) (ff : s.heap.FunFrames base (env :: outer)) (ef : env.frame = some L)
    (ge : s.heap.get? e = some ob) (st : base.StaysIn s.heap) (nb : base.get? e = none) (dv : ob.data = .fields fs) (big : 1 < fs.size) (arg : fs[0]? = some a0) (cx : fs[2]? = some .none)
    (k : ∀ g, Heap.NotedW base (env :: outer) e ob.cls a0 (rawInt L) s.heap g -> Ctx0 g e -> Q () { s with heap := g }) :
    wpAny M A (do let fo <- frameOf env; let pl <- entryPlaceOf L nx; let tb <- EntryCells.newEntry first fo .none (rawInt L) .none pl; setField (.ref e) 1 tb) Q E s := by
  have far : e ∉ (env :: outer).filterMap (·.frame) := fun z => by
    obtain ⟨_, o, ho, nf⟩ := ff.mem z
    rw [ge] at ho
    cases ho
    exact nf fs dv
  refine wpAny_bind (wpAny_frameOf_fun fr ff ef fun g1 so => ?_)
  refine wpAny_bind (wpAny_entryPlaceOf fun pl hp => ?_)
  unfold EntryCells.newEntry newFields
  refine wpAny_bind (wpAny_newObj_type ?_ (hp.sizeOk5 _ _ _ _ _))
  generalize hN : ({ cls := .type "traceback", dict := none, data := .fields ([first, .ref L, .none, rawInt L, .none] ++ (if pl.isEmpty then List.replicate 6 Value.none else pl)).toArray } : Obj) = nw
  have ge1 : g1.get? e = some ob := (so.2.1 e far).trans ge
  have st1 : base.StaysIn g1 := fun b o q => (so.2.1 b fun z => by rw [(ff.mem z).1] at q; cases q).trans (st b o q)
  have ge2 : (g1.push nw).get? e = some ob := Heap.get?_push_of_some nw ge1
  refine wpAny_setField ge2 dv big ?_
  have ne : g1.objs.size ≠ e := Nat.ne_of_gt (Heap.lt_size ge1)
  have d3 := Obj.data_mapFields dv (·.setIfInBounds 1 (Value.ref g1.objs.size))
  have g3 := Heap.get?_update_self (Obj.mapFields (·.setIfInBounds 1 (Value.ref g1.objs.size))) ge2 (Obj.isFreed_of_fields d3)
  have fresh : nw.isFreed = false := by rw [<- hN]; rfl
  have t3 : ((g1.push nw).update e (Obj.mapFields (·.setIfInBounds 1 (Value.ref g1.objs.size)))).get? g1.objs.size = some nw := (Heap.get?_update_other _ _ (Ne.symm ne)).trans (Heap.get?_push_size g1 fresh)
  have stay : ∀ b o, b ≠ e -> g1.get? b = some o -> ((g1.push nw).update e (Obj.mapFields (·.setIfInBounds 1 (Value.ref g1.objs.size)))).get? b = some o := fun b o z q => by
    rw [Heap.get?_update_other _ _ (Ne.symm z)]
    exact Heap.get?_push_of_some nw q
  have other : ∀ b o, s.heap.get? b = some o -> (∀ vs, o.data ≠ .fields vs) -> b ≠ e := fun b o q nf z => by
    rw [z, ge] at q
    cases q
    exact nf fs dv
  refine k _ ⟨fun b o q => stay b o (fun z => by rw [z, nb] at q; cases q) (st1 b o q), ff.of_keeps fun b o q nf => ?_, ?_, fun b o q nf => ?_⟩ ⟨_, _, g3, d3, ?_⟩
  · obtain ⟨sl, q1⟩ := so.2.2 b o q
    exact ⟨_, stay b _ (other b o q nf) q1, rfl⟩
  · refine ⟨_, _, g1.objs.size, nw, ([first, .ref L, .none, rawInt L, .none] ++ (if pl.isEmpty then List.replicate 6 Value.none else pl)).toArray, g3, ⟨Obj.cls_mapFields _ _, ?_⟩, d3, ?_, st1.fresh, ne, t3, ?_, ?_⟩
    · rw [Array.getElem?_setIfInBounds_ne (by decide)]
      exact arg
    · simp [big]
    · rw [<- hN]
    · first | (simp; done) | (rcases hp with rfl | ⟨_, _, _, _, _, _, _, rfl⟩ <;> simp)
  · obtain ⟨sl, q1⟩ := so.2.2 b o q
    exact ⟨sl, stay b _ (other b o q nf) q1⟩
  · rw [Array.getElem?_setIfInBounds_ne (by decide)]
    exact cx
theorem a6F {l:List Env} {fl:Value} {Q:Unit->Shared->Prop} (st:base.StaysIn s.heap) (ff:s.heap.FunFrames base l) (tr:s.heap.TracedAtW base e cls a0 fl) (c:Ctx0 s.heap e)
  (k:∀ g,base.StaysIn g->g.FunFrames base l->g.TracedW base e cls a0->s.heap.UpToSlots g->Ctx0 g e->Q () { s with heap:=g }):wpAny M A (setFlight (.ref e) none) Q E s:=by
 obtain ⟨ob,fs,T,oT,ts,x1,x2,x3,x4,x5,x6,x7,x8,x9⟩:=tr
 have big:3 < ts.size:=(Array.getElem?_eq_some_iff.mp x9).1
 have far:∀ b o,s.heap.get? b=some o->(∀ vs,o.data ≠ .fields vs)->b≠T:=λ b o q nf z=>by
  rw [z,x7] at q
  cases q
  exact nf ts x8
 unfold setFlight
 refine wpAny_bind (wpAny_field x1 x3 x4 ?_)
 rw [if_pos (by simp)]
 refine wpAny_setField x7 x8 big (k _ (λ b o q=>?_) (ff.of_keeps λ b o q nf=>⟨o,?_,rfl⟩) ?_ (λ b o q nf=>⟨o.slots,?_⟩) (c.keep λ o q=>?_))
 ·exact (Heap.get?_update_other _ _ λ z=>by rw [<- z,x5] at q; cases q).trans (st b o q)
 ·exact (Heap.get?_update_other _ _ (Ne.symm (far b o q nf))).trans q
 ·exact ⟨ob,fs,T,_,_,(Heap.get?_update_other _ _ x6).trans x1,x2,x3,x4,x5,x6,Heap.get?_update_self _ x7 (Obj.isFreed_of_fields (Obj.data_mapFields x8 _)),Obj.data_mapFields x8 _,by simp [big]⟩
 ·exact (Heap.get?_update_other _ _ (Ne.symm (far b o q nf))).trans q
 ·exact (Heap.get?_update_other _ _ x6).trans q
theorem b7B {Q:Unit->Shared->Prop} (fr:A.frames=some (env::outer)) (ef:env.frame=some L) (fly:Heap.FlyingW base (env::outer) e cls a0 s.heap) (c:Ctx0 s.heap e)
  (k:∀ g,Heap.HeldW base (env::outer) e cls a0 L g->s.heap.UpToSlots g->Ctx0 g e->Q () { s with heap:=g }):wpAny M A (noteFrame (.ref e) env) Q E s:=by
 obtain ⟨st,nb,ff,ob,fs,T,oT,ts,x1,⟨x2,x2'⟩,x3,x4,x5,x6,x7,x8,x9⟩:=fly
 subst x2
 have far:∀ b o,s.heap.get? b=some o->(∀ vs,o.data ≠ .fields vs)->b≠T:=λ b o q nf z=>by
  rw [z,x7] at q
  cases q
  exact nf ts x8
 unfold noteFrame
 simp only [ef]
 refine wpAny_bind (wpAny_field x1 x3 x4 ?_)
 rw [if_pos (by simp)]
 refine wpAny_bind (wpAny_field x7 x8 x9 ?_)
 rw [if_neg (by simp [rawInt])]
 refine wpAny_bind (wpAny_setField x7 x8 (Array.getElem?_eq_some_iff.mp x9).1 ?_)
 refine a9E fr (ff.of_keeps λ b o q nf=>⟨o,(Heap.get?_update_other _ _ (Ne.symm (far b o q nf))).trans q,rfl⟩) ef ((Heap.get?_update_other _ _ x6).trans x1) (λ b o q=>(Heap.get?_update_other _ _ λ z=>by rw [<- z,x5] at q; cases q).trans (st b o q)) nb x3 (Array.getElem?_eq_some_iff.mp x4).1 x2' (c.at x1 x3) λ g ⟨y1,y2,y3,y4⟩ cg=>?_
 exact k g ⟨y1,nb,y2,y3⟩ (λ b o q nf=>y4 b o ((Heap.get?_update_other _ _ (Ne.symm (far b o q nf))).trans q) nf) cg
theorem b7C {l:List Env} {Q:Unit->Shared->Prop} (h:Heap.HeldW base l e cls a0 L s.heap) (c:Ctx0 s.heap e) (k:∀ g,Heap.FlyingW base l e cls a0 g->s.heap.UpToSlots g->Ctx0 g e->Q () { s with heap:=g }):wpAny M A (setFlight (.ref e) none) Q E s:=by
 obtain ⟨x1,x2,x3,x4⟩:=h
 exact a6F x1 x3 x4 c λ g y1 y2 y3 y4 y5=>k g ⟨y1,x2,y2,y3⟩ y4 y5
theorem b7D {h:Heap} {args:List Value} {Q:Unit->Shared->Prop} (fr:A.frames=some (env::outer)) (ef:env.frame=some L) (st:base.StaysIn h) (ff:h.FunFrames base (env::outer)) (m:Heap.MadeExcOf h s.heap e cls args)
  (k:∀ g t,Heap.FlyingW base outer e cls (.ref t) g->s.heap.UpToSlots g->Ctx0 g e->Q () { s with heap:=g }):wpAny M A (leaving env (.ref e)) Q E s:=by
 obtain ⟨t,x1,x2,x3⟩:=m.there
 have out:∀ b,h.get? b=none->base.get? b=none:=λ b q=>by
  cases z:base.get? b with
  | none=>rfl
  | some o =>
   have:=st b o z
   rw [q] at this
   cases this
 unfold leaving noteFrame
 simp only [ef]
 refine wpAny_bind (wpAny_bind (wpAny_field x1 rfl (x:=.none) rfl ?_))
 rw [if_neg (by decide)]
 refine wpAny_mono (a9E (a0:=.ref t) fr (ff.of_keeps λ b o q _=>⟨o,m.keeps b o q,rfl⟩) ef x1 (λ b o q=>m.keeps b o (st b o q)) (out e m.new) rfl (by simp) rfl rfl λ g ⟨y1,y2,y3,y4⟩ cg=>?_) (λ _ _ z=>z) (λ _ _ z=>z)
 refine a6F y1 y2 y3 cg λ g2 z1 z2 z3 z4 z5=>?_
 obtain ⟨_,_,z2'⟩:=z2
 exact k g2 t ⟨z1,out e m.new,z2',z3⟩ (Heap.UpToSlots.trans y4 z4) z5
end
end L2
namespace L2
open PySem PySem.Spec PySem.Calls PyProof.Rows PySem.Builtin PySem.Builtin.ObjectAttr
abbrev b2R:List Value:=[.type "ValueError", .type "Exception", .type "BaseException", .type "object"]
structure Xk (K:Φρ) (C:Addr):Prop where
 ga:PySem.W.findIn K (.ref C) "__getattribute__" = some (some (.builtin "BaseException.__getattribute__"))
 gh:PySem.W.findIn K (.ref C) "__getattr__" = some none
 ca:PySem.W.findIn K (.ref C) "__class__" = some (some (.builtin "object.__class__"))
 gt:PySem.W.specialIn K (.builtin "object.__class__") "__get__" = some (some (.builtin "getset_descriptor.__get__"))
 tk:PySem.W.takesIn K (.builtin "object.__class__")=some true
 mo:PySem.W.mroIn K C (.type "object")=some true
 mb:PySem.W.mroIn K C (.type "BaseException")=some true
 ex:PySem.W.excIn K C b2R "ValueError.__new__" = true
section
variable {prog:Program} {w:World} {A:Around} {E:Value->Shared->Prop} {s:Shared} {K:Φρ} {x C:Addr}
end
section
variable {X:Cx}
end
end L2
namespace L2
open PySem PySem.Spec PySem.Calls PyProof.Rows
structure UnB (fs:List Addr) (H H':Hp) (h B:Heap):Prop where
 keep:∀ b o,h.get? b=some o->H b=none->b ∉ fs->B.get? b=some o
 free:∀ b o,h.get? b=some o->H b=none->H' b=none
 there:∀ b o,h.get? b=some o->b ∉ fs->∃ o',B.get? b=some o'
 tups:∀ b xs,H b=some (.tup xs)->H' b=some (.tup xs)
 frzs:∀ b o u,H b=some (.frz o u)->H' b=some (.frz o u)
 tbls:∀ b ps,H b=some (.tbl ps)->∃ more,H' b=some (.tbl (ps++more))
def FlyX (B:Heap) (l:List Env) (e:Addr) (cls a0:Value) (h:Heap):Prop:=Heap.FlyingW B l e cls a0 h/\Ctx0 h e
def CXE (P:Program) (w:World):CXT:=λ outer H s E e s'=>∃ (p C:Addr) (a0:Value) (B:Heap) (H':Hp),
 e = .ref p/\s'.os=s.os/\AllBare s'.gens/\FlyX B outer p (.ref C) a0 s'.heap/\HOk P w H' B/\UnB (frs outer) H H' s.heap B /\
 (∀ b∈frs outer,∀ o,s.heap.get? b=some o->∃ sl,s'.heap.get? b=some { o with slots:=sl })/\H' p=none/\E (.ref p) (some C) H'
section
variable {X:Cx} {pins:List (Addr × Obj)} {σ:St} {H H':Hp} {s:Shared}
structure Own (X:Cx):Prop where
 stk:X.stack=X.env::X.outer
 fr:X.env.frame=some X.env.locals
 ex:X.ex=[]
theorem Own.frs (O:Own X):frs X.stack=X.env.locals::X.fs:=by
 rw [O.stk]; unfold L2.frs; rw [List.filterMap_cons,O.fr]; rfl
theorem Inv.unB {B:Heap} (I:Inv X pins σ H s) (O:Own X) (u:UnB (L2.frs X.stack) H H' s.heap B):UnB X.fs X.H₀ H' X.s₀.heap B where
 keep:=λ b o e n hb=>by
  have nx:b ∉ X.ex:=by rw [O.ex]; simp
  refine u.keep b o (I.base.keep b o e n hb nx) (I.base.free b o e n nx) ?_
  rw [O.frs]
  intro z
  rcases List.mem_cons.mp z with z | z
  ·exact absurd (Nat.lt_of_lt_of_le (Heap.lt_size e) I.ok.above) (by rw [z]; exact Nat.lt_irrefl _)
  ·exact hb z
 free:=λ b o e n=>by
  have nx:b ∉ X.ex:=by rw [O.ex]; simp
  obtain ⟨o',e'⟩:=I.base.there b o e nx
  exact u.free b o' e' (I.base.free b o e n nx)
 there:=λ b o e hb=>by
  have nx:b ∉ X.ex:=by rw [O.ex]; simp
  obtain ⟨o',e'⟩:=I.base.there b o e nx
  refine u.there b o' e' ?_
  rw [O.frs]
  intro z
  rcases List.mem_cons.mp z with z | z
  ·exact absurd (Nat.lt_of_lt_of_le (Heap.lt_size e) I.ok.above) (by rw [z]; exact Nat.lt_irrefl _)
  ·exact hb z
 tups:=λ b xs e=>u.tups b xs (I.base.tups b xs e)
 frzs:=λ b o xs e=>u.frzs b o xs (I.base.frzs b o xs e)
 tbls:=λ b ps e=>by
  obtain ⟨m1,e1⟩:=I.base.tbls b ps e
  obtain ⟨m2,e2⟩:=u.tbls b _ e1
  exact ⟨m1++m2,by rw [e2,Array.append_assoc]⟩
theorem Inv.slots {h2 h3:Heap} (I:Inv X pins σ H s) (O:Own X) (fr:∀ b∈L2.frs X.stack,∀ o,s.heap.get? b=some o->∃ sl,h2.get? b=some { o with slots:=sl }) (hs:h2.UpToSlots h3) :
  ∀ b∈X.fs,∀ o,X.s₀.heap.get? b=some o->∃ sl,h3.get? b=some { o with slots:=sl }:=λ b hb o e=>by
 have nx:b ∉ X.ex:=by rw [O.ex]; simp
 obtain ⟨sl,e1⟩:=I.base.slot b o e (I.ok.frf b hb) hb nx
 obtain ⟨sl2,e2⟩:=fr b (by rw [O.frs]; exact List.mem_cons_of_mem _ hb) _ e1
 obtain ⟨_,of,hof,hnf⟩:=I.ok.funs.mem hb
 rw [e] at hof
 cases hof
 obtain ⟨sl3,e3⟩:=hs b _ e2 hnf
 exact ⟨sl3,e3⟩
end
end L2
namespace L2
open PySem PySem.Spec PySem.Calls PyProof.Rows
theorem b0V {P:Program} {w:World} {H:Hp} {h:Heap} {a:Addr} {o:HO} (x:ObjOk P w H h a o):∃ ob,h.get? a=some ob:=by
 cases o with
 | lst xs=>obtain ⟨_,_,_,_,e⟩:=x; exact ⟨_,e⟩
 | tup xs=>obtain ⟨_,_,_,p⟩:=x; obtain ⟨ob,e,_⟩:=p; exact ⟨ob,e⟩
 | dK kvs=>obtain ⟨_,_,_,_,ob,_,_,e,_⟩:=x; exact ⟨ob,e⟩
 | dT kvs=>obtain ⟨_,_,_,_,ob,_,_,e,_⟩:=x; exact ⟨ob,e⟩
 | set S n=>obtain ⟨ob,_,_,_,e,_⟩:=x; exact ⟨ob,e⟩
 | ins C dx fs=>obtain ⟨_,_,_,e,_⟩:=x; exact ⟨_,e⟩
 | own y=>exact x
 | xd fs=>obtain ⟨_,⟨ob,_,_,e,_⟩,_⟩:=x; exact ⟨ob,e⟩
 | rng lo hi=>obtain ⟨_,_,_,e⟩:=x; exact ⟨_,e⟩
 | frz ob u=>obtain ⟨e,_⟩:=x; exact ⟨_,e⟩
 | tbl ps=>exact ⟨_,x⟩
 | met f y=>exact ⟨_,x⟩
 | ext φ=>obtain ⟨_,e,_⟩:=x; exact e
theorem xobj {K:Φρ} {h:Heap} {C:Addr} {bl:List Value} {ni:String} (X:K.In h) (q:PySem.W.excIn K C bl ni=true) :
  ∃ bm N nm qn bs hd sn sub ab col dd k0 k1 k2 k3 k5 mN,h.get? C=some (excClassObj nm qn C N bs bm hd sn sub ab col dd k0 k1 k2 k3 k5 ni)/\h.Ns N mN/\mN "__init__" = none/\OwnTail h bl bm:=by
 unfold PySem.W.excIn at q
 split at q
 ·rename_i du cu su hu
  split at q
  ·rename_i Cu bu l0 l1 l2 l3 nu l5 mu eu
   simp only [Bool.and_eq_true,beq_iff_eq,Bool.not_eq_true'] at q
   obtain ⟨⟨⟨⟨⟨rfl,rfl⟩,nodel⟩,tl⟩,good⟩,noin⟩:=q
   obtain ⟨c1,c2,c3,c4,c5,c6,c7,c8,c9,c10,c11⟩:=cu
   dsimp only at mu nodel good noin
   subst mu nodel
   obtain ⟨ls⟩:=su
   dsimp only at eu
   subst eu
   exact ⟨bu,c4,c1,c5,c2,c6,c7,c8,c9,c10,du,l0,l1,l2,l3,l5,_,X _ _ hu,.of_isNs (PySem.W.isNs_of_in X good),PySem.W.nsMap_none_of_in X good noin,PySem.W.tail_of_in X tl⟩
  ·cases q
 ·cases q
def b5H (E:XK) (C:Addr) (t:TA):TS:=λ _ σ H=>t σ H λ vs H1=>vs.length<=sizeLine/\∀ p,H1 p=none->E (.ref p) (some C) H1
section
variable {P:Program} {w:World} {K:Φρ} {mg:Str->Option Value} {base:Heap} {N:List Str} {qual:Str} {scope:Scope} {f:Addr} {cd:Value} {A:Around} {outer:List Env} {s₀:Shared} {H₀:Hp} {E:XK}
theorem a6G {pins:List (Addr × Obj)} {σ:St} {H:Hp} {s:Shared} {h':Heap} {p C:Addr} {us:List Value}
  (I:Inv (cxOf (CXE P w) P w K mg base N qual scope f cd A outer s₀ H₀ E) pins σ H s) (m:Heap.MadeExcOf s.heap h' p (.ref C) us) (hE:H p=none->E (.ref p) (some C) H) :
  (cxOf (CXE P w) P w K mg base N qual scope f cd A outer s₀ H₀ E).xe (.ref p) { s with heap:=h' }:=by
 have O:Own (cxOf (CXE P w) P w K mg base N qual scope f cd A outer s₀ H₀ E):=⟨rfl,rfl,rfl⟩
 have hin:∀ ev∈(envOfC qual scope s₀.heap.objs.size f cd::outer),∀ b,ev.frame=some b->b∈frs (envOfC qual scope s₀.heap.objs.size f cd::outer):=λ ev he b hb=>List.mem_filterMap.mpr ⟨ev,he,hb⟩
 have hst:s.heap.FunFrames base (envOfC qual scope s₀.heap.objs.size f cd::outer):=I.stack
 have hp:H p=none:=by
  cases q:H p with
  | none=>rfl
  | some u =>
   obtain ⟨ob,eo⟩:=b0V (I.hok p u q)
   have z:=m.new
   rw [z] at eo; cases eo
 refine b7D (base:=PySem.W.hideAll s.heap (frs (envOfC qual scope s₀.heap.objs.size f cd::outer))) (h:=s.heap) (env:=envOfC qual scope s₀.heap.objs.size f cd) (outer:=outer) I.ok.frames rfl
  (λ b o q=>PySem.W.of_hideAll _ q) (PySem.W.funFrames_hide hst hin) m λ h3 t fl up cg=>?_
 refine ⟨p,C,_,_,H,rfl,I.os,I.bare,⟨fl,cg⟩,?_,I.unB O ?_,I.slots O (h2:=h') ?_ up,hp,hE hp⟩
 ·intro a u e
  have nf:∀ b v,H b=some v->b ∉ frs (envOfC qual scope s₀.heap.objs.size f cd::outer):=λ b v q z=>by rw [I.stkFree b z] at q; cases q
  refine (I.hok a u e).stay (λ b v hb q=>PySem.W.hideAll_get _ q ?_) (λ _ q=>q) λ _ _ q=>q
  rcases hb with rfl | hb
  ·exact nf _ _ e
  ·exact nf _ _ hb
 ·exact ⟨λ b o e n hb=>PySem.W.hideAll_get _ e hb,λ b o e n=>n,λ b o e hb=>⟨o,PySem.W.hideAll_get _ e hb⟩,λ b xs e=>e,λ b o u e=>e,λ b ps e=>⟨#[],by rw [e]; simp⟩⟩
 ·exact λ b hb o e=>⟨o.slots,m.keeps b o e⟩
theorem a4K {x:Str} {C:Addr} {np cpos pos:Pos} {e:Expr} {es:List Expr} {t:TA} (hd:(A.deeper (envOfC qual scope s₀.heap.objs.size f cd)).handled=none)
  (hg:Gl (cxOf (CXE P w) P w K mg base N qual scope f cd A outer s₀ H₀ E) x) (hm:mg x=some (.ref C)) (k:Xk K C) (ha:PA (cxOf (CXE P w) P w K mg base N qual scope f cd A outer s₀ H₀ E) (e::es) t)
  (hdb:(x == ("__debug__" : Str))=false:=by decide)
  (he:starEach (e::es) (envOfC qual scope s₀.heap.objs.size f cd)=(false,eval e (envOfC qual scope s₀.heap.objs.size f cd))::starEach es (envOfC qual scope s₀.heap.objs.size f cd):=by rfl)
  (hpl:(backTo cpos (starEach es (envOfC qual scope s₀.heap.objs.size f cd))).any (·.1)=false:=by rfl) :
  PS (cxOf (CXE P w) P w K mg base N qual scope f cd A outer s₀ H₀ E) (.Raise (some (.Call (.Name x np) (e::es) [] cpos)) none pos) (b5H E C t):=by
 intro pins s σ H D I h
 obtain ⟨bm,M,nm,qn,bs,hdc,sn,sub,ab,col,dd,k0,k1,k2,k3,k5,mN,hC,hN,hni,T⟩:=xobj I.mod.kin k.ex
 have FB:=PySem.F.excBase_ValueError
 refine wpAny_Raise_call_subT (C:=C) (nm:=nm) (q:=qn) (N:=M) (bs:=bs) (bm:=bm) (hdct:=hdc) (sn:=sn) (sub:=sub) (ab:=ab) (col:=col) (dd:=dd) (k0:=k0) (k1:=k1) (k2:=k2) (k3:=k3) (k5:=k5) FB (mN:=mN)
  (T.hasType FB.hasBase) hd (by show (backTo cpos (starEach (e::es) (envOfC qual scope s₀.heap.objs.size f cd))).any (·.1)=false; rw [he]; show (false || (backTo cpos (starEach es (envOfC qual scope s₀.heap.objs.size f cd))).any (·.1))=false; rw [hpl]; rfl) hni (a6A I hg hm ⟨rfl,?_⟩ hdb)
 have z:=ha cpos pins s σ H _ I h
 have he':starEach (e::es) (cxOf (CXE P w) P w K mg base N qual scope f cd A outer s₀ H₀ E).env=(false,eval e (cxOf (CXE P w) P w K mg base N qual scope f cd A outer s₀ H₀ E).env)::starEach es (cxOf (CXE P w) P w K mg base N qual scope f cd A outer s₀ H₀ E).env:=he
 rw [he'] at z ⊢
 refine Calls.evalArgs_plain (wpAny_mono z (λ us s2 ⟨vs,H2,I2,r,hl,q⟩=>?_) λ _ _ y=>y)
 exact ⟨rfl,(by rw [<- r.length]; exact hl),I2.bk _ _ hC,hN.keeps I2.bk,T.keeps I2.bk,λ h' p m=>a6G I2 m (q p)⟩
end
end L2
namespace L2
open PySem PySem.Spec PySem.Calls PyProof.Rows
section
variable {X:Cx} {pins:List (Addr × Obj)} {σ:St} {H:Hp} {s:Shared} {p:Addr}
variable {C:Addr} {H':Hp}
end
end L2
namespace L2
open PySem PySem.Spec PySem.Calls PyProof.Rows
section
variable {X:Cx} {st:Stmt} {rest:List Stmt} {e:Expr} {es:List Expr} {pos:Pos} {t u:TXS} {te:TXE}
end
section
variable {X:Cx} {pos np:Pos} {t:TS} {tx:TXS} {p C:Addr}
end
end L2
namespace L2
open PySem PySem.Spec PySem.Calls PyProof.Rows
theorem Fun.okE {P:Program} {w:World} {K:Φρ} {mg:Str->Option Value} {base:Heap} {x qual:Str} {st:Stmt} {f:Addr} {fd:FuncData} {N ps:List Str} {k:Nat} {sp:Sp} (F:Fun K x qual st f fd) (S:FnScope N ps (a0D st)) (len:∀ vs H Q E,sp vs H Q E->vs.length=ps.length)
  (hbody:∀ (cdv:Value) (A:Around) (outer:List Env) (s:Shared) (H:Hp) (vs:List V) (Q:VK) (E:XK),Room k (A.deeper (envOfC qual (a0D st) s.heap.objs.size f cdv))->sp vs H Q E ->
   ∃ t,PSs (cxOf (CXE P w) P w K mg base N qual (a0D st) f cdv A outer s H E) (a0S st) t/\t { nx:=λ _ H'=>Q .non H',rt:=Q } (a4I N vs) H):FnOk P w K mg base (CXE P w) (k+1) f fd ps sp:=by
 obtain ⟨oc,od,kV,doc,pm,an,cdv,ct,osl,rfl,lk,hcd⟩:=F.ex
 exact b4Y lk hcd S len λ A outer s H vs Q E hr hsp=>hbody cdv A outer s H vs Q E hr hsp
end L2
namespace L2
open PySem PySem.Spec PySem.Calls PyProof.Rows
section
variable {X:Cx} {k:Nat} {f:Addr} {fd:FuncData} {ps:List Str} {sp:Sp} {dvs:List V} {ds:List Value} {x:Str} {p pos:Pos} {e:Expr} {es:List Expr} {t:TA}
end
end L2
namespace L2
open PySem PySem.Spec PySem.Calls PyProof.Rows
theorem b2S (B:Heap) (a:Addr):∃ B':Heap,(∀ b,b≠a->B'.get? b=B.get? b)/\B'.get? a=none:=by
 refine ⟨B.update a (λ o=>{ o with data:=.freed }),λ b hb=>Heap.get?_update_other _ _ (Ne.symm hb),?_⟩
 cases e:(B.update a (λ o=>{ o with data:=.freed })).get? a with
 | none=>rfl
 | some o =>
  exfalso
  obtain ⟨e1,e2⟩:=Heap.get?_some_iff.mp e
  cases B
  simp only [Heap.update,Array.getElem?_modify,if_true] at e1
  obtain ⟨o',_,e3⟩:=Option.map_eq_some_iff.mp e1
  rw [<- e3] at e2
  cases e2
theorem b1X {h h' base base':Heap} {a:Addr} (sb:∀ b,b≠a->h'.get? b=h.get? b) (kb:∀ b,base.get? b=none->base'.get? b=none):∀ {l:List Env},a ∉ frs l->h.FunFrames base l->h'.FunFrames base' l
 | [],_,_=>trivial
 | env::rest,na,⟨k,⟨L,o,e1,e2,e3,e4⟩,r⟩=>by
  unfold frs at na
  rw [List.filterMap_cons,e1] at na
  have n1:L≠a:=λ z=>na (by rw [z]; exact List.mem_cons_self)
  exact ⟨k,⟨L,o,e1,kb L e2,(sb L n1).trans e3,e4⟩,b1X sb kb (λ z=>na (List.mem_cons_of_mem _ z)) r⟩
section
variable {M:Model} {A:Around} {E:Value->Shared->Prop} {s:Shared}
theorem b2T {base:Heap} {e:Addr} {cls a0 fl:Value} {what:String} {cenv:Env} {α:Type} {Q:α->Shared->Prop} (st:base.StaysIn s.heap) (ht:s.heap.TracedAtW base e cls a0 fl) (cx:Ctx0 s.heap e)
  (hE:∀ h' fl',Ctx0 h' e->base.StaysIn h'->(∀ b o,s.heap.get? b=some o->(∀ vs,o.data ≠ .fields vs)->h'.get? b=some o)->h'.TracedAtW base e cls a0 fl'->E (.ref e) { s with heap:=h' }):wpAny M A (PySem.passOn what (.ref e) cenv:Sem α) Q E s:=by
 obtain ⟨oe,vs,T,oT,ts,g1,g2,g3,g4,g5,g6,g7,g8,g9⟩:=ht
 have three:3 < ts.size:=(Array.getElem?_eq_some_iff.mp g9).1
 unfold PySem.passOn
 refine wpAny_bind (wpAny_field g1 g3 g4 ?_)
 rw [if_neg (by simp)]
 unfold setFlight
 refine wpAny_bind (wpAny_bind (wpAny_field g1 g3 g4 ?_))
 rw [if_pos (by simp)]
 refine wpAny_setField g7 g8 three (wpAny_throw (hE _ (cenv.frame.elim .none λ f=>rawInt f) (cx.keep λ o q=>(Heap.get?_update_other _ _ g6).trans q) (λ b o hb=>?_) (λ b o hb nf=>?_) ?_))
 ·rw [Heap.get?_update_other _ _ (λ z=>by rw [<- z,g5] at hb; cases hb)]
  exact st b o hb
 ·rw [Heap.get?_update_other _ _ (λ z=>by rw [<- z,g7] at hb; cases hb; exact nf ts g8)]
  exact hb
 ·exact ⟨oe,vs,T,_,_,(Heap.get?_update_other _ _ g6).trans g1,g2,g3,g4,g5,g6,Heap.get?_update_self _ g7 (Obj.isFreed_of_fields (Obj.data_mapFields g8 _)),Obj.data_mapFields g8 _,by simp [three]⟩
theorem a9F {base:Heap} {env:Env} {outer:List Env} {L e:Addr} {cls a0 fl:Value} {Q:Unit->Shared->Prop} (hfr:A.frames=some (env::outer)) (hf:env.frame=some L) (st:base.StaysIn s.heap) (ne:base.get? e=none) (ff:s.heap.FunFrames base (env::outer)) (ht:s.heap.TracedAtW base e cls a0 fl) (cx:Ctx0 s.heap e)
  (hQ:∀ h',FlyX base outer e cls a0 h'->s.heap.UpToSlots h'->Q () { s with heap:=h' }):wpAny M A (leaving env (.ref e)) Q E s:=by
 by_cases c:fl=rawInt L
 ·subst c
  unfold leaving
  refine wpAny_bind (wpAny_noteFrame_againW hf ht (b7C ⟨st,ne,ff,ht⟩ cx λ h' ⟨k1,k2,k3,k4⟩ up c'=>hQ h' ⟨⟨k1,k2,k3.2.2,k4⟩,c'⟩ up))
 obtain ⟨oe,vs,T,oT,ts,g1,⟨g2,g2'⟩,g3,g4,g5,g6,g7,g8,g9⟩:=ht
 subst g2
 have three:3 < ts.size:=(Array.getElem?_eq_some_iff.mp g9).1
 unfold leaving noteFrame
 simp only [hf]
 refine wpAny_bind (wpAny_bind (wpAny_field g1 g3 g4 ?_))
 rw [if_pos (by simp)]
 refine wpAny_bind (wpAny_field g7 g8 g9 ?_)
 rw [if_neg (by simpa using c)]
 refine wpAny_bind (wpAny_setField g7 g8 three ?_)
 have far:∀ b o,s.heap.get? b=some o->(∀ vs,o.data ≠ .fields vs)->b≠T:=λ b o hb nf z=>by
  rw [z,g7] at hb
  cases hb
  exact nf ts g8
 refine a9E hfr (ff.of_keeps λ b o hb nf=>⟨o,(Heap.get?_update_other _ _ (Ne.symm (far b o hb nf))).trans hb,rfl⟩) hf ((Heap.get?_update_other _ _ g6).trans g1) (λ b o hb=>(Heap.get?_update_other _ _ λ z=>by rw [<- z,g5] at hb; cases hb).trans (st b o hb)) ne g3 (Array.getElem?_eq_some_iff.mp g4).1 g2' (cx.at g1 g3) λ h' ⟨x1,x2,x3,x4⟩ c'=>?_
 refine a6F x1 x2 x3 c' λ h2 y1 y2 y3 y4 y5=>hQ h2 ⟨⟨y1,ne,y2.2.2,y3⟩,y5⟩ λ b o hb nf=>?_
 obtain ⟨sl,q⟩:=x4 b o ((Heap.get?_update_other _ _ (Ne.symm (far b o hb nf))).trans hb) nf
 obtain ⟨sl2,q2⟩:=y4 b _ q nf
 exact ⟨sl2,q2⟩
end
section
variable {X:Cx} {pins:List (Addr × Obj)} {σ:St} {H1:Hp} {s1 s3:Shared} {e:Value} {E:XK}
def a6W (X:Cx) (E:XK):Prop:=∀ e s',wpAny (model X.prog X.w) X.A (leaving X.env e) (λ _ s''=>CXE X.prog X.w X.outer X.H₀ X.s₀ E e s'') (λ _ _=>False) s'->X.xe e s'
theorem b0W (O:Own X) (hL:a6W X E) (J:Inv X pins σ H1 s1) (h:CXE X.prog X.w X.stack H1 s1 E e s3) {C:Addr} {m:Str->Option Value} (hn:s1.heap.Ns C m) (hC:H1 C=none) (nC:C ∉ frs X.stack) (gC:X.s₀.heap.objs.size<=C) {sc:Scope} {cl:List (Str × Addr)} {E':Value->Shared->Prop} :
  wpAny (model X.prog X.w) X.A (noteFrame e (compEnvC sc cl C X.env)) (λ _ s'=>∃ m,s'.heap.Ns C m/\∀ h',Heap.SameBut C s'.heap h'->∀ cenv:Env,cenv.locals=C->wpAny (model X.prog X.w) X.A (PySem.passOn "comprehension.variables-let-go" e cenv:Sem Value) (λ _ _=>False) X.xe { s' with heap:=h' }) E' s3:=by
 obtain ⟨p,Cl,a0,B,H',rfl,os,bare,fl,hok,u,fr,hp,hE⟩:=h
 show wpAny (model X.prog X.w) X.A (noteFrame (.ref p) X.env) _ _ s3
 rw [O.stk] at fl
 refine b7B (by rw [J.ok.frames,O.stk]) O.fr fl.1 fl.2 λ h3 held up3 cx3=>?_
 obtain ⟨oC,es,ep,q1,q2,q3⟩:=hn
 have bC:B.get? C=some oC:=u.keep C oC q1 hC nC
 have c3:h3.get? C=some oC:=held.1 C oC bC
 refine ⟨m,⟨oC,es,ep,c3,q2,q3⟩,λ h' sb cenv _=>?_⟩
 obtain ⟨B',d1,d2⟩:=b2S B C
 have none':∀ b,B.get? b=none->B'.get? b=none:=λ b hb=>by
  by_cases z:b=C
  ·rw [z]; exact d2
  ·rw [d1 b z]; exact hb
 have some':∀ b o,B'.get? b=some o->b≠C/\B.get? b=some o:=λ b o hb=>by
  have z:b≠C:=λ z=>by rw [z,d2] at hb; cases hb
  exact ⟨z,by rw [<- d1 b z]; exact hb⟩
 obtain ⟨k1,k2,k3,oe,vs,T,oT,ts,g1,g2,g3,g4,g5,g6,g7,g8,g9⟩:=held
 have pC:p≠C:=λ z=>by
  rw [z,c3] at g1
  cases g1
  rw [q2] at g3
  cases g3
 have TC:T≠C:=λ z=>by rw [z,bC] at g5; cases g5
 have st':B'.StaysIn h':=λ b o hb=>by
  obtain ⟨z,hb'⟩:=some' b o hb
  rw [sb.2 b z]
  exact k1 b o hb'
 have nC':C ∉ frs (X.env::X.outer):=by rw [<- O.stk]; exact nC
 have ff':h'.FunFrames B' (X.env::X.outer):=b1X sb.2 none' nC' k3
 refine b2T (s:={ s3 with heap:=h' }) (base:=B') st' ⟨oe,vs,T,oT,ts,(sb.2 p pC).trans g1,g2,g3,g4,none' T g5,g6,(sb.2 T TC).trans g7,g8,g9⟩ (cx3.keep λ o q=>(sb.2 p pC).trans q) λ h4 fl4 cx4 st4 up4 tr4=>?_
 refine hL _ _ ?_
 refine a9F (s:={ s3 with heap:=h4 }) (base:=B') (by rw [J.ok.frames,O.stk]) O.fr st4 (none' p k2) (ff'.of_keeps λ b o hb nf=>⟨o,up4 b o hb nf,rfl⟩) tr4 cx4 λ h5 fl5 up5=>?_
 have hok':HOk X.prog X.w H' B':=λ b o hb=>by
  have nb:∀ c v,H' c=some v->c≠C:=λ c v q z=>by
   have:=u.free C oC q1 hC
   rw [z,this] at q; cases q
  refine (hok b o hb).stay (λ c v hc q=>?_) (λ _ q=>q) λ _ _ q=>q
  rw [d1 c ?_]
  ·exact q
  ·rcases hc with rfl | hc
   ·exact nb _ _ hb
   ·exact nb _ _ hc
 have U:=J.unB O u
 refine ⟨p,Cl,a0,B',H',rfl,os.trans J.os,bare,fl5,hok',⟨λ b o hb n hf=>?_,U.free,λ b o hb hf=>?_,U.tups,U.frzs,U.tbls⟩,λ b hb o ho=>?_,hp,hE⟩
 ·rw [d1 b (Nat.ne_of_lt (Nat.lt_of_lt_of_le (Heap.lt_size hb) gC))]
  exact U.keep b o hb n hf
 ·obtain ⟨o',q⟩:=U.there b o hb hf
  exact ⟨o',by rw [d1 b (Nat.ne_of_lt (Nat.lt_of_lt_of_le (Heap.lt_size hb) gC))]; exact q⟩
 ·obtain ⟨sl,q⟩:=J.slots O fr up3 b hb o ho
  have bn:b≠C:=Nat.ne_of_lt (Nat.lt_of_lt_of_le (Heap.lt_size ho) gC)
  obtain ⟨_,of,hof,hnf⟩:=J.ok.funs.mem hb
  rw [ho] at hof
  cases hof
  obtain ⟨sl2,q2⟩:=up5 b _ (up4 b _ ((sb.2 b bn).trans q) hnf) hnf
  exact ⟨sl2,q2⟩
end
section
variable {X:Cx} {elt tg iter:Expr} {ifs:List Expr} {scope:Scope} {pos:Pos} {N':List Str} {ix:List (Option Nat)} {wi:TI} {g:TG} {tt:TT} {te:TE}
theorem b2U (B:BlkOk X N' ix scope) (hc:X.calm=true) {EX:XK} (O:Own X) (hL:a6W X EX)
  (hg:∀ C s H fp xe,PG (a1F X N' scope C s H fp xe) tg g) (ht:∀ C s H fp xe,PTs (a1F X N' scope C s H fp xe) ifs tt) (he:∀ C s H fp xe,a3W (CXE X.prog X.w) (a1F X N' scope C s H fp xe) EX->PE (a1F X N' scope C s H fp xe) elt te)
  {pins:List (Addr × Obj)} {s2:Shared} {σ:St} {H2:Hp} {Q:VK} {it:Addr} {fp:List Addr} {tn:Nat->Heap->Prop} {J:It} {RR:Value->Addr->Result->Shared->Prop} {E:Value->Shared->Prop}
  (I2:Inv X pins σ H2 s2) (T:Turn X.prog X.w X.K tg J fp it tn) (st2:tn 0 s2.heap) (f2:∀ b∈fp,FpOk X pins H2 b)
  (q:∃ W:Nat->Nat->List V->Hp->Prop,(∃ m,W 0 m [] H2)/\∀ i m ys H,W i m ys H ->
   (J.stop i H/\ys.length<=sizeLine/\∀ p,H p=none->Q (.ref p) (upd H p (.lst ys))) \/
   (J.go i H/\ys.length<=sizeLine/\∃ N:List V->Hp->Prop,(∀ ys' H',N ys' H'->∃ m',m' < m/\W (i+1) m' ys' H')/\∀ x H',J.yld i H x H'->g x (capt ix σ) H' λ σ2 H2=>tt σ2 H2 λ b H3=>if b=true then te σ2 H3 λ v H4=>N (ys++[v]) H4 else N ys H3))
  (hRR:∀ D C s' H' ys,Inv X pins σ (upd H' D (.lst ys)) s'->H' D=none->Q (.ref D) (upd H' D (.lst ys))->(∃ m,s'.heap.Ns C m)->upd H' D (.lst ys) C=none->C≠X.env.locals->X.s₀.heap.objs.size<=C->(∀ x c,X.env.cells.lookup x=some c->c≠C)->(∀ p∈X.pn++pins,p.1≠C)->RR (.ref D) C (.ok .next) s')
  (hRX:∀ D C e s',(∃ m,s'.heap.Ns C m/\∀ h',Heap.SameBut C s'.heap h'->∀ cenv:Env,cenv.locals=C->wpAny (model X.prog X.w) X.A (PySem.passOn "comprehension.variables-let-go" e cenv:Sem Value) (λ _ _=>False) X.xe { s' with heap:=h' })->RR D C (.error e) s') :
  wpAny (model X.prog X.w) X.A (newList []) (λ acc s₃=>wpAny (model X.prog X.w) X.A (newFunctionEnv scope X.env.globals (clOf X.env.cells scope.names []) [] X.env.qual none .none (some X.env)) (λ cenv s₄ =>
   codeAny (model X.prog X.w) X.A (.compStart (.ListComp elt [⟨tg,iter,ifs,0⟩] scope pos) 0 (.ref it) acc { cenv with scope:=relabel scope X.env }) (RR acc cenv.locals) s₄) E s₃) E s2:=by
 have hfs:∀ b∈fp,b < s2.heap.objs.size:=λ b hb=>by
  obtain ⟨o,e,_⟩:=T.obj _ _ st2 b hb
  exact Heap.lt_size e
 refine wpAny_newObj_type (wpAny_newFunctionEnv B.nocell (by intro y hy; simp at hy) (λ h₁ hns₁ hsb₁=>?_) B.kind)
 dsimp only at hns₁ hsb₁ ⊢
 generalize hH3:s2.heap.push { cls:=.type "list", dict:=none,data:=.seq ([]:List Value).toArray }=H3 at hns₁ hsb₁ ⊢
 have hC:H3.objs.size=s2.heap.objs.size+1:=by rw [<- hH3,Heap.size_push]
 have hDC:s2.heap.objs.size≠H3.objs.size:=by rw [hC]; exact Nat.ne_of_lt (Nat.lt_succ_self _)
 have below:∀ b,b < s2.heap.objs.size->b≠H3.objs.size/\b≠s2.heap.objs.size:=λ b hb=>⟨by rw [hC]; exact Nat.ne_of_lt (Nat.lt_succ_of_lt hb),Nat.ne_of_lt hb⟩
 have old:∀ b o,s2.heap.get? b=some o->h₁.get? b=some o:=λ b o e=>hsb₁.extBut b o (below b (Heap.lt_size e)).1 (Heap.get?_push_of_some _ (hH3 ▸ Heap.get?_push_of_some _ e))
 have hacc:h₁.get? s2.heap.objs.size=some { cls:=.type "list", data:=.seq ([]:List Value).toArray 0 }:=hsb₁.extBut _ _ hDC (Heap.get?_push_of_some _ (hH3 ▸ Heap.get?_push_size _ rfl))
 have hCle:s2.heap.objs.size<=H3.objs.size:=by rw [hC]; exact Nat.le_succ _
 generalize hD:s2.heap.objs.size=D at *
 generalize hCC:H3.objs.size=C at *
 obtain ⟨W,⟨m0,w0⟩,turn⟩:=q
 let xe:Value->Shared->Prop:=notedBy (model X.prog X.w) X.A (compEnvC scope (clOf X.env.cells scope.names []) C X.env) λ e s'=>RR (.ref D) C (.error e) s'
 let X':Cx:=a1F X N' scope C s2 H2 fp xe
 have DL:D ∉ frs X.stack:=λ z=>by
  rcases List.mem_cons.mp (I2.stkSub D z) with e | e
  ·exact absurd I2.lt (by rw [<- e,hD]; exact Nat.lt_irrefl _)
  ·exact I2.nofs (by rw [hD]; exact Nat.le_refl _) e
 have CL:C ∉ frs X.stack:=λ z=>by
  rcases List.mem_cons.mp (I2.stkSub C z) with e | e
  ·exact absurd (Nat.lt_of_lt_of_le I2.lt (by rw [hD]; exact hCle)) (by rw [e]; exact Nat.lt_irrefl _)
  ·exact I2.nofs (by rw [hD]; exact hCle) e
 have pass:a3W (CXE X.prog X.w) X' EX:=λ pins' σ' H1 s1 e s3 I1 hx=>by
  have J:Inv X pins σ H1 s1:=I2.call' (ch:=fp) I1.os I1.base I1.hok I1.bare λ b hb=>by
   obtain ⟨_,q1,_,q3,q4,q5⟩:=f2 b hb
   exact ⟨q3,q1,q4,q5⟩
  obtain ⟨m1,hn1,_⟩:=I1.loc
  exact wpAny_mono (b0W O hL J hx (C:=C) hn1 I1.free CL (Nat.le_trans I2.sz (by rw [hD]; exact hCle))) (λ _ s' q=>hRX (.ref D) C e s' q) λ _ _ z=>z
 have cellLt:∀ x c,X.env.cells.lookup x=some c->c < D:=λ x c e=>by
  obtain ⟨v,oc,h,_⟩:=I2.cell x c e
  rw [<- hD]; exact Heap.lt_size h
 have clB:∀ x c,(clOf X.env.cells scope.names []).lookup x=some c->X.env.cells.lookup x=some c:=λ x c h=>a2D scope.names [] (λ _ _ z=>by simp at z) h
 have pinLt:∀ p∈X.pn++pins,p.1 < D:=λ p hp=>by rw [<- hD]; exact Heap.lt_size (I2.pin p hp).1
 have fpX:∀ {pl:List (Addr × Obj)} {H':Hp},(∀ b∈fp,H' b=none)->(∀ p∈pl,p∈pins\/p.1=D)->∀ b∈fp,FpOk X' pl H' b:=λ {pl H'} hn hpl b hb=>by
  obtain ⟨_,q1,q2,q3,q4,q5⟩:=f2 b hb
  refine ⟨hn b hb,(below b (hfs b hb)).1,λ z=>?_,.inl hb,λ x c e=>q4 x c (clB x c e),λ p hp=>?_⟩
  ·rcases List.mem_cons.mp (I2.stkSub b z) with e | e
   ·exact q1 e
   ·exact q2 e
  ·rcases List.mem_append.mp hp with hp | hp
   ·exact q5 p (List.mem_append_left _ hp)
   ·rcases hpl p hp with z | z
    ·exact q5 p (List.mem_append_right _ z)
    ·rw [z]; exact Ne.symm (below b (hfs b hb)).2
 have loop:∀ s₃:Shared,s₃={ s2 with heap:=h₁,toks:=s2.toks+([]:List (Str × Value)).length } ->
   codeAny (model X.prog X.w) X.A (.compLoop (.ListComp elt [⟨tg,iter,ifs,0⟩] scope pos) 0 (.ref it) (.ref D) (compEnvC scope (clOf X.env.cells scope.names []) C X.env)) (RR (.ref D) C) s₃:=by
  rintro s₃ rfl
  refine a3E (λ n s'=>∃ i H' ys its k,Inv X' pins (capt ix σ) H' s'/\tn i s'.heap/\(∀ b∈fp,H' b=none)/\H' D=none/\s'.heap.get? D=some { cls:=.type "list", data:=.seq (List.toArray its) k }/\Vals ys its/\W i n ys H') ?_ m0
   ⟨0,H2,[],[],0,a5K B I2 f2 (by rw [hD]; exact hCle) (λ b hb=>by rw [hD]; exact hfs b hb) rfl rfl old hns₁,T.keep _ _ _ st2 λ b _ o e=>old b o e,λ b hb=>(f2 b hb).1,I2.hok.fresh (by rw [hD]; exact Nat.le_refl _),hacc,.nil,w0⟩
  rintro n s' ⟨i,H',ys,its,k,I',st',fr',hDn,hDo,rv,w'⟩
  have hDX:∀ v,({ cls:=.type "list", data:=.seq (List.toArray its) k }:Obj).data ≠ .cell v:=λ v z=>by
   have z':Data.seq (List.toArray its) k=Data.cell v:=z
   cases z'
  have pinD:∀ {σ':St} {H'':Hp} {s'':Shared} {its':List Value} {k':Nat},Inv X' pins σ' H'' s''->H'' D=none->s''.heap.get? D=some { cls:=.type "list", data:=.seq (List.toArray its') k' }->Inv X' (pins++[(D,{ cls:=.type "list", data:=.seq (List.toArray its') k' })]) σ' H'' s'':=λ {σ' H'' s'' its' k'} J hn ho =>
   J.pins_of λ p hp=>(List.mem_append.mp hp).elim (λ z=>J.pin p (List.mem_append_right _ z)) λ z=>by
    have e:p=(D,{ cls:=.type "list", data:=.seq (List.toArray its') k' }):=by simpa using z
    subst e
    exact ⟨ho,hn,hDC,DL,λ v z=>by
     have z':Data.seq (List.toArray its') k'=Data.cell v:=z
     cases z'⟩
  have plD:∀ {its':List Value} {k':Nat},∀ p∈pins++[(D,({ cls:=.type "list", data:=.seq (List.toArray its') k' }:Obj))],p∈pins\/p.1=D:=λ {its' k'} p hp=>(List.mem_append.mp hp).elim .inl λ z=>by
   have e:p=(D,{ cls:=.type "list", data:=.seq (List.toArray its') k' }):=by simpa using z
   subst e
   exact .inr rfl
  have unD:∀ {pl:List (Addr × Obj)} {σ':St} {H'':Hp} {s'':Shared},Inv X' (pins++pl) σ' H'' s''->Inv X' pins σ' H'' s'':=λ J=>J.pins_of λ p hp=>J.pin p (List.mem_append_right _ (List.mem_append_left _ hp))
  have I'p:=pinD I' hDn hDo
  rcases turn i n ys H' w' with ⟨stop,hsz,fin⟩ | ⟨go,hsz,N,hN,step⟩
  ·refine wpAny_mono (T.done X' rfl rfl rfl hc i _ s' (capt ix σ) H' X'.xe I'p (fpX fr' plD) st' stop) (λ r s5 ⟨hr,I5⟩=>?_) λ _ _ z=>z
   subst hr
   have hDo5:s5.heap.get? D=some { cls:=.type "list", data:=.seq (List.toArray its) k }:=(I5.pin (D,_) (List.mem_append_right _ (List.mem_append_right _ (List.mem_singleton.mpr rfl)))).1
   have sz0:X.s₀.heap.objs.size<=D:=by rw [<- hD]; exact I2.sz
   have J:Inv X pins σ H' s5:=I2.call' (ch:=fp) I5.os I5.base I5.hok I5.bare λ b hb=>by
    obtain ⟨_,q1,_,q3,q4,q5⟩:=f2 b hb
    exact ⟨q3,q1,q4,q5⟩
   have nL:X.env.locals < D:=by rw [<- hD]; exact I2.lt
   have J2:Inv X pins σ (upd H' D (.lst ys)) s5:=Inv.track J hDn sz0 (Nat.ne_of_gt nL) (λ x c e=>Nat.ne_of_lt (cellLt x c e)) (λ p hp=>Nat.ne_of_lt (pinLt p hp)) ⟨hsz,its,k,rv,hDo5⟩
   obtain ⟨mC,hnC,_⟩:=I5.loc
   have DltC:D < C:=Nat.lt_of_le_of_ne hCle hDC
   refine hRR D C s5 H' ys J2 hDn (fin D hDn) ⟨mC,hnC⟩ ?_ (Nat.ne_of_gt (Nat.lt_trans nL DltC)) (Nat.le_trans sz0 hCle) (λ x c e=>Nat.ne_of_lt (Nat.lt_trans (cellLt x c e) DltC)) λ p hp=>Nat.ne_of_lt (Nat.lt_trans (pinLt p hp) DltC)
   rw [a0P (Ne.symm hDC)]
   exact I5.free
  ·refine wpAny_mono (T.item X' rfl rfl rfl hc i _ s' (capt ix σ) H' X'.xe I'p (fpX fr' plD) st' go) (λ r s5 ⟨u,hr,h5⟩=>?_) λ _ _ z=>z
   subst hr
   refine wpAny_mono h5 (λ _ s6 ⟨x,H6,I6,r6,y6,st6,fr6⟩=>?_) λ _ _ z=>z
   have I6':=I6.pinned (fpX fr6 plD) (T.obj _ _ st6)
   refine wpAny_mono (hg C s2 H2 fp xe _ s6 (capt ix σ) H6 x u _ I6' r6 (step x H6 y6)) (λ _ s7 ⟨σ7,H7,I7,q7⟩=>?_) λ _ _ z=>z
   have after:∀ {σ8:St} {H8:Hp} {s8:Shared},Inv X' ((pins++[(D,{ cls:=.type "list", data:=.seq (List.toArray its) k })])++a3U fp s6.heap) σ8 H8 s8 ->
     Inv X' pins (capt ix σ) H8 s8/\tn (i+1) s8.heap/\(∀ b∈fp,H8 b=none)/\H8 D=none/\s8.heap.get? D=some { cls:=.type "list", data:=.seq (List.toArray its) k }:=λ {σ8 H8 s8} I8=>by
    have pD:=I8.pin (D,{ cls:=.type "list", data:=.seq (List.toArray its) k }) (List.mem_append_right _ (List.mem_append_left _ (List.mem_append_right _ (List.mem_singleton.mpr rfl))))
    have fpP:∀ b∈fp,∀ o,s6.heap.get? b=some o->s8.heap.get? b=some o/\H8 b=none:=λ b hb o e=>by
     have z:=I8.pin (b,o) (List.mem_append_right _ (List.mem_append_right _ (a1T hb e)))
     exact ⟨z.1,z.2.1⟩
    refine ⟨⟨I8.ok,I8.os,I8.bare,I8.base,?_,I8.cell,I8.free,I8.freeC,λ p hp=>?_,I8.hok,?_⟩,T.keep _ _ _ st6 λ b hb o e=>(fpP b hb o e).1,λ b hb=>?_,pD.2.1,pD.1⟩
    ·obtain ⟨m8,hn8,_⟩:=I8.loc
     refine ⟨m8,hn8,λ i x v h1 h2 h3=>?_⟩
     obtain ⟨u,c,r,hc1,hc2,⟨oc,z1,z2⟩,hk'⟩:=a3D B I2 h1 h2
     obtain ⟨sl,e8⟩:=I8.base.any z1 (I2.freeC x c hc2) λ z=>(f2 c z).2.2.2.2.1 x c hc2 rfl
     exact ⟨u,r,.inr ⟨hk',c,hc1,_,e8,z2⟩⟩
    ·rcases List.mem_append.mp hp with hp | hp
     ·exact I8.pin p (List.mem_append_left _ hp)
     ·exact I8.pin p (List.mem_append_right _ (List.mem_append_left _ (List.mem_append_left _ hp)))
    ·show (capt ix σ).length=N'.length
     unfold capt
     rw [List.length_map]; exact B.len
    ·obtain ⟨o,e,_⟩:=T.obj _ _ st6 b hb
     exact (fpP b hb o e).2
   refine wpAny_mono (ht C s2 H2 fp xe _ s7 σ7 H7 _ I7 q7) (λ b s8 ⟨H8,I8,q8⟩=>?_) λ _ _ z=>z
   cases b with
   | false =>
    rw [if_neg Bool.false_ne_true] at q8 ⊢
    obtain ⟨m',hm,w8⟩:=hN _ _ q8
    obtain ⟨J,tn8,f8,d8,o8⟩:=after I8
    exact ⟨m',hm,i+1,H8,ys,its,k,J,tn8,f8,d8,o8,rv,w8⟩
   | true =>
    rw [if_pos rfl] at q8 ⊢
    refine wpAny_mono (he C s2 H2 fp xe pass _ s8 σ7 H8 _ I8 q8) (λ v s9 ⟨y,H9,I9,r9,q9⟩=>?_) λ _ _ z=>z
    obtain ⟨J,tn9,f9,d9,o9⟩:=after I9
    obtain ⟨m',hm,w9⟩:=hN _ _ q9
    refine append_at (hsz:=by rw [List.size_toArray,<- rv.length]; exact hsz) o9 λ h10 hs10 hD10=>?_
    refine ⟨m',hm,i+1,H9,ys++[y],its++[v],k+1,?_,T.keep _ _ _ tn9 λ b hb o e=>hs10.extBut b o (λ z=>?_) e,f9,d9,by rw [List.push_toArray] at hD10; exact hD10,rv.append (.cons r9 .nil),w9⟩
    ·refine J.turned (t':=s9.toks) (it:=D) (λ b o hb e=>hs10.extBut b o hb e) d9 hDC (.inr (by show s2.heap.objs.size<=D; rw [hD]; exact Nat.le_refl _)) (λ x c e=>Nat.ne_of_lt (cellLt x c (clB x c e))) λ p hp=>Nat.ne_of_lt (pinLt p hp)
    ·exact (below b (hfs b hb)).2 z
 exact codeAny_compStart_list (loop _ rfl) (T.self X.A 0 _ _ _ (T.keep _ _ _ st2 λ b _ o e=>old b o e) (loop _ rfl))
theorem b5I {EX:XK} (N':List Str) (ix:List (Option Nat)) (hB:a2V X.env.scope X.N N' ix scope=true) (hc:X.calm=true) (O:Own X) (hL:a6W X EX) (hi:PI X tg iter wi)
  (hg:∀ C s H fp xe,PG (a1F X N' scope C s H fp xe) tg g) (ht:∀ C s H fp xe,PTs (a1F X N' scope C s H fp xe) ifs tt) (he:∀ C s H fp xe,a3W (CXE X.prog X.w) (a1F X N' scope C s H fp xe) EX->PE (a1F X N' scope C s H fp xe) elt te)
  (hs:∀ x,foldedSetIterable iter X.env x=pure x:=by intro _; rfl):PE X (.ListComp elt [⟨tg,iter,ifs,0⟩] scope pos) (tLC ix wi g tt te):=by
 intro pins s σ H Q I h
 have B:=b1W hB
 rw [eval_ListComp]
 refine wpAny_comprehension_free (use:=none) rfl hs (a3X λ y hy hf=>I.ok.has y.1 (B.free y hy hf)) B.kind B.locs (thn (hi pins s σ H _ I h) λ v s1 h1=>thn h1 λ itv s2 h2=>?_)
 obtain ⟨it,fp,tn,J,H2,e,I2,T,st2,f2,q⟩:=h2
 subst e
 refine b2U B hc O hL hg ht he I2 T st2 f2 q ?_ λ D C e s' z=>z
 intro D C s' H' ys J2 hDn hq ⟨m,hn⟩ hC1 hC2 hC3 hC4 hC5
 refine ⟨m,hn,λ h' hs'=>?_⟩
 exact ⟨.ref D,_,J2.turned (t':=s'.toks) (it:=C) (λ b o hb e=>hs'.extBut b o hb e) hC1 hC2 (.inr hC3) hC4 hC5,rfl,hq⟩
end
theorem b5J {CX:CXT} {P:Program} {w:World} {K:Φρ} {mg:Str->Option Value} {base:Heap} {N:List Str} {qual:Str} {scope:Scope} {f:Addr} {cd:Value} {A:Around} {outer:List Env} {s:Shared} {H:Hp} {E:XK}:Own (cxOf CX P w K mg base N qual scope f cd A outer s H E):=⟨rfl,rfl,rfl⟩
theorem a9G {P:Program} {w:World} {K:Φρ} {mg:Str->Option Value} {base:Heap} {N:List Str} {qual:Str} {scope:Scope} {f:Addr} {cd:Value} {A:Around} {outer:List Env} {s:Shared} {H:Hp} {E:XK}:a6W (cxOf (CXE P w) P w K mg base N qual scope f cd A outer s H E) E:=λ _ _ h=>wpAny_mono h (λ _ _ z=>z) λ _ _ z=>z.elim
section
variable {X:Cx} {pos np:Pos} {t t0:TS} {p C:Addr}
end
end L2
set_option maxHeartbeats 1000000
namespace Sm
open PySem
def a9H (xs:Array Nat) (j k:Nat):Prop:=k<=xs.size/\∀ i (h:i < xs.size),xs[i] < j↔i < k
theorem b0X {xs:Array Nat} (h:xs.toList.Pairwise (· < ·)) {i k:Nat} (hi:i < xs.size) (hk:k < xs.size) (ik:i < k):xs[i] < xs[k]:=by
 have:=List.pairwise_iff_getElem.mp h i k (by grind) (by grind) ik
 grind
theorem b7E {xs:Array Nat} {j:Nat} (h:xs.toList.Pairwise (· < ·)):∀ (fuel lo hi:Nat),hi - lo<=fuel->lo<=hi->hi<=xs.size ->
  (∀ i (z:i < xs.size),i < lo->xs[i] < j)->(∀ i (z:i < xs.size),hi<=i->j<=xs[i])->a9H xs j (SetTable.below.go xs j fuel lo hi):=by
 intro fuel
 induction fuel with
 | zero =>
  intro lo hi a b c d e
  unfold SetTable.below.go
  have:lo=hi:=by omega
  subst this
  exact ⟨c,λ i z=>⟨λ q=>by
   rcases Nat.lt_or_ge i lo with g | g
   ·exact g
   ·have:=e i z g
    omega,λ q=>d i z q⟩⟩
 | succ f ih =>
  intro lo hi a b c d e
  unfold SetTable.below.go
  by_cases q:lo < hi
  ·rw [if_pos q]
   dsimp only
   have m1:lo<=(lo+hi) / 2:=by omega
   have m2:(lo+hi) / 2 < hi:=by omega
   have m3:(lo+hi) / 2 < xs.size:=by omega
   have ge:xs.getD ((lo+hi) / 2) j=xs[(lo+hi) / 2]:=by simp [Array.getD,m3]
   rw [ge]
   by_cases r:xs[(lo+hi) / 2] < j
   ·rw [if_pos r]
    refine ih _ _ (by omega) (by omega) c (λ i z hi'=>?_) e
    rcases Nat.lt_or_ge i ((lo+hi) / 2) with g | g
    ·have:=b0X h z m3 g
     omega
    ·have:i=(lo+hi) / 2:=by omega
     subst this
     exact r
   ·rw [if_neg r]
    refine ih _ _ (by omega) (by omega) (by omega) d (λ i z hi'=>?_)
    rcases Nat.lt_or_ge ((lo+hi) / 2) i with g | g
    ·have:=b0X h m3 z g
     omega
    ·have:i=(lo+hi) / 2:=by omega
     subst this
     omega
  ·rw [if_neg q]
   have:lo=hi:=by omega
   subst this
   exact ⟨c,λ i z=>⟨λ q=>by
    rcases Nat.lt_or_ge i lo with g | g
    ·exact g
    ·have:=e i z g
     omega,λ q=>d i z q⟩⟩
theorem a2G {xs:Array Nat} (h:xs.toList.Pairwise (· < ·)) (j:Nat):a9H xs j (SetTable.below xs j) :=
 b7E h _ _ _ (by omega) (Nat.zero_le _) (Nat.le_refl _) (λ i z q=>absurd q (Nat.not_lt_zero _)) (λ i z q=>absurd z (by omega))
theorem a6X {xs:Array Nat} (h:xs.toList.Pairwise (· < ·)) {k:Nat} (hk:k < xs.size):SetTable.below xs (xs[k])=k:=by
 obtain ⟨a,b⟩:=a2G h xs[k]
 rcases Nat.lt_trichotomy (SetTable.below xs xs[k]) k with g | g | g
 ·have c:=(b (SetTable.below xs xs[k]) (by omega)).mp (b0X h (by omega) hk g)
  omega
 ·exact g
 grind
theorem a7T {xs:Array Nat} (h:xs.toList.Pairwise (· < ·)):SetTable.below xs 0=0:=by
 obtain ⟨a,b⟩:=a2G h 0
 rcases Nat.eq_zero_or_pos (SetTable.below xs 0) with g | g
 ·exact g
 grind
theorem a7U {xs:Array Nat} (h:xs.toList.Pairwise (· < ·)) {k:Nat} (hk:k < xs.size):SetTable.below xs (xs[k]+1)=k+1:=by
 obtain ⟨a,b⟩:=a2G h (xs[k]+1)
 have c:=(b k hk).mp (by omega)
 rcases Nat.lt_or_ge (k+1) (SetTable.below xs (xs[k]+1)) with g | g
 ·have e:=(b (k+1) (by omega)).mpr g
  have:=b0X h hk (show k+1 < xs.size by omega) (Nat.lt_succ_self _)
  omega
 ·omega
theorem a6H (j:Nat):SetTable.has #[] j=false:=by
 unfold SetTable.has
 simp
theorem a3Z {t:SetTable} (dm:t.dummies = #[]) {j:Nat} (h:j ∉ t.place.toList):t.slot j = .empty:=by
 unfold SetTable.slot
 have e:(t.place[SetTable.below t.place j]? == some j)=false:=by
  grind
 dsimp only
 rw [e,dm,a6H]
 rfl
theorem a9I {t:SetTable} (up:t.place.toList.Pairwise (· < ·)) {j:Nat} (h:j∈t.place.toList):∃ i,t.slot j = .live i:=by
 obtain ⟨k,hk,e⟩:=List.getElem_of_mem h
 have hk':k < t.place.size:=by grind
 have e':t.place[k]=j:=by simpa using e
 unfold SetTable.slot
 have q:SetTable.below t.place j=k:=by rw [<- e']; exact a6X up hk'
 dsimp only
 rw [q]
 have:(t.place[k]? == some j)=true:=by grind
 rw [this]
 grind
def adv (mask:Nat) (p:SetTable.Probe):SetTable.Probe :=
 if 0 < p.more then { p with more:=p.more - 1,j:=p.j+1 } else
 { p with j:=(SetTable.leap mask p.i p.perturb).1,more:=SetTable.runEnd mask (SetTable.leap mask p.i p.perturb).1 - (SetTable.leap mask p.i p.perturb).1,i:=(SetTable.leap mask p.i p.perturb).1,perturb:=(SetTable.leap mask p.i p.perturb).2 }
theorem b5K (t:SetTable) (p:SetTable.Probe):t.advance p=adv t.mask p:=by
 unfold SetTable.advance adv
 rfl
def nth (mask:Nat) (p:SetTable.Probe):Nat->SetTable.Probe
 | 0=>p
 | k+1=>nth mask (adv mask p) k
theorem a9J (m:Nat) (p:SetTable.Probe):(adv m p).dummy=p.dummy:=by
 unfold adv
 split <;> rfl
theorem a9K:∀ (l m:List Nat),l.Nodup->(∀ x∈l,x∈m)->l.length<=m.length
 | [],_,_,_=>Nat.zero_le _
 | a::r,m,nd,h=>by
  have am:a∈m:=h a List.mem_cons_self
  obtain ⟨n1,n2⟩:=List.nodup_cons.mp nd
  have q:=a9K r (m.erase a) n2 λ x hx=>(List.mem_erase_of_ne (λ e=>n1 (by grind))).mpr (h x (List.mem_cons_of_mem _ hx))
  grind
theorem b5L {xs:Array Nat} (up:xs.toList.Pairwise (· < ·)) {j:Nat} (h:j ∉ xs.toList):(SetTable.insertAt xs (SetTable.below xs j) j).toList.Pairwise (· < ·):=by
 obtain ⟨a,b⟩:=a2G up j
 rw [SetTable.toList_insertAt]
 have z:∀ i (hi:i < xs.toList.length),xs.toList[i] < j↔i < SetTable.below xs j:=λ i hi=>by
  grind
 rw [List.pairwise_append]
 refine ⟨up.sublist (List.take_sublist _ _),?_,?_⟩
 ·rw [List.pairwise_cons]
  refine ⟨λ y hy=>?_,up.sublist (List.drop_sublist _ _)⟩
  obtain ⟨i,hi,e⟩:=List.getElem_of_mem hy
  grind
 ·intro x hx y hy
  obtain ⟨i,hi,e⟩:=List.getElem_of_mem hx
  rw [List.getElem_take] at e
  have hl:i < xs.toList.length:=by grind
  have hb:i < SetTable.below xs j:=by grind
  have x1:x < j:=by grind
  rcases List.mem_cons.mp hy with rfl | hy
  ·exact x1
  ·obtain ⟨k,hk,e2⟩:=List.getElem_of_mem hy
   grind
theorem a3I {α β:Type} {R:α->β->Prop}:∀ {xs:List α} {ys:List β} (n:Nat),Paired R xs ys->Paired R (xs.take n) (ys.take n)
 | _,_,0,_=>.nil
 | _,_,_+1,.nil=>.nil
 | _,_,n+1,.cons r t=>.cons r (a3I n t)
theorem a3J {α β:Type} {R:α->β->Prop}:∀ {xs:List α} {ys:List β} (n:Nat),Paired R xs ys->Paired R (xs.drop n) (ys.drop n)
 | _,_,0,r=>r
 | _,_,_+1,.nil=>.nil
 | _,_,n+1,.cons _ t=>a3J n t
theorem a4A {α β:Type} {R:α->β->Prop}:∀ {xs xs':List α} {ys ys':List β},Paired R xs ys->Paired R xs' ys'->Paired R (xs++xs') (ys++ys')
 | _,_,_,_,.nil,s=>s
 | _,_,_,_,.cons r t,s=>.cons r (a4A t s)
theorem paired_get {α β:Type} {R:α->β->Prop}:∀ {xs:List α} {ys:List β},Paired R xs ys->∀ (i:Nat) (h:i < ys.length),∃ x,xs[i]?=some x/\R x ys[i]
 | _,_,.nil,i,h=>by simp at h
 | _,_,.cons r t,0,h=>⟨_,rfl,r⟩
 | _,_,.cons r t,i+1,h=>by
  obtain ⟨x,e,q⟩:=paired_get t i (by simpa using h)
  grind
end Sm
set_option maxHeartbeats 1000000
namespace Sm
open PySem
end Sm
set_option maxHeartbeats 2000000
namespace Sp
open PySem Sm
def hP (x y:Nat):Int:=reduceHash (Builtin.Tuple.tupleHashOf [hashInt (x:Int),hashInt (y:Int)])
def a0Z (mask:Nat) (h:Int):SetTable.Probe:={ j:=SetTable.bits h % (mask+1),more:=SetTable.runEnd mask (SetTable.bits h % (mask+1)) - SetTable.bits h % (mask+1),i:=SetTable.bits h % (mask+1),perturb:=SetTable.bits h,dummy:=none }
def a7V (mask:Nat):Nat->SetTable.Probe->Nat->Nat
 | 0,_,m=>m
 | k+1,p,m=>a7V mask k (adv mask p) (m ||| 2 ^ p.j)
theorem b7F:((List.range 100).map λ k=>hP (k / 10) (k % 10)).Nodup:=by decide +kernel
theorem b1Y {x y u v:Nat} (hx:x < 10) (hy:y < 10) (hu:u < 10) (hv:v < 10) (e:hP x y=hP u v):x=u/\y=v:=by
 have np:=List.pairwise_map.mp b7F
 have key:∀ a b,a < b->b < 100->hP (a / 10) (a % 10)≠hP (b / 10) (b % 10):=λ a b ab b1=>by
  have:=List.pairwise_iff_getElem.mp np a b (by rw [List.length_range]; omega) (by rw [List.length_range]; exact b1) ab
  rw [List.getElem_range,List.getElem_range] at this
  exact this
 have e1:(10*x+y) / 10=x:=by omega
 have e2:(10*x+y) % 10=y:=by omega
 have e3:(10*u+v) / 10=u:=by omega
 have e4:(10*u+v) % 10=v:=by omega
 rcases Nat.lt_trichotomy (10*x+y) (10*u+v) with c | c | c
 ·have:=key _ _ c (by omega)
  rw [e1,e2,e3,e4] at this
  exact absurd e this
 ·omega
 ·have:=key _ _ c (by omega)
  rw [e1,e2,e3,e4] at this
  exact absurd e.symm this
theorem b5M:∀ x,x < 10->∀ y,y < 10->a7V 7 219 (a0Z 7 (hP x y)) 0=2 ^ 8 - 1:=by decide +kernel
theorem b2V:∀ x,x < 10->∀ y,y < 10->a7V 31 459 (a0Z 31 (hP x y)) 0=2 ^ 32 - 1:=by decide +kernel
theorem b0Y:∀ x,x < 10->∀ y,y < 10->a7V 127 1419 (a0Z 127 (hP x y)) 0=2 ^ 128 - 1:=by decide +kernel
end Sp
set_option maxHeartbeats 2000000
namespace Sp
open PySem Sm
theorem a4L (mask:Nat):∀ (k:Nat) (p:SetTable.Probe),nth mask p (k+1)=adv mask (nth mask p k)
 | 0,p=>rfl
 | k+1,p=>by
  show nth mask (adv mask p) (k+1)=adv mask (nth mask (adv mask p) k)
  exact a4L mask k (adv mask p)
theorem a6Y (mask:Nat):∀ (k:Nat) (p:SetTable.Probe) (m j:Nat),(a7V mask k p m).testBit j=true->m.testBit j=true\/∃ i,i < k/\(nth mask p i).j=j
 | 0,p,m,j,h=>.inl h
 | k+1,p,m,j,h=>by
  rcases a6Y mask k (adv mask p) (m ||| 2 ^ p.j) j h with h | ⟨i,hi,e⟩
  ·rw [Nat.testBit_or,Nat.testBit_two_pow,Bool.or_eq_true,decide_eq_true_iff] at h
   rcases h with h | h
   ·exact .inl h
   ·exact .inr ⟨0,by omega,h⟩
  ·exact .inr ⟨i+1,by omega,e⟩
def b1Z (m:Nat):Prop:=m=7\/m=31\/m=127
theorem b2W {mask x y j:Nat} (hm:b1Z mask) (hx:x < 10) (hy:y < 10) (hj:j<=mask):∃ i,i < 10*SetTable.turns mask - 1/\(nth mask (a0Z mask (hP x y)) i).j=j:=by
 have fin:∀ (M K:Nat),a7V mask K (a0Z mask (hP x y)) 0=2 ^ M - 1->j < M->∃ i,i < K/\(nth mask (a0Z mask (hP x y)) i).j=j:=λ M K e l=>by
  have b:(2 ^ M - 1).testBit j=true:=by rw [Nat.testBit_two_pow_sub_one]; exact decide_eq_true l
  rw [<- e] at b
  rcases a6Y mask _ _ _ _ b with h | h
  ·rw [Nat.zero_testBit] at h; cases h
  ·exact h
 rcases hm with rfl | rfl | rfl
 ·exact fin 8 219 (b5M x hx y hy) (by omega)
 ·exact fin 32 459 (b2V x hx y hy) (by omega)
 ·exact fin 128 1419 (b0Y x hx y hy) (by omega)
theorem a9L {t:SetTable} (dm:t.dummies = #[]) (up:t.place.toList.Pairwise (· < ·)) (hashAt:Nat->Int) (h:Int):∀ (k0 fuel:Nat) (p:SetTable.Probe),k0 < fuel->p.dummy=none->(nth t.mask p k0).j ∉ t.place.toList ->
  (∃ k,(nth t.mask p k).j ∉ t.place.toList/\(∀ k',k' < k->(nth t.mask p k').j∈t.place.toList)/\(∀ k',k' < k->∀ i,t.slot (nth t.mask p k').j = .live i->hashAt i≠h)/\SetTable.probe.go t hashAt h fuel p=some (.empty (nth t.mask p k).j none)) \/
  (∃ j i next,t.slot j = .live i/\hashAt i=h/\SetTable.probe.go t hashAt h fuel p=some (.candidate j i next)):=by
 intro k0
 induction k0 with
 | zero =>
  intro fuel p hf hd hn
  obtain ⟨f,rfl⟩:∃ f,fuel=f+1:=⟨fuel - 1,by omega⟩
  refine .inl ⟨0,hn,λ k' h=>absurd h (Nat.not_lt_zero _),λ k' h=>absurd h (Nat.not_lt_zero _),?_⟩
  unfold SetTable.probe.go
  have hn':p.j ∉ t.place.toList:=hn
  rw [a3Z dm hn',hd]
  rfl
 | succ k0 ih =>
  intro fuel p hf hd hn
  obtain ⟨f,rfl⟩:∃ f,fuel=f+1:=⟨fuel - 1,by omega⟩
  by_cases c:p.j∈t.place.toList
  ·obtain ⟨i,e⟩:=a9I up c
   by_cases hh:hashAt i=h
   ·refine .inr ⟨p.j,i,t.advance p,e,hh,?_⟩
    unfold SetTable.probe.go
    rw [e]
    dsimp only
    rw [beq_iff_eq.mpr hh]
    rfl
   ·have st:SetTable.probe.go t hashAt h (f+1) p=SetTable.probe.go t hashAt h f (adv t.mask p):=by
     rw [SetTable.probe.go,e]
     dsimp only
     rw [beq_eq_false_iff_ne.mpr hh,b5K]
     rfl
    rw [st]
    rcases ih f (adv t.mask p) (by omega) (by rw [a9J]; exact hd) hn with ⟨k,h1,h2,h3,h4⟩ | h
    ·refine .inl ⟨k+1,h1,λ k' hk=>?_,λ k' hk i' e'=>?_,h4⟩
     ·cases k' with
      | zero=>exact c
      | succ k'=>exact h2 k' (by omega)
     ·cases k' with
      | zero =>
       have e'':t.slot p.j = .live i':=e'
       rw [e] at e''
       injection e'' with e''
       rw [<- e'']; exact hh
      | succ k'=>exact h3 k' (by omega) i' e'
    ·exact .inr h
  ·refine .inl ⟨0,c,λ k' h=>absurd h (Nat.not_lt_zero _),λ k' h=>absurd h (Nat.not_lt_zero _),?_⟩
   unfold SetTable.probe.go
   rw [a3Z dm c,hd]
   rfl
end Sp
set_option maxHeartbeats 2000000
namespace Sp
open PySem Sm
abbrev Pr:=Nat × Nat
abbrev hPr (p:Pr):Int:=hP p.1 p.2
def Rch (mask:Nat) (pl:List Nat) (h:Int) (j:Nat):Prop:=∃ k,(nth mask (a0Z mask h) k).j=j/\∀ k',k' < k->(nth mask (a0Z mask h) k').j∈pl
theorem Rch.more {mask:Nat} {pl pl':List Nat} {h:Int} {j:Nat} (s:∀ x∈pl,x∈pl') (r:Rch mask pl h j):Rch mask pl' h j :=
 let ⟨k,e,a⟩:=r; ⟨k,e,λ k' hk=>s _ (a k' hk)⟩
structure TbP (B:Bool) (t:SetTable) (L:List Pr):Prop where
 dm:t.dummies = #[]
 pl:t.plain=true
 led:t.led = !B
 up:t.place.toList.Pairwise (· < ·)
 sz:t.place.size=L.length
 nd:L.Nodup
 lt:∀ p∈L,p.1 < 10/\p.2 < 10
 mok:b1Z t.mask
 inn:∀ j∈t.place.toList,j<=t.mask
 rch:∀ (i j:Nat) (p:Pr),t.place.toList[i]?=some j->L[i]?=some p->Rch t.mask t.place.toList (hPr p) j
theorem b2X {t:SetTable} (up:t.place.toList.Pairwise (· < ·)) {k:Nat} (hk:k < t.place.size):t.slot t.place[k] = .live k:=by
 unfold SetTable.slot
 dsimp only
 rw [a6X up hk]
 have:(t.place[k]? == some t.place[k])=true:=by simp [hk]
 rw [this]
 rfl
theorem a6Z {t:SetTable} (dm:t.dummies = #[]) {j i:Nat} (h:t.slot j = .live i):t.place[i]?=some j:=by
 unfold SetTable.slot at h
 dsimp only at h
 by_cases c:(t.place[SetTable.below t.place j]? == some j)=true
 ·rw [if_pos c] at h
  injection h with h
  rw [<- h]
  exact beq_iff_eq.mp c
 ·rw [if_neg c,dm,a6H] at h
  cases h
def InM (mask:Nat) (p:SetTable.Probe):Prop:=p.j+p.more<=mask
theorem b2A {mask i:Nat} (h:i<=mask):i<=SetTable.runEnd mask i/\SetTable.runEnd mask i<=mask:=by
 unfold SetTable.runEnd
 split <;> omega
theorem b2Y {mask:Nat} {p:SetTable.Probe} (h:InM mask p):InM mask (adv mask p):=by
 unfold adv InM at *
 by_cases c:0 < p.more
 ·rw [if_pos c]
  show p.j+1+(p.more - 1)<=mask
  omega
 ·rw [if_neg c]
  have l:(SetTable.leap mask p.i p.perturb).1<=mask:=by
   unfold SetTable.leap
   exact Nat.le_of_lt_succ (Nat.mod_lt _ (Nat.succ_pos _))
  have:=b2A l
  show (SetTable.leap mask p.i p.perturb).1+(SetTable.runEnd mask (SetTable.leap mask p.i p.perturb).1 - (SetTable.leap mask p.i p.perturb).1)<=mask
  omega
theorem a9M {mask:Nat}:∀ (k:Nat) {p:SetTable.Probe},InM mask p->InM mask (nth mask p k)
 | 0,_,h=>h
 | k+1,_,h=>a9M k (b2Y h)
theorem a9N (mask:Nat) (h:Int):InM mask (a0Z mask h):=by
 have l:SetTable.bits h % (mask+1)<=mask:=Nat.le_of_lt_succ (Nat.mod_lt _ (Nat.succ_pos _))
 have:=b2A l
 show SetTable.bits h % (mask+1)+(SetTable.runEnd mask (SetTable.bits h % (mask+1)) - SetTable.bits h % (mask+1))<=mask
 omega
theorem a4B (mask k:Nat) (h:Int):(nth mask (a0Z mask h) k).j<=mask:=by
 have:=a9M k (a9N mask h)
 unfold InM at this
 omega
section
variable {B:Bool} {t:SetTable} {L:List Pr} {hashAt:Nat->Int} {p:Pr}
theorem TbP.gap (T:TbP B t L) (few:L.length<=t.mask) (hp:p.1 < 10/\p.2 < 10):∃ k,k < 10*SetTable.turns t.mask/\(nth t.mask (a0Z t.mask (hPr p)) k).j ∉ t.place.toList:=by
 have ex:∃ j,j<=t.mask/\j ∉ t.place.toList:=by
  apply Classical.byContradiction
  intro c
  have q:∀ j∈List.range (t.mask+1),j∈t.place.toList:=λ j hj=>Classical.byContradiction λ d=>c ⟨j,by have:=List.mem_range.mp hj; omega,d⟩
  have:=a9K _ _ List.nodup_range q
  rw [List.length_range,Array.length_toList,T.sz] at this
  omega
 obtain ⟨j,hj,nj⟩:=ex
 obtain ⟨k,hk,e⟩:=b2W T.mok hp.1 hp.2 hj
 exact ⟨k,by omega,by rw [e]; exact nj⟩
theorem TbP.there (T:TbP B t L) (few:L.length<=t.mask) (hA:∀ (i:Nat) (q:Pr),L[i]?=some q->hashAt i=hPr q) (hp:p∈L):∃ j i next,t.probe hashAt (hPr p) (t.probeStart (hPr p))=some (.candidate j i next)/\L[i]?=some p:=by
 have l10:=T.lt p hp
 obtain ⟨k0,hk0,n0⟩:=T.gap few l10
 have live:∀ {j i:Nat},t.slot j = .live i->∃ q,L[i]?=some q/\q.1 < 10/\q.2 < 10:=λ {j i} e=>by
  have e':=a6Z T.dm e
  have il:i < t.place.size:=by
   rw [Array.getElem?_eq_some_iff] at e'
   exact e'.1
  have il2:i < L.length:=by rw [<- T.sz]; exact il
  exact ⟨L[i],List.getElem?_eq_getElem il2,T.lt _ (List.getElem_mem il2)⟩
 rcases a9L T.dm T.up hashAt (hPr p) k0 (10*SetTable.turns t.mask) (a0Z t.mask (hPr p)) hk0 rfl n0 with ⟨k,h1,h2,h3,_⟩ | ⟨j,i,next,e1,e2,e3⟩
 ·exfalso
  obtain ⟨i,hi⟩:=List.getElem?_of_mem hp
  have il:i < L.length:=(List.getElem?_eq_some_iff.mp hi).1
  have il2:i < t.place.size:=by rw [T.sz]; exact il
  have hj:t.place.toList[i]?=some t.place[i]:=by rw [Array.getElem?_toList]; simp [il2]
  obtain ⟨kk,ek,ak⟩:=T.rch i _ p hj hi
  rcases Nat.lt_or_ge kk k with c | c
  ·have s:=b2X T.up il2
   exact h3 kk c i (by rw [ek]; exact s) (hA i p hi)
  ·rcases Nat.lt_or_ge k kk with d | d
   ·exact h1 (ak k d)
   ·have:kk=k:=by omega
    subst this
    exact h1 (by rw [ek]; exact Array.getElem_mem_toList il2)
 ·obtain ⟨q,hq,q10⟩:=live e1
  have:=hA i q hq
  rw [this] at e2
  obtain ⟨x1,x2⟩:=b1Y q10.1 q10.2 l10.1 l10.2 e2
  have:q=p:=Prod.ext x1 x2
  exact ⟨j,i,next,e3,by rw [hq,this]⟩
theorem TbP.free (T:TbP B t L) (few:L.length<=t.mask) (hA:∀ (i:Nat) (q:Pr),L[i]?=some q->hashAt i=hPr q) (hp:p ∉ L) (l10:p.1 < 10/\p.2 < 10):∃ j,t.probe hashAt (hPr p) (t.probeStart (hPr p))=some (.empty j none)/\j ∉ t.place.toList/\j<=t.mask/\Rch t.mask t.place.toList (hPr p) j:=by
 obtain ⟨k0,hk0,n0⟩:=T.gap few l10
 rcases a9L T.dm T.up hashAt (hPr p) k0 (10*SetTable.turns t.mask) (a0Z t.mask (hPr p)) hk0 rfl n0 with ⟨k,h1,h2,h3,h4⟩ | ⟨j,i,next,e1,e2,e3⟩
 ·exact ⟨_,h4,h1,a4B _ _ _,k,rfl,h2⟩
 ·exfalso
  have e':=a6Z T.dm e1
  have il:i < t.place.size:=by
   rw [Array.getElem?_eq_some_iff] at e'
   exact e'.1
  have il2:i < L.length:=by rw [<- T.sz]; exact il
  have hq:L[i]?=some L[i]:=List.getElem?_eq_getElem il2
  have q10:=T.lt _ (List.getElem_mem il2)
  rw [hA i _ hq] at e2
  obtain ⟨x1,x2⟩:=b1Y q10.1 q10.2 l10.1 l10.2 e2
  exact hp (by rw [show p=L[i] from (Prod.ext x1 x2).symm]; exact List.getElem_mem il2)
end
end Sp
set_option maxHeartbeats 2000000
namespace Sp
open PySem Sm
theorem a4H {α:Type} (l:List α) (q:Nat) (x:α) (hq:q<=l.length) (i:Nat):(l.take q++x::l.drop q)[i]?=if i < q then l[i]? else if i=q then some x else l[i - 1]?:=by
 have lt:(l.take q).length=q:=by rw [List.length_take]; omega
 by_cases c:i < q
 ·rw [if_pos c,List.getElem?_append_left (by omega),List.getElem?_take_of_lt c]
 ·rw [if_neg c,List.getElem?_append_right (by omega),lt]
  by_cases d:i=q
  ·rw [if_pos d,d,Nat.sub_self]; rfl
  ·rw [if_neg d]
   obtain ⟨k,ek⟩:∃ k,i - q=k+1:=⟨i - q - 1,by omega⟩
   rw [ek,List.getElem?_cons_succ,List.getElem?_drop]
   congr 1
   omega
theorem mem_ins {α:Type} {l:List α} {q:Nat} {x u:α}:u∈l.take q++x::l.drop q↔u=x\/u∈l:=by
 rw [List.mem_append,List.mem_cons]
 have e:u∈l↔u∈l.take q\/u∈l.drop q:=by rw [<- List.mem_append,List.take_append_drop]
 rw [e]
 constructor
 ·rintro (c | c | c)
  ·exact .inr (.inl c)
  ·exact .inl c
  ·exact .inr (.inr c)
 ·rintro (c | c | c)
  ·exact .inr (.inl c)
  ·exact .inl c
  ·exact .inr (.inr c)
theorem b5N {α:Type} {l:List α} {q:Nat} {x:α} (nd:l.Nodup) (h:x ∉ l):(l.take q++x::l.drop q).Nodup:=by
 have pm:(l.take q++x::l.drop q).Perm (x::l):=by
  have:l.take q++l.drop q=l:=List.take_append_drop q l
  exact List.perm_middle.trans (by rw [this])
 exact pm.nodup_iff.mpr (List.nodup_cons.mpr ⟨h,nd⟩)
theorem a4M {α:Type} (l:List α) (q:Nat) (x:α):(l.take q++x::l.drop q).length=l.length+1:=by
 rw [List.length_append,List.length_cons,List.length_take,List.length_drop]; omega
theorem TbP.put {B:Bool} {t:SetTable} {L:List Pr} {p:Pr} {j:Nat} (T:TbP B t L) (nj:j ∉ t.place.toList) (lj:j<=t.mask) (r:Rch t.mask t.place.toList (hPr p) j) (np:p ∉ L) (l10:p.1 < 10/\p.2 < 10) :
  (t.put j).2<=L.length/\(t.put j).1.mask=t.mask/\(t.put j).1.moves=t.moves/\TbP B (t.put j).1 (L.take (t.put j).2++p::L.drop (t.put j).2):=by
 have hd:SetTable.has t.dummies j=false:=by rw [T.dm]; exact a6H j
 have bl:=(a2G T.up j).1
 have bl':SetTable.below t.place j<=L.length:=by rw [<- T.sz]; exact bl
 have lp:t.place.toList.length=L.length:=by rw [Array.length_toList,T.sz]
 have e1:(t.put j).1={ t with place:=SetTable.insertAt t.place (SetTable.below t.place j) j }:=by
  unfold SetTable.put
  dsimp only
  rw [hd]
  rfl
 have e2:(t.put j).2=SetTable.below t.place j:=rfl
 have pl:(t.put j).1.place.toList=t.place.toList.take (SetTable.below t.place j)++j::t.place.toList.drop (SetTable.below t.place j):=by
  rw [e1]
  exact SetTable.toList_insertAt ..
 refine ⟨by rw [e2]; exact bl',by rw [e1],by rw [e1],?_⟩
 rw [e2]
 refine ⟨by rw [e1]; exact T.dm,by rw [e1]; exact T.pl,by rw [e1]; exact T.led,?_,?_,b5N T.nd np,λ u hu=>?_,by rw [e1]; exact T.mok,λ u hu=>?_,λ i j' p' hj hp=>?_⟩
 ·rw [e1]
  exact b5L T.up nj
 ·rw [<- Array.length_toList,pl,a4M,a4M,lp]
 ·rcases mem_ins.mp hu with rfl | hu
  ·exact l10
  ·exact T.lt u hu
 ·rw [pl] at hu
  rw [e1]
  show u<=t.mask
  rcases mem_ins.mp hu with rfl | hu
  ·exact lj
  ·exact T.inn u hu
 ·rw [pl] at hj ⊢
  have em:(t.put j).1.mask=t.mask:=by rw [e1]
  rw [em]
  have sub:∀ x∈t.place.toList,x∈t.place.toList.take (SetTable.below t.place j)++j::t.place.toList.drop (SetTable.below t.place j):=λ x hx=>mem_ins.mpr (.inr hx)
  rw [a4H _ _ _ (by omega)] at hj
  rw [a4H _ _ _ bl'] at hp
  by_cases c:i < SetTable.below t.place j
  ·rw [if_pos c] at hj hp
   exact Rch.more sub (T.rch i j' p' hj hp)
  ·rw [if_neg c] at hj hp
   by_cases d:i=SetTable.below t.place j
   ·rw [if_pos d] at hj hp
    have hj:=Option.some.inj hj
    have hp:=Option.some.inj hp
    subst hj
    subst hp
    exact Rch.more sub r
   ·rw [if_neg d] at hj hp
    exact Rch.more sub (T.rch (i - 1) j' p' hj hp)
end Sp
set_option maxHeartbeats 2000000
namespace Sp
open PySem Sm
def wp (mask i pe:Nat):SetTable.Probe:={ j:=i,more:=SetTable.runEnd mask i - i,i,perturb:=pe,dummy:=none }
theorem a3K {mask i pe:Nat}:∀ e,e<=SetTable.runEnd mask i - i->nth mask (wp mask i pe) e={ j:=i+e,more:=SetTable.runEnd mask i - i - e,i,perturb:=pe,dummy:=none }
 | 0,_=>rfl
 | e+1,h=>by
  rw [a4L,a3K e (by omega)]
  unfold adv
  rw [if_pos (by show 0 < SetTable.runEnd mask i - i - e; omega)]
  show SetTable.Probe.mk (i+e+1) (SetTable.runEnd mask i - i - e - 1) i pe none=_
  congr 1
theorem a7A {mask i pe:Nat}:nth mask (wp mask i pe) (SetTable.runEnd mask i - i+1)=wp mask (SetTable.leap mask i pe).1 (SetTable.leap mask i pe).2:=by
 rw [a4L,a3K _ (Nat.le_refl _)]
 unfold adv
 rw [if_neg (by show ¬ 0 < SetTable.runEnd mask i - i - (SetTable.runEnd mask i - i); omega)]
 rfl
theorem a6I (mask:Nat):∀ (a b:Nat) (p:SetTable.Probe),nth mask p (a+b)=nth mask (nth mask p a) b
 | 0,b,p=>by rw [Nat.zero_add]; rfl
 | a+1,b,p=>by
  rw [show a+1+b=(a+b)+1 by omega]
  show nth mask (adv mask p) (a+b)=_
  rw [a6I mask a b (adv mask p)]
  rfl
abbrev Own:=Array (Option Nat)
def tk (o:Own) (j:Nat):Prop:=(o.getD j (some 0)).isSome=true
theorem a5N {mask:Nat} {o:Own}:∀ (fuel i pe j:Nat),SetTable.layClean.free mask o fuel i pe=some j->∃ k,(nth mask (wp mask i pe) k).j=j/\¬ tk o j/\∀ k',k' < k->tk o (nth mask (wp mask i pe) k').j
 | 0,i,pe,j,h=>by cases h
 | fuel+1,i,pe,j,h=>by
  rw [SetTable.layClean.free] at h
  cases e:(List.range (SetTable.runEnd mask i+1 - i)).find? λ k=>(o.getD (i+k) (some 0)).isNone with
  | some k =>
   rw [e] at h
   have h:=Option.some.inj h
   obtain ⟨h1,h2,h3⟩:=List.find?_range_eq_some.mp e
   have kl:=List.mem_range.mp h2
   have k1:k<=SetTable.runEnd mask i - i:=by omega
   refine ⟨k,by rw [a3K k k1]; exact h,λ t=>?_,λ k' hk=>?_⟩
   ·unfold tk at t
    rw [<- h] at t
    rw [Option.isNone_iff_eq_none] at h1
    rw [h1] at t
    cases t
   ·rw [a3K k' (by omega)]
    have:=h3 k' hk
    unfold tk
    show (o.getD (i+k') (some 0)).isSome=true
    cases q:o.getD (i+k') (some 0) with
    | none=>rw [q] at this; cases this
    | some _=>rfl
  | none =>
   rw [e] at h
   have all:∀ k',k'<=SetTable.runEnd mask i - i->tk o (i+k'):=λ k' hk=>by
    by_cases c:k' < SetTable.runEnd mask i+1 - i
    ·have:=List.find?_eq_none.mp e k' (List.mem_range.mpr c)
     unfold tk
     cases q:o.getD (i+k') (some 0) with
     | none=>rw [q] at this; exact absurd rfl this
     | some _=>rfl
    ·have re:i<=SetTable.runEnd mask i:=by unfold SetTable.runEnd; split <;> omega
     omega
   obtain ⟨k,h1,h2,h3⟩:=a5N fuel _ _ j h
   refine ⟨SetTable.runEnd mask i - i+1+k,by rw [a6I,a7A]; exact h1,h2,λ k' hk=>?_⟩
   by_cases c:k'<=SetTable.runEnd mask i - i
   ·rw [a3K k' c]
    exact all k' c
   ·obtain ⟨d,ed⟩:∃ d,k'=SetTable.runEnd mask i - i+1+d:=⟨k' - (SetTable.runEnd mask i - i+1),by omega⟩
    rw [ed,a6I,a7A]
    exact h3 d (by omega)
def a9O (mask:Nat):Nat->Nat->Nat->Nat->Nat
 | 0,_,_,m=>m
 | f+1,i,pe,m=>a9O mask f (SetTable.leap mask i pe).1 (SetTable.leap mask i pe).2 (m ||| ((2 ^ (SetTable.runEnd mask i+1 - i) - 1)*2 ^ i))
theorem a5O {mask:Nat} {o:Own}:∀ (fuel i pe m j:Nat),SetTable.layClean.free mask o fuel i pe=none->(a9O mask fuel i pe m).testBit j=true->m.testBit j=true\/tk o j
 | 0,i,pe,m,j,h,b=>.inl b
 | fuel+1,i,pe,m,j,h,b=>by
  rw [SetTable.layClean.free] at h
  cases e:(List.range (SetTable.runEnd mask i+1 - i)).find? λ k=>(o.getD (i+k) (some 0)).isNone with
  | some k=>rw [e] at h; cases h
  | none =>
   rw [e] at h
   rcases a5O fuel _ _ _ j h b with b | b
   ·rw [Nat.testBit_or,Bool.or_eq_true] at b
    rcases b with b | b
    ·exact .inl b
    ·refine .inr ?_
     rw [<- Nat.shiftLeft_eq,Nat.testBit_shiftLeft,Bool.and_eq_true,decide_eq_true_iff,Nat.testBit_two_pow_sub_one,decide_eq_true_iff] at b
     have:=List.find?_eq_none.mp e (j - i) (List.mem_range.mpr b.2)
     have ej:i+(j - i)=j:=by omega
     rw [ej] at this
     unfold tk
     cases q:o.getD j (some 0) with
     | none=>rw [q] at this; exact absurd rfl this
     | some _=>rfl
   ·exact .inr b
theorem b5O:∀ x,x < 10->∀ y,y < 10->a9O 31 (SetTable.turns 31) (SetTable.bits (hP x y) % 32) (SetTable.bits (hP x y)) 0=2 ^ 32 - 1:=by decide +kernel
theorem b2Z:∀ x,x < 10->∀ y,y < 10->a9O 127 (SetTable.turns 127) (SetTable.bits (hP x y) % 128) (SetTable.bits (hP x y)) 0=2 ^ 128 - 1:=by decide +kernel
theorem b3A {mask:Nat} {o:Own} {p:Pr} (hm:mask=31\/mask=127) (hp:p.1 < 10/\p.2 < 10) (ex:∃ j,j<=mask/\¬ tk o j) :
  ∃ j,SetTable.layClean.free mask o (SetTable.turns mask) (SetTable.bits (hPr p) % (mask+1)) (SetTable.bits (hPr p))=some j/\j<=mask/\¬ tk o j/\∃ k,(nth mask (a0Z mask (hPr p)) k).j=j/\∀ k',k' < k->tk o (nth mask (a0Z mask (hPr p)) k').j:=by
 cases e:SetTable.layClean.free mask o (SetTable.turns mask) (SetTable.bits (hPr p) % (mask+1)) (SetTable.bits (hPr p)) with
 | none =>
  exfalso
  obtain ⟨j,hj,nj⟩:=ex
  have key:∀ M,a9O mask (SetTable.turns mask) (SetTable.bits (hPr p) % (mask+1)) (SetTable.bits (hPr p)) 0=2 ^ M - 1->j < M->False:=λ M ew l=>by
   have b:(2 ^ M - 1).testBit j=true:=by rw [Nat.testBit_two_pow_sub_one]; exact decide_eq_true l
   rw [<- ew] at b
   rcases a5O _ _ _ _ _ e b with h | h
   ·rw [Nat.zero_testBit] at h; cases h
   ·exact nj h
  rcases hm with rfl | rfl
  ·exact key 32 (b5O p.1 hp.1 p.2 hp.2) (by omega)
  ·exact key 128 (b2Z p.1 hp.1 p.2 hp.2) (by omega)
 | some j =>
  obtain ⟨k,h1,h2,h3⟩:=a5N _ _ _ _ e
  refine ⟨j,rfl,?_,h2,k,h1,h3⟩
  rw [<- h1]
  exact a4B mask k (hPr p)
end Sp
set_option maxHeartbeats 2000000
namespace Sp
open PySem Sm
structure OwnI (mask:Nat) (o:Own) (L:List Pr) (n:Nat):Prop where
 size:o.size=mask+1
 idx:∀ j k:Nat,o[j]?=some (some k)->k < n/\∃ p,L[k]?=some p/\∃ kk,(nth mask (a0Z mask (hPr p)) kk).j=j/\∀ k',k' < kk->tk o (nth mask (a0Z mask (hPr p)) k').j
 all:∀ k:Nat,k < n->∃ j:Nat,o[j]?=some (some k)
 one:∀ j j' k:Nat,o[j]?=some (some k)->o[j']?=some (some k)->j=j'
theorem a5P {mask:Nat} {o:Own} (sz:o.size=mask+1) {j:Nat} (hj:j<=mask):tk o j↔∃ k,o[j]?=some (some k):=by
 have l:j < o.size:=by omega
 unfold tk
 have e:o.getD j (some 0)=o[j]:=by simp [Array.getD,l]
 have e2:o[j]?=some o[j]:=by simp [l]
 rw [e,e2]
 cases o[j] with
 | none=>simp
 | some k=>simp
theorem OwnI.gap {mask:Nat} {o:Own} {L:List Pr} {n:Nat} (I:OwnI mask o L n) (h:n<=mask):∃ j,j<=mask/\¬ tk o j:=by
 apply Classical.byContradiction
 intro c
 have all:∀ j,j<=mask->∃ k,o[j]?=some (some k):=λ j hj=>(a5P I.size hj).mp (Classical.byContradiction λ d=>c ⟨j,hj,d⟩)
 have nd:((List.range (mask+1)).map λ j=>(o[j]?.getD none).getD 0).Nodup:=by
  unfold List.Nodup
  rw [List.pairwise_map]
  refine List.Pairwise.imp_of_mem (λ {a b} ha hb ne e=>?_) List.nodup_range
  obtain ⟨k,hk⟩:=all a (by have:=List.mem_range.mp ha; omega)
  obtain ⟨k',hk'⟩:=all b (by have:=List.mem_range.mp hb; omega)
  rw [hk,hk'] at e
  have e':k=k':=e
  subst e'
  exact ne (I.one a b k hk hk')
 have:=a9K _ (List.range n) nd λ x hx=>by
  obtain ⟨j,hj,rfl⟩:=List.mem_map.mp hx
  obtain ⟨k,hk⟩:=all j (by have:=List.mem_range.mp hj; omega)
  rw [hk]
  exact List.mem_range.mpr (I.idx j k hk).1
 rw [List.length_map,List.length_range,List.length_range] at this
 omega
theorem OwnI.next {mask:Nat} {o:Own} {L:List Pr} {n j:Nat} {p:Pr} (I:OwnI mask o L n) (hj:j<=mask) (nj:¬ tk o j) (hp:L[n]?=some p) (r:∃ kk,(nth mask (a0Z mask (hPr p)) kk).j=j/\∀ k',k' < kk->tk o (nth mask (a0Z mask (hPr p)) k').j):OwnI mask (o.setIfInBounds j (some n)) L (n+1):=by
 have jl:j < o.size:=by have:=I.size; omega
 have get:∀ i,(o.setIfInBounds j (some n))[i]?=if i=j then some (some n) else o[i]?:=λ i=>by
  rw [Array.getElem?_setIfInBounds]
  by_cases c:j=i
  ·subst c
   rw [if_pos rfl,if_pos jl,if_pos rfl]
  ·rw [if_neg c,if_neg λ z=>c z.symm]
 have sz:(o.setIfInBounds j (some n)).size=mask+1:=by rw [Array.size_setIfInBounds]; exact I.size
 have nj':∀ k,o[j]?≠some (some k):=λ k e=>nj ((a5P I.size hj).mpr ⟨k,e⟩)
 have mono:∀ i,i<=mask->tk o i->tk (o.setIfInBounds j (some n)) i:=λ i hi h=>by
  obtain ⟨k,hk⟩:=(a5P I.size hi).mp h
  refine (a5P sz hi).mpr ?_
  rw [get]
  by_cases c:i=j
  ·rw [if_pos c]; exact ⟨n,rfl⟩
  ·rw [if_neg c]; exact ⟨k,hk⟩
 refine ⟨sz,λ i k h=>?_,λ k hk=>?_,λ i i' k h h'=>?_⟩
 ·rw [get] at h
  by_cases c:i=j
  ·rw [if_pos c] at h
   have h:=Option.some.inj (Option.some.inj h)
   subst h
   refine ⟨by omega,p,hp,?_⟩
   obtain ⟨kk,e,a⟩:=r
   exact ⟨kk,by rw [c]; exact e,λ k' hk=>mono _ (a4B _ _ _) (a k' hk)⟩
  ·rw [if_neg c] at h
   obtain ⟨h1,q,hq,kk,e,a⟩:=I.idx i k h
   exact ⟨by omega,q,hq,kk,e,λ k' hk=>mono _ (a4B _ _ _) (a k' hk)⟩
 ·by_cases c:k=n
  ·subst c
   exact ⟨j,by rw [get,if_pos rfl]⟩
  ·obtain ⟨i,hi⟩:=I.all k (by omega)
   refine ⟨i,?_⟩
   rw [get,if_neg λ z=>?_]
   ·exact hi
   ·rw [z] at hi; exact nj' k hi
 ·rw [get] at h h'
  by_cases c:i=j
  ·by_cases c':i'=j
   ·rw [c,c']
   ·rw [if_pos c] at h
    rw [if_neg c'] at h'
    have h:=Option.some.inj (Option.some.inj h)
    subst h
    have:=(I.idx i' _ h').1
    omega
  ·by_cases c':i'=j
   ·rw [if_pos c'] at h'
    rw [if_neg c] at h
    have h':=Option.some.inj (Option.some.inj h')
    subst h'
    have:=(I.idx i _ h).1
    omega
   ·rw [if_neg c] at h
    rw [if_neg c'] at h'
    exact I.one i i' k h h'
theorem own0 (mask:Nat) (L:List Pr):OwnI mask (Array.replicate (mask+1) none) L 0:=by
 have get:∀ (j k:Nat),(Array.replicate (mask+1) (none:Option Nat))[j]?≠some (some k):=λ j k e=>by
  rw [Array.getElem?_replicate] at e
  split at e <;> cases e
 exact ⟨Array.size_replicate,λ j k h=>absurd h (get j k),λ k hk=>absurd hk (Nat.not_lt_zero _),λ j j' k h=>absurd h (get j k)⟩
def a4N (mask:Nat) (acc:Option (Own × Nat)) (h:Int):Option (Own × Nat):=do
 let (owner,k) <- acc
 let j <- SetTable.layClean.free mask owner (SetTable.turns mask) (SetTable.bits h % (mask+1)) (SetTable.bits h)
 pure (owner.setIfInBounds j (some k),k+1)
theorem b0Z (mask:Nat) (hs:Array Int):SetTable.layClean mask hs=(hs.foldl (a4N mask) (some (Array.replicate (mask+1) none,0))).map (·.1):=by
 unfold SetTable.layClean
 rfl
theorem b7G {mask m j:Nat} {o:Own} {h:Int} (e:SetTable.layClean.free mask o (SetTable.turns mask) (SetTable.bits h % (mask+1)) (SetTable.bits h)=some j):a4N mask (some (o,m)) h=some (o.setIfInBounds j (some m),m+1):=by
 simp only [a4N,bind,Option.bind,e,pure]
theorem b3B {mask:Nat} {L:List Pr} (hm:mask=31\/mask=127) (lt:∀ p∈L,p.1 < 10/\p.2 < 10) (few:L.length<=mask) (rest:List Pr):∀ (m:Nat) (o:Own),OwnI mask o L m->(∀ i,L[m+i]?=rest[i]?)->m+rest.length=L.length->∃ o',(rest.map hPr).foldl (a4N mask) (some (o,m))=some (o',L.length)/\OwnI mask o' L L.length:=by
 induction rest with
 | nil =>
  intro m o I _ l
  have:m=L.length:=by rw [<- l]; rfl
  subst this
  exact ⟨o,rfl,I⟩
 | cons p rest ih =>
  intro m o I he l
  have l':m+(rest.length+1)=L.length:=l
  have hp:L[m]?=some p:=he 0
  obtain ⟨j,e,hj,nj,r⟩:=b3A hm (lt p (List.mem_of_getElem? hp)) (I.gap (by omega))
  rw [List.map_cons,List.foldl_cons,b7G e]
  refine ih (m+1) _ (I.next hj nj hp r) (λ i=>?_) (by omega)
  rw [show m+1+i=m+(i+1) by omega]
  exact he (i+1)
end Sp
set_option maxHeartbeats 1000000
namespace Sp
open PySem Sm
def a1R (mask:Nat) (o:Own):List (Nat × Nat):=(List.range (mask+1)).filterMap λ j=>(o.getD j none).map (j,·)
theorem getD_at {o:Own} {j k:Nat}:o.getD j none=some k↔o[j]?=some (some k):=by
 rw [Array.getD_eq_getD_getElem?]
 cases o[j]? with
 | none=>simp
 | some v=>simp
theorem live_mem {mask:Nat} {o:Own} {j k:Nat}:(j,k)∈a1R mask o↔j<=mask/\o[j]?=some (some k):=by
 unfold a1R
 rw [List.mem_filterMap]
 constructor
 ·rintro ⟨i,hi,e⟩
  obtain ⟨k',hk,e'⟩:=Option.map_eq_some_iff.mp e
  injection e' with e1 e2
  subst e1
  subst e2
  exact ⟨by have:=List.mem_range.mp hi; omega,getD_at.mp hk⟩
 ·rintro ⟨h1,h2⟩
  exact ⟨j,List.mem_range.mpr (by omega),by rw [getD_at.mpr h2]; rfl⟩
theorem a9P (mask:Nat) (o:Own):(a1R mask o).Pairwise (λ a b=>a.1 < b.1):=by
 unfold a1R
 refine List.Pairwise.filterMap _ (λ a b ab x hx y hy=>?_) List.pairwise_lt_range
 obtain ⟨k,_,rfl⟩:=Option.map_eq_some_iff.mp hx
 obtain ⟨k',_,rfl⟩:=Option.map_eq_some_iff.mp hy
 exact ab
theorem a9Q {mask:Nat} {o:Own} {L:List Pr} {n:Nat} (I:OwnI mask o L n):((a1R mask o).map (·.2)).Perm (List.range n):=by
 refine (List.perm_ext_iff_of_nodup ?_ List.nodup_range).mpr λ k=>?_
 ·unfold List.Nodup
  rw [List.pairwise_map]
  refine List.Pairwise.imp_of_mem (λ {a b} ha hb ab e=>?_) (a9P mask o)
  have h1:=(live_mem (j:=a.1) (k:=a.2)).mp ha
  have h2:=(live_mem (j:=b.1) (k:=b.2)).mp hb
  rw [<- e] at h2
  have:=I.one _ _ _ h1.2 h2.2
  omega
 ·rw [List.mem_map,List.mem_range]
  constructor
  ·rintro ⟨⟨j,k'⟩,h,rfl⟩
   exact (I.idx j k' (live_mem.mp h).2).1
  ·intro hk
   obtain ⟨j,hj⟩:=I.all k hk
   have jl:j < o.size:=by
    rw [Array.getElem?_eq_some_iff] at hj
    exact hj.1
   exact ⟨(j,k),live_mem.mpr ⟨by have:=I.size; omega,hj⟩,rfl⟩
theorem a7B {α:Type} (d:α) (l:List α) {ks:List Nat} (h:ks.Perm (List.range l.length)):(ks.map λ k=>l.getD k d).Perm l:=by
 have e:(List.range l.length).map (λ k=>l.getD k d)=l:=by
  refine List.ext_getElem (by rw [List.length_map,List.length_range]) λ i h1 h2=>?_
  rw [List.getElem_map,List.getElem_range,τα,List.getElem?_eq_getElem h2]
  rfl
 have:=h.map λ k=>l.getD k d
 rw [e] at this
 exact this
theorem b1A {B:Bool} {mask f mv:Nat} {L:List Pr} (hm:mask=31\/mask=127) (nd:L.Nodup) (lt:∀ p∈L,p.1 < 10/\p.2 < 10) (few:L.length<=mask) {hs:Array Int} (eh:hs.toList=L.map hPr) :
  ∃ t order,SetTable.laid mask f mv (!B) true hs=some (t,order)/\order.toList.Perm (List.range L.length)/\t.mask=mask/\t.moves=mv/\TbP B t (order.toList.map λ k=>L.getD k (0,0)):=by
 obtain ⟨o,eo,I⟩:=b3B hm lt few L 0 _ (own0 mask L) (λ i=>by rw [Nat.zero_add]) (Nat.zero_add _)
 have ec:SetTable.layClean mask hs=some o:=by
  rw [b0Z,<- Array.foldl_toList,eh,eo]
  rfl
 have lp:=a9Q I
 have ll:(a1R mask o).length=L.length:=by
  have:=lp.length_eq
  rw [List.length_map,List.length_range] at this
  exact this
 refine ⟨{ mask,place:=((a1R mask o).map (·.1)).toArray,dummies:=#[],finger:=f,led:=!B,moves:=mv,plain:=true },((a1R mask o).map (·.2)).toArray,?_,by simpa using lp,rfl,rfl,?_⟩
 ·unfold SetTable.laid
  rw [ec]
  rfl
 ·have eo2:(((a1R mask o).map (·.2)).toArray).toList=(a1R mask o).map (·.2):=by simp
  rw [eo2]
  have pg:=a7B (0,0) L lp
  refine ⟨rfl,rfl,rfl,?_,?_,pg.nodup_iff.mpr nd,λ p hp=>lt p (pg.mem_iff.mp hp),?_,λ j hj=>?_,λ i j p hj hp=>?_⟩
  ·show (((a1R mask o).map (·.1)).toArray).toList.Pairwise (· < ·)
   rw [show (((a1R mask o).map (·.1)).toArray).toList=(a1R mask o).map (·.1) by simp,List.pairwise_map]
   exact a9P mask o
  ·show (((a1R mask o).map (·.1)).toArray).size=_
   rw [List.size_toArray,List.length_map,List.length_map,List.length_map]
  ·exact hm.elim (λ h=>.inr (.inl h)) (λ h=>.inr (.inr h))
  ·have hj':j∈(a1R mask o).map (·.1):=by simpa using hj
   obtain ⟨⟨a,b⟩,h,rfl⟩:=List.mem_map.mp hj'
   exact (live_mem.mp h).1
  ·have hj':((a1R mask o).map (·.1))[i]?=some j:=by simpa using hj
   rw [List.getElem?_map] at hj'
   obtain ⟨⟨a,b⟩,hab,rfl⟩:=Option.map_eq_some_iff.mp hj'
   rw [List.getElem?_map,List.getElem?_map,hab] at hp
   have hp:=Option.some.inj hp
   have hm2:=live_mem.mp (List.mem_of_getElem? hab)
   obtain ⟨_,q,hq,kk,ek,ak⟩:=I.idx a b hm2.2
   have eq:p=q:=by
    rw [<- hp]
    show L.getD b (0,0)=q
    rw [τα,hq]
    rfl
   subst eq
   refine ⟨kk,ek,λ k' hk=>?_⟩
   have t:=ak k' hk
   obtain ⟨k2,e2⟩:=(a5P I.size (a4B _ _ _)).mp t
   have:_∈(a1R mask o).map (·.1):=List.mem_map.mpr ⟨(_,k2),live_mem.mpr ⟨a4B _ _ _,e2⟩,rfl⟩
   simpa using this
end Sp
set_option maxHeartbeats 1000000
namespace Sm
open PySem
abbrev setO (es:Array (Int × Value)) (ep:Nat) (t:SetTable):Obj:={ cls:=.type "set", dict:=none,data:=.set es ep t,slots:=#[] }
section
variable {prog:Program} {w:World} {A:Around} {E:Value->Shared->Prop} {s:Shared} {B:Bool} {a:Addr} {L:List Nat}
theorem a9R {h:Heap} {es es':Array (Int × Value)} {ep:Nat} {t t':SetTable} (ho:h.get? a=some (setO es ep t)):(h.update a (Obj.putSet es' t')).get? a=some (setO es' (ep+1) t'):=by
 have:=Heap.get?_update_self (Obj.putSet es' t') ho (by rw [putSet_of es' t' rfl]; rfl)
 rw [putSet_of es' t' rfl] at this
 exact this
end
end Sm
set_option maxHeartbeats 2000000
namespace Sm
open PySem
abbrev byT (w:World):Bool:=w.params.followText "set-order"
theorem a4C {α:Type}:∀ (l:List α) (i:Nat) (h:i < l.length),(l[i]::l.eraseIdx i).Perm l
 | _::r,0,_=>.refl _
 | x::r,i+1,h=>by
  have q:=a4C r i (by simpa using h)
  rw [List.getElem_cons_succ,List.eraseIdx_cons_succ]
  exact (List.Perm.swap x (r[i]'(by simpa using h)) (r.eraseIdx i)).trans (q.cons x)
theorem b3C {α:Type} (nx:Nat->Nat):∀ (fuel k:Nat) (left:List α) (out:Array α),left.length<=fuel->(pickOrder.go nx fuel k left out).toList.Perm (out.toList++left):=by
 intro fuel
 induction fuel with
 | zero =>
  intro k left out h
  have:left=[]:=List.length_eq_zero_iff.mp (by omega)
  subst this
  unfold pickOrder.go
  simp
 | succ f ih =>
  intro k left out h
  unfold pickOrder.go
  by_cases c:left=[]
  ·subst c; simp
  ·have pos:0 < left.length:=List.length_pos_iff.mpr c
   have lt:=Nat.mod_lt (nx k) pos
   rw [List.getElem?_eq_getElem lt]
   dsimp only
   refine (ih (k+1) _ _ (by grind)).trans ?_
   rw [Array.toList_push,List.append_assoc]
   exact List.Perm.append_left _ (a4C left _ lt)
theorem a9S {α:Type} (nx:Nat->Nat) (xs:Array α):(pickOrder nx xs).toList.Perm xs.toList:=by
 have:=b3C nx xs.size 0 xs.toList #[] (by simp)
 unfold pickOrder
 grind
theorem b3D (a:Addr):setWalk a=(do
 let (xs,c,tb) <- setState a
 if <- setsByText then
  let q <- ask
  return pickOrder (q.params.setOrder a c) xs
 if !tb.plain && xs.size > 1 then return (<- drawOrder xs.size xs.toList).toArray
 (do if !tb.led && xs.size > 1 then unsupported "set:maker-not-led" : Sem Unit)
 return xs):=rfl
section
variable {prog:Program} {w:World} {A:Around} {E:Value->Shared->Prop} {s:Shared} {a:Addr} {L:List Nat}
theorem a3L {Q:Bool->Shared->Prop} (h:Q (byT w) s):wpAny (model prog w) A setsByText Q E s:=by
 unfold setsByText
 exact wpAny_bind (wpAny_askSetting (wpAny_pure h))
def b3E (es:Array (Int × Value)) (laid:Option (SetTable × Array Nat)):Sem (Array (Int × Value) × SetTable):=do
 let some (t,order):=laid
  | unsupported "internal:set-table-without-room"
 if (order.filterMap (es[·]?)).size != es.size then unsupported "internal:set-table-lost-an-element"
 pure (order.filterMap (es[·]?),t)
theorem b1B (a:Addr) (n:Nat):setRelay a n=(do
 let (es,_,t) <- setState a
 if SetTable.sizeAbove n > sizeLine then unsupported "set:memory"
 let (es,t) <- b3E es (t.relaid (es.map (·.1)) n)
 storeSet a es t):=rfl
end
end Sm
set_option maxHeartbeats 2000000
namespace Sm
open PySem
section
variable {prog:Program} {w:World} {A:Around} {E:Value->Shared->Prop} {s:Shared} {sA oA:Addr} {L1 L2:List Nat}
end
end Sm
set_option maxHeartbeats 2000000
namespace Sm
open PySem PySem.Builtin.Frozenset
theorem b5P:isSubtype (.type "set") (.type "set")=pure true:=by rw [isSubtype_type]; kernel_rfl
theorem a7W:entryFor table "set.__iter__" = some Builtin.«frozenset.__iter__» := entryFor_alias (id':="frozenset.__iter__") (by kernel_rfl) rfl (by decide +kernel) (by kernel_rfl)
section
variable {prog:Program} {w:World} {A:Around} {E:Value->Shared->Prop} {s:Shared} {a b:Addr} {L1 L2:List Nat}
end
end Sm
set_option maxHeartbeats 2000000
namespace Sp
open PySem Sm
section
variable {prog:Program} {w:World} {A:Around} {E:Value->Shared->Prop} {s:Shared}
def PrAt (prog:Program) (w:World) (h:Heap) (p:Pr) (b:Addr):Prop:=IsTupleKey (intKind prog w) h [(p.1:Int),(p.2:Int)] b
theorem items_int {ks:List Int} {vs:List Value} (h:ItemsAre (intKind prog w) ks vs):∀ v∈vs,∃ i t,v=Value.int i t:=by
 induction h with
 | nil=>intro v hv; simp at hv
 | @cons k v' ks vs h1 _ ih =>
  intro v hv
  rcases List.mem_cons.mp hv with rfl | hv
  ·obtain ⟨t,e⟩:=Value.isInt_shape (k:=k) (v:=v) h1
   exact ⟨k,t,e⟩
  ·exact ih v hv
theorem b7H {ks:List Int} {b:Addr} {Q:Bool->Shared->Prop} (hk:IsTupleKey (intKind prog w) s.heap ks b) (h:Q true s):wpAny (model prog w) A (hashByValue 8 (.ref b)) Q E s:=by
 have hT:=hk.typeIs
 obtain ⟨o,items,n,ho,_,hd,hi⟩:=hk
 unfold hashByValue
 refine wpAny_bind (wpAny_specialOf hT F.slot_tuple_hash.lookup ?_)
 dsimp only
 refine wpAny_bind (wpAny_seqItems ho hd ?_)
 refine wpAny_bind ?_
 show wpAny _ _ (forIn items _ _) _ _ s
 rw [<- Array.forIn_toList]
 refine wpAny_forIn_list _ (λ rest r s'=>r.1=none/\s'=s/\∀ v∈rest,∃ i t,v=Value.int i t) _ ?_ ?_ _ _ ⟨rfl,rfl,items_int hi⟩
 ·rintro v rest r s' ⟨hr,rfl,hall⟩
  obtain ⟨i,t,rfl⟩:=hall v List.mem_cons_self
  have e:hashByValue 7 (.int i t)=pure true:=by unfold hashByValue; rfl
  rw [e]
  refine wpAny_bind (wpAny_pure ?_)
  simp only [Bool.not_true,Bool.false_eq_true,if_false]
  exact wpAny_pure ⟨rfl,rfl,λ u hu'=>hall u (List.mem_cons_of_mem _ hu')⟩
 ·rintro ⟨r1,r2⟩ s' ⟨hr,rfl,_⟩
  simp only at hr
  subst hr
  exact wpAny_pure h
theorem b5Q {ks:List Int} {b:Addr} {Q:Bool->Shared->Prop} (hk:IsTupleKey (intKind prog w) s.heap ks b) (h:Q false s):wpAny (model prog w) A (ofAClassStatement 8 (.ref b)) Q E s:=by
 have hT:=hk.typeIs
 obtain ⟨o,items,n,ho,hc,hd,hi⟩:=hk
 unfold ofAClassStatement
 refine wpAny_bind (wpAny_typeOf hT ?_)
 dsimp only
 rw [if_pos (show (("tuple" : String) == "tuple")=true from rfl)]
 refine wpAny_bind (wpAny_pure ?_)
 simp only [Bool.not_true,Bool.false_eq_true,if_false]
 refine wpAny_bind (wpAny_seqItems ho hd ?_)
 dsimp only
 refine wpAny_bind ?_
 rw [<- Array.forIn_toList]
 refine wpAny_forIn_list _ (λ rest r s'=>r.1=none/\s'=s/\∀ v∈rest,∃ i t,v=Value.int i t) _ ?_ ?_ _ _ ⟨rfl,rfl,items_int hi⟩
 ·rintro v rest r s' ⟨hr,rfl,hall⟩
  obtain ⟨i,t,rfl⟩:=hall v List.mem_cons_self
  have e:ofAClassStatement 7 (.int i t)=pure false:=by unfold ofAClassStatement; rfl
  rw [e]
  refine wpAny_bind (wpAny_pure ?_)
  simp only [Bool.false_eq_true,if_false]
  exact wpAny_pure ⟨rfl,rfl,λ u hu'=>hall u (List.mem_cons_of_mem _ hu')⟩
 ·rintro ⟨r1,r2⟩ s' ⟨hr,rfl,_⟩
  simp only at hr
  subst hr
  exact wpAny_pure h
theorem b3F {b:Addr} {ks:List Int} {ys:List Value} {Q:Bool->Shared->Prop} (hk:IsTupleKey (intKind prog w) s.heap ks b) (hy:∀ y∈ys,∃ b' ks',y=Value.ref b'/\IsTupleKey (intKind prog w) s.heap ks' b') (h:Q false s):wpAny (model prog w) A (searchCouldBeSeen (.ref b) ys) Q E s:=by
 unfold searchCouldBeSeen
 refine wpAny_bind ?_
 refine wpAny_forIn_list _ (λ rest r s'=>r.1=none/\s'=s/\∀ y∈rest,∃ b' ks',y=Value.ref b'/\IsTupleKey (intKind prog w) s.heap ks' b') _ ?_ ?_ _ _ ⟨rfl,rfl,hy⟩
 ·rintro v rest r s' ⟨hr,rfl,hall⟩
  obtain ⟨b',ks',rfl,hk'⟩:=hall v List.mem_cons_self
  dsimp only
  have fin:=λ u hu'=>hall u (List.mem_cons_of_mem _ hu')
  split
  ·exact wpAny_pure ⟨rfl,rfl,fin⟩
  ·refine wpAny_bind (wpAny_eqIsQuiet_tuple hk ?_)
   simp only [Bool.not_true,Bool.false_eq_true,if_false]
   refine wpAny_bind (wpAny_eqIsQuiet_tuple hk' ?_)
   simp only [Bool.not_true,Bool.false_eq_true,if_false]
   refine wpAny_bind (b5Q hk ?_)
   simp only [Bool.false_eq_true,if_false]
   refine wpAny_bind (b5Q hk' ?_)
   simp only [Bool.false_eq_true,if_false]
   exact wpAny_pure ⟨rfl,rfl,fin⟩
 ·rintro ⟨r1,r2⟩ s' ⟨hr,rfl,_⟩
  simp only at hr
  subst hr
  exact wpAny_pure h
def EsP (es:Array (Int × Value)) (L:List (Addr × Pr)):Prop:=Paired (λ e q=>e.1=hPr q.2/\e.2=Value.ref q.1) es.toList L
theorem EsP.len {es:Array (Int × Value)} {L:List (Addr × Pr)} (h:EsP es L):es.size=L.length:=by
 have:=Paired.length h
 simpa using this
theorem EsP.get {es:Array (Int × Value)} {L:List (Addr × Pr)} (h:EsP es L) {i:Nat} {q:Addr × Pr} (hq:L[i]?=some q):es[i]?=some (hPr q.2,Value.ref q.1):=by
 obtain ⟨il,e⟩:=List.getElem?_eq_some_iff.mp hq
 obtain ⟨x,hx,h1,h2⟩:=Sm.paired_get h i il
 rw [e] at h1 h2
 rw [<- Array.getElem?_toList,hx]
 congr 1
 exact Prod.ext h1 h2
structure SetP (B:Bool) (h:Heap) (a:Addr) (es:Array (Int × Value)) (ep:Nat) (t:SetTable) (L:List (Addr × Pr)):Prop where
 obj:h.get? a=some (setO es ep t)
 ent:EsP es L
 tab:TbP B t (L.map (·.2))
 few:L.length*5 < t.mask*3
theorem TbP.fits {B:Bool} {t:SetTable} {L:List Pr} (T:TbP B t L) (few:L.length<=t.mask):t.fits L.length=true:=by
 unfold SetTable.fits SetTable.fill
 rw [T.sz,T.dm]
 simp
 exact few
theorem SetP.state {B:Bool} {a:Addr} {es:Array (Int × Value)} {ep:Nat} {t:SetTable} {L:List (Addr × Pr)} {Q:(Array (Int × Value) × Nat × SetTable)->Shared->Prop} (S:SetP B s.heap a es ep t L) (h:Q (es,ep,t) s):wpAny (model prog w) A (setState a) Q E s:=by
 refine wpAny_setState_of S.obj rfl ?_ h
 rw [S.ent.len]
 have:=S.tab.fits (by have:=S.few; rw [List.length_map]; omega)
 rw [List.length_map] at this
 exact this
theorem b1C {g:Pr->Int} {es:Array (Int × Value)} {L:List (Addr × Pr)} (h:Paired (λ e q=>e.1=g q.2/\e.2=Value.ref q.1) es.toList L) {i:Nat} {q:Pr} (hq:(L.map (·.2))[i]?=some q):(es[i]?.map (·.1)).getD 0=g q:=by
 rw [List.getElem?_map] at hq
 cases hl:L[i]? with
 | none=>rw [hl] at hq; cases hq
 | some q' =>
  rw [hl] at hq
  obtain ⟨il,e⟩:=List.getElem?_eq_some_iff.mp hl
  obtain ⟨x,hx,h1,h2⟩:=Sm.paired_get h i il
  have e2:q'.2=q:=Option.some.inj hq
  rw [e,e2] at h1
  rw [<- Array.getElem?_toList,hx]
  exact h1
theorem a9T {es:Array (Int × Value)} {L:List (Addr × Pr)} (h:EsP es L) {i:Nat} {q:Pr} (hq:(L.map (·.2))[i]?=some q):(es[i]?.map (·.1)).getD 0=hPr q:=b1C (g:=hPr) h hq
theorem b1D {es:Array (Int × Value)} {f:Int × Value->Bool} {y:Value} (h:y∈(es.filter f).toList.map (·.2)):∃ x∈es.toList,x.2=y:=by
 obtain ⟨x,hx,rfl⟩:=List.mem_map.mp h
 rw [Array.toList_filter] at hx
 exact ⟨x,(List.mem_filter.mp hx).1,rfl⟩
theorem b7I {g:Pr->Int} {es:Array (Int × Value)} {L:List (Addr × Pr)} (h:Paired (λ e q=>e.1=g q.2/\e.2=Value.ref q.1) es.toList L) {x:Int × Value} (hx:x∈es.toList):∃ q∈L,x.2=Value.ref q.1:=by
 obtain ⟨k,hk,ek⟩:=List.getElem_of_mem hx
 have kl:k < L.length:=by rw [<- Paired.length h]; exact hk
 obtain ⟨x2,hx2,_,e2⟩:=Sm.paired_get h k kl
 rw [List.getElem?_eq_getElem hk,ek] at hx2
 have hx2:=Option.some.inj hx2
 subst hx2
 exact ⟨L[k],List.getElem_mem kl,e2⟩
theorem b1E {h:Heap} {es:Array (Int × Value)} {L:List (Addr × Pr)} {y:Value} (hE:EsP es L) (at_:∀ q∈L,PrAt prog w h q.2 q.1) (hy:∃ x∈es.toList,x.2=y):∃ b' ks',y=Value.ref b'/\IsTupleKey (intKind prog w) h ks' b':=by
 obtain ⟨x,hx,rfl⟩:=hy
 obtain ⟨q,hq,e⟩:=b7I (g:=hPr) hE hx
 exact ⟨q.1,_,e,at_ q hq⟩
theorem a9U {B:Bool} {a b:Addr} {p:Pr} {es:Array (Int × Value)} {ep:Nat} {t:SetTable} {L:List (Addr × Pr)} {Q:SetFound->Shared->Prop} (hu:A.units < cLine) (S:SetP B s.heap a es ep t L) (at_:∀ q∈L,PrAt prog w s.heap q.2 q.1) (hb:PrAt prog w s.heap p b) (l10:p.1 < 10/\p.2 < 10)
  (h1:p∈L.map (·.2)->Q (.there none) s) (h2:p ∉ L.map (·.2)->∀ j,j ∉ t.place.toList->j<=t.mask->Rch t.mask t.place.toList (hPr p) j->Q (.free j false) s):wpAny (model prog w) A (setSearch a (.ref b) (hPr p) true) Q E s:=by
 have few:(L.map (·.2)).length<=t.mask:=by have:=S.few; rw [List.length_map]; omega
 unfold setSearch setSearchFrom
 refine wpAny_bind (S.state ?_)
 dsimp only
 have gw:t.gaveWay=false:=by
  unfold SetTable.gaveWay
  rcases S.tab.mok with e | e | e <;> rw [e] <;> rfl
 rw [gw]
 simp only [Bool.false_eq_true,if_false,Option.getD_none]
 have hA:∀ (i:Nat) (q:Pr),(L.map (·.2))[i]?=some q->(λ i=>(es[i]?.map (·.1)).getD 0) i=hPr q:=λ i q hq=>a9T S.ent hq
 have hA2:∀ (f:Nat->Int),f=(λ i=>(es[i]?.map (·.1)).getD 0)->∀ m,t.probe f (hPr p) (t.probeStart (hPr p))=m->t.probe (λ i=>(es[i]?.map (·.1)).getD 0) (hPr p) (t.probeStart (hPr p))=m:=λ f hf m h=>by rw [<- hf]; exact h
 by_cases c:p∈L.map (·.2)
 ·obtain ⟨j,i,next,e,hi⟩:=S.tab.there few hA c
  rw [List.getElem?_map] at hi
  obtain ⟨q,hq,eq⟩:=Option.map_eq_some_iff.mp hi
  have hqa:=at_ q (List.mem_of_getElem? hq)
  have eqy:∀ Q':Bool->Shared->Prop,Q' true s->wpAny (model prog w) A (holding [Value.ref q.1] (eqBool (.ref q.1) (.ref b))) Q' E s:=λ Q' h=>by
   refine wpAny_holding (wpAny_eqBool_tuple hu hqa hb ?_)
   rw [eq,decide_eq_true rfl]
   exact h
  split
  ·rename_i met heq
   have em:=(hA2 _ rfl _ heq).symm.trans e
   have em:=Option.some.inj em
   subst em
   dsimp only
   rw [S.ent.get hq]
   dsimp only
   rw [show (!t.led)=B by rw [S.tab.led]; cases B <;> rfl]
   cases B with
   | false =>
    rw [if_neg Bool.false_ne_true]
    refine wpAny_bind (eqy _ ?_)
    refine wpAny_bind (S.state ?_)
    rw [if_pos (show (true && true)=true from rfl)]
    exact wpAny_pure (h1 c)
   | true =>
    rw [if_pos rfl]
    refine wpAny_bind (b3F hb (λ y hy=>?_) ?_)
    ·exact b1E S.ent at_ (b1D hy)
    ·rw [if_neg Bool.false_ne_true]
     refine wpAny_bind (eqy _ ?_)
     refine wpAny_bind (S.state ?_)
     rw [if_pos (show (true && true)=true from rfl)]
     exact wpAny_pure (h1 c)
  ·rename_i heq
   have e3:∀ f:Nat->Int,f=(λ i=>(es[i]?.map (·.1)).getD 0)->t.probe f (hPr p) (t.probeStart (hPr p))=some _:=λ f hf=>by rw [hf]; exact e
   exact (heq _ (e3 _ rfl)).elim
 ·obtain ⟨j,e,nj,lj,r⟩:=S.tab.free few hA c l10
  split
  ·rename_i met heq
   have em:=(hA2 _ rfl _ heq).symm.trans e
   have em:=Option.some.inj em
   subst em
   exact wpAny_pure (h2 c j nj lj r)
  ·rename_i heq
   have e3:∀ f:Nat->Int,f=(λ i=>(es[i]?.map (·.1)).getD 0)->t.probe f (hPr p) (t.probeStart (hPr p))=some _:=λ f hf=>by rw [hf]; exact e
   exact (heq _ (e3 _ rfl)).elim
end
end Sp
set_option maxHeartbeats 2000000
namespace Sp
open PySem Sm
theorem b3G {g:Pr->Int} {es:Array (Int × Value)} {L:List (Addr × Pr)} (h:Paired (λ e q=>e.1=g q.2/\e.2=Value.ref q.1) es.toList L) (i:Nat) (b:Addr) (p:Pr):Paired (λ e q=>e.1=g q.2/\e.2=Value.ref q.1) (SetTable.insertAt es i (g p,Value.ref b)).toList (L.take i++(b,p)::L.drop i):=by
 rw [SetTable.toList_insertAt]
 exact a4A (a3I _ h) (.cons ⟨rfl,rfl⟩ (a3J _ h))
theorem b3H {α β:Type} (f:α->β) (l:List α) (i:Nat) (x:α):(l.take i++x::l.drop i).map f=(l.map f).take i++f x::(l.map f).drop i:=by
 rw [List.map_append,List.map_cons,List.map_take,List.map_drop]
theorem a7C {g:Pr->Int} {es:Array (Int × Value)} {L:List (Addr × Pr)} (h:Paired (λ e q=>e.1=g q.2/\e.2=Value.ref q.1) es.toList L):∀ {ks:List Nat},(∀ k∈ks,k < L.length)->Paired (λ e q=>e.1=g q.2/\e.2=Value.ref q.1) (ks.filterMap (es[·]?)) (ks.map λ k=>L.getD k (0,(0,0)))
 | [],_=>.nil
 | k::ks,hk=>by
  have kl:=hk k List.mem_cons_self
  obtain ⟨x,hx,h1⟩:=Sm.paired_get h k kl
  have ex:es[k]?=some x:=by rw [<- Array.getElem?_toList]; exact hx
  rw [List.filterMap_cons_some ex,List.map_cons]
  refine .cons ?_ (a7C h λ k' hk'=>hk k' (List.mem_cons_of_mem _ hk'))
  have:L.getD k (0,(0,0))=L[k]:=by rw [τα,List.getElem?_eq_getElem kl]; rfl
  rw [this]
  exact h1
theorem b5R {g:Pr->Int} {es:Array (Int × Value)} {L:List (Addr × Pr)} (h:Paired (λ e q=>e.1=g q.2/\e.2=Value.ref q.1) es.toList L):es.toList.map (λ x=>x.1)=(L.map (·.2)).map g:=by
 generalize es.toList=l at h
 induction h with
 | nil=>rfl
 | cons r _ ih=>rw [List.map_cons,List.map_cons,List.map_cons,ih,r.1]
theorem a9V {prog:Program} {w:World} {A:Around} {E:Value->Shared->Prop} {s:Shared} {es:Array (Int × Value)} {t:SetTable} {order:Array Nat} {Q:Array (Int × Value) × SetTable->Shared->Prop} (hz:(order.filterMap (es[·]?)).size=es.size) (h:Q (order.filterMap (es[·]?),t) s) :
  wpAny (model prog w) A (b3E es (some (t,order))) Q E s:=by
 unfold b3E
 dsimp only
 have e:((order.filterMap (es[·]?)).size != es.size)=false:=by rw [hz]; simp
 simp only [e,Bool.false_eq_true,if_false]
 first | exact wpAny_bind (wpAny_pure (wpAny_pure h)) | exact wpAny_pure h
section
variable {prog:Program} {w:World} {A:Around} {E:Value->Shared->Prop} {s:Shared}
theorem b3I {B:Bool} {a b:Addr} {p:Pr} {es:Array (Int × Value)} {ep:Nat} {t:SetTable} {L:List (Addr × Pr)} {Q:Bool->Shared->Prop} (hu:A.units < cLine) (S:SetP B s.heap a es ep t L) (at_:∀ q∈L,PrAt prog w s.heap q.2 q.1) (hb:PrAt prog w s.heap p b) (l10:p.1 < 10/\p.2 < 10) (l70:L.length < 70)
  (h:∀ r h' es' ep' t' L',Heap.SameBut a s.heap h'->SetP B h' a es' ep' t' L'->(∀ q,q∈L'↔q∈L\/(q=(b,p)/\p ∉ L.map (·.2)))->Q r { s with heap:=h' }):wpAny (model prog w) A (setAddHashed a (.ref b) (hPr p)) Q E s:=by
 unfold setAddHashed setAddHashedIn
 refine wpAny_holding (wpAny_bind (S.state ?_))
 dsimp only
 have bs:byScan (.ref b) es=false:=by simp [byScan,Value.scannable]
 rw [bs]
 simp only [Bool.false_eq_true,if_false]
 refine wpAny_bind (a9U hu S at_ hb l10 (λ c=>?_) (λ c j nj lj r=>?_))
 ·dsimp only
  refine wpAny_pure (h false s.heap es ep t L (Heap.SameBut.refl _ _) S λ q=>⟨.inl,λ z=>z.elim id λ z=>absurd c z.2⟩)
 ·dsimp only
  refine wpAny_bind (S.state ?_)
  obtain ⟨p1,p2,p3,T'⟩:=S.tab.put nj lj r c l10
  have pl:(t.put j).1.plain=true:=T'.pl
  dsimp only
  rw [pl]
  simp only [if_true]
  refine wpAny_bind (b7H hb ?_)
  simp only [if_true]
  have q:(SetTable.insertAt es (t.put j).2 (hPr p,Value.ref b)).size=L.length+1:=by
   have:=congrArg List.length (SetTable.toList_insertAt es (t.put j).2 (hPr p,Value.ref b))
   rw [Array.length_toList] at this
   rw [this,a4M,Array.length_toList,S.ent.len]
  have l1:((L.take (t.put j).2++(b,p)::L.drop (t.put j).2)).length=L.length+1:=a4M ..
  have hE:EsP (SetTable.insertAt es (t.put j).2 (hPr p,Value.ref b)) (L.take (t.put j).2++(b,p)::L.drop (t.put j).2):=b3G (g:=hPr) S.ent _ b p
  rw [<- b3H (λ x:Addr × Pr=>x.2) L (t.put j).2 (b,p)] at T'
  have mem:∀ u,u∈L.take (t.put j).2++(b,p)::L.drop (t.put j).2↔u∈L\/(u=(b,p)/\p ∉ L.map (·.2)):=λ u=>by
   rw [mem_ins]
   exact ⟨λ z=>z.elim (λ z=>.inr ⟨z,c⟩) .inl,λ z=>z.elim .inr λ z=>.inl z.1⟩
  generalize hes:SetTable.insertAt es (t.put j).2 (hPr p,Value.ref b)=es1 at q hE
  generalize hL:L.take (t.put j).2++(b,p)::L.drop (t.put j).2=L1 at l1 hE T' mem
  generalize (t.put j).1=t1 at p2 p3 T' pl
  refine wpAny_bind (wpAny_storeSet_of S.obj rfl ?_ (by rw [q,sizeLine_eq]; omega))
  have ho1:=a9R (es':=es1) (t':=t1) S.obj
  have fl:t1.fill=L.length+1:=by
   unfold SetTable.fill
   rw [T'.dm,T'.sz,List.length_map,l1]
   rfl
  cases tf:t1.tooFull with
  | false =>
   simp only [Bool.not_false,Bool.and_false,Bool.false_eq_true,if_false]
   refine wpAny_pure (h true _ es1 (ep+1) t1 L1 (Heap.SameBut.update ..) ⟨ho1,hE,T',?_⟩ mem)
   unfold SetTable.tooFull at tf
   have tf':=of_decide_eq_false tf
   rw [fl] at tf'
   omega
  | true =>
   simp only [Bool.not_false,Bool.and_self,if_true]
   unfold SetTable.tooFull at tf
   have tf':=of_decide_eq_true tf
   rw [fl] at tf'
   have few:=S.few
   have gr:SetTable.grown (es.size+1)=(L.length+1)*4:=by
    unfold SetTable.grown
    rw [S.ent.len,if_neg (by omega)]
   have mk:SetTable.sizeAbove ((L.length+1)*4) - 1=31/\L.length+1=5\/SetTable.sizeAbove ((L.length+1)*4) - 1=127/\L.length+1=19:=by
    rcases S.tab.mok with e | e | e
    ·rw [p2,e] at tf'
     rw [e] at few
     have:L.length+1=5:=by omega
     rw [this]
     exact .inl ⟨by decide,rfl⟩
    ·rw [p2,e] at tf'
     rw [e] at few
     have:L.length+1=19:=by omega
     rw [this]
     exact .inr ⟨by decide,rfl⟩
    ·rw [p2,e] at tf'
     omega
   rw [gr]
   have S1:∀ (Q':(Array (Int × Value) × Nat × SetTable)->Shared->Prop),Q' (es1,ep+1,t1) { s with heap:=s.heap.update a (Obj.putSet es1 t1) }->wpAny (model prog w) A (setState a) Q' E { s with heap:=s.heap.update a (Obj.putSet es1 t1) }:=λ Q' hq=>by
    refine wpAny_setState_of ho1 rfl ?_ hq
    have:=T'.fits (by rw [List.length_map,l1,p2]; have:=S.few; omega)
    rw [List.length_map,l1] at this
    rw [q]
    exact this
   refine wpAny_bind ?_
   rw [b1B]
   refine wpAny_bind (S1 _ ?_)
   dsimp only
   have hm:SetTable.sizeAbove ((L.length+1)*4) - 1=31\/SetTable.sizeAbove ((L.length+1)*4) - 1=127:=mk.imp (·.1) (·.1)
   have nm:L.length+1<=SetTable.sizeAbove ((L.length+1)*4) - 1:=by omega
   have fw:(L.length+1)*5 < (SetTable.sizeAbove ((L.length+1)*4) - 1)*3:=by omega
   rw [if_neg (by rw [sizeLine_eq]; omega)]
   have eh:(Array.map (λ x=>x.1) es1).toList=(L1.map (·.2)).map hPr:=by
    rw [Array.toList_map]
    exact b5R (g:=hPr) hE
   obtain ⟨t2,order,eo,po,m2,v2,T2⟩:=b1A (B:=B) (f:=t1.finger) (mv:=t1.movedTo (SetTable.sizeAbove ((L.length+1)*4) - 1)) hm T'.nd T'.lt (by rw [List.length_map,l1]; exact nm) eh
   have er:t1.relaid (Array.map (λ x=>x.1) es1) ((L.length+1)*4)=some (t2,order):=by
    unfold SetTable.relaid
    rw [T'.led,pl]
    exact eo
   rw [er]
   have lo:∀ k∈order.toList,k < L1.length:=λ k hk=>by
    have:=List.mem_range.mp (po.mem_iff.mp hk)
    rw [List.length_map] at this
    exact this
   have hE2:EsP (order.filterMap (es1[·]?)) (order.toList.map λ k=>L1.getD k (0,(0,0))):=by
    unfold EsP
    rw [Array.toList_filterMap]
    exact a7C (g:=hPr) hE lo
   have ol:order.toList.length=L.length+1:=by
    rw [po.length_eq,List.length_range,List.length_map,l1]
   have z2:(order.filterMap (es1[·]?)).size=es1.size:=by
    rw [hE2.len,List.length_map,ol,q]
   refine wpAny_bind (a9V z2 ?_)
   refine wpAny_storeSet_of ho1 rfl ?_ (by rw [z2,q,sizeLine_eq]; omega)
   have eL:(order.toList.map λ k=>L1.getD k (0,(0,0))).map (·.2)=order.toList.map λ k=>(L1.map (·.2)).getD k (0,0):=by
    rw [List.map_map]
    refine List.map_congr_left λ k _=>?_
    show (L1.getD k (0,(0,0))).2=(L1.map (·.2)).getD k (0,0)
    rw [τα,τα,List.getElem?_map]
    cases L1[k]? <;> rfl
   rw [<- eL] at T2
   have pg:(order.toList.map λ k=>L1.getD k (0,(0,0))).Perm L1:=a7B (0,(0,0)) L1 (by rw [List.length_map] at po; exact po)
   refine wpAny_pure (h true _ _ _ t2 _ ((Heap.SameBut.update ..).trans (Heap.SameBut.update ..)) ⟨a9R ho1,hE2,T2,?_⟩ λ u=>(pg.mem_iff).trans (mem u))
   rw [List.length_map,ol,m2]
   exact fw
end
end Sp
set_option maxHeartbeats 4000000
namespace Sm
open PySem
theorem slot_si_next:Slot "set_iterator" "__next__" "set_iterator.__next__" := .of (owner:="set_iterator") (n:="__next__") (by rw [typeLookup_type,builtinLookup_eq_fast]; kernel_rfl) (by decide +kernel) (by decide +kernel) (by decide +kernel) (by first | exact .inl (by decide +kernel) | exact .inr (by decide +kernel)) (by rw [isSubtype_type]; kernel_rfl)
theorem a2H:entryFor table "set_iterator.__next__" = some Builtin.«set_iterator.__next__» := entryFor_of_fast (by kernel_rfl)
theorem a2O (a:Value):argsOk "set_iterator.__next__" ⟨[a],[]⟩:=by unfold argsOk; kernel_rfl
theorem a2P:Slot "set_iterator" "__iter__" "set_iterator.__iter__" := .of (owner:="set_iterator") (n:="__iter__") (by rw [typeLookup_type,builtinLookup_eq_fast]; kernel_rfl) (by decide +kernel) (by decide +kernel) (by decide +kernel) (by first | exact .inl (by decide +kernel) | exact .inr (by decide +kernel)) (by rw [isSubtype_type]; kernel_rfl)
theorem a5Q (a:Value):argsOk "set_iterator.__iter__" ⟨[a],[]⟩:=by unfold argsOk; kernel_rfl
end Sm
set_option maxHeartbeats 4000000
namespace Sm
open PySem
theorem a4O:entryFor table "set_iterator.__iter__" = some Builtin.«dict_keyiterator.__iter__» := entryFor_alias (id':="dict_keyiterator.__iter__") (by kernel_rfl) rfl (by decide +kernel) (by kernel_rfl)
def a1J (w:World) (a:Addr) (ep:Nat) (es:Array (Int × Value)):Array (Int × Value):=if byT w=true then pickOrder (w.params.setOrder a ep) es else es
theorem a3M (w:World) (a:Addr) (ep:Nat) (es:Array (Int × Value)):(a1J w a ep es).toList.Perm es.toList:=by
 unfold a1J
 split
 ·exact a9S _ _
 ·exact .rfl
theorem a1N (w:World) (a:Addr) (ep:Nat) (es:Array (Int × Value)):(a1J w a ep es).size=es.size:=by
 have:=(a3M w a ep es).length_eq
 grind
theorem b3J (a:Addr) (slot given epochThen:Nat):setNext a slot given epochThen=(do
 let (xs,c,tb) <- setState a
 if <- setsByText then
  if c != epochThen then
   unsupported "set_iterator.__next__:elements-changed"
  let zs <- setWalk a
  return (zs[given]?).map λ z=>(z.2,slot)
 if !tb.plain && xs.size > 1 then
  unsupported "set_iterator.__next__:the-table-is-plain-no-more"
 (do if !tb.led && !xs.isEmpty then unsupported "set:maker-not-led" : Sem Unit)
 return match xs[SetTable.below tb.place slot]?,tb.place[SetTable.below tb.place slot]? with
  | some (_,z),some m=>some (z,m+1)
  | _,_=>none):=rfl
def a1K (B:Bool) (t:SetTable) (i:Nat):Nat:=if B=true then 0 else if i=0 then 0 else t.place.getD (i - 1) 0+1
section
variable {prog:Program} {w:World} {A:Around} {E:Value->Shared->Prop} {s:Shared} {a:Addr} {L:List Nat}
abbrev itO (sl i:Nat) (a:Addr) (n ep:Nat):Obj:={ cls:=.type "set_iterator", dict:=none,data:=.fields #[.int (sl:Nat) 0,.int (i:Nat) 0,.ref a,.int (n:Nat) 0,.int (ep:Nat) 0],slots:=#[] }
end
end Sm
set_option maxHeartbeats 4000000
namespace Sm
open PySem PyProof.Rows
section
variable {prog:Program} {w:World} {A:Around} {E:Value->Shared->Prop} {s:Shared} {a:Addr} {L:List Nat}
theorem b1F (a:Addr):setDrawn a=(do
 let (es,_,t) <- setState a
 let byText <- setsByText
 return !byText && (!t.plain && es.size > 1)):=rfl
theorem b3K:(Value.type "set" == Value.type "list")=false:=by decide
theorem b5S:(Value.type "set" == Value.type "tuple")=false:=by decide
theorem b1G:typeLookup (.type "set") "__len__" = pure (some (.builtin "set.__len__")):=F.slot_set_len.lookup
theorem split_len:splitId "set.__len__" = some ("set", "__len__"):=by decide +kernel
theorem sh_old {h:Heap} {a b:Addr} {vs:List Value} {out:Array Value} {o:Obj} (lb:b < h.objs.size) (ne:b≠a) (e:h.get? b=some o):(sortedHeap h a vs out).get? b=some o:=by
 unfold sortedHeap
 rw [Heap.get?_update_ne _ _ _ _ ne]
 exact Heap.get?_push_of_some _ (Heap.get?_push_of_some _ (by rw [Heap.get?_update_ne _ _ _ _ ne]; exact e))
theorem sh_at {h:Heap} {a:Addr} {vs:List Value} {xs out:Array Value} {n:Nat} (e:h.get? a=some (seqObj "list" xs n)):∃ n',(sortedHeap h a vs out).get? a=some (seqObj "list" out n'):=by
 unfold sortedHeap
 exact ⟨_,get?_update_seq (Heap.get?_push_of_some _ (Heap.get?_push_of_some _ (get?_update_seq e λ _=>#[]))) λ _=>out⟩
end
end Sm
set_option maxHeartbeats 4000000
namespace Sm
open PySem PyProof.Rows
section
variable {prog:Program} {w:World} {A:Around} {R:Result->Shared->Prop} {I:Addr} {fp wr:List Addr} {G:Array GenState->Array GenState->Prop} {n:Nat} {P:Nat->Value->Prop} {St:Nat->Shared->Prop}
end
section
variable {prog:Program} {w:World} {A:Around} {E:Value->Shared->Prop} {s:Shared}
theorem b3L (a:Value) {Q:Value->Shared->Prop} (h:Q (.ref s.heap.objs.size) { s with heap:=s.heap.push (setO #[] 0 (.fresh 0 0 (!byT w))) }) :
  codeAny (model prog w) A (.call (.builtin "set.__new__") ⟨[.type "set", a],[]⟩) (wants Q E) s:=by
 refine codeAny_of_tree ?_
 show wpAny _ A.in1 (do checkBuiltinCall "set.__new__" ⟨[.type "set", a],[]⟩; again (.builtin "set.__new__" ⟨[.type "set", a],[]⟩)) _ _ s; refine wpAny_bind (wpAny_of_eq (F.newCall_set_1 a) (wpAny_pure ⟨plainId_quiet F.plain_set_new _,codeAny_builtin F.entry_set_new ?_⟩))
 rw [Around.under_plainId F.plain_set_new _]
 unfold Builtin.«set.__new__» Builtin.Frozenset.newClass
 have hsub:=sub_set_self
 obtain ⟨hp,g,d,tk,os⟩:=s
 dsimp only at h ⊢
 wp_walk
 refine wpAny_askSetting (wpAny_pure ?_)
 dsimp only
 simp only [newObj]
 exact wpAny_bind (wpAny_alloc (wpAny_pure (wpAny_pure h)))
set_option maxHeartbeats 8000000 in
end
end Sm
set_option maxHeartbeats 4000000
namespace Sp
open PySem PyProof.Rows Sm
def allP:List Pr:=(List.range 10).flatMap λ y=>(List.range y).map λ x=>(x,y)
theorem b1H:allP.length=45:=by decide +kernel
theorem b1I {p:Pr} (h:p.1 < p.2) (l:p.2 < 10):p∈allP:=by
 unfold allP
 exact List.mem_flatMap.mpr ⟨p.2,List.mem_range.mpr l,List.mem_map.mpr ⟨p.1,List.mem_range.mpr h,rfl⟩⟩
theorem b5T {L:List Pr} (nd:L.Nodup) (h:∀ p∈L,p.1 < p.2/\p.2 < 10):L.length<=45:=by
 have go:∀ (l m:List Pr),l.Nodup->(∀ x∈l,x∈m)->l.length<=m.length:=by
  intro l
  induction l with
  | nil=>exact λ _ _ _=>Nat.zero_le _
  | cons a r ih =>
   intro m nd h
   have am:a∈m:=h a List.mem_cons_self
   obtain ⟨n1,n2⟩:=List.nodup_cons.mp nd
   have q:=ih (m.erase a) n2 λ x hx=>(List.mem_erase_of_ne (λ e=>n1 (by rw [<- e]; exact hx))).mpr (h x (List.mem_cons_of_mem _ hx))
   rw [List.length_erase_of_mem am] at q
   have:=List.length_pos_of_mem am
   rw [List.length_cons]
   omega
 have:=go L allP nd λ p hp=>b1I (h p hp).1 (h p hp).2
 rw [b1H] at this
 exact this
theorem b3M {prog:Program} {w:World} (p:Pr):tupleKeyHash (intKind prog w) [(p.1:Int),(p.2:Int)]=hPr p:=by
 unfold tupleKeyHash hPr hP
 rfl
theorem PrAt.keep {prog:Program} {w:World} {h h':Heap} {p:Pr} {b:Addr} (x:PrAt prog w h p b) (k:∀ o,h.get? b=some o->h'.get? b=some o):PrAt prog w h' p b:=by
 obtain ⟨o,items,n,ho,r⟩:=x
 exact ⟨o,items,n,k o ho,r⟩
theorem SetP.keep {B:Bool} {h h':Heap} {a:Addr} {es:Array (Int × Value)} {ep:Nat} {t:SetTable} {L:List (Addr × Pr)} (S:SetP B h a es ep t L) (k:∀ o,h.get? a=some o->h'.get? a=some o):SetP B h' a es ep t L:=⟨k _ S.obj,S.ent,S.tab,S.few⟩
section
variable {prog:Program} {w:World} {A:Around} {R:Result->Shared->Prop} {I:Addr} {fp wr:List Addr} {G:Array GenState->Array GenState->Prop} {n:Nat} {P:Nat->Value->Prop} {St:Nat->Shared->Prop}
theorem b1J (hu:A.in1.units < cLine) (W:WalksS prog w A.in1 I fp wr G n P St) (S:Addr) (nf:S ∉ fp) (bs:Nat->Addr) (ps:Nat->Pr) (hv:∀ i v,i < n->P i v->v = .ref (bs i)) (lt:∀ i,i < n->(ps i).1 < (ps i).2/\(ps i).2 < 10) (nb:∀ i,i < n->bs i≠S/\bs i ∉ wr) :
  ∀ (k i:Nat) (s:Shared) (es:Array (Int × Value)) (ep:Nat) (t:SetTable) (L:List (Addr × Pr)),n - i=k->i<=n->St i s->(∀ j,j < n->PrAt prog w s.heap (ps j) (bs j))->SetP (byT w) s.heap S es ep t L->(∀ q∈L,∃ j,j < i/\q=(bs j,ps j))->(∀ j,j < i->ps j∈L.map (·.2)) ->
   (∀ s' es' ep' t' L',Moved (S::wr) G s s'->SetP (byT w) s'.heap S es' ep' t' L'->(∀ q∈L',∃ j,j < n/\q=(bs j,ps j))->(∀ j,j < n->ps j∈L'.map (·.2))->R (.ok (.ret .none)) s') ->
   codeAny (model prog w) A (.builtin "set.update.loop" ⟨[.ref S,.ref I],[]⟩) R s:=by
 have nw:S ∉ wr:=λ h=>nf (W.sub _ h)
 have up:∀ b∈wr,b∈S::wr:=λ b hb=>List.mem_cons_of_mem _ hb
 intro k
 induction k with
 | zero =>
  intro i s es ep t L hk hi st hp hS m1 m2 hR
  obtain rfl:i=n:=by omega
  refine codeAny_builtin F.entry_set_update_loop ?_
  rw [Around.under_plainId F.plain_set_update_loop _]; show wpAny _ A.in1 (pyNext (.ref I) >>= _) _ _ s; refine wpAny_bind (W.done s _ _ st λ s' hm=>?_)
  exact wpAny_pure (hR s' es ep t L (hm.mono up) (hS.keep λ o e=>hm.heap S o nw e) m1 m2)
 | succ k ih =>
  intro i s es ep t L hk hi st hp hS m1 m2 hR
  have li:i < n:=by omega
  refine codeAny_builtin F.entry_set_update_loop ?_
  rw [Around.under_plainId F.plain_set_update_loop _]; show wpAny _ A.in1 (pyNext (.ref I) >>= _) _ _ s; refine wpAny_bind (W.item i s _ _ li st λ v s' hP st' hm=>?_)
  obtain rfl:=hv i v li hP
  have hS':=hS.keep λ o e=>hm.heap S o nw e
  have hp':∀ j,j < n->PrAt prog w s'.heap (ps j) (bs j):=λ j hj=>(hp j hj).keep λ o e=>hm.heap _ o (nb j hj).2 e
  show wpAny _ A.in1 (holding [Value.ref (bs i)] (setAdd S (.ref (bs i))) >>= _) _ _ s'
  refine wpAny_bind (wpAny_holding ?_)
  unfold setAdd
  refine wpAny_holding (wpAny_bind (wpAny_pyHash_tuple hu (hp' i li) ?_))
  rw [b3M]
  have l45:L.length<=45:=by
   have:=b5T hS.tab.nd λ p hp=>by
    obtain ⟨q,hq,rfl⟩:=List.mem_map.mp hp
    obtain ⟨j,hj,rfl⟩:=m1 q hq
    exact lt j (by omega)
   rw [List.length_map] at this
   exact this
  have li10:=lt i li
  generalize htk:s'.toks+_=tk
  refine b3I (s:={ s' with toks:=tk }) hu hS' (λ q hq=>?_) (hp' i li) ⟨by omega,by omega⟩ (by omega) λ r h' es' ep' t' L' sb S2 mem=>?_
  ·obtain ⟨j,hj,rfl⟩:=m1 q hq
   exact hp' j (by omega)
  have tkl:s'.toks<=tk:=by rw [<- htk]; exact Nat.le_add_right _ _
  refine wpAny_pure ⟨plainId_quiet F.plain_set_update_loop _,ih (i+1) _ es' ep' t' L' (by omega) li (W.frame _ s' _ _ st' tkl λ c hc o e=>?_) (λ j hj=>(hp' j hj).keep λ o e=>?_) S2 (λ q hq=>?_) (λ j hj=>?_) λ s2 es2 ep2 t2 L2 hm2 h2 h3 h4=>hR s2 es2 ep2 t2 L2 (Moved.trans W.gtrans ((hm.mono up).then_heap tkl λ c o hc e=>?_) hm2) h2 h3 h4⟩
  ·rw [sb.2 c (λ q:c=S=>nf (by rw [<- q]; exact hc))]; exact e
  ·rw [sb.2 _ (nb j hj).1]; exact e
  ·rcases (mem q).mp hq with hq | ⟨rfl,_⟩
   ·obtain ⟨j,hj,e⟩:=m1 q hq
    exact ⟨j,by omega,e⟩
   ·exact ⟨i,by omega,rfl⟩
  ·by_cases c:j=i
   ·subst c
    by_cases d:ps j∈L.map (·.2)
    ·obtain ⟨q,hq,e⟩:=List.mem_map.mp d
     exact List.mem_map.mpr ⟨q,(mem q).mpr (.inl hq),e⟩
    ·exact List.mem_map.mpr ⟨(bs j,ps j),(mem _).mpr (.inr ⟨rfl,d⟩),rfl⟩
   ·obtain ⟨q,hq,e⟩:=List.mem_map.mp (m2 j (by omega))
    exact List.mem_map.mpr ⟨q,(mem q).mpr (.inl hq),e⟩
  ·rw [sb.2 c (λ q:c=S=>hc (by rw [q]; exact List.mem_cons_self))]; exact e
end
end Sp
set_option maxHeartbeats 4000000
namespace Sp
open PySem PyProof.Rows Sm
theorem a9W (B:Bool):TbP B (.fresh 0 0 (!B)) []:=by
 have e:SetTable.fresh 0 0 (!B)=SetTable.fresh 0 0 (!B):=rfl
 refine ⟨rfl,rfl,rfl,.nil,rfl,.nil,λ p hp=>(List.not_mem_nil hp).elim,.inl rfl,λ j hj=>(List.not_mem_nil hj).elim,λ i j p h=>?_⟩
 cases h
section
variable {prog:Program} {w:World} {A:Around} {E:Value->Shared->Prop} {s:Shared}
set_option maxHeartbeats 8000000 in
theorem b3N {l:Addr} {items:Array Value} {bs:List Addr} {ps:List Pr} {Q:Value->Shared->Prop} (hu:A.units+8 < cLine) (hh:A.handled=none) (hl:s.heap.IsList l items) (hi:items.toList=bs.map Value.ref) (hz:ps.length=bs.length)
  (at_:∀ j,j < bs.length->PrAt prog w s.heap (ps.getD j (0,0)) (bs.getD j 0)) (lt:∀ p∈ps,p.1 < p.2/\p.2 < 10)
  (h:∀ (h':Heap) (tk:Nat) es ep t (L:List (Addr × Pr)),SetP (byT w) h' s.heap.objs.size es ep t L->(∀ q∈L,∃ j,j < bs.length/\q=(bs.getD j 0,ps.getD j (0,0)))->(∀ p∈ps,p∈L.map (·.2))->(∀ b o,b < s.heap.objs.size->s.heap.get? b=some o->h'.get? b=some o)->Q (.ref s.heap.objs.size) { s with heap:=h',toks:=tk }) :
  wpAny (model prog w) A (call (.type "set") [.ref l]) Q E s:=by
 obtain ⟨c,tl,hmro⟩:=F.called_set.mro
 have hmade:=F.called_set.made
 have hsub:=F.called_set.sub
 have hlen:items.size=bs.length:=by
  have:=congrArg List.length hi
  rw [Array.length_toList,List.length_map] at this
  exact this
 refine wpAny_call (codeAny_of_tree ?_)
 show wpAny _ _ (callAny (.type "set") _) _ _ _; refine wpAny_pure ⟨Code.quiet_builtin _ (by decide +kernel),codeAny_builtin F.entry_type_call ?_⟩
 rw [Around.under_plain (weight_type_call_type "set" [.ref l] []) rfl]; have h1:=F.called_set.notType
 have h2:=F.called_set.canCreate
 have hct:=F.typeCall_set_1 (.ref l)
 repeat (any_goals (first | assumption | wp_step))
 refine codeAny_mono (b3L (.ref l) (E:=E) (Q:=λ obj s₁=>obj = .ref s.heap.objs.size/\s₁={ s with heap:=s.heap.push (setO #[] 0 (.fresh 0 0 (!byT w))) }) ⟨rfl,rfl⟩) λ r s₁ hr=>?_
 cases r with
 | error e=>exact hr
 | ok fl =>
  cases fl with
  | ret obj =>
   obtain ⟨rfl,rfl⟩:=hr
   have gS:(s.heap.push (setO #[] 0 (.fresh 0 0 (!byT w)))).get? s.heap.objs.size=some (setO #[] 0 (.fresh 0 0 (!byT w))):=Heap.get?_push_size _ rfl
   have hT:Shared.TypeIs { s with heap:=s.heap.push (setO #[] 0 (.fresh 0 0 (!byT w))) } (.ref s.heap.objs.size) "set" := ⟨_,gS,rfl⟩
   have hli:=F.called_set.init.lookup
   have hbi:=F.called_set.init.bind (.ref s.heap.objs.size)
   repeat (any_goals (first | assumption | wp_step))
   refine codeAny_mono (codeAny_call_builtin (R:=wants (λ r s₂=>r = .none/\∃ h' tk es ep t L,s₂={ s with heap:=h',toks:=tk }/\SetP (byT w) h' s.heap.objs.size es ep t L/\(∀ q∈L,∃ j,j < bs.length/\q=(bs.getD j 0,ps.getD j (0,0)))/\(∀ p∈ps,p∈L.map (·.2)) /\
     (∀ b o,b < s.heap.objs.size->s.heap.get? b=some o->h'.get? b=some o)) E) F.called_set.init.plain F.entry_set_init (check_set_init_1 hT ?_)) λ r₂ s₂ hr₂=>?_
   ·obtain ⟨ol,hol,hcl,nl,hdl⟩:=hl
    obtain ⟨ocls,odict,odata,oslots⟩:=ol
    simp only at hcl hdl
    subst hcl; subst hdl
    have hol':(s.heap.push (setO #[] 0 (.fresh 0 0 (!byT w)))).get? l=some { cls:=.type "list", dict:=odict,data:=.seq items nl,slots:=oslots }:=Heap.get?_push_of_some _ hol
    have hsls:=F.sub_list_set
    have hslf:=F.sub_list_frozenset
    have hne:(Value.type "list" == Value.type "dict")=false:=by decide
    have hl1:(s.heap.push (setO #[] 0 (.fresh 0 0 (!byT w)))).IsList l items:=⟨_,hol',rfl,nl,rfl⟩
    unfold Builtin.«set.__init__» noKeywords Builtin.Frozenset.updateFrom
    generalize hPI:pyIter=PI
    wp_walk
    subst hPI
    refine wpAny_pyIter_list hl1 (wpAny_bind (wpAny_runValue ?_))
    have ll:l < s.heap.objs.size:=Heap.lt_size hol
    have hh3:A.in1.in1.in1.handled=none:=by simp [hh]
    have ni:l≠(s.heap.push (setO #[] 0 (.fresh 0 0 (!byT w)))).objs.size:=by rw [Heap.size_push]; exact Nat.ne_of_lt (Nat.lt_succ_of_lt ll)
    have nf:s.heap.objs.size ∉ [(s.heap.push (setO #[] 0 (.fresh 0 0 (!byT w)))).objs.size,l]:=by
     rw [Heap.size_push]; simp only [List.mem_cons,List.not_mem_nil,or_false,not_or]
     exact ⟨Nat.ne_of_lt (Nat.lt_succ_self _),Nat.ne_of_gt ll⟩
    have hval:∀ (i:Nat) (v:Value),i < items.size->items[i]?=some v->v = .ref ((λ i=>bs.getD i 0) i):=λ i v li hv=>by
     have lb:i < bs.length:=by omega
     rw [<- Array.getElem?_toList,hi,List.getElem?_map,List.getElem?_eq_getElem lb] at hv
     rw [<- Option.some.inj hv]
     simp [List.getD,lb]
    have lbs:∀ j,j < bs.length->bs.getD j 0 < s.heap.objs.size:=λ j hj=>by
     obtain ⟨o,_,_,ho,_⟩:=at_ j hj
     exact Heap.lt_size ho
    refine b1J (by show A.units+1+1+1 < cLine; omega) ((Walks.list hh3 _ l ni items).toS) s.heap.objs.size nf (λ i=>bs.getD i 0) (λ i=>ps.getD i (0,0)) hval (λ i li=>?_) (λ i li=>⟨?_,?_⟩) (items.size - 0) 0 _ #[] 0 _ [] (by omega) (Nat.zero_le _) ⟨⟨_,Heap.get?_push_size _ rfl,rfl,rfl⟩,(hl1.push _)⟩ (λ j hj=>?_) ⟨Heap.get?_push_of_some _ gS,.nil,a9W _,by show 0*5 < 7*3; decide⟩ (λ q hq=>(List.not_mem_nil hq).elim) (λ j hj=>(Nat.not_lt_zero _ hj).elim) ?hR
    ·have lv:i < ps.length:=by omega
     refine lt _ ?_
     simp [List.getD,lv]
    ·exact Nat.ne_of_lt (lbs i (by omega))
    ·rw [Heap.size_push]
     simp only [List.mem_cons,List.not_mem_nil,or_false]
     exact Nat.ne_of_lt (Nat.lt_succ_of_lt (lbs i (by omega)))
    ·exact (at_ j (by omega)).keep λ o e=>Heap.get?_push_of_some _ (Heap.get?_push_of_some _ e)
    case hR =>
     intro s' es' ep' t' L' hm hS' m1 m2
     obtain ⟨h',g',d',tk',os'⟩:=s'
     have eg:g'=s.gens:=hm.gens
     have ed:d'=s.drawn:=hm.drawn
     have eo:os'=s.os:=hm.os
     subst eg; subst ed; subst eo
     show wpAny _ _ _ _ _ _
     refine wpAny_pure ?_
     show wpAny _ _ (ret Value.none) _ _ _; refine wpAny_pure ⟨rfl,h',tk',es',ep',t',L',rfl,hS',λ q hq=>?_,λ p hp=>?_,λ b o hb e=>?_⟩
     ·obtain ⟨j,hj,e⟩:=m1 q hq
      exact ⟨j,by omega,e⟩
     ·obtain ⟨j,hj,e⟩:=List.getElem_of_mem hp
      have:=m2 j (by omega)
      rw [τα,List.getElem?_eq_getElem hj,e] at this
      exact this
     ·have b1:b≠s.heap.objs.size:=Nat.ne_of_lt hb
      have b2:b≠(s.heap.push (setO #[] 0 (.fresh 0 0 (!byT w)))).objs.size:=by rw [Heap.size_push]; exact Nat.ne_of_lt (Nat.lt_succ_of_lt hb)
      exact hm.heap b o (by simp only [List.mem_cons,List.not_mem_nil,or_false,not_or]; exact ⟨b1,b2⟩) (Heap.get?_push_of_some _ (Heap.get?_push_of_some _ e))
   ·cases r₂ with
    | error e=>exact hr₂
    | ok fl₂ =>
     cases fl₂ with
     | ret r =>
      obtain ⟨rfl,h',tk,es,ep,t,L,rfl,q1,q2,q3,q4⟩:=hr₂
      repeat (any_goals (first | assumption | wp_step))
      exact h _ _ es ep t L q1 q2 q3 q4
     | _=>exact hr₂.elim
  | _=>exact hr.elim
end
end Sp
set_option maxHeartbeats 4000000
namespace Sp
open PySem PyProof.Rows Sm
theorem a7X {B:Bool} {t:SetTable} {L:List (Addr × Pr)} (T:TbP B t (L.map (·.2))) (hB:B=false):∀ i,i<=L.length->SetTable.below t.place (a1K B t i)=i
 | 0,_=>by
  unfold a1K
  rw [hB]
  exact a7T T.up
 | k+1,h=>by
  unfold a1K
  rw [hB]
  have hk:k < t.place.size:=by rw [T.sz,List.length_map]; omega
  simp only [Bool.false_eq_true,if_false,Nat.add_sub_cancel]
  rw [if_neg (by omega)]
  have:t.place.getD k 0=t.place[k]:=by simp [Array.getD,hk]
  rw [this]
  exact a7U T.up hk
section
variable {prog:Program} {w:World} {A:Around} {E:Value->Shared->Prop} {s:Shared} {a:Addr} {L:List (Addr × Pr)}
theorem a9X {es:Array (Int × Value)} {ep:Nat} {t:SetTable} {B:Bool} {Q:Nat->Shared->Prop} (ho:s.heap.get? a=some (setO es ep t)) (hE:EsP es L) (T:TbP B t (L.map (·.2))) (fw:L.length*5 < t.mask*3) (h:Q ep s):wpAny (model prog w) A (setEpoch a) Q E s :=
 wpAny_setEpoch_of ho rfl (by rw [hE.len]; exact (λ z=>by rw [List.length_map] at z; exact z:t.fits (L.map (·.2)).length=true->t.fits L.length=true) (T.fits (by rw [List.length_map]; omega))) h
theorem b3O {es:Array (Int × Value)} {ep:Nat} {t:SetTable} {Q:Array (Int × Value)->Shared->Prop} (ho:s.heap.get? a=some (setO es ep t)) (hE:EsP es L) (T:TbP (byT w) t (L.map (·.2))) (fw:L.length*5 < t.mask*3)
  (h:Q (a1J w a ep es) s):wpAny (model prog w) A (setWalk a) Q E s:=by
 rw [b3D]
 refine wpAny_bind (SetP.state (SetP.mk ho hE T fw) ?_)
 refine wpAny_bind (a3L ?_)
 have pl:=T.pl
 have ld:=T.led
 unfold a1J at h
 cases c:byT w with
 | true =>
  rw [c] at h
  simp only [if_true] at h ⊢
  exact wpAny_bind (wpAny_askSetting (wpAny_pure h))
 | false =>
  rw [c] at ld h
  simp only [pl,ld,Bool.not_true,Bool.not_false,Bool.false_and,Bool.false_eq_true,if_false] at h ⊢
  first | exact wpAny_bind (wpAny_pure (wpAny_pure h)) | exact wpAny_pure h
theorem a7D {es:Array (Int × Value)} {ep i:Nat} {t:SetTable} {Q:Option (Value × Nat)->Shared->Prop} (ho:s.heap.get? a=some (setO es ep t)) (hE:EsP es L) (T:TbP (byT w) t (L.map (·.2))) (fw:L.length*5 < t.mask*3) (hi:i<=L.length)
  (h:Q (((a1J w a ep es)[i]?).map λ e=>(e.2,a1K (byT w) t (i+1))) s):wpAny (model prog w) A (setNext a (a1K (byT w) t i) i ep) Q E s:=by
 rw [b3J]
 refine wpAny_bind (SetP.state (SetP.mk ho hE T fw) ?_)
 refine wpAny_bind (a3L ?_)
 have pl:=T.pl
 have ld:=T.led
 cases c:byT w with
 | true =>
  simp only [if_true,bne_self_eq_false,Bool.false_eq_true,if_false]
  refine wpAny_bind (b3O ho hE T fw (wpAny_pure ?_))
  rw [c] at h
  unfold a1K at h ⊢
  simp only [if_true] at h ⊢
  exact h
 | false =>
  rw [c] at ld h
  simp only [pl,ld,Bool.not_true,Bool.not_false,Bool.false_and,Bool.false_eq_true,if_false]
  have bs:=a7X T c i hi
  rw [c] at bs
  rw [bs]
  have wk:a1J w a ep es=es:=by unfold a1J; rw [c]; rfl
  rw [wk] at h
  have e:(match es[i]?,t.place[i]? with
   | some (_,z),some m=>some (z,m+1)
   | _,_=>none)=(es[i]?).map λ e=>(e.2,a1K false t (i+1)):=by
   by_cases q:i < L.length
   ·have h1:i < es.size:=by rw [hE.len]; exact q
    have h2:i < t.place.size:=by rw [T.sz,List.length_map]; exact q
    rw [Array.getElem?_eq_getElem h1,Array.getElem?_eq_getElem h2]
    unfold a1K
    simp [Array.getD,h2]
   ·have h1:es[i]?=none:=Array.getElem?_eq_none (by rw [hE.len]; omega)
    rw [h1]
    rfl
  first
  | exact wpAny_bind (wpAny_pure (wpAny_pure (cast (congrArg (λ z=>Q z s) e.symm) h)))
  | exact wpAny_pure (cast (congrArg (λ z=>Q z s) e.symm) h)
theorem b3P {I:Addr} {es:Array (Int × Value)} {ep i:Nat} {t:SetTable} {e:Int × Value} {Q:Option Value->Shared->Prop} (ne:a≠I) (ho:s.heap.get? a=some (setO es ep t)) (hE:EsP es L) (T:TbP (byT w) t (L.map (·.2))) (fw:L.length*5 < t.mask*3)
  (hI:s.heap.get? I=some (itO (a1K (byT w) t i) i a L.length ep)) (hw:(a1J w a ep es)[i]?=some e)
  (h:∀ h',h'.get? I=some (itO (a1K (byT w) t (i+1)) (i+1) a L.length ep)->Heap.SameBut I s.heap h'->Q (some e.2) { s with heap:=h' }):wpAny (model prog w) A (pyNext (.ref I)) Q E s:=by
 have hi:i < L.length:=by
  rcases Nat.lt_or_ge i (a1J w a ep es).size with q | q
  ·rw [a1N,hE.len] at q; exact q
  ·rw [Array.getElem?_eq_none q] at hw; cases hw
 have hT:s.TypeIs (.ref I) "set_iterator" := ⟨_,hI,rfl⟩
 unfold pyNext
 refine wpAny_bind (wpAny_attempt (wpAny_callSpecial?_slot (name:=Str.ofString "__next__") hT slot_si_next (wpAny_call_entry slot_si_next hT a2H ?_ (a2O _))))
 unfold Builtin.«set_iterator.__next__»
 refine wpAny_bind (m:=slotArgs "__next__" 0 _) (wpAny_pure ?_)
 dsimp only
 refine wpAny_bind (wpAny_fieldsOf hI rfl ?_)
 dsimp only
 unfold setEntries
 refine wpAny_bind (wpAny_bind (SetP.state (SetP.mk ho hE T fw) (wpAny_pure ?_)))
 have z:(((es.size:Nat):Int) != ((L.length:Nat):Int))=false:=by rw [hE.len]; simp
 dsimp only
 rw [z]
 simp only [Bool.false_eq_true,if_false,Int.toNat_natCast]
 refine wpAny_bind (a7D ho hE T fw (by omega) ?_)
 rw [hw]
 dsimp only [Option.map]
 refine wpAny_bind (wpAny_setField_rec hI (by simp) λ h1 hI1 sb1=>?_)
 refine wpAny_bind (wpAny_setField_rec (s:={ s with heap:=h1 }) hI1 (by simp) λ h2 hI2 sb2=>?_)
 refine wpAny_pure ⟨_,rfl,wpAny_pure (h h2 ?_ (sb1.trans sb2))⟩
 rw [hI2]
 simp [rawInt]
theorem b5U {I:Addr} {es:Array (Int × Value)} {ep:Nat} {t:SetTable} {Q:Option Value->Shared->Prop} (hh:A.handled=none) (ne:a≠I) (ho:s.heap.get? a=some (setO es ep t)) (hE:EsP es L) (T:TbP (byT w) t (L.map (·.2))) (fw:L.length*5 < t.mask*3)
  (hI:s.heap.get? I=some (itO (a1K (byT w) t L.length) L.length a L.length ep))
  (h:∀ h',Heap.ExtBut I s.heap h'->Q none { s with heap:=h' }):wpAny (model prog w) A (pyNext (.ref I)) Q E s:=by
 have hT:s.TypeIs (.ref I) "set_iterator" := ⟨_,hI,rfl⟩
 unfold pyNext
 refine wpAny_bind (wpAny_attempt (wpAny_callSpecial?_slot (name:=Str.ofString "__next__") hT slot_si_next (wpAny_call_entry slot_si_next hT a2H ?_ (a2O _))))
 unfold Builtin.«set_iterator.__next__»
 refine wpAny_bind (m:=slotArgs "__next__" 0 _) (wpAny_pure ?_)
 dsimp only
 refine wpAny_bind (wpAny_fieldsOf hI rfl ?_)
 dsimp only
 unfold setEntries
 refine wpAny_bind (wpAny_bind (SetP.state (SetP.mk ho hE T fw) (wpAny_pure ?_)))
 have z:(((es.size:Nat):Int) != ((L.length:Nat):Int))=false:=by rw [hE.len]; simp
 dsimp only
 rw [z]
 simp only [Bool.false_eq_true,if_false,Int.toNat_natCast]
 refine wpAny_bind (a7D ho hE T fw (by omega) ?_)
 rw [Array.getElem?_eq_none (by rw [a1N,hE.len]; exact Nat.le_refl _)]
 dsimp only [Option.map]
 refine wpAny_bind (wpAny_setField_rec hI (by simp) λ h1 hI1 sb1=>?_)
 refine wpAny_bind ?_
 simp only [newExc,newTuple]
 refine wpAny_bind (wpAny_newObj_type ?_ (by size_fits))
 refine wpAny_bind (m:=firstArgMember _ _) (wpAny_of_eq (a:=Value.none) (by first | rfl | (simp only [firstArgMember]; rfl)) ?_); refine wpAny_newObj_type ?_ (by size_fits)
 simp only [raiseNew]
 refine wpAny_bind (wpAny_handled ?_)
 rw [show A.in1.handled=none from hh]; refine wpAny_bind (wpAny_pure (wpAny_throw ?_))
 refine wpAny_bind (wpAny_isInstance (U:="StopIteration") (T:="StopIteration") (b:=true) ⟨_,Heap.get?_push_size _ rfl,rfl⟩ isSubtype_stop ?_)
 exact wpAny_pure (h _ ((sb1.extBut.push _).push _))
theorem b5V {I:Addr} {es:Array (Int × Value)} {ep:Nat} {t:SetTable} (hh:A.handled=none) (ne:a≠I) (hE:EsP es L) (T:TbP (byT w) t (L.map (·.2))) (fw:L.length*5 < t.mask*3) :
  Walks prog w A I [I,a] [I] L.length (λ i v=>∃ e,(a1J w a ep es)[i]?=some e/\v=e.2)
   (λ i h=>h.get? I=some (itO (a1K (byT w) t i) i a L.length ep)/\h.get? a=some (setO es ep t)) where
 sub:=λ b hb=>by simp at hb; simp [hb]
 frame:=λ _ _ _ st hk=>⟨hk I (by simp) _ st.1,hk a (by simp) _ st.2⟩
 item:=λ i s Q E hi st hQ=>by
  obtain ⟨e,he⟩:∃ e,(a1J w a ep es)[i]?=some e:=⟨_,Array.getElem?_eq_getElem (by rw [a1N,hE.len]; exact hi)⟩
  refine b3P ne st.2 hE T fw st.1 he λ h' hI sb=>?_
  exact hQ _ h' s.toks ⟨e,he,rfl⟩ ⟨hI,by rw [sb.2 a ne]; exact st.2⟩ λ b o hb q=>by rw [sb.2 b (λ c=>hb (by simp [c]))]; exact q
 done:=λ s Q E st hQ=>b5U hh ne st.2 hE T fw st.1 λ h' xb=>hQ h' s.toks λ b o hb q=>xb b o (λ c=>hb (by simp [c])) q
 self:=λ i s Q E st hQ=>by
  have hT:s.TypeIs (.ref I) "set_iterator" := ⟨_,st.1,rfl⟩
  refine wpAny_pyIter_slot hT a2P (wpAny_call_entry a2P hT a4O ?_ (a5Q _))
  show wpAny _ _ (ret (Value.ref I)) _ _ s; exact wpAny_pure ⟨_,rfl, "set_iterator", _,hT,slot_si_next.lookup,hQ⟩
theorem b3Q {es:Array (Int × Value)} {ep:Nat} {t:SetTable} {Q:Value->Shared->Prop} (ho:s.heap.get? a=some (setO es ep t)) (hE:EsP es L) (T:TbP (byT w) t (L.map (·.2))) (fw:L.length*5 < t.mask*3)
  (h:Q (.ref s.heap.objs.size) { s with heap:=s.heap.push (itO 0 0 a L.length ep) }):wpAny (model prog w) A (pyIter (.ref a)) Q E s:=by
 have hT:s.TypeIs (.ref a) "set" := ⟨_,ho,rfl⟩
 refine wpAny_pyIter_slot hT F.slot_set_iter (wpAny_call_entry F.slot_set_iter hT a7W ?_ (F.args_set_iter_1 _))
 unfold Builtin.«frozenset.__iter__»
 refine wpAny_bind (m:=Builtin.Frozenset.slot0 _ _) (wpAny_pure ?_)
 unfold Builtin.Frozenset.sizeOf setEntries
 refine wpAny_bind (wpAny_bind (wpAny_bind (SetP.state (SetP.mk ho hE T fw) (wpAny_pure (wpAny_pure ?_)))))
 rw [b1F]
 refine wpAny_bind (wpAny_bind (SetP.state (SetP.mk ho hE T fw) ?_))
 refine wpAny_bind (a3L (wpAny_pure ?_))
 rw [T.pl]
 simp only [Bool.not_true,Bool.false_and,Bool.and_false,Bool.false_eq_true,if_false]
 refine wpAny_bind (wpAny_pure ?_)
 refine wpAny_bind (a9X ho hE T fw ?_)
 refine wpAny_bind ?_
 unfold newFields
 refine wpAny_newObj_type ?_
 refine wpAny_pure ⟨_,rfl, "set_iterator", _,⟨_,Heap.get?_push_size _ rfl,rfl⟩,slot_si_next.lookup,?_⟩
 rw [hE.len]
 exact h
theorem collect_set {es:Array (Int × Value)} {ep:Nat} {t:SetTable} {Q:List Value->Shared->Prop} (hh:A.handled=none) (ho:s.heap.get? a=some (setO es ep t)) (hE:EsP es L) (T:TbP (byT w) t (L.map (·.2))) (fw:L.length*5 < t.mask*3)
  (h:∀ (h':Heap) (tk:Nat),(∀ b o,s.heap.get? b=some o->h'.get? b=some o)->s.heap.objs.size < h'.objs.size->Q ((a1J w a ep es).toList.map (·.2)) { s with heap:=h',toks:=tk }):wpAny (model prog w) A (collect (.ref a)) Q E s:=by
 have lt:a < s.heap.objs.size:=Heap.lt_size ho
 unfold collect
 refine wpAny_bind (wpAny_runValue (codeAny_builtin F.entry_proto_collect ?_))
 rw [Around.under_plainId F.plain_proto_collect _]
 show wpAny _ A.in1 (newList [] >>= λ l=>again (.builtin "list.__iadd__" ⟨[l,.ref a],[]⟩)) _ _ s
 refine wpAny_bind (wpAny_newObj_type (wpAny_pure ⟨plainId_quiet F.plain_list_iadd _,codeAny_builtin F.entry_list_iadd ?_⟩))
 rw [Around.under_plainId F.plain_list_iadd _]
 have S0:(s.heap.push { cls:=.type "list", data:=.seq ([]:List Value).toArray }).get? s.heap.objs.size=some { cls:=.type "list", data:=.seq ([]:List Value).toArray }:=Heap.get?_push_size _ rfl
 have ho1:(s.heap.push { cls:=.type "list", data:=.seq ([]:List Value).toArray }).get? a=some (setO es ep t):=Heap.get?_push_of_some _ ho
 have hT1:Shared.TypeIs { s with heap:=s.heap.push { cls:=.type "list", data:=.seq ([]:List Value).toArray } } (.ref a) "set" := ⟨_,ho1,rfl⟩
 show wpAny _ A.in1 (Builtin.List.listExtendWith (.ref s.heap.objs.size) (.ref a) (.ref s.heap.objs.size)) _ _ { s with heap:=s.heap.push { cls:=.type "list", data:=.seq ([]:List Value).toArray } }
 unfold Builtin.List.listExtendWith
 refine wpAny_bind (wpAny_typeOf hT1 ?_)
 have n1:Builtin.List.listSameRef (.ref s.heap.objs.size) (.ref a)=false:=by simp [Builtin.List.listSameRef,Nat.ne_of_gt lt]
 simp only [n1,b3K,b5S,Bool.or_false,Bool.false_eq_true,if_false]
 refine wpAny_bind (b3Q ho1 hE T fw ?_)
 refine wpAny_bind (wpAny_holding ?_)
 have ho2:((s.heap.push { cls:=.type "list", data:=.seq ([]:List Value).toArray }).push (itO 0 0 a L.length ep)).get? a=some (setO es ep t):=Heap.get?_push_of_some _ ho1
 have hT2:Shared.TypeIs { s with heap:=(s.heap.push { cls:=.type "list", data:=.seq ([]:List Value).toArray }).push (itO 0 0 a L.length ep) } (.ref a) "set" := ⟨_,ho2,rfl⟩
 unfold Builtin.List.listLengthHint
 refine wpAny_bind (wpAny_specialOf hT2 b1G ?_)
 dsimp only
 rw [Sm.split_len]
 dsimp only
 refine wpAny_bind (wpAny_isInstance hT2 b5P ?_)
 rw [if_neg (by decide)]
 rw [if_pos (by decide +kernel)]
 refine wpAny_bind (wpAny_typeOf hT2 ?_)
 dsimp only
 refine wpAny_pure ?_
 rw [if_pos (by decide +kernel)]
 refine wpAny_bind (wpAny_rule ?_)
 have lsz:(s.heap.push { cls:=.type "list", data:=.seq ([]:List Value).toArray }).objs.size=s.heap.objs.size+1:=size_push' _ _
 have S1:((s.heap.push { cls:=.type "list", data:=.seq ([]:List Value).toArray }).push (itO 0 0 a L.length ep)).get? s.heap.objs.size=some { cls:=.type "list", data:=.seq ([]:List Value).toArray }:=Heap.get?_push_of_some _ S0
 refine wpAny_bind ?_
 show wpAny _ A.in1 (updateSeq s.heap.objs.size (·.push .none) >>= λ _=>updateSeq s.heap.objs.size (·.pop)) _ _ _
 refine wpAny_bind (wpAny_updateSeq S1 rfl ?_)
 have S2:=Heap.get?_update_self (Obj.mapSeq (·.push Value.none)) S1 rfl
 refine wpAny_updateSeq S2 rfl ?_
 have S3:=Heap.get?_update_self (Obj.mapSeq (·.pop)) S2 rfl
 have oth:∀ b o,b≠s.heap.objs.size->((s.heap.push { cls:=.type "list", data:=.seq ([]:List Value).toArray }).push (itO 0 0 a L.length ep)).get? b=some o ->
   ((((s.heap.push { cls:=.type "list", data:=.seq ([]:List Value).toArray }).push (itO 0 0 a L.length ep)).update s.heap.objs.size (Obj.mapSeq (·.push Value.none))).update s.heap.objs.size (Obj.mapSeq (·.pop))).get? b=some o :=
  λ b o hb e=>(Heap.get?_update_other _ _ (Ne.symm hb)).trans ((Heap.get?_update_other _ _ (Ne.symm hb)).trans e)
 have neI:a≠(s.heap.push { cls:=.type "list", data:=.seq ([]:List Value).toArray }).objs.size:=by rw [lsz]; exact Nat.ne_of_lt (Nat.lt_succ_of_lt lt)
 have W:=(b5V (prog:=prog) (w:=w) (A:=A.in1) (I:=(s.heap.push { cls:=.type "list", data:=.seq ([]:List Value).toArray }).objs.size) (ep:=ep) (by simpa using hh) neI hE T fw).toS
 have l16:L.length<=127:=by
  have:=fw
  rcases T.mok with e | e | e <;> rw [e] at this <;> omega
 have sl0:a1K (byT w) t 0=0:=by unfold a1K; split <;> rfl
 refine wpAny_pure ⟨plainId_quiet F.plain_extend_loop _,codeAny_extend_loopS W (by rw [sizeLine_eq]; omega) _ (by
   rw [lsz]; simp only [List.mem_cons,List.not_mem_nil,or_false,not_or]; exact ⟨Nat.ne_of_lt (Nat.lt_succ_self _),Nat.ne_of_gt lt⟩) _ _ 0 _ #[] _ rfl (Nat.zero_le _) ⟨?_,?_⟩ S3 (ItemsOf.nil _) λ s' acc' c' hm hS' hacc=>?_⟩
 ·refine oth _ _ (by rw [lsz]; exact Nat.ne_of_gt (Nat.lt_succ_self _)) ?_
  rw [sl0]
  exact Heap.get?_push_size _ rfl
 ·exact oth _ _ (Nat.ne_of_lt lt) ho2
 ·obtain ⟨h',g',d',tk',os'⟩:=s'
  have eg:g'=s.gens:=hm.gens
  have ed:d'=s.drawn:=hm.drawn
  have eo:os'=s.os:=hm.os
  subst eg; subst ed; subst eo
  show wpAny _ A (load s.heap.objs.size >>= _) _ _ _
  refine wpAny_bind (wpAny_load hS' ?_)
  dsimp only
  have el:acc'.toList=(a1J w a ep es).toList.map (·.2):=by
   apply List.ext_getElem?
   intro i
   rw [Array.getElem?_toList,List.getElem?_map,Array.getElem?_toList]
   rcases Nat.lt_or_ge i acc'.size with q | q
   ·obtain ⟨e,he,hv⟩:=hacc.2 i acc'[i] (Array.getElem?_eq_getElem q)
    rw [Array.getElem?_eq_getElem q,he,hv]
    rfl
   ·rw [Array.getElem?_eq_none q,Array.getElem?_eq_none (by rw [a1N,hE.len,<- hacc.1]; exact q)]
    rfl
  rw [el]
  refine wpAny_pure (h h' tk' (λ b o e=>?_) (Heap.lt_size hS'))
  have lb:b < s.heap.objs.size:=Heap.lt_size e
  refine hm.heap b o (by rw [lsz]; simp only [List.mem_cons,List.not_mem_nil,or_false,not_or]; exact ⟨Nat.ne_of_lt lb,Nat.ne_of_lt (Nat.lt_succ_of_lt lb)⟩) (oth b o (Nat.ne_of_lt lb) (Heap.get?_push_of_some _ (Heap.get?_push_of_some _ e)))
end
end Sp
namespace L2
open PySem PySem.Spec PyProof.Rows
section
variable {κ:Type} [DecidableEq κ]
end
section
variable {P:Program} {w:World} {H:Hp} {h:Heap} {a:Addr}
end
section
variable {X:Cx} {pins:List (Addr × Obj)} {σ:St} {H:Hp} {s:Shared} {a:Addr} {y v:V} {u r:Value} {o:Option V} {A:Around} {E:Value->Shared->Prop}
end
section
variable {X:Cx} {pins:List (Addr × Obj)} {σ:St} {H:Hp} {s:Shared} {a:Addr} {kvs:List (Key × V)} {k:Key} {u:Value} {A:Around} {E:Value->Shared->Prop}
end
section
variable {X:Cx} {o i e value:Expr} {pos pos' tpos:Pos} {td ty tv:TE}
end
section
variable {X:Cx} {pos:Pos}
end
end L2
namespace L2
open PySem PySem.Spec PyProof.Rows
section
variable {X:Cx}
end
end L2
namespace L2
open PySem PySem.Spec PyProof.Rows
section
variable {X:Cx}
end
end L2
namespace L2
open PySem PySem.Spec PyProof.Rows
section
variable {X:Cx} {pos:Pos}
end
end L2
namespace Srt
open PySem PySem.W PyProof.Rows
def Ok (n:Nat) (key:Nat->Int) {α:Type}:KasT α->(α->Prop)->Prop
 | .ret a,Q=>Q a
 | .ask i j k,Q=>i < n/\j < n/\Ok n key (k (decide (key i < key j))) Q
section
variable {n:Nat} {key:Nat->Int} {α β:Type}
theorem Ok.mono {Q Q':α->Prop} (h:∀ a,Q a->Q' a):∀ {t:KasT α},Ok n key t Q->Ok n key t Q'
 | .ret _,x=>h _ x
 | .ask _ _ _,⟨a,b,x⟩=>⟨a,b,Ok.mono h x⟩
theorem Ok.bind {f:α->KasT β} {Q:β->Prop}:∀ {t:KasT α},Ok n key t (λ a=>Ok n key (f a) Q)->Ok n key (t.bind f) Q
 | .ret _,x=>x
 | .ask _ _ _,⟨a,b,x⟩=>⟨a,b,Ok.bind x⟩
theorem Ok.wp {cmp:Nat->Nat->(Bool->Shared->Prop)->Shared->Prop} {s:Shared} {Q:α->Prop} {R:α->Shared->Prop} (hc:∀ i j (C:Bool->Shared->Prop),i < n->j < n->C (decide (key i < key j)) s->cmp i j C s) (hq:∀ a,Q a->R a s) :
  ∀ {t:KasT α},Ok n key t Q->t.kasWp cmp R s
 | .ret _,x=>hq _ x
 | .ask i j k,⟨a,b,x⟩=>hc i j _ a b (Ok.wp hc hq x)
structure Pm (n:Nat) (p:Array Nat):Prop where
 perm:p.Perm (List.range n).toArray
theorem Pm.size {p:Array Nat} (h:Pm n p):p.size=n:=by
 have:=h.perm.size_eq
 grind
theorem Pm.lt {p:Array Nat} (h:Pm n p) {i:Nat} (hi:i < n):p.getD i 0 < n:=by
 have hs:=h.size
 have hi':i < p.size:=by omega
 have hm:p[i]∈(List.range n):=by
  have:=(Array.perm_iff_toList_perm.mp h.perm).mem_iff (a:=p[i])
  grind
 have:p.getD i 0=p[i]:=by simp [Array.getD,hi']
 grind
theorem Pm.of {p q:Array Nat} (h:Pm n p) (e:q.Perm p):Pm n q:=⟨e.trans h.perm⟩
def KK (key:Nat->Int) (p:Array Nat) (i:Nat):Int:=key (p.getD i 0)
theorem a4D (p:Array Nat) (i:Nat):p.getD i 0=(p[i]?).getD 0:=by simp [Array.getD_eq_getD_getElem?]
theorem a5R {p:Array Nat} {i j:Nat} (hj:j<=p.size) (k:Nat):KK key (kas_rev p i j) k=if i<=k/\k < j then KK key p (i+j - 1 - k) else KK key p k:=by
 unfold KK kas_rev
 rw [a4D,getElem?_mirror_all hj]
 split <;> rw [a4D]
theorem b2B {p:Array Nat} {k d:Nat} (hk:k < p.size) (hd:d<=k) (i:Nat):KK key (bubble p k d) i=if i=k - d then KK key p k else if k - d < i/\i<=k then KK key p (i - 1) else KK key p i:=by
 unfold KK
 rw [a4D,a4D p k,a4D p (i - 1),a4D p i,getElem?_bubble hk d hd]
 grind
def Srtd (key:Nat->Int) (p:Array Nat) (m:Nat):Prop:=∀ i j,i<=j->j < m->KK key p i<=KK key p j
def Down (key:Nat->Int) (p:Array Nat) (m:Nat):Prop:=∀ i j,i<=j->j < m->KK key p j<=KK key p i
theorem Pm.rev {p:Array Nat} (h:Pm n p) (i j:Nat):Pm n (kas_rev p i j):=h.of (mirror_perm _ _ _ _)
theorem a9Y {p:Array Nat} (hp:Pm n p):∀ (f m:Nat),1<=m->m+f<=n->Srtd key p m->Ok n key (kas_asc p f m) (λ r=>m<=r/\r<=m+f/\Srtd key p r/\(r=m+f\/KK key p r < KK key p (r - 1)))
 | 0,m,_,_,hs=>⟨Nat.le_refl _,Nat.le_refl _,hs,.inl rfl⟩
 | f+1,m,h1,hm,hs=>by
  refine ⟨hp.lt (by omega),hp.lt (by omega),?_⟩
  by_cases c:key (p.getD m 0) < key (p.getD (m - 1) 0)
  ·rw [decide_eq_true c]; dsimp only; rw [if_pos rfl]
   exact ⟨Nat.le_refl _,by omega,hs,.inr c⟩
  ·rw [decide_eq_false c]; dsimp only; rw [if_neg Bool.false_ne_true]
   refine Ok.mono (λ r ⟨a,b,d,e⟩=>⟨by omega,by omega,d,?_⟩) (a9Y hp f (m+1) (by omega) (by omega) ?_)
   ·intro i j hij hj
    by_cases hjm:j < m
    ·exact hs i j hij hjm
    ·have:j=m:=by omega
     subst this
     by_cases hi:i=j
     ·grind
     ·have q:=hs i (j - 1) (by omega) (by omega)
      have c':KK key p (j - 1)<=KK key p j:=by unfold KK; omega
      omega
   grind
theorem a7E {p:Array Nat} (hp:Pm n p) {m:Nat} (h1:1<=m) (hm:m<=n) (hd:Down key p m):Ok n key (kas_tail3 m n p) (λ r=>Pm n r.2/\1<=r.1/\r.1<=n/\Srtd key r.2 r.1):=by
 refine Ok.bind (Ok.mono (λ r ⟨a,b,c,_⟩=>?_) (a9Y (hp.rev 0 m) (n - m) m h1 (by omega) ?_))
 ·intro i j hij hj
  have hs:=hp.size
  rw [a5R (by omega),a5R (by omega),if_pos (by omega),if_pos (by omega)]
  exact hd _ _ (by omega) (by omega)
 ·exact ⟨hp.rev 0 m,by grind,by grind,c⟩
theorem a3N {p:Array Nat} {m q:Nat} (hm:m<=p.size) (he:∀ i,m - (q+1)<=i->i < m->KK key p i=KK key p (m - 1)) (k:Nat):KK key (kas_rev p (m - (q+1)) m) k=KK key p k:=by
 rw [a5R hm]
 grind
theorem a4P:∀ (f:Nat) {p:Array Nat} (m q:Nat),Pm n p->1<=m->m+f<=n->Down key p m->q+1<=m->(∀ i,m - (q+1)<=i->i < m->KK key p i=KK key p (m - 1)) ->
  Ok n key (kas_desc f p m q) (λ r=>Pm n r.1/\1<=r.2.1/\r.2.1<=n/\Down key r.1 r.2.1/\r.2.2+1<=r.2.1/\∀ i,r.2.1 - (r.2.2+1)<=i->i < r.2.1->KK key r.1 i=KK key r.1 (r.2.1 - 1))
 | 0,p,m,q,hp,h1,hm,hd,hq,he=>⟨hp,h1,by grind,hd,hq,he⟩
 | f+1,p,m,q,hp,h1,hm,hd,hq,he=>by
  refine ⟨hp.lt (by omega),hp.lt (by omega),?_⟩
  have hs:=hp.size
  have one:∀ (p':Array Nat),(∀ k,KK key p' k=KK key p k)->KK key p m<=KK key p (m - 1)->Down key p' (m+1):=λ p' hk c i j hij hj=>by
   rw [hk,hk]
   by_cases hjm:j < m
   ·exact hd i j hij hjm
   ·have:j=m:=by omega
    subst this
    by_cases hi:i=j
    ·grind
    ·have:=hd i (j - 1) (by omega) (by omega); omega
  by_cases c:key (p.getD m 0) < key (p.getD (m - 1) 0)
  ·rw [decide_eq_true c]; dsimp only; rw [if_pos rfl]
   have c1:KK key p m<=KK key p (m - 1):=by unfold KK; omega
   by_cases hq0:q > 0
   ·rw [if_pos hq0]
    exact a4P f (m+1) 0 (hp.rev _ _) (by omega) (by omega) (one _ (a3N (by omega) he) c1) (by omega) λ i a b=>by grind
   ·rw [if_neg hq0]
    exact a4P f (m+1) 0 hp (by omega) (by omega) (one _ (λ _=>rfl) c1) (by omega) λ i a b=>by grind
  ·rw [decide_eq_false c]; dsimp only; rw [if_neg Bool.false_ne_true]
   refine ⟨hp.lt (by omega),hp.lt (by omega),?_⟩
   by_cases d:key (p.getD (m - 1) 0) < key (p.getD m 0)
   ·rw [decide_eq_true d]; dsimp only; rw [if_pos rfl]
    exact ⟨hp,h1,by grind,hd,hq,he⟩
   ·rw [decide_eq_false d]; dsimp only; rw [if_neg Bool.false_ne_true]
    have e:KK key p m=KK key p (m - 1):=by unfold KK; omega
    refine a4P f (m+1) (q+1) hp (by omega) (by omega) (one _ (λ _=>rfl) (by omega)) (by omega) λ i a b=>?_
    grind
theorem a3O {p:Array Nat} (hp:Pm n p) {m:Nat} (hm:m+1<=n) (hd:Down key p (m+1)):Ok n key (kas_descPart m n p) (λ r=>Pm n r.2/\1<=r.1/\r.1<=n/\Srtd key r.2 r.1):=by
 refine Ok.bind (Ok.mono (λ r ⟨a,b,c,d,e,g⟩=>?_) (a4P (n - (m+1)) (m+1) 0 hp (by omega) (by omega) hd (by omega) λ i x y=>by grind))
 have hs:=a.size
 by_cases q:r.2.2 > 0
 ·rw [if_pos q]
  exact a7E (a.rev _ _) b c λ i j x y=>by rw [a3N (by omega) g,a3N (by omega) g]; exact d i j x y
 ·rw [if_neg q]
  exact a7E a b c d
theorem b1K {p:Array Nat} (hp:Pm n p) (h1:1<=n):Ok n key (kas_count n p) (λ r=>Pm n r.2/\1<=r.1/\r.1<=n/\Srtd key r.2 r.1):=by
 refine Ok.bind (Ok.mono (λ m ⟨a,b,c,d⟩=>?_) (a9Y hp (n - 1) 1 (Nat.le_refl _) (by omega) λ i j x y=>by grind))
 by_cases e:m=n
 ·rw [if_pos (by simpa using e)]
  exact ⟨hp,a,by omega,c⟩
 ·rw [if_neg (by simpa using e)]
  have lt:KK key p m < KK key p (m - 1):=by
   grind
  have hs:=hp.size
  by_cases g:m > 1
  ·rw [if_pos g]
   refine ⟨hp.lt (by omega),hp.lt (by omega),?_⟩
   by_cases z:key (p.getD 0 0) < key (p.getD (m - 1) 0)
   ·rw [decide_eq_true z]; dsimp only; rw [if_pos rfl]
    exact ⟨hp,a,by grind,c⟩
   ·rw [decide_eq_false z]; dsimp only; rw [if_neg Bool.false_ne_true]
    refine a3O (hp.rev _ _) (by omega) ?_
    have z':KK key p (m - 1)<=KK key p 0:=by unfold KK; omega
    have all:∀ i,i < m->KK key p i=KK key p 0:=λ i hi=>by
     have q1:=c 0 i (by omega) hi
     have q2:=c i (m - 1) (by omega) (by omega)
     omega
    intro i j hij hj
    rw [a5R (by omega),a5R (by omega)]
    grind
  ·rw [if_neg g]
   have m1:m=1:=by omega
   subst m1
   refine a3O hp (by omega) λ i j hij hj=>?_
   grind
theorem a4Q {p:Array Nat} (hp:Pm n p) {k:Nat} (hk:k < n) (hs:Srtd key p k):∀ (f l r:Nat),l<=r->r<=k->r - l<=f->(∀ i,i < l->KK key p i<=KK key p k)->(∀ i,r<=i->i < k->KK key p k < KK key p i) ->
  Ok n key (kas_place p k f l r) (λ l=>l<=k/\(∀ i,i < l->KK key p i<=KK key p k)/\∀ i,l<=i->i < k->KK key p k < KK key p i)
 | 0,l,r,h1,h2,h3,lo,hi=>⟨by omega,lo,λ i a b=>hi i (by omega) b⟩
 | f+1,l,r,h1,h2,h3,lo,hi=>by
  unfold kas_place
  by_cases c:l ≥ r
  ·rw [if_pos c]
   exact ⟨by omega,lo,λ i a b=>hi i (by omega) b⟩
  ·rw [if_neg c]
   refine ⟨hp.lt hk,hp.lt (by omega),?_⟩
   by_cases d:key (p.getD k 0) < key (p.getD ((l+r) / 2) 0)
   ·rw [decide_eq_true d]; dsimp only; rw [if_pos rfl]
    refine a4Q hp hk hs f l ((l+r) / 2) (by omega) (by omega) (by omega) lo λ i a b=>?_
    have:=hs ((l+r) / 2) i a b
    have d':KK key p k < KK key p ((l+r) / 2):=d
    omega
   ·rw [decide_eq_false d]; dsimp only; rw [if_neg Bool.false_ne_true]
    refine a4Q hp hk hs f ((l+r) / 2+1) r (by omega) h2 (by omega) (λ i a=>?_) hi
    have:=hs i ((l+r) / 2) (by omega) (by omega)
    have d':KK key p ((l+r) / 2)<=KK key p k:=by unfold KK; omega
    omega
theorem b2C:∀ (f:Nat) {p:Array Nat} (k:Nat),Pm n p->k+f=n->Srtd key p k->Ok n key (kas_bin f p k) (λ p=>Pm n p/\Srtd key p n)
 | 0,p,k,hp,hk,hs=>⟨hp,by grind⟩
 | f+1,p,k,hp,hk,hs=>by
  refine Ok.bind (Ok.mono (λ l ⟨a,lo,hi⟩=>?_) (a4Q hp (by omega) hs k 0 k (by omega) (Nat.le_refl _) (by omega) (λ i h=>by omega) λ i h1 h2=>by omega))
  have hz:=hp.size
  refine b2C f (k+1) (hp.of (bubble_perm _ _ _)) (by omega) λ i j hij hj=>?_
  rw [b2B (by omega) (by omega),b2B (by omega) (by omega)]
  rw [show k - (k - l)=l by omega]
  by_cases i1:i=l
  ·grind
  ·rw [if_neg i1]
   by_cases i2:l < i/\i<=k
   ·rw [if_pos i2,if_neg (by omega),if_pos (by omega)]
    exact hs (i - 1) (j - 1) (by omega) (by omega)
   ·rw [if_neg i2]
    by_cases j1:j=l
    ·grind
    ·rw [if_neg j1]
     by_cases j2:l < j/\j<=k
     ·grind
     ·rw [if_neg j2]; exact hs i j hij (by omega)
theorem b3R (h1:1<=n):Ok n key (kas_sort n) (λ p=>Pm n p/\Srtd key p n):=by
 refine Ok.bind (Ok.mono (λ r ⟨a,b,c,d⟩=>?_) (b1K ⟨Array.Perm.refl _⟩ h1))
 by_cases e:r.1 < n
 ·rw [if_pos e]
  refine b2C _ _ a (by omega) ?_
  rw [show max r.1 1=r.1 by omega]
  exact d
 ·rw [if_neg e]
  exact ⟨a,by have:r.1=n:=(by omega); rw [<- this]; exact d⟩
end
end Srt
set_option maxHeartbeats 4100000
namespace Srt
open PySem PyProof.Rows PySem.Calls PySem.W
section
variable {prog:Program} {wo:World} {A:Around} {E:Value->Shared->Prop} {s:Shared}
def Asks (prog:Program) (wo:World) (A:Around) (κ:SortKind) (zs:List Value) (key:Nat->Int) (s:Shared):Prop :=
 (∀ (E:Value->Shared->Prop) (R:SortKind->Shared->Prop),R κ s->wpAny (model prog wo) A (keyKind' zs.toArray) R E s) /\
 ∀ (i j:Nat) (C:Bool->Shared->Prop),i < zs.length->j < zs.length->C (decide (key i < key j)) s->kas_ask prog wo A κ zs i j C s
abbrev a9Z (zs:List Value) (p:Array Nat):Array Value:=List.toArray (p.toList.map λ i=>zs.getD i Value.none)
theorem b5W (zs:List Value):a9Z zs (List.range zs.length).toArray=zs.toArray:=by
 grind
theorem a5S {a:Addr} {zs:List Value} {n:Nat} {κ:SortKind} {key:Nat->Int} {P:PySem.Fin->Shared->Prop} (oa:s.heap.get? a=some (seqObj "list" zs.toArray n)) (h64:zs.length < 64)
  (hk:2<=zs.length->∀ h',(∀ b o,b≠a->s.heap.get? b=some o->h'.get? b=some o)->Asks prog wo A κ zs key { s with heap:=h' })
  (h:∀ p,Pm zs.length p->Srtd key p zs.length->P (.done (.ret .none)) { s with heap:=sortedHeap s.heap a zs (a9Z zs p) }) :
  wpAny (model prog wo) A (Builtin.«list.sort» ⟨[.ref a],[]⟩) P E s:=by
 rw [list_sort_plain]
 have la:a < s.heap.objs.size:=Heap.lt_size oa
 refine wpAny_bind (listItems_at oa rfl ?_)
 refine wpAny_bind (listUpdate_at oa rfl ?_ (by rw [List.size_toArray,sizeLine_eq]; omega) (Nat.zero_le _))
 obtain ⟨ep,oa1⟩:∃ ep,(s.heap.update a (Obj.mapSeq λ _=>#[])).get? a=some (seqObj "list" #[] ep):=⟨_,get?_update_seq oa (λ _=>#[])⟩
 refine wpAny_bind (seqEpoch_at oa1 rfl ?_)
 refine wpAny_bind (wpAny_newTuple ?_ (by show zs.length<=_; rw [sizeLine_eq]; omega))
 refine wpAny_bind (wpAny_newList (wpAny_holding ?_) (Nat.zero_le _))
 have oa6:(((s.heap.update a (Obj.mapSeq λ _=>#[])).push (seqObj "tuple" zs.toArray 0)).push (seqObj "list" #[] 0)).get? a=some (seqObj "list" #[] ep):=by
  rw [Heap.get?_push_ne _ _ _ (by rw [size_push',Heap.size_update]; grind),Heap.get?_push_ne _ _ _ (by rw [Heap.size_update]; grind)]
  exact oa1
 show wpAny (model prog wo) A _ P E { s with heap:=((s.heap.update a (Obj.mapSeq λ _=>#[])).push (seqObj "tuple" zs.toArray 0)).push (seqObj "list" #[] 0) }
 dsimp only
 have lz:zs.toArray.size=zs.length:=by simp
 by_cases g2:zs.toArray.size < 2
 ·rw [if_pos g2,if_pos g2]
  refine wpAny_bind (wpAny_pure ?_); rw [StateT.run_pure]; refine wpAny_bind (wpAny_pure ?_); dsimp only
  refine wpAny_bind (seqEpoch_at oa6 rfl ?_)
  refine wpAny_bind (listUpdate_at oa6 rfl ?_ (Nat.zero_le _) (by grind))
  simp only [if_false,Bool.false_eq_true,bne_self_eq_false]
  have q:=h (List.range zs.length).toArray ⟨Array.Perm.refl _⟩ (λ i j hij hj=>by grind)
  rw [b5W] at q
  refine wpAny_pure ?_
  have e:(arrOf (SortSt.mk' general' (zs.toArray.zip zs.toArray) #[] 7 none)).map (·.2)=zs.toArray:=by
   grind
  rw [e]
  exact q
 ·rw [if_neg g2,if_neg g2]
  have h2':2<=zs.length:=by omega
  obtain ⟨ak,ac⟩:=hk h2' (((s.heap.update a (Obj.mapSeq λ _=>#[])).push (seqObj "tuple" zs.toArray 0)).push (seqObj "list" #[] 0)) λ b o hb e=>Heap.get?_push_of_some _ (Heap.get?_push_of_some _ (by rw [Heap.get?_update_ne _ _ _ _ hb]; exact e))
  refine wpAny_bind (ak _ _ ?_)
  have ask:(kas_sort zs.length).kasWp (kas_ask prog wo A κ zs) (λ p s'=>s'={ s with heap:=((s.heap.update a (Obj.mapSeq λ _=>#[])).push (seqObj "tuple" zs.toArray 0)).push (seqObj "list" #[] 0) }/\Pm zs.length p/\Srtd key p zs.length)
    { s with heap:=((s.heap.update a (Obj.mapSeq λ _=>#[])).push (seqObj "tuple" zs.toArray 0)).push (seqObj "list" #[] 0) } :=
   Ok.wp (n:=zs.length) (key:=key) ac (λ p hp=>⟨rfl,hp⟩) (b3R (by omega))
  rw [kas_ask_eq] at ask
  have est:SortSt.mk' κ (zs.toArray.zip zs.toArray) #[] 7 none=kas_st κ (pairsOf zs) (List.toArray (List.range zs.length)):=by
   have e:=kas_range (pairsOf zs)
   rw [pairsOf_size] at e
   show SortSt.mk' κ (pairsOf zs) #[] 7 none=SortSt.mk' κ ((List.toArray (List.range zs.length)).map (kas_item (pairsOf zs))) #[] 7 none
   rw [e]
  have rn:=kas_runs (E:=E) (Q:=λ _ st' s'=>∃ p:Array Nat,p.size=zs.length/\arrOf st'=p.map (kas_item (pairsOf zs))/\failedOf st'=none/\(s'={ s with heap:=((s.heap.update a (Obj.mapSeq λ _=>#[])).push (seqObj "tuple" zs.toArray 0)).push (seqObj "list" #[] 0) }/\Pm zs.length p/\Srtd key p zs.length))
   h2' h64 (λ p' st' s' a1 a2 a3 a4=>⟨p',a1,a2,a3,a4⟩) ask
  rw [<- est] at rn
  refine wpAny_bind (wpAny_mono rn ?_ λ _ _ e=>e)
  rintro ⟨⟨⟩,st'⟩ s' ⟨p,hp,ra,hf,rfl,pm,sr⟩
  dsimp only
  have hout:(arrOf st').map (·.2)=a9Z zs p:=by
   apply Array.toList_inj.mp
   rw [ra,Array.map_map,Array.toList_map]
   exact List.map_congr_left λ i _=>by show (kas_item (pairsOf zs) i).2=_; rw [kas_item_eq]
  have hso:(a9Z zs p).size=zs.length:=by grind
  rw [hout]
  refine wpAny_bind (seqEpoch_at oa6 rfl ?_)
  refine wpAny_bind (listUpdate_at oa6 rfl ?_ (Nat.zero_le _) (Nat.le_trans (Nat.le_of_eq hso) (by rw [sizeLine_eq]; omega)))
  rw [hf]
  simp only [if_false,Bool.false_eq_true,bne_self_eq_false]
  exact wpAny_pure (h p pm sr)
end
end Srt
set_option maxHeartbeats 4100000
namespace Srt
open PySem PyProof.Rows PySem.Calls PySem.W
theorem a5T {α:Type} {p q:α->Bool} (h:∀ x,p x=true->q x=true) (l:List α):l.countP p<=l.countP q:=by
 induction l with
 | nil=>grind
 | cons a r ih =>
  grind
theorem a5U {α:Type} {p q:α->Bool} (h:∀ x,p x=true->q x=true) {x:α}:∀ {l:List α},x∈l->p x=false->q x=true->l.countP p < l.countP q
 | a::r,hx,h1,h2=>by
  rw [List.countP_cons,List.countP_cons]
  have le:=a5T h r
  rcases List.mem_cons.mp hx with rfl | hx
  ·grind
  ·have ih:=a5U h hx h1 h2
   grind
def rank (ls:List (List Int)) (i:Nat):Int:=(ls.countP λ z=>decide (z < ls.getD i []):Nat)
theorem b7J {x y z:List Int} (h:z < y) (h2:¬ x < y):z < x:=by
 grind
theorem b0A {ls:List (List Int)} {i j:Nat} (hi:i < ls.length):decide (rank ls i < rank ls j)=decide (ls.getD i [] < ls.getD j []):=by
 have hm:ls.getD i []∈ls:=by
  grind
 unfold rank
 by_cases c:ls.getD i [] < ls.getD j []
 ·rw [decide_eq_true c]
  refine decide_eq_true (Int.ofNat_lt.mpr (a5U (λ z hz=>?_) hm ?_ ?_))
  ·grind
  ·grind
  grind
 ·rw [decide_eq_false c]
  refine decide_eq_false λ z=>?_
  have:=a5T (p:=λ z=>decide (z < ls.getD j [])) (q:=λ z=>decide (z < ls.getD i [])) (λ z hz=>decide_eq_true (b7J (of_decide_eq_true hz) c)) ls
  omega
section
variable {prog:Program} {w:World} {A:Around} {E:Value->Shared->Prop} {s:Shared} {Q:Bool->Shared->Prop}
theorem a7F:∀ {xs ys:List Value} {ns ms:List Int} (i:Nat),IntsAre xs ns->IntsAre ys ms->Q (decide (ns < ms)) s->KatLex prog w A true (decide (xs.length < ys.length)) Q (xs.zip ys) i s
 | _,_,_,_,i,.nil,.nil,h=>by
  refine kat_nil ?_
  exact h
 | _,_,_,_,i,.nil,.cons (vs:=ys) (ns:=ms) m u y,h=>by
  refine kat_nil ?_
  have e:decide (([]:List Int) < m::ms)=true:=decide_eq_true (List.Lex.nil)
  rw [e] at h
  have e2:decide (([]:List Value).length < (Value.int m u::ys).length)=true:=by simp
  grind
 | _,_,_,_,i,.cons (vs:=xs) (ns:=ns) n t x,.nil,h=>by
  refine kat_nil ?_
  have e:decide (n::ns < ([]:List Int))=false:=decide_eq_false (List.not_lt_nil _)
  rw [e] at h
  have e2:decide ((Value.int n t::xs).length < ([]:List Value).length)=false:=by simp
  grind
 | _,_,_,_,i,.cons (vs:=xs) (ns:=ns) n t x,.cons (vs:=ys) (ns:=ms) m u y,h=>by
  have ef:decide ((Value.int n t::xs).length < (Value.int m u::ys).length)=decide (xs.length < ys.length):=by
   grind
  rw [ef]
  refine kat_cons (wpAny_eqBool_int ?_)
  by_cases c:n=m
  ·subst c
   rw [beq_self_eq_true]
   refine kat_yes (a7F (i+1) x y ?_)
   have e:decide (n::ns < n::ms)=decide (ns < ms):=by
    have:(n::ns < n::ms)↔ns < ms:=by rw [List.cons_lt_cons_iff]; simp
    grind
   grind
  ·rw [beq_eq_false_iff_ne.mpr c]
   refine kat_no ?_
   have e:decide (n::ns < m::ms)=decide (n < m):=by
    have:(n::ns < m::ms)↔n < m:=by rw [List.cons_lt_cons_iff]; simp [c]
    grind
   rw [e] at h
   cases z:(true && i == 0) with
   | true=>exact oneLt_int h
   | false=>exact kat_one _ _ (lt_int h)
structure TupI (h:Heap) (v:Value) (ns:List Int):Prop where
 at':∃ a o xs n,v = .ref a/\h.get? a=some o/\o.cls = .type "tuple" /\ o.data = .seq xs n/\IntsAre xs.toList ns
 ne:ns≠[]
inductive TupsI (h:Heap):List Value->List (List Int)->Prop
 | nil:TupsI h [] []
 | cons {v ns vs ls}:TupI h v ns->TupsI h vs ls->TupsI h (v::vs) (ns::ls)
theorem TupsI.keep {h h':Heap} (k:∀ b o,h.get? b=some o->h'.get? b=some o):∀ {vs ls},TupsI h vs ls->TupsI h' vs ls
 | _,_,.nil=>.nil
 | _,_,.cons ⟨⟨a,o,xs,n,e,ho,r⟩,ne⟩ t=>.cons ⟨⟨a,o,xs,n,e,k _ _ ho,r⟩,ne⟩ (TupsI.keep k t)
theorem TupsI.get {h:Heap}:∀ {vs ls},TupsI h vs ls->∀ {i},i < vs.length->TupI h (vs.getD i .none) (ls.getD i [])
 | _,_,.cons a t,0,_=>a
 | _,_,.cons a t,i+1,hi=>by
  have:=t.get (i:=i) (by grind)
  grind
theorem TupsI.kat {h:Heap}:∀ {vs ls},TupsI h vs ls->∃ fs,KatTups h vs fs/\fs.length=vs.length/\∀ v∈fs,∃ n t,v=Value.int n t
 | _,_,.nil=>⟨[],KatTups.nil,rfl,λ v hv=>absurd hv List.not_mem_nil⟩
 | _,_,.cons (ns:=ns) ⟨⟨a,o,xs,n,e,ho,hc,hd,hi⟩,ne⟩ t=>by
  obtain ⟨fs,k,l,q⟩:=t.kat
  subst e
  obtain ⟨xl⟩:=xs
  have hi:IntsAre xl ns:=hi
  cases hi with
  | nil=>grind
  | cons m u r =>
   refine ⟨.int m u::fs,KatTups.cons ho hc hd rfl k,by grind,λ v hv=>?_⟩
   grind
theorem a5V {vs:List Value} {ls:List (List Int)} (h:TupsI s.heap vs ls) (h2:2<=vs.length):Asks prog w A (tuples' true) vs (rank ls) s:=by
 refine ⟨λ E Q q=>?_,λ i j C hi hj q=>?_⟩
 ·obtain ⟨fs,k,l,ty⟩:=h.kat
  refine kat_kind (T:=.type "int") k (by omega) (λ v hv=>?_) rfl q
  obtain ⟨n,t,rfl⟩:=ty v hv
  exact Looks.of_pure rfl
 ·obtain ⟨⟨a,o,xs,n,e1,ho,hc,hd,hx⟩,_⟩:=h.get hi
  obtain ⟨⟨a',o',ys,n',e2,ho',hc',hd',hy⟩,_⟩:=h.get hj
  unfold kas_ask
  rw [e1,e2]
  refine kat_lt ho hd ho' hd' ?_
  rw [b0A (by grind)] at q
  exact a7F 0 hx hy q
end
end Srt
set_option maxHeartbeats 4100000
namespace L2
open PySem PySem.Spec PyProof.Rows Bg Srt
def TupV (K:Φρ) (H:Hp) (v:V) (ns:List Int):Prop:=∃ p,v = .ref p/\SqT K H p (ns.map V.int)
theorem b0B:∀ {ns:List Int} {us:List Value},Vals (ns.map V.int) us->IntsAre us ns
 | [],_,.nil=>.nil
 | n::ns,_,.cons r t=>by
  obtain ⟨k,rfl⟩:=r
  exact .cons n k (b0B t)
section
variable {X:Cx} {K:Φρ}
theorem a6J {pins:List (Addr × Obj)} {σ:St} {H:Hp} {s:Shared} (I:Inv X pins σ H s):∀ {vs:List V} {us:List Value} {ls:List (List Int)},Vals vs us->Paired (TupV X.K H) vs ls->(∀ ns∈ls,ns≠[])->TupsI s.heap us ls
 | _,_,_,.nil,p,_=>by
  cases p
  exact .nil
 | _,_,_,.cons r t,p,ne=>by
  cases p with
  | cons a b =>
   obtain ⟨pt,rfl,hT⟩:=a
   obtain ⟨its,ri,⟨o,ho,hc,n,hd⟩,_⟩:=I.tuple hT
   cases r
   exact .cons ⟨⟨pt,o,its.toArray,n,rfl,ho,hc,hd,by simpa using b0B ri⟩,ne _ List.mem_cons_self⟩ (a6J I t b λ ns h=>ne ns (List.mem_cons_of_mem _ h))
theorem a5W:∀ {vs:List V} {us:List Value},Vals vs us->∀ i,i < vs.length->RelV (vs.getD i .non) (us.getD i .none)
 | _,_,.cons r t,0,_=>r
 | _,_,.cons r t,i+1,hi=>by
  have:=a5W t i (by grind)
  grind
theorem a7G {vs:List V} {us:List Value} (r:Vals vs us):∀ (q:List Nat),(∀ i∈q,i < vs.length)->Vals (q.map λ i=>vs.getD i .non) (q.map λ i=>us.getD i .none)
 | [],_=>.nil
 | i::q,h=>.cons (a5W r i (h i List.mem_cons_self)) (a7G r q λ j hj=>h j (List.mem_cons_of_mem _ hj))
end
end L2
namespace Dq
open PySem PySem.Spec PyProof.Rows
variable {prog:Program} {w:World} {A:Around} {E:Value->Shared->Prop} {s:Shared}
end Dq
namespace L2
open PySem PySem.Spec PyProof.Rows Bg Srt
section
variable {X:Cx}
theorem a7H {H:Hp} {vs:List V} {ts:List ζζ} (h:Paired (TieL H) vs ts):∀ l:List Nat,(∀ i∈l,i < ts.length)->Paired (TieL H) (l.map λ i=>vs.getD i .non) (l.map λ i=>ts.getD i (0,0))
 | [],_=>.nil
 | i::l,hl=>by
  obtain ⟨x,hx,q⟩:=a3H h (List.getElem?_eq_getElem (hl i List.mem_cons_self))
  refine .cons ?_ (a7H h l λ j hj=>hl j (List.mem_cons_of_mem _ hj))
  dsimp only
  rw [τα,hx,τα,List.getElem?_eq_getElem (hl i List.mem_cons_self)]
  exact q
theorem b0C {ts:List ζζ} {l:List Nat} (h:l.Perm (List.range ts.length)):(l.map λ i=>ts.getD i (0,0)).Perm ts:=by
 have e:(List.range ts.length).map (λ i=>ts.getD i (0,0))=ts:=by
  apply List.ext_getElem?
  intro i
  rw [List.getElem?_map]
  by_cases c:i < ts.length
  ·rw [List.getElem?_range c,List.getElem?_eq_getElem c]
   show some (ts.getD i (0,0))=_
   rw [τα,List.getElem?_eq_getElem c]; rfl
  ·rw [List.getElem?_eq_none (by rw [List.length_range]; omega),List.getElem?_eq_none (by omega)]; rfl
 have:=h.map (λ i=>ts.getD i (0,0))
 rw [e] at this
 exact this
end
end L2
set_option maxHeartbeats 4100000
namespace L2
open PySem PySem.Spec PyProof.Rows Sm
section
variable {X:Cx} {K:Φρ} {w:World}
end
end L2
set_option maxHeartbeats 4100000
namespace L2
open PySem PySem.Spec PyProof.Rows Bg Srt Sm Sp
def b1L (w:World) (a:Addr) (L:List (Addr × Pr)):HO:=.ext λ h=>∃ es ep t,SetP (byT w) h a es ep t L
def prI (q:Addr × Pr):Int × Int:=((q.2.1:Int),(q.2.2:Int))
def b0D (H:Hp) (L:List (Addr × Pr)):Prop:=∀ q∈L,H q.1=some (.tup [.int (prI q).1,.int (prI q).2])
def b5X (w:World) (K:Φρ):List V->Hp->VK->Prop:=λ xs H Q=>∃ l vs,∃ ts:List ζζ,xs=[.ref l]/\SqL K H l vs/\Paired (TieL H) vs ts/\(∀ t∈ts,0<=t.1/\t.1 < t.2/\t.2 < 10) /\
 ∀ p (L:List (Addr × Pr)) H',New H p (b1L w p L) H'->b0D H L->(L.map prI).Nodup->(∀ t,t∈ts↔t∈L.map prI)->L.length<=45->Q (.ref p) H'
def b3S (a b:Int × Int):Prop:=¬ [b.1,b.2] < [a.1,a.2]
def b3T (w:World):List V->Hp->VK->Prop:=λ xs H Q=>∃ a L,xs=[.ref a]/\H a=some (b1L w a L)/\b0D H L/\L.length < 64 /\
 ∀ (us:List ζζ) (vs:List V) p H',us.Perm (L.map prI)->us.Pairwise b3S->Paired (TieL H) vs us->New H p (.lst vs) H'->Q (.ref p) H'
theorem b1M {w:World} {H:Hp} {h:Heap} {a:Addr} {L:List (Addr × Pr)} {P:Program} {w':World} (S:∃ es ep t,SetP (byT w) h a es ep t L):ObjOk P w' H h a (b1L w a L):=by
 refine ⟨S,?_,?_⟩
 ·obtain ⟨_,_,_,S⟩:=S
  exact ⟨_,S.obj⟩
 ·rintro h1 h2 ⟨es,ep,t,S⟩ k
  exact ⟨es,ep,t,S.keep k⟩
theorem b7K {P:Program} {w:World} {H:Hp} {h:Heap} {a:Addr} {x y:Int} {p:Pr} (ok:HOk P w H h) (e:H a=some (.tup [.int x,.int y])) (e1:((p.1:Nat):Int)=x) (e2:((p.2:Nat):Int)=y):PrAt P w h p a:=by
 obtain ⟨_,its,r,o,h1,h2,n,h3⟩:=(show ObjOk P w H h a (.tup [.int x,.int y]) from ok a _ e)
 refine ⟨o,its.toArray,n,h1,h2,h3,?_⟩
 cases r with
 | cons r1 r =>
  cases r with
  | cons r2 r =>
   cases r
   obtain ⟨t1,rfl⟩:=r1
   obtain ⟨t2,rfl⟩:=r2
   rw [e1,e2]
   show PySem.ItemsAre _ _ [Value.int x t1,Value.int y t2]
   exact .cons (intKind_is _ _ _ _) (.cons (intKind_is _ _ _ _) .nil)
theorem b0E {H:Hp}:∀ {vs:List V} {us:List Value} {ts:List ζζ},Vals vs us->Paired (TieL H) vs ts->∃ bs:List Addr,us=bs.map Value.ref/\bs.length=ts.length/\∀ j,j < bs.length->H (bs.getD j 0)=some (.tup [.int (ts.getD j (0,0)).1,.int (ts.getD j (0,0)).2])
 | _,_,_,.nil,p=>by
  cases p
  exact ⟨[],rfl,rfl,λ j hj=>(Nat.not_lt_zero _ hj).elim⟩
 | _,_,_,.cons r t,p=>by
  cases p with
  | cons a b =>
   obtain ⟨q,rfl,hq⟩:=a
   obtain ⟨bs,e,l,f⟩:=b0E t b
   cases r
   refine ⟨q::bs,by rw [e]; rfl,by rw [List.length_cons,List.length_cons,l],λ j hj=>?_⟩
   cases j with
   | zero=>exact hq
   | succ j=>exact f j (by simpa using hj)
section
variable {X:Cx} {K:Φρ} {w:World}
theorem a7Y (ek:X.K=K) (ew:X.w=w) (cm:X.calm=true) (hu:X.A.units+8 < cLine):CallR X (.type "set") (b5X w K):=by
 subst ek; subst ew
 intro pins s σ H xs us Q I r h
 obtain ⟨l,vs,ts,rfl,hL,hP,ok,q⟩:=h
 obtain ⟨u,rfl,rx⟩:=a8M r
 cases rx
 obtain ⟨its,r',pl,hz⟩:=I.list hL
 obtain ⟨bs,eb,lb,hb⟩:=b0E r' hP
 have mem:∀ j,j < bs.length->ts.getD j (0,0)∈ts:=λ j hj=>by
  rw [τα,List.getElem?_eq_getElem (by omega)]
  exact List.getElem_mem _
 have pg:∀ j,j < bs.length->(ts.map λ t=>((t.1.toNat,t.2.toNat):Pr)).getD j (0,0)=((ts.getD j (0,0)).1.toNat,(ts.getD j (0,0)).2.toNat):=λ j hj=>by
  rw [τα,List.getElem?_map,τα,List.getElem?_eq_getElem (by omega)]
  rfl
 refine b3N (bs:=bs) (ps:=ts.map λ t=>(t.1.toNat,t.2.toNat)) hu (I.ok.hd cm) pl.isList (by simpa using eb) (by rw [List.length_map]; omega) (λ j hj=>?_) (λ p hp=>?_) λ h' tk es ep t L S m1 m2 k=>?_
 ·have o:=ok _ (mem j hj)
  rw [pg j hj]
  exact b7K I.hok (hb j hj) (by show ((Int.toNat _:Nat):Int)=_; omega) (by show ((Int.toNat _:Nat):Int)=_; omega)
 ·obtain ⟨t,ht,rfl⟩:=List.mem_map.mp hp
  have:=ok t ht
  dsimp only
  omega
 ·have hf:H s.heap.objs.size=none:=I.hok.fresh (Nat.le_refl _)
  have at_:b0D H L:=λ q hq=>by
   obtain ⟨j,hj,rfl⟩:=m1 q hq
   have o:=ok _ (mem j hj)
   have e:=hb j hj
   rw [pg j hj]
   have e1:prI (bs.getD j 0,((ts.getD j (0,0)).1.toNat,(ts.getD j (0,0)).2.toNat))=ts.getD j (0,0):=by
    refine Prod.ext ?_ ?_
    ·show ((Int.toNat _:Nat):Int)=_; omega
    ·show ((Int.toNat _:Nat):Int)=_; omega
   rw [e1]
   exact e
  have inj:∀ p q:Pr,(((p.1:Nat):Int),((p.2:Nat):Int))=(((q.1:Nat):Int),((q.2:Nat):Int))->p=q:=λ p q e=>by
   injection e with e1 e2
   exact Prod.ext (by omega) (by omega)
  have nd:(L.map prI).Nodup:=by
   have:=S.tab.nd
   unfold List.Nodup at this ⊢
   rw [List.pairwise_map] at this ⊢
   exact this.imp λ h e=>h (inj _ _ e)
  have few:L.length<=45:=by
   have:=b5T S.tab.nd λ p hp=>by
    obtain ⟨q,hq,rfl⟩:=List.mem_map.mp hp
    obtain ⟨j,hj,rfl⟩:=m1 q hq
    have o:=ok _ (mem j hj)
    rw [pg j hj]
    dsimp only
    omega
   rw [List.length_map] at this
   exact this
  refine ⟨.ref s.heap.objs.size,_,I.laid (t':=tk) (o:=b1L X.w s.heap.objs.size L) (λ b o eo=>k b o (Heap.lt_size eo) eo) (Nat.le_refl _) (b1M ⟨es,ep,t,S⟩),rfl,q _ L _ (New.mk0 hf) at_ nd (λ u=>⟨λ hu=>?_,λ hu=>?_⟩) few⟩
  ·obtain ⟨q,hq,e⟩:=List.mem_map.mp (m2 _ (List.mem_map.mpr ⟨u,hu,rfl⟩))
   have o:=ok u hu
   refine List.mem_map.mpr ⟨q,hq,?_⟩
   unfold prI
   rw [e]
   refine Prod.ext ?_ ?_
   ·show ((Int.toNat _:Nat):Int)=_; omega
   ·show ((Int.toNat _:Nat):Int)=_; omega
  ·obtain ⟨q,hq,rfl⟩:=List.mem_map.mp hu
   obtain ⟨j,hj,rfl⟩:=m1 q hq
   have o:=ok _ (mem j hj)
   rw [pg j hj]
   have e1:prI (bs.getD j 0,((ts.getD j (0,0)).1.toNat,(ts.getD j (0,0)).2.toNat))=ts.getD j (0,0):=by
    refine Prod.ext ?_ ?_
    ·show ((Int.toNat _:Nat):Int)=_; omega
    ·show ((Int.toNat _:Nat):Int)=_; omega
   rw [e1]
   exact mem j hj
theorem a1Z {α β:Type} {R:α->β->Prop} {xs:List α} {ys:List β} (h:Paired R xs ys) {xs':List α} (p:xs'.Perm xs):∃ ys',Paired R xs' ys'/\ys'.Perm ys:=by
 induction p generalizing ys with
 | nil=>cases h; exact ⟨[],.nil,.nil⟩
 | cons x _ ih =>
  cases h with
  | cons r t =>
   obtain ⟨zs,h1,h2⟩:=ih t
   exact ⟨_::zs,.cons r h1,h2.cons _⟩
 | swap x y l =>
  cases h with
  | cons r t =>
   cases t with
   | cons r2 t =>
    exact ⟨_::_::_,.cons r2 (.cons r t),.swap ..⟩
 | trans _ _ ih1 ih2 =>
  obtain ⟨ys1,a1,a2⟩:=ih2 h
  obtain ⟨ys2,b1,b2⟩:=ih1 a1
  exact ⟨ys2,b1,b2.trans a2⟩
theorem a3P {g:Pr->Int}:∀ {es:List (Int × Value)} {L:List (Addr × Pr)},Paired (λ e q=>e.1=g q.2/\e.2=Value.ref q.1) es L->es.map (·.2)=L.map λ q=>Value.ref q.1
 | _,_,.nil=>rfl
 | _,_,.cons r t=>by rw [List.map_cons,List.map_cons,a3P t,r.2]
theorem a7I {H:Hp}:∀ {L:List (Addr × Pr)},b0D H L->Paired (TieL H) (L.map λ q=>V.ref q.1) (L.map prI)
 | [],_=>.nil
 | q::L,h=>.cons ⟨_,rfl,h q List.mem_cons_self⟩ (a7I λ x hx=>h x (List.mem_cons_of_mem _ hx))
theorem a4E:∀ L:List (Addr × Pr),Vals (L.map λ q=>V.ref q.1) (L.map λ q=>Value.ref q.1)
 | []=>.nil
 | _::L=>.cons rfl (a4E L)
set_option maxHeartbeats 8000000 in
theorem a4R (ew:X.w=w) (cm:X.calm=true):CallR X (.builtin "sorted") (b3T w):=by
 subst ew
 intro pins s σ H xs0 us0 Q I r h
 obtain ⟨d,L0,rfl,hd,at0,h64,q⟩:=h
 obtain ⟨u,rfl,rx⟩:=a8M r
 cases rx
 obtain ⟨⟨es,ep,t,S⟩,_⟩:=I.hok d _ hd
 obtain ⟨L,hP0,pmL⟩:=a1Z S.ent (a3M X.w d ep es)
 have lL:L.length=L0.length:=pmL.length_eq
 have at_:b0D H L:=λ x hx=>at0 x (pmL.mem_iff.mp hx)
 have pt:=a7I at_
 have r':=a4E L
 have ek:=a3P (g:=hPr) hP0
 have hP:Paired (TupV X.K H) (L.map λ q=>V.ref q.1) ((L.map prI).map λ t=>[t.1,t.2]):=by
  have:∀ {vs:List V} {ts:List ζζ},Paired (TieL H) vs ts->Paired (TupV X.K H) vs (ts.map λ t=>[t.1,t.2]):=λ {vs ts} h=>by
   induction h with
   | nil=>exact .nil
   | cons a _ ih =>
    obtain ⟨p,e,hp⟩:=a
    exact .cons ⟨p,e,SqT.of hp⟩ ih
  exact this pt
 have ht:=a6J I r' hP λ ns hn=>by
  obtain ⟨t,_,rfl⟩:=List.mem_map.mp hn
  exact λ z=>by cases z
 apply Calls.call_function_entry kind_sorted plain_sorted entry_sorted (args_sorted1 _)
 unfold Builtin.«sorted»
 refine wpAny_bind (m:=checkCount "sorted" 1 1 _) (wpAny_pure ?_)
 refine wpAny_bind (Sp.collect_set (by simpa using I.ok.hd cm) S.obj S.ent S.tab S.few λ h1 tk k lz=>?_)
 rw [ek]
 generalize hts:L.map prI=ts at pt hP ht
 have lts:ts.length=L0.length:=by rw [<- hts,List.length_map,lL]
 have lvs:(L.map λ q=>V.ref q.1).length=ts.length:=by rw [List.length_map,lL,lts]
 generalize hzs:(L.map λ q=>Value.ref q.1)=zs at r' ht
 have lzs:zs.length=ts.length:=by rw [<- hzs,List.length_map,lL,lts]
 refine wpAny_bind (wpAny_newList ?_ (by rw [sizeLine_eq]; omega))
 have o1:(h1.push (seqObj "list" zs.toArray 0)).get? h1.objs.size=some (seqObj "list" zs.toArray 0):=Heap.get?_push_size _ rfl
 refine wpAny_bind (wpAny_holding (wpAny_call_entry slot_list_sort ⟨_,o1,rfl⟩ entry_list_sort (a5S (κ:=tuples' true) (key:=rank (ts.map λ t=>[t.1,t.2])) o1 (by omega) (λ g2 h' kp=>?_) λ p pm sr=>⟨_,rfl,?_⟩) (args_list_sort _)))
 ·refine a5V (ht.keep λ b o e=>kp b o ?_ (Heap.get?_push_of_some _ (k b o e))) g2
  exact Nat.ne_of_lt (Nat.lt_trans (Heap.lt_size e) lz)
 ·obtain ⟨n',o2⟩:=Sm.sh_at (vs:=zs) (out:=a9Z zs p) o1
  have hsz:=pm.size
  have hpr:p.toList.Perm (List.range ts.length):=by
   have:=Array.perm_iff_toList_perm.mp pm.perm
   rw [lzs] at this
   simpa using this
  have mem:∀ i∈p.toList,i < ts.length:=λ i hi=>List.mem_range.mp (hpr.mem_iff.mp hi)
  have z:(p.toList.map λ i=>(L.map λ q=>V.ref q.1).getD i V.non).length=ts.length:=by rw [List.length_map,Array.length_toList,hsz,lzs]
  have hp0:s.heap.objs.size<=h1.objs.size:=Nat.le_of_lt lz
  refine wpAny_pure ⟨_,rfl,.ref h1.objs.size,_,I.laid (t':=tk) (o:=.lst (p.toList.map λ i=>(L.map λ q=>V.ref q.1).getD i V.non)) (λ b o eo=>?_) hp0 ?_,rfl,?_⟩
  ·have lb:b < h1.objs.size:=Nat.lt_trans (Heap.lt_size eo) lz
   exact Sm.sh_old (by rw [size_push']; exact Nat.lt_succ_of_lt lb) (Nat.ne_of_lt lb) (Heap.get?_push_of_some _ (k b o eo))
  ·refine ⟨by rw [z,sizeLine_eq]; omega,_,n',a7G r' p.toList (λ i hi=>by rw [lvs]; exact mem i hi),?_⟩
   exact o2
  ·refine q _ _ _ _ ((b0C hpr).trans (hts ▸ pmL.map prI)) ?_ (a7H pt p.toList mem) (New.mk0 (I.hok.fresh hp0))
   rw [List.pairwise_iff_getElem]
   intro i j hi hj hij
   rw [List.length_map,Array.length_toList,hsz] at hi hj
   have q1:=sr i j (Nat.le_of_lt hij) hj
   unfold Srt.KK at q1
   have li:=pm.lt hi
   have lj:=pm.lt hj
   rw [List.getElem_map,List.getElem_map]
   have e1:p.getD i 0=p.toList[i]'(by rw [Array.length_toList,hsz]; exact hi):=by simp [Array.getD,hsz,hi]
   have e2:p.getD j 0=p.toList[j]'(by rw [Array.length_toList,hsz]; exact hj):=by simp [Array.getD,hsz,hj]
   rw [<- e1,<- e2]
   intro c
   have ge:∀ i,i < ts.length->(ts.map λ t=>[t.1,t.2]).getD i []=[(ts.getD i (0,0)).1,(ts.getD i (0,0)).2]:=λ i hi=>by
    rw [τα,List.getElem?_map,List.getElem?_eq_getElem hi,τα,List.getElem?_eq_getElem hi]
    rfl
   have z1:=b0A (ls:=ts.map λ t=>[t.1,t.2]) (i:=p.getD j 0) (j:=p.getD i 0) (by rw [List.length_map]; omega)
   rw [ge _ (by omega),ge _ (by omega)] at z1
   rw [decide_eq_true c] at z1
   have:=of_decide_eq_true z1
   omega
end
end L2
set_option maxHeartbeats 4100000
namespace L2
open PySem PySem.Spec PyProof.Rows
section
variable {X:Cx} {K:Φρ} {a b:Expr} {rest:List Expr} {pos:Pos} {ta tb:TE}
end
end L2
set_option maxHeartbeats 4100000
namespace L2
open PySem PySem.Spec PyProof.Rows
section
variable {K:Φρ} {a:Addr} {xs:List V} {ix:List (Option Nat)} {g:TG} {tt:TT} {te:TE} {σ:St} {H1:Hp} {Q:VK}
end
section
variable {X:Cx} {K:Φρ}
end
end L2
set_option maxHeartbeats 4100000
namespace L2
open PySem PySem.Spec PyProof.Rows
section
variable {X:Cx} {K:Φρ}
end
end L2
set_option maxHeartbeats 4100000
namespace SrtL
open PySem PyProof.Rows PySem.Calls PySem.W
section
variable {prog:Program} {wo:World} {A:Around} {E:Value->Shared->Prop} {s:Shared} {κ:SortKind} {a₀:Array Keyed}
def Cmp (prog:Program) (wo:World) (A:Around) (κ:SortKind) (s:Shared) (a₀:Array Keyed):Prop :=
 ∀ x∈a₀,∀ y∈a₀,∀ (C:Bool->Shared->Prop),(∀ b,C b s)->wpAny (model prog wo) A (keyLt' κ x.1 y.1) C (λ _ _=>False) s
structure PB (κ:SortKind) (a₀:Array Keyed) (P:Array (Nat × Nat × Nat)) (st:SortSt):Prop where
 perm:(arrOf st).Perm a₀
 fail:failedOf st=none
 kind:kindOf st=κ
 pend:pendingOf st=P
theorem PB.size {P} {st:SortSt} (h:PB κ a₀ P st):(arrOf st).size=a₀.size:=h.perm.size_eq
theorem PB.mem {P} {st:SortSt} (h:PB κ a₀ P st) {x} (hx:x∈arrOf st):x∈a₀:=h.perm.mem_iff.mp hx
theorem a5X {P} {st:SortSt} {x y:Keyed} {Q:Option Bool->SortSt->Prop} (hC:Cmp prog wo A κ s a₀) (hB:PB κ a₀ P st) (hx:x∈a₀) (hy:y∈a₀)
  (h:∀ b,Q (some b) st):wpS (model prog wo) A E s (lt' x y) Q st:=by
 rw [lt'_eq]
 refine wpS_bind (wpS_get ?_)
 rw [hB.kind]
 refine wpS_bind (wpS_lift (wpAny_attempt (wpAny_mono (hC x hx y hy (λ b s'=>s'=s) λ b=>rfl) (λ b s' e=>?_) λ _ _ f=>f.elim)))
 subst e
 exact ⟨rfl,wpS_pure (h b)⟩
theorem a0H {arr:Array Keyed} {i:Nat} {st:SortSt} {Q:Keyed->SortSt->Prop} (hi:i < arr.size) (h:Q arr[i] st):wpS (model prog wo) A E s (elem' arr i) Q st:=by
 rw [elem'_eq,Array.getElem?_eq_getElem hi]
 exact wpS_pure h
theorem a2J {P} {st:SortSt} {i j:Nat} {Q:Option Bool->SortSt->Prop} (hC:Cmp prog wo A κ s a₀) (hB:PB κ a₀ P st) (hi:i < a₀.size) (hj:j < a₀.size)
  (h:∀ b,Q (some b) st):wpS (model prog wo) A E s (ltAt' i j) Q st:=by
 rw [ltAt'_eq]
 refine wpS_bind (wpS_get ?_)
 exact wpS_bind (a0H (by rw [hB.size]; exact hi) (wpS_bind (a0H (by rw [hB.size]; exact hj) (a5X hC hB (hB.mem (Array.getElem_mem _)) (hB.mem (Array.getElem_mem _)) h))))
theorem PB.setArr {P} {st:SortSt} (h:PB κ a₀ P st) {xs:Array Keyed} (hp:xs.Perm (arrOf st)):PB κ a₀ P (setArr st xs):=⟨hp.trans h.perm,h.fail,h.kind,h.pend⟩
theorem a4S {P} {st:SortSt} {i j:Nat} {Q:Unit->SortSt->Prop} (hB:PB κ a₀ P st) (h:∀ st',PB κ a₀ P st'->Q () st') :
  wpS (model prog wo) A E s (reverseSlice' i j) Q st:=by
 rw [reverseSlice'_eq]; exact wpS_modify (h _ (hB.setArr (mirror_perm _ _ _ _)))
theorem b3U {P} {lo nrem:Nat} {st:SortSt} {Q:Option Nat->SortSt->Prop} (hC:Cmp prog wo A κ s a₀) (hB:PB κ a₀ P st) (hn:lo+nrem<=a₀.size) (h1:1<=nrem)
  (h:∀ m st',1<=m->m<=nrem->PB κ a₀ P st'->Q (some m) st'):wpS (model prog wo) A E s (countRun' lo nrem) Q st:=by
 rw [countRun'_eq]
 refine wpS_bind (wpS_mono (wpS_forRange (I:=λ x c st'=>st'=st/\c=(none,x)) (Q:=λ c st'=>st'=st/\∃ m,c=(none,m)/\1<=m/\m<=nrem) ?step ?fin ⟨rfl,rfl⟩) ?post)
 case step =>
  rintro x c st' hx1 hx2 ⟨rfl,rfl⟩
  dsimp only
  refine wpS_bind (a2J hC hB (by omega) (by omega) λ b=>?_)
  cases b
  ·exact wpS_pure ⟨rfl,rfl⟩
  ·exact wpS_pure ⟨rfl,_,rfl,hx1,by omega⟩
 case fin =>
  rintro c st' ⟨rfl,rfl⟩
  exact ⟨rfl,_,rfl,by omega,by omega⟩
 case post =>
  rintro c st' ⟨rfl,m,rfl,h1,h2⟩
  dsimp only
  have o1:lo+m<=a₀.size:=by omega
  split
  ·exact wpS_pure (h m _ h1 h2 hB)
  ·have h3:m+1<=nrem:=by grind
   split
   case' isTrue =>
    refine wpS_bind (a2J hC hB (by omega) (by omega) λ b=>?_)
    cases b
    case true=>exact wpS_pure (h m _ h1 h2 hB)
    dsimp only
    simp only [if_false,Bool.false_eq_true]
    refine wpS_bind (a4S hB λ stx hBx=>?_)
   case' isFalse=>have hBx:=hB
   all_goals
    refine wpS_bind (wpS_lift (wpAny_rule (And.intro rfl ?_)))
    refine wpS_bind (wpS_mono (wpS_forRange (I:=λ x c st'=>PB κ a₀ P st'/\∃ q,c=(none,x,q)) (Q:=λ c st'=>PB κ a₀ P st'/\∃ m q,c=(none,m,q)/\1<=m/\m<=nrem) ?_ ?_ ⟨hBx,_,rfl⟩) ?_)
    ·rintro x c st' hx1 hx2 ⟨hB1,q,rfl⟩
     dsimp only
     refine wpS_bind (a2J hC hB1 (by omega) (by omega) λ b=>?_)
     cases b
     ·simp only [if_false,Bool.false_eq_true]
      refine wpS_bind (a2J hC hB1 (by omega) (by omega) λ b=>?_)
      cases b
      ·exact wpS_pure ⟨hB1,_,rfl⟩
      ·exact wpS_pure ⟨hB1,_,_,rfl,by omega,by omega⟩
     ·simp only [if_true]
      split
      ·exact wpS_bind (a4S hB1 λ st2 hB2=>wpS_pure ⟨hB2,_,rfl⟩)
      ·exact wpS_pure ⟨hB1,_,rfl⟩
    ·rintro c st' ⟨hB1,q,rfl⟩
     exact ⟨hB1,_,_,rfl,by omega,by omega⟩
    ·rintro c st' ⟨hB1,m,q,rfl,h4,h5⟩
     dsimp only
     split
     case' isTrue=>refine wpS_bind (a4S hB1 λ st2 hB2=>?_)
     case' isFalse=>have hB2:=hB1
     all_goals
      refine wpS_bind (a4S hB2 λ st2 hB2=>?_)
      refine wpS_bind (wpS_mono (wpS_forRange (I:=λ x c st'=>PB κ a₀ P st'/\c=(none,x)) (Q:=λ c st'=>PB κ a₀ P st'/\∃ m,c=(none,m)/\1<=m/\m<=nrem) ?_ ?_ ⟨hB2,rfl⟩) ?_)
      ·rintro x c st' hx1 hx2 ⟨hB1,rfl⟩
       dsimp only
       refine wpS_bind (a2J hC hB1 (by omega) (by omega) λ b=>?_)
       cases b
       ·exact wpS_pure ⟨hB1,rfl⟩
       ·exact wpS_pure ⟨hB1,_,rfl,by omega,by omega⟩
      ·rintro c st' ⟨hB1,rfl⟩
       exact ⟨hB1,_,rfl,by omega,by omega⟩
      ·rintro c st' ⟨hB1,m,rfl,h4,h5⟩
       exact wpS_pure (h _ _ h4 h5 hB1)
theorem b3V {P} {lo n ok:Nat} {st:SortSt} {Q:Bool->SortSt->Prop} (hC:Cmp prog wo A κ s a₀) (hB:PB κ a₀ P st) (hn:lo+n<=a₀.size)
  (h:∀ st',PB κ a₀ P st'->Q true st'):wpS (model prog wo) A E s (binarySort' lo n ok) Q st:=by
 rw [binarySort'_eq]
 refine wpS_bind (wpS_mono (wpS_forRange (I:=λ x c st'=>PB κ a₀ P st'/\c=(none,())) (Q:=λ c st'=>PB κ a₀ P st'/\c=(none,())) ?_ ?_ ⟨hB,rfl⟩) ?_)
 ·rintro k c st' hx1 hx2 ⟨hB1,rfl⟩
  dsimp only
  refine wpS_bind (wpS_mono (wpS_forRange (I:=λ x c st'=>PB κ a₀ P st'/\∃ l r,c=(none,l,r)/\r<=k) (Q:=λ c st'=>PB κ a₀ P st'/\∃ l r,c=(none,l,r)) ?_ ?_ ⟨hB1,_,_,rfl,Nat.le_refl _⟩) ?_)
  ·rintro x c st' _ _ ⟨hB1,l,r,rfl,hr⟩
   dsimp only
   split
   ·exact wpS_pure ⟨hB1,_,_,rfl⟩
   ·refine wpS_bind (a2J hC hB1 (by omega) (by omega) λ b=>?_)
    cases b
    ·exact wpS_pure ⟨hB1,_,_,rfl,by omega⟩
    ·exact wpS_pure ⟨hB1,_,_,rfl,by omega⟩
  ·rintro c st' ⟨hB1,l,r,rfl,hr⟩
   exact ⟨hB1,_,_,rfl⟩
  ·rintro c st' ⟨hB1,l,r,rfl⟩
   dsimp only
   rw [moveDown'_eq]
   exact wpS_bind (wpS_modify (wpS_pure ⟨hB1.setArr (bubble_perm _ _ _),rfl⟩))
 ·rintro c st' ⟨hB1,rfl⟩
  exact ⟨hB1,rfl⟩
 ·rintro c st' ⟨hB1,rfl⟩
  exact wpS_pure (h _ hB1)
def gal':Bool->Keyed->Array Keyed->Nat->Nat->Nat->StateT SortSt Sem (Option Nat):=sortPriv% PySem.Builtin.gallop
theorem a2K {P} {left:Bool} {key:Keyed} {arr:Array Keyed} {base n hint:Nat} {st:SortSt} {Q:Option Nat->SortSt->Prop} (hC:Cmp prog wo A κ s a₀) (hB:PB κ a₀ P st) (hk:key∈a₀)
  (ha:∀ i (h:i < arr.size),arr[i]∈a₀) (hn:base+n<=arr.size) (hh:hint < n) (h:∀ k,k<=n->Q (some k) st):wpS (model prog wo) A E s (gal' left key arr base n hint) Q st:=by
 have bey:∀ (i:Nat) (st:SortSt) (R:Option Bool->SortSt->Prop),PB κ a₀ P st->i < n->(∀ b,R (some b) st)->wpS (model prog wo) A E s (do
   let x <- elem' arr (base+i)
   if left then lt' x key else return (<- lt' key x).map (!·)) R st:=by
  intro i st R hB hi hR
  refine wpS_bind (a0H (by omega) ?_)
  split
  ·exact a5X hC hB (ha _ _) hk hR
  ·exact wpS_bind (a5X hC hB hk (ha _ _) λ b=>wpS_pure (hR _))
 refine wpS_bind (bey hint st _ hB hh λ b=>?_)
 dsimp only
 cases b
 ·simp only [if_false,Bool.false_eq_true]
  refine wpS_bind (wpS_mono (wpS_forRange (I:=λ x c st'=>st'=st/\∃ l o,c=(none,l,o)) (Q:=λ c st'=>st'=st/\∃ l o,c=(none,l,o)) ?_ (λ _ _ e=>e) ⟨rfl,_,_,rfl⟩) ?_)
  ·rintro x c st' _ _ ⟨rfl,l,o,rfl⟩
   dsimp only
   split
   ·exact wpS_pure ⟨rfl,_,_,rfl⟩
   ·refine wpS_bind (bey _ _ _ hB (by omega) λ b=>?_)
    cases b
    ·exact wpS_pure ⟨rfl,_,_,rfl⟩
    ·exact wpS_pure ⟨rfl,_,_,rfl⟩
  ·rintro c st' ⟨rfl,l,o,rfl⟩
   refine wpS_bind (wpS_mono (wpS_forRange (I:=λ x c st''=>st''=st'/\∃ l r,c=(none,l,r)/\r<=n) (Q:=λ c st''=>st''=st'/\∃ l r,c=(none,l,r)/\r<=n) ?_ (λ _ _ e=>e) ⟨rfl,_,_,rfl,by dsimp only; omega⟩) ?_)
   ·rintro x c st' _ _ ⟨rfl,l,r,rfl,hr⟩
    dsimp only
    split
    ·exact wpS_pure ⟨rfl,_,_,rfl,hr⟩
    ·refine wpS_bind (bey _ _ _ hB (by omega) λ b=>?_)
     cases b
     ·exact wpS_pure ⟨rfl,_,_,rfl,by omega⟩
     ·exact wpS_pure ⟨rfl,_,_,rfl,hr⟩
   ·rintro c st' ⟨rfl,l,r,rfl,hr⟩
    exact wpS_pure (h _ hr)
 ·simp only [if_true]
  refine wpS_bind (wpS_mono (wpS_forRange (I:=λ x c st'=>st'=st/\∃ l o,c=(none,l,o)) (Q:=λ c st'=>st'=st/\∃ l o,c=(none,l,o)) ?_ (λ _ _ e=>e) ⟨rfl,_,_,rfl⟩) ?_)
  ·rintro x c st' _ _ ⟨rfl,l,o,rfl⟩
   dsimp only
   split
   ·exact wpS_pure ⟨rfl,_,_,rfl⟩
   ·refine wpS_bind (bey _ _ _ hB (by omega) λ b=>?_)
    cases b
    ·exact wpS_pure ⟨rfl,_,_,rfl⟩
    ·exact wpS_pure ⟨rfl,_,_,rfl⟩
  ·rintro c st' ⟨rfl,l,o,rfl⟩
   refine wpS_bind (wpS_mono (wpS_forRange (I:=λ x c st''=>st''=st'/\∃ l r,c=(none,l,r)/\r<=n) (Q:=λ c st''=>st''=st'/\∃ l r,c=(none,l,r)/\r<=n) ?_ (λ _ _ e=>e) ⟨rfl,_,_,rfl,by dsimp only; omega⟩) ?_)
   ·rintro x c st' _ _ ⟨rfl,l,r,rfl,hr⟩
    dsimp only
    split
    ·exact wpS_pure ⟨rfl,_,_,rfl,hr⟩
    ·refine wpS_bind (bey _ _ _ hB (by omega) λ b=>?_)
     cases b
     ·exact wpS_pure ⟨rfl,_,_,rfl,by omega⟩
     ·exact wpS_pure ⟨rfl,_,_,rfl,hr⟩
   ·rintro c st' ⟨rfl,l,r,rfl,hr⟩
    exact wpS_pure (h _ hr)
end
end SrtL
set_option maxHeartbeats 4100000
namespace SrtL
open PySem PyProof.Rows PySem.Calls PySem.W
section
variable {prog:Program} {wo:World} {A:Around} {E:Value->Shared->Prop} {s:Shared} {κ:SortKind} {a₀:Array Keyed}
def Lo (a b o:Array Keyed) (i j:Nat):Prop:=(o.toList++a.toList.drop i++b.toList.drop j).Perm (a.toList++b.toList)
def Hi (a b o:Array Keyed) (i j:Nat):Prop:=(o.toList++a.toList.take i++b.toList.take j).Perm (a.toList++b.toList)
theorem pc {l m r:List Keyed} (h:l.Perm r) (e:∀ [BEq Keyed] [LawfulBEq Keyed] x,m.count x=l.count x):m.Perm r:=by
 letI:DecidableEq Keyed:=Classical.typeDecidableEq _
 exact (List.perm_iff_count.mpr λ x=>e x).trans h
variable {a b o:Array Keyed} {i j k:Nat}
theorem Lo.pa (h:Lo a b o i j) (hi:i < a.size):Lo a b (o.push a[i]) (i+1) j:=by
 refine pc h λ x=>?_
 rw [List.drop_eq_getElem_cons (l:=a.toList) (i:=i) (by simpa using hi)]
 simp [List.count_append,List.count_cons]
 try omega
theorem Lo.pb (h:Lo a b o i j) (hi:j < b.size):Lo a b (o.push b[j]) i (j+1):=by
 refine pc h λ x=>?_
 rw [List.drop_eq_getElem_cons (l:=b.toList) (i:=j) (by simpa using hi)]
 simp [List.count_append,List.count_cons]
 omega
theorem a7J (a:Array Keyed) (i k:Nat) (hi:i+k<=a.size):a.toList.drop i=(a.extract i (i+k)).toList++a.toList.drop (i+k):=by
 simp only [Array.toList_extract,List.extract_eq_take_drop,Nat.add_sub_cancel_left]
 rw [<- List.drop_drop,List.take_append_drop]
theorem Lo.xa (h:Lo a b o i j) (hi:i+k<=a.size):Lo a b (o++a.extract i (i+k)) (i+k) j:=by
 refine pc h λ x=>?_
 rw [a7J a i k hi]
 simp only [Array.toList_append,List.count_append]
 omega
theorem Lo.xb (h:Lo a b o i j) (hi:j+k<=b.size):Lo a b (o++b.extract j (j+k)) i (j+k):=by
 refine pc h λ x=>?_
 rw [a7J b j k hi]
 simp only [Array.toList_append,List.count_append]
 omega
theorem b0F (a:Array Keyed) (i:Nat):(a.extract i).toList=a.toList.drop i:=by
 simp only [Array.toList_extract,List.extract_eq_take_drop]
 rw [List.take_of_length_le]
 simp
theorem Lo.f1 (h:Lo a b o i j):(o++a.extract i++b.extract j).Perm (a++b):=by
 rw [Array.perm_iff_toList_perm]
 simp only [Array.toList_append,b0F]
 exact h
theorem Lo.f2 (h:Lo a b o i j):(o++b.extract j++a.extract i).Perm (a++b):=by
 rw [Array.perm_iff_toList_perm]
 simp only [Array.toList_append,b0F]
 exact pc h λ x=>by simp only [List.count_append]; omega
theorem Lo.ini (hb:0 < b.size):Lo a b #[b[0]] 0 1:=by
 have h:Lo a b #[] 0 0:=by simp [Lo]
 exact h.pb hb
theorem Hi.pa (h:Hi a b o (i+1) j) (hi:i < a.size):Hi a b (o.push a[i]) i j:=by
 refine pc h λ x=>?_
 rw [List.take_succ_eq_append_getElem (by simpa using hi)]
 simp [List.count_append,List.count_cons]
 omega
theorem Hi.pb (h:Hi a b o i (j+1)) (hi:j < b.size):Hi a b (o.push b[j]) i j:=by
 refine pc h λ x=>?_
 rw [List.take_succ_eq_append_getElem (l:=b.toList) (by simpa using hi)]
 simp [List.count_append,List.count_cons]
 omega
theorem a2W (a:Array Keyed) (k i:Nat) (hi:k<=i):a.toList.take i=a.toList.take k++(a.extract k i).toList:=by
 simp only [Array.toList_extract,List.extract_eq_take_drop]
 rw [<- List.drop_take]
 have:=List.take_append_drop k (a.toList.take i)
 rwa [List.take_take,Nat.min_eq_left hi,eq_comm] at this
theorem Hi.xa (h:Hi a b o i j) (hi:k<=i):Hi a b (o++(a.extract k i).reverse) k j:=by
 refine pc h λ x=>?_
 rw [a2W a k i hi]
 simp only [Array.toList_append,List.count_append,Array.toList_reverse,List.count_reverse]
 omega
theorem Hi.xb (h:Hi a b o i j) (hi:k<=j):Hi a b (o++(b.extract k j).reverse) i k:=by
 refine pc h λ x=>?_
 rw [a2W b k j hi]
 simp only [Array.toList_append,List.count_append,Array.toList_reverse,List.count_reverse]
 omega
theorem b5Y (a:Array Keyed) (i:Nat):(a.extract 0 i).toList=a.toList.take i:=by
 simp [Array.toList_extract,List.extract_eq_take_drop]
theorem Hi.f1 (h:Hi a b o i j):(a.extract 0 i++b.extract 0 j++o.reverse).Perm (a++b):=by
 rw [Array.perm_iff_toList_perm]
 simp only [Array.toList_append,b5Y]
 exact pc h λ x=>by simp only [List.count_append,Array.toList_reverse,List.count_reverse]; omega
theorem Hi.f2 (h:Hi a b o i j):(b.extract 0 j++a.extract 0 i++o.reverse).Perm (a++b):=by
 rw [Array.perm_iff_toList_perm]
 simp only [Array.toList_append,b5Y]
 exact pc h λ x=>by simp only [List.count_append,Array.toList_reverse,List.count_reverse]; omega
theorem Hi.ini (ha:0 < a.size):Hi a b #[a[a.size - 1]] (a.size - 1) b.size:=by
 have h:Hi a b #[] (a.size - 1+1) b.size:=by
  rw [show a.size - 1+1=a.size by omega]
  unfold Hi
  rw [List.take_of_length_le (by simp),List.take_of_length_le (by simp)]
  exact List.Perm.refl _
 exact h.pa (by omega)
def PG (κ:SortKind) (a₀:Array Keyed) (P:Array (Nat × Nat × Nat)) (xs:Array Keyed) (st:SortSt):Prop:=arrOf st=xs/\PB κ a₀ P st
def mlo':Array Keyed->Array Keyed->StateT SortSt Sem (Array Keyed):=sortPriv% PySem.Builtin.mergeLo
def mhi':Array Keyed->Array Keyed->StateT SortSt Sem (Array Keyed):=sortPriv% PySem.Builtin.mergeHi
def smg':Nat->StateT SortSt Sem Unit:=sortPriv% PySem.Builtin.setMinGallop
theorem a0I {α:Type} {c:Prop} [Decidable c] {m n:StateT SortSt Sem α} {Q:α->SortSt->Prop} {st:SortSt} (h1:c->wpS (model prog wo) A E s m Q st) (h2:¬c->wpS (model prog wo) A E s n Q st):wpS (model prog wo) A E s (if c then m else n) Q st:=by
 split <;> simp_all
theorem a4T {P xs} {g:Nat} {st:SortSt} {Q:Unit->SortSt->Prop} (hB:PG κ a₀ P xs st) (h:∀ st',PG κ a₀ P xs st'->Q () st'):wpS (model prog wo) A E s (smg' g) Q st :=
 wpS_modify (h _ ⟨hB.1,hB.2.1,hB.2.2,hB.2.3,hB.2.4⟩)
theorem b3W {P} {a b:Array Keyed} {st:SortSt} {Q:Array Keyed->SortSt->Prop} (hC:Cmp prog wo A κ s a₀) (hB:PB κ a₀ P st)
  (ha:∀ i (h:i < a.size),a[i]∈a₀) (hb:∀ i (h:i < b.size),b[i]∈a₀) (a1:1<=a.size) (b1:1<=b.size)
  (h:∀ o st',o.Perm (a++b)->PG κ a₀ P (arrOf st) st'->Q o st'):wpS (model prog wo) A E s (mlo' a b) Q st:=by
 refine wpS_bind (wpS_lift (wpAny_rule (And.intro rfl ?_)))
 refine wpS_bind (a0H (by omega) ?_)
 dsimp only
 have L0:=Lo.ini (a:=a) b1
 apply a0I <;> intro hc
 ·exact wpS_pure (h _ _ L0.f1 ⟨rfl,hB⟩)
 apply a0I <;> intro hc
 ·exact wpS_pure (h _ _ L0.f2 ⟨rfl,hB⟩)
 have e1:a.size≠1:=by grind
 have e2:b.size≠1:=by grind
 refine wpS_bind (wpS_get ?_)
 refine wpS_bind (wpS_mono (wpS_forRange (I:=λ x c st'=>PG κ a₀ P (arrOf st) st'/\∃ o i j g,c=(none,o,i,j,g)/\Lo a b o i j/\i+1 < a.size/\j < b.size/\x+1<=i+j)
  (Q:=λ c st'=>PG κ a₀ P (arrOf st) st'/\∃ r t,c=(some r,t)/\r.Perm (a++b)) ?step ?fin ⟨⟨rfl,hB⟩,_,_,_,_,rfl,L0,by omega,by omega,by omega⟩) ?post)
 case post=>rintro c st' ⟨hP,r,t,rfl,hr⟩; exact wpS_pure (h _ _ hr hP)
 case fin=>rintro c st' ⟨hP,o,i,j,g,rfl,L,hi,hj,hx⟩; omega
 case step =>
  rintro x c st1 _ _ ⟨hP,o,i,j,g,rfl,L,hi,hj,hx⟩
  dsimp only
  refine wpS_bind (wpS_mono (wpS_forRange (I:=λ x c st'=>st'=st1/\∃ o' i' j' p q,c=(none,o',i',j',p,q)/\Lo a b o' i' j'/\i'+1 < a.size/\j' < b.size/\i+j+x<=i'+j')
   (Q:=λ c st'=>st'=st1/\((∃ r t,c=(some r,t)/\r.Perm (a++b))\/∃ o' i' j' p q,c=(none,o',i',j',p,q)/\Lo a b o' i' j'/\i'+1 < a.size/\j' < b.size/\i+j+1<=i'+j')) ?s1 ?f1 ⟨rfl,_,_,_,_,_,rfl,L,hi,hj,by omega⟩) ?p1)
  case s1 =>
   rintro x c st' _ _ ⟨rfl,o',i',j',p,q,rfl,L,hi,hj,hx⟩
   dsimp only
   refine wpS_bind (a0H hj (wpS_bind (a0H (Nat.lt_of_succ_lt hi) (wpS_bind (a5X hC hP.2 (hb _ _) (ha _ _) λ w=>?_)))))
   cases w
   ·refine wpS_bind (a0H (Nat.lt_of_succ_lt hi) ?_)
    have L2:=L.pa (Nat.lt_of_succ_lt hi)
    apply a0I <;> intro hc
    ·exact wpS_pure ⟨rfl,.inl ⟨_,_,rfl,L2.f2⟩⟩
    apply a0I <;> intro hc
    ·exact wpS_pure ⟨rfl,.inr ⟨_,_,_,_,_,rfl,L2,by grind,hj,by omega⟩⟩
    ·exact wpS_pure ⟨rfl,_,_,_,_,_,rfl,L2,by grind,hj,by omega⟩
   ·refine wpS_bind (a0H hj ?_)
    have L2:=L.pb hj
    apply a0I <;> intro hc
    ·exact wpS_pure ⟨rfl,.inl ⟨_,_,rfl,L2.f1⟩⟩
    apply a0I <;> intro hc
    ·exact wpS_pure ⟨rfl,.inr ⟨_,_,_,_,_,rfl,L2,hi,by grind,by omega⟩⟩
    ·exact wpS_pure ⟨rfl,_,_,_,_,_,rfl,L2,hi,by grind,by omega⟩
  case f1=>rintro c st' ⟨rfl,o',i',j',p,q,rfl,L,hi,hj,hx⟩; exact ⟨rfl,.inr ⟨_,_,_,_,_,rfl,L,hi,hj,by omega⟩⟩
  case p1 =>
   rintro c st' ⟨rfl,⟨r,t,rfl,hr⟩ | ⟨o,i,j,p,q,rfl,L,hi,hj,hy⟩⟩
   ·exact wpS_pure ⟨hP,_,_,rfl,hr⟩
   dsimp only
   refine wpS_bind (wpS_lift (wpAny_rule (And.intro rfl ?_)))
   refine wpS_bind (wpS_mono (wpS_forRange (I:=λ x c st'=>PG κ a₀ P (arrOf st) st'/\∃ o' i' j' g p q,c=(none,o',i',j',g,p,q)/\Lo a b o' i' j'/\i'+1 < a.size/\j' < b.size/\i+j<=i'+j')
    (Q:=λ c st'=>PG κ a₀ P (arrOf st) st'/\((∃ r t,c=(some r,t)/\r.Perm (a++b))\/∃ o' i' j' g p q,c=(none,o',i',j',g,p,q)/\Lo a b o' i' j'/\i'+1 < a.size/\j' < b.size/\i+j<=i'+j')) ?s2 ?f2 ⟨hP,_,_,_,_,_,_,rfl,L,hi,hj,Nat.le_refl _⟩) ?p2)
   case f2=>rintro c st' ⟨hP,o',i',j',g,p,q,rfl,L,hi,hj,hx⟩; exact ⟨hP,.inr ⟨_,_,_,_,_,_,rfl,L,hi,hj,hx⟩⟩
   case p2 =>
    rintro c st' ⟨hP,⟨r,t,rfl,hr⟩ | ⟨o,i,j,g,p,q,rfl,L,hi,hj,hy⟩⟩
    ·exact wpS_pure ⟨hP,_,_,rfl,hr⟩
    ·exact wpS_bind (a4T hP λ st2 hP=>wpS_pure ⟨hP,_,_,_,_,rfl,L,hi,hj,by dsimp only; omega⟩)
   case s2 =>
    rintro x c st1 _ _ ⟨hP,o',i',j',g,p,q,rfl,L,hi,hj,hx⟩
    dsimp only
    apply a0I <;> intro hc
    all_goals
     refine wpS_bind (a4T hP λ st2 hP=>?_)
     refine wpS_bind (a0H hj (wpS_bind (a2K hC hP.2 (hb _ _) ha (by omega) (by omega) λ k hk=>?_)))
     dsimp only
     apply a0I <;> intro hc
     case' h1 =>
      have L1:=L.xa (k:=k) (by omega)
      apply a0I <;> intro hc
      case h1=>exact wpS_pure ⟨hP,.inl ⟨_,_,rfl,L1.f2⟩⟩
      apply a0I <;> intro hc
      case h1=>exact wpS_pure ⟨hP,.inl ⟨_,_,rfl,L1.f1⟩⟩
      have hi1:i'+k+1 < a.size:=by grind
     case' h2=>have L1:=L; have hi1:=hi
     all_goals
      refine wpS_bind (a0H hj ?_)
      have L2:=L1.pb hj
      apply a0I <;> intro hc
      case h1=>exact wpS_pure ⟨hP,.inl ⟨_,_,rfl,L2.f1⟩⟩
      have hj1:j'+1 < b.size:=by grind
      refine wpS_bind (a0H (Nat.lt_of_succ_lt hi1) (wpS_bind (a2K hC hP.2 (ha _ _) hb (by omega) (by omega) λ k2 hk2=>?_)))
      dsimp only
      apply a0I <;> intro hc
      case' h1 =>
       have L3:=L2.xb (k:=k2) (by omega)
       apply a0I <;> intro hc
       case h1=>exact wpS_pure ⟨hP,.inl ⟨_,_,rfl,L3.f1⟩⟩
       have hj2:j'+1+k2 < b.size:=by grind
      case' h2=>have L3:=L2; have hj2:=hj1
      all_goals
       refine wpS_bind (a0H (Nat.lt_of_succ_lt hi1) ?_)
       have L4:=L3.pa (Nat.lt_of_succ_lt hi1)
       apply a0I <;> intro hc
       ·exact wpS_pure ⟨hP,.inl ⟨_,_,rfl,L4.f2⟩⟩
       apply a0I <;> intro hc
       ·exact wpS_pure ⟨hP,.inr ⟨_,_,_,_,_,_,rfl,L4,by grind,hj2,by omega⟩⟩
       ·exact wpS_pure ⟨hP,_,_,_,_,_,_,rfl,L4,by grind,hj2,by omega⟩
theorem b3X {P} {a b:Array Keyed} {st:SortSt} {Q:Array Keyed->SortSt->Prop} (hC:Cmp prog wo A κ s a₀) (hB:PB κ a₀ P st)
  (ha:∀ i (h:i < a.size),a[i]∈a₀) (hb:∀ i (h:i < b.size),b[i]∈a₀) (a1:1<=a.size) (b1:1<=b.size)
  (h:∀ o st',o.Perm (a++b)->PG κ a₀ P (arrOf st) st'->Q o st'):wpS (model prog wo) A E s (mhi' a b) Q st:=by
 refine wpS_bind (wpS_lift (wpAny_rule (And.intro rfl ?_)))
 refine wpS_bind (a0H (by omega) ?_)
 dsimp only
 have L0:=Hi.ini (b:=b) a1
 apply a0I <;> intro hc
 ·exact wpS_pure (h _ _ L0.f1 ⟨rfl,hB⟩)
 apply a0I <;> intro hd
 ·exact wpS_pure (h _ _ L0.f2 ⟨rfl,hB⟩)
 have e1:a.size≠1:=by grind
 have e2:b.size≠1:=by grind
 refine wpS_bind (wpS_get ?_)
 refine wpS_bind (wpS_mono (wpS_forRange (I:=λ x c st'=>PG κ a₀ P (arrOf st) st'/\∃ i j o g,c=(none,i,j,o,g)/\Hi a b o i j/\1<=i/\2<=j/\i<=a.size/\j<=b.size/\x+1+i+j<=a.size+b.size)
  (Q:=λ c st'=>PG κ a₀ P (arrOf st) st'/\∃ r t,c=(some r,t)/\r.Perm (a++b)) ?step ?fin ⟨⟨rfl,hB⟩,_,_,_,_,rfl,L0,by omega,by omega,by omega,by omega,by omega⟩) ?post)
 case post=>rintro c st' ⟨hP,r,t,rfl,hr⟩; exact wpS_pure (h _ _ hr hP)
 case fin=>rintro c st' ⟨hP,i,j,o,g,rfl,L,hi,hj,ia,jb,hx⟩; omega
 case step =>
  rintro x c st1 _ _ ⟨hP,i,j,o,g,rfl,L,hi,hj,ia,jb,hx⟩
  dsimp only
  refine wpS_bind (wpS_mono (wpS_forRange (I:=λ x c st'=>st'=st1/\∃ i' j' o' p q,c=(none,i',j',o',p,q)/\Hi a b o' i' j'/\1<=i'/\2<=j'/\i'<=a.size/\j'<=b.size/\i'+j'+x<=i+j)
   (Q:=λ c st'=>st'=st1/\((∃ r t,c=(some r,t)/\r.Perm (a++b))\/∃ i' j' o' p q,c=(none,i',j',o',p,q)/\Hi a b o' i' j'/\1<=i'/\2<=j'/\i'<=a.size/\j'<=b.size/\i'+j'+1<=i+j)) ?s1 ?f1 ⟨rfl,_,_,_,_,_,rfl,L,hi,hj,ia,jb,by omega⟩) ?p1)
  case s1 =>
   rintro x c st' _ _ ⟨rfl,i',j',o',p,q,rfl,L,hi,hj,ia,jb,hx⟩
   dsimp only
   obtain ⟨i',rfl⟩:∃ q,i'=q+1:=⟨i' - 1,by omega⟩
   obtain ⟨j',rfl⟩:∃ q,j'=q+1:=⟨j' - 1,by omega⟩
   simp only [Nat.add_sub_cancel]
   refine wpS_bind (a0H jb (wpS_bind (a0H ia (wpS_bind (a5X hC hP.2 (hb _ _) (ha _ _) λ w=>?_)))))
   cases w
   ·refine wpS_bind (a0H jb ?_)
    have L2:=L.pb jb
    apply a0I <;> intro hc
    ·exact wpS_pure ⟨rfl,.inl ⟨_,_,rfl,L2.f2⟩⟩
    apply a0I <;> intro hd
    ·exact wpS_pure ⟨rfl,.inr ⟨_,_,_,_,_,rfl,L2,hi,by grind,ia,by omega,by omega⟩⟩
    ·exact wpS_pure ⟨rfl,_,_,_,_,_,rfl,L2,hi,by grind,ia,by omega,by omega⟩
   ·refine wpS_bind (a0H ia ?_)
    have L2:=L.pa ia
    apply a0I <;> intro hc
    ·exact wpS_pure ⟨rfl,.inl ⟨_,_,rfl,L2.f1⟩⟩
    apply a0I <;> intro hd
    ·exact wpS_pure ⟨rfl,.inr ⟨_,_,_,_,_,rfl,L2,by grind,hj,by omega,jb,by omega⟩⟩
    ·exact wpS_pure ⟨rfl,_,_,_,_,_,rfl,L2,by grind,hj,by omega,jb,by omega⟩
  case f1=>rintro c st' ⟨rfl,o',i',j',p,q,rfl,L,hi,hj,ia,jb,hx⟩; exact ⟨rfl,.inr ⟨_,_,_,_,_,rfl,L,hi,hj,ia,jb,by omega⟩⟩
  case p1 =>
   rintro c st' ⟨rfl,⟨r,t,rfl,hr⟩ | ⟨i,j,o,p,q,rfl,L,hi,hj,ia,jb,hy⟩⟩
   ·exact wpS_pure ⟨hP,_,_,rfl,hr⟩
   dsimp only
   refine wpS_bind (wpS_lift (wpAny_rule (And.intro rfl ?_)))
   refine wpS_bind (wpS_mono (wpS_forRange (I:=λ x c st'=>PG κ a₀ P (arrOf st) st'/\∃ i' j' o' g p q,c=(none,i',j',o',g,p,q)/\Hi a b o' i' j'/\1<=i'/\2<=j'/\i'<=a.size/\j'<=b.size/\i'+j'<=i+j)
    (Q:=λ c st'=>PG κ a₀ P (arrOf st) st'/\((∃ r t,c=(some r,t)/\r.Perm (a++b))\/∃ i' j' o' g p q,c=(none,i',j',o',g,p,q)/\Hi a b o' i' j'/\1<=i'/\2<=j'/\i'<=a.size/\j'<=b.size/\i'+j'<=i+j)) ?s2 ?f2 ⟨hP,_,_,_,_,_,_,rfl,L,hi,hj,ia,jb,Nat.le_refl _⟩) ?p2)
   case f2=>rintro c st' ⟨hP,o',i',j',g,p,q,rfl,L,hi,hj,ia,jb,hx⟩; exact ⟨hP,.inr ⟨_,_,_,_,_,_,rfl,L,hi,hj,ia,jb,hx⟩⟩
   case p2 =>
    rintro c st' ⟨hP,⟨r,t,rfl,hr⟩ | ⟨i,j,o,g,p,q,rfl,L,hi,hj,ia,jb,hy⟩⟩
    ·exact wpS_pure ⟨hP,_,_,rfl,hr⟩
    ·exact wpS_bind (a4T hP λ st2 hP=>wpS_pure ⟨hP,_,_,_,_,rfl,L,hi,hj,ia,jb,by dsimp only; omega⟩)
   case s2 =>
    rintro x c st1 _ _ ⟨hP,i',j',o',g,p,q,rfl,L,hi,hj,ia,jb,hx⟩
    obtain ⟨j',rfl⟩:∃ q,j'=q+1:=⟨j' - 1,by omega⟩
    dsimp only
    simp only [Nat.add_sub_cancel]
    apply a0I <;> intro hc
    all_goals
     refine wpS_bind (a4T hP λ st2 hP=>?_)
     refine wpS_bind (a0H jb (wpS_bind (a2K hC hP.2 (hb _ _) ha (by omega) (by omega) λ k hk=>?_)))
     dsimp only
     apply a0I <;> intro hc
     case' h1 =>
      have L1:=L.xa (k:=k) (by omega)
      apply a0I <;> intro hc
      case h1=>exact wpS_pure ⟨hP,.inl ⟨_,_,rfl,L1.f1⟩⟩
      have hi1:1<=k:=by grind
      obtain ⟨i1,e1⟩:∃ q,k=q+1:=⟨k - 1,by omega⟩
      subst e1
      have ia1:i1 < a.size:=by omega
     case' h2 =>
      have L1:=L
      obtain ⟨i1,e1⟩:∃ q,i'=q+1:=⟨i' - 1,by omega⟩
      subst e1
      have ia1:i1 < a.size:=by omega
     all_goals
      refine wpS_bind (a0H jb ?_)
      have L2:=L1.pb jb
      apply a0I <;> intro hc
      case h1=>exact wpS_pure ⟨hP,.inl ⟨_,_,rfl,L2.f2⟩⟩
      have hj1:2<=j':=by grind
      simp only [Nat.add_sub_cancel]
      refine wpS_bind (a0H ia1 (wpS_bind (a2K hC hP.2 (ha _ _) hb (by omega) (by omega) λ k2 hk2=>?_)))
      dsimp only
      apply a0I <;> intro hc
      case' h1 =>
       have L3:=L2.xb (k:=k2) (by omega)
       apply a0I <;> intro hc
       case h1=>exact wpS_pure ⟨hP,.inl ⟨_,_,rfl,L3.f2⟩⟩
       apply a0I <;> intro hc
       case h1=>exact wpS_pure ⟨hP,.inl ⟨_,_,rfl,L3.f1⟩⟩
       have hj2:2<=k2:=by grind
      case' h2=>have L3:=L2; have hj2:=hj1
      all_goals
       refine wpS_bind (a0H ia1 ?_)
       have L4:=L3.pa ia1
       apply a0I <;> intro hc
       ·exact wpS_pure ⟨hP,.inl ⟨_,_,rfl,L4.f1⟩⟩
       apply a0I <;> intro hd
       ·exact wpS_pure ⟨hP,.inr ⟨_,_,_,_,_,_,rfl,L4,by grind,hj2,by omega,by omega,by omega⟩⟩
       ·exact wpS_pure ⟨hP,_,_,_,_,_,_,rfl,L4,by grind,hj2,by omega,by omega,by omega⟩
end
end SrtL
set_option maxHeartbeats 4100000
namespace SrtL
open PySem PyProof.Rows PySem.Calls PySem.W
section
variable {prog:Program} {wo:World} {A:Around} {E:Value->Shared->Prop} {s:Shared} {κ:SortKind} {a₀:Array Keyed}
def Chn:Nat->List (Nat × Nat × Nat)->Nat->Prop
 | x,[],y=>x=y
 | x,t::r,y=>t.1=x/\1<=t.2.1/\Chn (x+t.2.1) r y
theorem Chn.le:∀ {l:List (Nat × Nat × Nat)} {x y:Nat},Chn x l y->x<=y
 | [],_,_,h=>Nat.le_of_eq h
 | t::r,x,y,⟨_,_,h⟩=>by have:=h.le; omega
theorem Chn.at2:∀ {l:List (Nat × Nat × Nat)} {x y i:Nat},Chn x l y->i+1 < l.length->∃ sa na p nb q,l[i]?=some (sa,na,p)/\l[i+1]?=some (sa+na,nb,q)/\1<=na/\1<=nb/\sa+na+nb<=y/\Chn x ((l.set i (sa,na+nb,p)).eraseIdx (i+1)) y
 | (a,n,p)::(b,m,q)::r,x,y,0,⟨e1,h1,e2,h2,h⟩,_=>by
  dsimp only at e1 e2 h1 h2 h
  have:=h.le
  refine ⟨a,n,p,m,q,rfl,by subst e1; subst e2; rfl,h1,h2,by omega,?_⟩
  refine ⟨e1,by dsimp only; omega,?_⟩
  dsimp only
  rw [<- Nat.add_assoc]
  exact h
 | t::r,x,y,i+1,⟨e1,h1,h⟩,hl=>by
  obtain ⟨sa,na,p,nb,q,a1,a2,a3,a4,a5,a6⟩:=h.at2 (i:=i) (by simpa using hl)
  exact ⟨sa,na,p,nb,q,by simpa using a1,by simpa using a2,a3,a4,a5,e1,h1,a6⟩
theorem Chn.mod:∀ {l:List (Nat × Nat × Nat)} {x y i pw:Nat},Chn x l y->Chn x (l.modify i λ t=>(t.1,t.2.1,pw)) y
 | [],_,_,0,_,h=>h
 | [],_,_,_+1,_,h=>h
 | t::r,x,y,0,pw,⟨e1,h1,h⟩=>⟨e1,h1,h⟩
 | t::r,x,y,i+1,pw,⟨e1,h1,h⟩=>⟨e1,h1,h.mod⟩
theorem Chn.push:∀ {l:List (Nat × Nat × Nat)} {x y n z:Nat},Chn x l y->1<=n->Chn x (l++[(y,n,z)]) (y+n)
 | [],x,y,n,z,h,hn=>⟨h.symm,hn,by dsimp only; rw [h]; rfl⟩
 | t::r,x,y,n,z,⟨e1,h1,h⟩,hn=>⟨e1,h1,h.push hn⟩
theorem a7K:∀ (l:List Keyed) (arr:Array Keyed) (sa k:Nat),sa+k+l.length<=arr.size->((l.zipIdx k).foldl (λ a x=>a.setIfInBounds (sa+x.2) x.1) arr).toList=arr.toList.take (sa+k)++l++arr.toList.drop (sa+k+l.length)
 | [],arr,sa,k,h=>by simp
 | x::l,arr,sa,k,h=>by
  rw [List.zipIdx_cons,List.foldl_cons,a7K l _ sa (k+1) (by simp at h ⊢; omega)]
  simp only [List.length_cons] at h
  simp only [Array.toList_setIfInBounds,List.length_cons]
  rw [List.drop_set_of_lt (by omega),<- Nat.add_assoc,List.take_succ_eq_append_getElem (by simp; omega)]
  simp [List.take_set_of_le]
  omega
theorem b1N {l:List Keyed} {arr:Array Keyed} {sa sb sc:Nat} (h1:sa<=sb) (h2:sb<=sc) (h3:sc<=arr.size) (hp:l.Perm ((arr.extract sa sb).toList++(arr.extract sb sc).toList)) :
  ((l.zipIdx).foldl (λ a x=>a.setIfInBounds (sa+x.2) x.1) arr).Perm arr:=by
 have hl:=hp.length_eq
 simp at hl
 rw [Array.perm_iff_toList_perm,a7K l arr sa 0 (by omega)]
 have e:arr.toList=arr.toList.take sa++((arr.extract sa sb).toList++(arr.extract sb sc).toList)++arr.toList.drop sc:=by
  rw [<- List.append_assoc,<- a2W arr sa sb h1,<- a2W arr sb sc h2,List.take_append_drop]
 rw [show sa+0+l.length=sc by omega,Nat.add_zero]
 conv=>rhs; rw [e]
 exact ((List.Perm.refl _).append hp).append (List.Perm.refl _)
theorem b3Y {st st':SortSt} {Q:PUnit->SortSt->Prop} (h:Q ⟨⟩ st'):wpS (model prog wo) A E s (set st':StateT SortSt Sem PUnit) Q st:=wpS_modify (f:=λ _=>st') h
theorem b0G {P} {i y:Nat} {st:SortSt} {Q:Bool->SortSt->Prop} (hC:Cmp prog wo A κ s a₀) (hB:PB κ a₀ P st) (hc:Chn 0 P.toList y) (hy:y<=a₀.size) (hi:i+1 < P.size)
  (h:∀ P' st',Chn 0 P'.toList y->PB κ a₀ P' st'->Q true st'):wpS (model prog wo) A E s (mergeAt' i) Q st:=by
 refine wpS_bind (wpS_get ?_)
 obtain ⟨sa,na,p,nb,q,e1,e2,h1,h2,h3,hc'⟩:=hc.at2 (i:=i) (by simpa using hi)
 have f1:(pendingOf st)[i]?=some (sa,na,p):=by rw [hB.pend]; simpa using e1
 have f2:(pendingOf st)[i+1]?=some (sa+na,nb,q):=by rw [hB.pend]; simpa using e2
 rw [f1,f2]
 dsimp only
 have hB2:PB κ a₀ ((P.setIfInBounds i (sa,na+nb,p)).eraseIdxIfInBounds (i+1)) (setPending st (((pendingOf st).setIfInBounds i (sa,na+nb,p)).eraseIdxIfInBounds (i+1))) :=
  ⟨hB.perm,hB.fail,hB.kind,by rw [<- hB.pend]⟩
 have hc2:Chn 0 ((P.setIfInBounds i (sa,na+nb,p)).eraseIdxIfInBounds (i+1)).toList y:=by
  have:((P.setIfInBounds i (sa,na+nb,p)).eraseIdxIfInBounds (i+1)).toList=(P.toList.set i (sa,na+nb,p)).eraseIdx (i+1):=by
   simp
  rw [this]
  exact hc'
 have z:(arrOf st).size=a₀.size:=hB.size
 have z':((sortPriv% PySem.Builtin.SortState.a) st).size=a₀.size:=z
 have me:∀ i (h:i < (arrOf st).size),(arrOf st)[i]∈a₀:=λ i h=>hB.mem (Array.getElem_mem _)
 refine wpS_bind (b3Y ?_)
 refine wpS_bind (a0H (by omega) (wpS_bind (a2K hC hB2 (me _ _) me (by omega) (by omega) λ k hk=>?_)))
 dsimp only
 apply a0I <;> intro hc
 ·exact wpS_pure (h _ _ hc2 hB2)
 have k1:1<=na - k:=by grind
 refine wpS_bind (a0H (by omega) (wpS_bind (a2K hC hB2 (me _ _) me (by omega) (by omega) λ m hm=>?_)))
 dsimp only
 apply a0I <;> intro hd
 ·exact wpS_pure (h _ _ hc2 hB2)
 have k2:1<=m:=by grind
 have xs:((arrOf st).extract (sa+k) (sa+na)).size=na - k:=by simp; omega
 have ys:((arrOf st).extract (sa+na) (sa+na+m)).size=m:=by simp; omega
 have mx:∀ j (h:j < ((arrOf st).extract (sa+k) (sa+na)).size),((arrOf st).extract (sa+k) (sa+na))[j]∈a₀:=λ j h=>by
  rw [Array.getElem_extract]; exact me _ _
 have my:∀ j (h:j < ((arrOf st).extract (sa+na) (sa+na+m)).size),((arrOf st).extract (sa+na) (sa+na+m))[j]∈a₀:=λ j h=>by
  rw [Array.getElem_extract]; exact me _ _
 have go:∀ (o:Array Keyed) st2,o.Perm ((arrOf st).extract (sa+k) (sa+na)++(arrOf st).extract (sa+na) (sa+na+m))->PG κ a₀ ((P.setIfInBounds i (sa,na+nb,p)).eraseIdxIfInBounds (i+1)) (arrOf st) st2 ->
   wpS (model prog wo) A E s (do
    modify λ s=>setArr s (o.toList.zipIdx.foldl (λ a x=>a.setIfInBounds (sa+k+x.2) x.1) (arrOf s))
    return (failedOf (<- get)).isNone) Q st2:=by
  intro o st2 hp hP
  refine wpS_bind (wpS_modify (wpS_bind (wpS_get (wpS_pure ?_))))
  have hpp:(o.toList.zipIdx.foldl (λ a x=>a.setIfInBounds (sa+k+x.2) x.1) (arrOf st2)).Perm (arrOf st2):=by
   refine b1N (sb:=sa+na) (sc:=sa+na+m) (by omega) (by omega) (by rw [hP.1]; omega) ?_
   rw [hP.1]
   have:=Array.perm_iff_toList_perm.mp hp
   rwa [Array.toList_append] at this
  have hB3:=hP.2.setArr hpp
  rw [hB3.fail]
  exact h _ _ hc2 hB3
 apply a0I <;> intro he
 ·exact wpS_bind (b3W hC hB2 mx my (by rw [xs]; exact k1) (by rw [ys]; exact k2) go)
 ·exact wpS_bind (b3X hC hB2 mx my (by rw [xs]; exact k1) (by rw [ys]; exact k2) go)
theorem b3Z {st:SortSt} {Q:Unit->SortSt->Prop} (hC:Cmp prog wo A κ s a₀) (hB:PB κ a₀ #[] st) (h:∀ st',(arrOf st').Perm a₀->failedOf st'=none->Q () st'):wpS (model prog wo) A E s sortRuns' Q st:=by
 rw [sortRuns'_eq]
 refine wpS_bind (wpS_get ?_)
 dsimp only
 rw [hB.size]
 refine wpS_bind (wpS_mono (wpS_forRange (I:=λ x c st'=>∃ P lo,PB κ a₀ P st'/\c=(none,lo)/\Chn 0 P.toList lo/\lo<=a₀.size) (Q:=λ c st'=>∃ P lo,PB κ a₀ P st'/\c=(none,lo)/\Chn 0 P.toList lo/\lo<=a₀.size) ?step (λ _ _ e=>e) ⟨_,_,hB,rfl,rfl,Nat.zero_le _⟩) ?post)
 case step =>
  rintro x c st1 _ _ ⟨P,lo,hB,rfl,hc,hl⟩
  dsimp only
  apply a0I <;> intro hd
  ·exact wpS_pure ⟨P,lo,hB,rfl,hc,hl⟩
  refine wpS_bind (b3U hC hB (by omega) (by omega) λ m st2 m1 m2 hB=>?_)
  dsimp only
  apply a0I <;> intro he
  case' h1 =>
   refine wpS_bind (wpS_lift (wpAny_rule (And.intro rfl ?_)))
   refine wpS_bind (b3V hC hB (by omega) λ st3 hB=>?_)
   simp only [if_false,Bool.not_true,Bool.false_eq_true]
  all_goals
   refine wpS_bind (wpS_get ?_)
   rw [hB.pend]
   cases hb:P.back? with
   | none=>exact wpS_bind (wpS_modify (wpS_pure ⟨P.push _,_,⟨hB.perm,hB.fail,hB.kind,by rw [<- hB.pend]⟩,rfl,by rw [Array.toList_push]; exact hc.push (by omega),by omega⟩))
   | some t =>
    dsimp only
    refine wpS_bind (wpS_mono (wpS_forRange (I:=λ x c st'=>∃ P,PB κ a₀ P st'/\c=(none,())/\Chn 0 P.toList lo) (Q:=λ c st'=>∃ P,PB κ a₀ P st'/\c=(none,())/\Chn 0 P.toList lo) ?_ (λ _ _ e=>e) ⟨_,hB,rfl,hc⟩) ?_)
    ·rintro x c st2 _ _ ⟨P,hB,rfl,hc⟩
     refine wpS_bind (wpS_get ?_)
     rw [hB.pend]
     by_cases hg:P.size > 1
     ·rw [if_pos hg,Array.getElem?_eq_getElem (by omega)]
      dsimp only
      apply a0I <;> intro hd
      ·exact wpS_pure ⟨P,hB,rfl,hc⟩
      ·exact wpS_bind (b0G hC hB hc hl (by omega) λ P' st3 hc hB=>wpS_pure ⟨P',hB,rfl,hc⟩)
     ·rw [if_neg hg]
      exact wpS_pure ⟨P,hB,rfl,hc⟩
    ·rintro c st2 ⟨P,hB,rfl,hc⟩
     exact wpS_bind (wpS_modify (wpS_bind (wpS_modify (wpS_pure ⟨(P.modify (P.size - 1) λ t=>(t.1,t.2.1,_)).push _,_,⟨hB.perm,hB.fail,hB.kind,by rw [<- hB.pend]⟩,rfl,by rw [Array.toList_push,Array.toList_modify]; exact hc.mod.push (by omega),by omega⟩))))
 case post =>
  rintro c st1 ⟨P,lo,hB,rfl,hc,hl⟩
  dsimp only
  refine wpS_bind (wpS_mono (wpS_forRange (I:=λ x c st'=>∃ P,PB κ a₀ P st'/\c=(none,())/\Chn 0 P.toList lo) (Q:=λ c st'=>∃ P,PB κ a₀ P st'/\c=(none,())) ?step ?fin ⟨_,hB,rfl,hc⟩) ?post)
  case fin=>rintro c st2 ⟨P,hB,rfl,hc⟩; exact ⟨P,hB,rfl⟩
  case post=>rintro c st2 ⟨P,hB,rfl⟩; exact wpS_pure (h _ hB.perm hB.fail)
  case step =>
   rintro x c st2 _ _ ⟨P,hB,rfl,hc⟩
   refine wpS_bind (wpS_get ?_)
   rw [hB.pend]
   apply a0I <;> intro hd
   ·exact wpS_pure ⟨P,hB,rfl⟩
   refine wpS_bind (b0G hC hB hc hl ?_ λ P' st3 hc hB=>?_)
   ·have:∀ (c:Prop) [Decidable c],(if c then P.size - 2 - 1 else P.size - 2)+1 < P.size:=λ c _=>by split <;> omega
    exact this _
   ·exact wpS_pure ⟨P',hB,rfl,hc⟩
end
end SrtL
set_option maxHeartbeats 4100000
namespace SrtL
open PySem PyProof.Rows PySem.Calls PySem.W Srt
section
variable {prog:Program} {wo:World} {A:Around} {E:Value->Shared->Prop} {s:Shared}
theorem b5Z {κ:SortKind} {zs:List Value} {key:Nat->Int} (h:Asks prog wo A κ zs key s):Cmp prog wo A κ s (pairsOf zs):=by
 have ix:∀ x∈pairsOf zs,∃ i,i < zs.length/\x.1=zs.getD i Value.none:=λ x hx=>by
  obtain ⟨i,hi,rfl⟩:=Array.getElem_of_mem hx
  have hi':i < zs.length:=by rwa [pairsOf_size] at hi
  exact ⟨i,hi',by simp [pairsOf,hi']⟩
 intro x hx y hy C hC
 obtain ⟨i,hi,ex⟩:=ix x hx
 obtain ⟨j,hj,ey⟩:=ix y hy
 rw [ex,ey]
 exact h.2 i j C hi hj (hC _)
theorem a3Q {a:Addr} {zs:List Value} {n:Nat} {κ:SortKind} {key:Nat->Int} {P:PySem.Fin->Shared->Prop} (oa:s.heap.get? a=some (seqObj "list" zs.toArray n)) (hz:zs.length < 1000)
  (hk:2<=zs.length->∀ h',(∀ b o,b≠a->s.heap.get? b=some o->h'.get? b=some o)->Asks prog wo A κ zs key { s with heap:=h' })
  (h:∀ ys:List Value,ys.Perm zs->P (.done (.ret .none)) { s with heap:=sortedHeap s.heap a zs ys.toArray }) :
  wpAny (model prog wo) A (Builtin.«list.sort» ⟨[.ref a],[]⟩) P E s:=by
 rw [list_sort_plain]
 have la:a < s.heap.objs.size:=Heap.lt_size oa
 refine wpAny_bind (listItems_at oa rfl ?_)
 refine wpAny_bind (listUpdate_at oa rfl ?_ (by rw [List.size_toArray,sizeLine_eq]; omega) (Nat.zero_le _))
 obtain ⟨ep,oa1⟩:∃ ep,(s.heap.update a (Obj.mapSeq λ _=>#[])).get? a=some (seqObj "list" #[] ep):=⟨_,get?_update_seq oa (λ _=>#[])⟩
 refine wpAny_bind (seqEpoch_at oa1 rfl ?_)
 refine wpAny_bind (wpAny_newTuple ?_ (by show zs.length<=_; rw [sizeLine_eq]; omega))
 refine wpAny_bind (wpAny_newList (wpAny_holding ?_) (Nat.zero_le _))
 have oa6:(((s.heap.update a (Obj.mapSeq λ _=>#[])).push (seqObj "tuple" zs.toArray 0)).push (seqObj "list" #[] 0)).get? a=some (seqObj "list" #[] ep):=by
  rw [Heap.get?_push_ne _ _ _ (by rw [size_push',Heap.size_update]; grind),Heap.get?_push_ne _ _ _ (by rw [Heap.size_update]; grind)]
  exact oa1
 show wpAny (model prog wo) A _ P E { s with heap:=((s.heap.update a (Obj.mapSeq λ _=>#[])).push (seqObj "tuple" zs.toArray 0)).push (seqObj "list" #[] 0) }
 dsimp only
 have fin:∀ (st':SortSt),(arrOf st').Perm (pairsOf zs)->failedOf st'=none->((arrOf st').map (·.2)).toList.Perm zs:=λ st' hp _=>by
  have q:=(Array.perm_iff_toList_perm.mp hp).map (·.2)
  rw [pairsOf_toList] at q
  rw [Array.toList_map]
  refine q.trans (List.Perm.of_eq ?_)
  rw [List.map_snd_zip (Nat.le_refl _)]
 by_cases g2:zs.toArray.size < 2
 ·rw [if_pos g2,if_pos g2]
  refine wpAny_bind (wpAny_pure ?_); rw [StateT.run_pure]; refine wpAny_bind (wpAny_pure ?_); dsimp only
  refine wpAny_bind (seqEpoch_at oa6 rfl ?_)
  refine wpAny_bind (listUpdate_at oa6 rfl ?_ (Nat.zero_le _) (by grind))
  simp only [if_false,Bool.false_eq_true,bne_self_eq_false]
  have q:=h zs (List.Perm.refl _)
  refine wpAny_pure ?_
  have e:(arrOf (SortSt.mk' general' (zs.toArray.zip zs.toArray) #[] 7 none)).map (·.2)=zs.toArray:=by
   grind
  rw [e]
  exact q
 ·rw [if_neg g2,if_neg g2]
  have h2':2<=zs.length:=by simp at g2; omega
  have ak:=hk h2' (((s.heap.update a (Obj.mapSeq λ _=>#[])).push (seqObj "tuple" zs.toArray 0)).push (seqObj "list" #[] 0)) λ b o hb e=>Heap.get?_push_of_some _ (Heap.get?_push_of_some _ (by rw [Heap.get?_update_ne _ _ _ _ hb]; exact e))
  refine wpAny_bind (ak.1 _ _ ?_)
  have rn:=b3Z (E:=E) (st:=SortSt.mk' κ (zs.toArray.zip zs.toArray) #[] 7 none) (Q:=λ _ st'=>(arrOf st').Perm (pairsOf zs)/\failedOf st'=none) (b5Z ak) ⟨Array.Perm.refl _,rfl,rfl,rfl⟩ (λ st' h1 h2=>⟨h1,h2⟩)
  refine wpAny_bind (wpAny_mono rn ?_ λ _ _ e=>e)
  rintro ⟨⟨⟩,st'⟩ s' ⟨rfl,hp,hf⟩
  dsimp only at hp hf ⊢
  have pp:=fin st' hp hf
  have hso:((arrOf st').map (·.2)).size=zs.length:=by simpa using pp.length_eq
  refine wpAny_bind (seqEpoch_at oa6 rfl ?_)
  refine wpAny_bind (listUpdate_at oa6 rfl ?_ (Nat.zero_le _) (Nat.le_trans (Nat.le_of_eq hso) (by rw [sizeLine_eq]; omega)))
  rw [hf]
  simp only [if_false,Bool.false_eq_true,bne_self_eq_false]
  exact wpAny_pure (h _ pp)
theorem sorted_large {l:Addr} {zs:List Value} {κ:SortKind} {key:Nat->Int} {R:Value->Shared->Prop} (il:s.heap.IsList l zs.toArray) (hz:zs.length < 1000)
  (hk:2<=zs.length->∀ (A':Around) (h':Heap),(∀ b o,s.heap.get? b=some o->h'.get? b=some o)->Asks prog wo A' κ zs key { s with heap:=h' })
  (h:∀ ys:List Value,ys.Perm zs->R (.ref (s.heap.objs.size+1)) { s with heap:=sortedAll s.heap zs ys.toArray }) :
  wpAny (model prog wo) A (call (.builtin "sorted") [.ref l]) R E s:=by
 apply Calls.call_function_entry kind_sorted plain_sorted entry_sorted (args_sorted1 _)
 unfold Builtin.«sorted»
 refine wpAny_bind (m:=checkCount "sorted" 1 1 _) (wpAny_pure ?_); refine wpAny_bind (collect_list il ?_ (by rw [sizeLine_eq]; omega))
 refine wpAny_bind (wpAny_newList ?_ (by rw [sizeLine_eq]; exact Nat.le_of_lt (by omega)))
 have lz:((s.heap.push (seqObj "list" #[] 0)).update s.heap.objs.size (Obj.mapSeq (· ++ zs.toArray))).objs.size=s.heap.objs.size+1:=by
  rw [Heap.size_update]; exact size_push' _ _
 have oL:(((s.heap.push (seqObj "list" #[] 0)).update s.heap.objs.size (Obj.mapSeq (· ++ zs.toArray))).push (seqObj "list" zs.toArray 0)).get? (s.heap.objs.size+1)=some (seqObj "list" zs.toArray 0):=by
  rw [<- lz]; exact Heap.get?_push_size _ rfl
 show wpAny _ _ _ _ _ { s with heap:=((s.heap.push (seqObj "list" #[] 0)).update s.heap.objs.size (Obj.mapSeq (· ++ zs.toArray))).push (seqObj "list" zs.toArray 0) }
 rw [lz]
 refine wpAny_bind (wpAny_holding (wpAny_call_entry slot_list_sort ⟨_,oL,rfl⟩ entry_list_sort (a3Q (κ:=κ) (key:=key) oL hz (λ g2 h' kp=>hk g2 _ h' λ b o e=>?_) λ p a1=>⟨_,rfl,?_⟩) (args_list_sort _)))
 ·have lb:b < s.heap.objs.size:=Heap.lt_size e
  refine kp b o (Nat.ne_of_lt (Nat.lt_succ_of_lt lb)) ?_
  rw [Heap.get?_push_ne _ _ _ (by grind),Heap.get?_update_ne _ _ _ _ (Nat.ne_of_lt lb),Heap.get?_push_ne _ _ _ (Nat.ne_of_lt lb)]
  exact e
 ·exact wpAny_pure ⟨_,rfl,h p a1⟩
end
end SrtL
namespace L2
open PySem PySem.Spec PyProof.Rows Bg Srt
def b4A (K:Φρ):List V->Hp->VK->Prop:=λ xs H Q=>∃ l vs,∃ ls:List (List Int),xs=[.ref l]/\SqL K H l vs/\Paired (TupV K H) vs ls/\(∀ ns∈ls,ns≠[])/\vs.length < 1000 /\
 ∀ (ws:List V) p H',ws.Perm vs->New H p (.lst ws) H'->Q (.ref p) H'
theorem b0H {us us':List Value} (h:us'.Perm us):∀ {vs:List V},Vals vs us->∃ vs',vs'.Perm vs/\Vals vs' us':=by
 induction h with
 | nil=>intro vs r; exact ⟨vs,List.Perm.refl _,r⟩
 | cons x _ ih =>
  intro vs r
  cases r with
  | cons a t=>obtain ⟨w,p,q⟩:=ih t; exact ⟨_::w,p.cons _,.cons a q⟩
 | swap x y l =>
  intro vs r
  cases r with
  | cons a t=>cases t with
   | cons b t=>exact ⟨_,List.Perm.swap _ _ _,.cons b (.cons a t)⟩
 | trans _ _ ih1 ih2 =>
  intro vs r
  obtain ⟨w,p,q⟩:=ih2 r
  obtain ⟨w',p',q'⟩:=ih1 q
  exact ⟨w',p'.trans p,q'⟩
theorem a4U {X:Cx} {K:Φρ} (e:X.K=K):CallR X (.builtin "sorted") (b4A K):=by
 subst e
 intro pins s σ H xs us Q I r h
 obtain ⟨l,vs,ls,rfl,hL,hP,ne,h64,q⟩:=h
 obtain ⟨u,rfl,rx⟩:=a8M r
 cases rx
 obtain ⟨its,r',pl,hz⟩:=I.list hL
 have hlen:=r'.length
 have ht:=a6J I r' hP ne
 refine SrtL.sorted_large (κ:=tuples' true) (key:=rank ls) pl.isList (by omega) (λ h2 A' h' kp=>a5V (ht.keep kp) h2) λ ys pm=>?_
 obtain ⟨c,hc⟩:=sortedAll_at s.heap its ys.toArray
 obtain ⟨ws,pw,rw'⟩:=b0H pm r'
 refine ⟨.ref (s.heap.objs.size+1),_,I.laid (t':=s.toks) (o:=.lst ws) (λ b o eo=>sortedAll_old eo) (Nat.le_succ _) ?_,rfl,?_⟩
 ·exact ⟨by have:=pw.length_eq; have:=pm.length_eq; grind,_,c,rw',hc⟩
 ·exact q ws _ _ pw (New.mk0 (I.hok.fresh (Nat.le_succ _)))
end L2
namespace K
open PySem L2 Lw Bg
def top (i:Nat):Stmt:=PySem.Challenge.pw_bagwood_k04_a_graph_of_pairs.main.body.getD i (.Pass ⟨0,0,0,0⟩)
structure Cl (K:Φρ) (mg:Str->Option Value) where
 BagError:Addr
 m_BagError:mg "BagError" = some (.ref BagError)
 NoGraph:Addr
 m_NoGraph:mg "NoGraph" = some (.ref NoGraph)
 NoPlace:Addr
 m_NoPlace:mg "NoPlace" = some (.ref NoPlace)
 NoTie:Addr
 m_NoTie:mg "NoTie" = some (.ref NoTie)
 k_NoGraph:Xk K NoGraph
 v_NoGraph:PySem.W.kitOne K (.ref NoGraph) (.type "ValueError")=some true
 q_NoGraph_BagError:PySem.W.kitOne K (.ref NoGraph) (.ref BagError)=some true
 x_NoGraph_BagError:PySem.W.exmOne K (.ref NoGraph) (.ref BagError)=some true
 q_NoGraph_NoGraph:PySem.W.kitOne K (.ref NoGraph) (.ref NoGraph)=some true
 x_NoGraph_NoGraph:PySem.W.exmOne K (.ref NoGraph) (.ref NoGraph)=some true
 q_NoGraph_NoPlace:PySem.W.kitOne K (.ref NoGraph) (.ref NoPlace)=some false
 x_NoGraph_NoPlace:PySem.W.exmOne K (.ref NoGraph) (.ref NoPlace)=some false
 q_NoGraph_NoTie:PySem.W.kitOne K (.ref NoGraph) (.ref NoTie)=some false
 x_NoGraph_NoTie:PySem.W.exmOne K (.ref NoGraph) (.ref NoTie)=some false
 k_NoPlace:Xk K NoPlace
 v_NoPlace:PySem.W.kitOne K (.ref NoPlace) (.type "ValueError")=some true
 q_NoPlace_BagError:PySem.W.kitOne K (.ref NoPlace) (.ref BagError)=some true
 x_NoPlace_BagError:PySem.W.exmOne K (.ref NoPlace) (.ref BagError)=some true
 q_NoPlace_NoGraph:PySem.W.kitOne K (.ref NoPlace) (.ref NoGraph)=some false
 x_NoPlace_NoGraph:PySem.W.exmOne K (.ref NoPlace) (.ref NoGraph)=some false
 q_NoPlace_NoPlace:PySem.W.kitOne K (.ref NoPlace) (.ref NoPlace)=some true
 x_NoPlace_NoPlace:PySem.W.exmOne K (.ref NoPlace) (.ref NoPlace)=some true
 q_NoPlace_NoTie:PySem.W.kitOne K (.ref NoPlace) (.ref NoTie)=some false
 x_NoPlace_NoTie:PySem.W.exmOne K (.ref NoPlace) (.ref NoTie)=some false
 k_NoTie:Xk K NoTie
 v_NoTie:PySem.W.kitOne K (.ref NoTie) (.type "ValueError")=some true
 q_NoTie_BagError:PySem.W.kitOne K (.ref NoTie) (.ref BagError)=some true
 x_NoTie_BagError:PySem.W.exmOne K (.ref NoTie) (.ref BagError)=some true
 q_NoTie_NoGraph:PySem.W.kitOne K (.ref NoTie) (.ref NoGraph)=some false
 x_NoTie_NoGraph:PySem.W.exmOne K (.ref NoTie) (.ref NoGraph)=some false
 q_NoTie_NoPlace:PySem.W.kitOne K (.ref NoTie) (.ref NoPlace)=some false
 x_NoTie_NoPlace:PySem.W.exmOne K (.ref NoTie) (.ref NoPlace)=some false
 q_NoTie_NoTie:PySem.W.kitOne K (.ref NoTie) (.ref NoTie)=some true
 x_NoTie_NoTie:PySem.W.exmOne K (.ref NoTie) (.ref NoTie)=some true
theorem b7O {K:Φρ} {h:Heap} {mg:Str->Option Value} {BagError NoGraph NoPlace NoTie:Addr} (X:K.In h) (G:h.Ns mainGlobals mg)
  (a_BagError:PySem.W.nsIn K mainGlobals "BagError" = some (some (.ref BagError)))
  (a_NoGraph:PySem.W.nsIn K mainGlobals "NoGraph" = some (some (.ref NoGraph)))
  (a_NoPlace:PySem.W.nsIn K mainGlobals "NoPlace" = some (some (.ref NoPlace)))
  (a_NoTie:PySem.W.nsIn K mainGlobals "NoTie" = some (some (.ref NoTie)))
  (g_NoGraph:Xk K NoGraph)
  (t_NoGraph:[PySem.W.kitOne K (.ref NoGraph) (.type "ValueError"),PySem.W.kitOne K (.ref NoGraph) (.ref BagError),PySem.W.exmOne K (.ref NoGraph) (.ref BagError),PySem.W.kitOne K (.ref NoGraph) (.ref NoGraph),PySem.W.exmOne K (.ref NoGraph) (.ref NoGraph),PySem.W.kitOne K (.ref NoGraph) (.ref NoPlace),PySem.W.exmOne K (.ref NoGraph) (.ref NoPlace),PySem.W.kitOne K (.ref NoGraph) (.ref NoTie),PySem.W.exmOne K (.ref NoGraph) (.ref NoTie)]=[some true,some true,some true,some true,some true,some false,some false,some false,some false])
  (g_NoPlace:Xk K NoPlace)
  (t_NoPlace:[PySem.W.kitOne K (.ref NoPlace) (.type "ValueError"),PySem.W.kitOne K (.ref NoPlace) (.ref BagError),PySem.W.exmOne K (.ref NoPlace) (.ref BagError),PySem.W.kitOne K (.ref NoPlace) (.ref NoGraph),PySem.W.exmOne K (.ref NoPlace) (.ref NoGraph),PySem.W.kitOne K (.ref NoPlace) (.ref NoPlace),PySem.W.exmOne K (.ref NoPlace) (.ref NoPlace),PySem.W.kitOne K (.ref NoPlace) (.ref NoTie),PySem.W.exmOne K (.ref NoPlace) (.ref NoTie)]=[some true,some true,some true,some false,some false,some true,some true,some false,some false])
  (g_NoTie:Xk K NoTie)
  (t_NoTie:[PySem.W.kitOne K (.ref NoTie) (.type "ValueError"),PySem.W.kitOne K (.ref NoTie) (.ref BagError),PySem.W.exmOne K (.ref NoTie) (.ref BagError),PySem.W.kitOne K (.ref NoTie) (.ref NoGraph),PySem.W.exmOne K (.ref NoTie) (.ref NoGraph),PySem.W.kitOne K (.ref NoTie) (.ref NoPlace),PySem.W.exmOne K (.ref NoTie) (.ref NoPlace),PySem.W.kitOne K (.ref NoTie) (.ref NoTie),PySem.W.exmOne K (.ref NoTie) (.ref NoTie)]=[some true,some true,some true,some false,some false,some false,some false,some true,some true]):Nonempty (Cl K mg):=by
 simp only [List.cons.injEq] at t_NoGraph
 obtain ⟨w_NoGraph,b_NoGraph_BagError,c_NoGraph_BagError,b_NoGraph_NoGraph,c_NoGraph_NoGraph,b_NoGraph_NoPlace,c_NoGraph_NoPlace,b_NoGraph_NoTie,c_NoGraph_NoTie,_⟩:=t_NoGraph
 simp only [List.cons.injEq] at t_NoPlace
 obtain ⟨w_NoPlace,b_NoPlace_BagError,c_NoPlace_BagError,b_NoPlace_NoGraph,c_NoPlace_NoGraph,b_NoPlace_NoPlace,c_NoPlace_NoPlace,b_NoPlace_NoTie,c_NoPlace_NoTie,_⟩:=t_NoPlace
 simp only [List.cons.injEq] at t_NoTie
 obtain ⟨w_NoTie,b_NoTie_BagError,c_NoTie_BagError,b_NoTie_NoGraph,c_NoTie_NoGraph,b_NoTie_NoPlace,c_NoTie_NoPlace,b_NoTie_NoTie,c_NoTie_NoTie,_⟩:=t_NoTie
 exact ⟨{ BagError:=BagError,m_BagError:=PySem.W.mg_of X G a_BagError,NoGraph:=NoGraph,m_NoGraph:=PySem.W.mg_of X G a_NoGraph,NoPlace:=NoPlace,m_NoPlace:=PySem.W.mg_of X G a_NoPlace,NoTie:=NoTie,m_NoTie:=PySem.W.mg_of X G a_NoTie,k_NoGraph:=g_NoGraph,v_NoGraph:=w_NoGraph,q_NoGraph_BagError:=b_NoGraph_BagError,x_NoGraph_BagError:=c_NoGraph_BagError,q_NoGraph_NoGraph:=b_NoGraph_NoGraph,x_NoGraph_NoGraph:=c_NoGraph_NoGraph,q_NoGraph_NoPlace:=b_NoGraph_NoPlace,x_NoGraph_NoPlace:=c_NoGraph_NoPlace,q_NoGraph_NoTie:=b_NoGraph_NoTie,x_NoGraph_NoTie:=c_NoGraph_NoTie,k_NoPlace:=g_NoPlace,v_NoPlace:=w_NoPlace,q_NoPlace_BagError:=b_NoPlace_BagError,x_NoPlace_BagError:=c_NoPlace_BagError,q_NoPlace_NoGraph:=b_NoPlace_NoGraph,x_NoPlace_NoGraph:=c_NoPlace_NoGraph,q_NoPlace_NoPlace:=b_NoPlace_NoPlace,x_NoPlace_NoPlace:=c_NoPlace_NoPlace,q_NoPlace_NoTie:=b_NoPlace_NoTie,x_NoPlace_NoTie:=c_NoPlace_NoTie,k_NoTie:=g_NoTie,v_NoTie:=w_NoTie,q_NoTie_BagError:=b_NoTie_BagError,x_NoTie_BagError:=c_NoTie_BagError,q_NoTie_NoGraph:=b_NoTie_NoGraph,x_NoTie_NoGraph:=c_NoTie_NoGraph,q_NoTie_NoPlace:=b_NoTie_NoPlace,x_NoTie_NoPlace:=c_NoTie_NoPlace,q_NoTie_NoTie:=b_NoTie_NoTie,x_NoTie_NoTie:=c_NoTie_NoTie }⟩
abbrev a4F:Stmt:=top 6
theorem a6K:FnScope ["thing"] ["thing"] (a0D a4F):=⟨rfl,rfl,rfl,by decide +kernel,rfl,by decide +kernel,by decide +kernel⟩
abbrev a4G:Stmt:=top 7
theorem a6L:FnScope ["n", "thing"] ["n", "thing"] (a0D a4G):=⟨rfl,rfl,rfl,by decide +kernel,rfl,by decide +kernel,by decide +kernel⟩
def b4B (K:Φρ):Sp:=λ vs H Q _=>∃ (x:V) (t:Value) (bi bb:Bool),vs=[x]/\TyOf K H x t/\PySem.W.kitOne K t (.type "int")=some bi/\PySem.W.kitOne K t (.type "bool")=some bb/\Q (.bl (bi && !bb)) H
def b4C:Sp:=λ vs H Q _=>∃ (n:Int) (o:Option Int),vs=[.int n,upV o]/\Q (.bl (a1B n o)) H
section
variable {P:Program} {w:World} {K:Φρ} {mg:Str->Option Value} {base:Heap}
abbrev DZ7 (K:PySem.W.Frag) (mg:Str->Option Value):=Dn K mg "is_whole" a4F ["thing"]
set_option maxHeartbeats 4000000 in
theorem a6M (B:Bl mg) (dZ7:DZ7 K mg):FnOk P w K mg base CX0 1 dZ7.f dZ7.fd ["thing"] (b4B K):=by
 refine dZ7.F.ok a6K (λ vs H Q E h=>?_) (λ cdv A outer s H vs Q E hr h=>?_)
 ·obtain ⟨x,t,bi,bb,rfl,_⟩:=h
  rfl
 obtain ⟨x,t,bi,bb,rfl,ty,h1,h2,q⟩:=h
 refine ⟨_,(a0F (a0W (a3T (a0J (a0L (K:=K) rfl) rfl B.isinstance (by decide +kernel) (a0A (pv 0) (a0A (a1L (v:=.ty "int") (u:=.type "int") rfl B.int (by decide +kernel) rfl) a0B))) (a5A (b1R (a0J (a0L (K:=K) rfl) rfl B.isinstance (by decide +kernel) (a0A (pv 0) (a0A (a1L (v:=.ty "bool") (u:=.type "bool") rfl B.bool (by decide +kernel) rfl) a0B)))))))),?_⟩
 refine ⟨_,rfl,_,_,_,_,_,rfl,rfl,ty,h1,_,rfl,?_⟩
 cases bi with
 | true =>
  refine iteT ?_
  exact ⟨_,rfl,_,_,_,_,_,rfl,rfl,ty,h2,_,rfl,q⟩
 | false=>exact iteF q
abbrev DZ6 (K:PySem.W.Frag) (mg:Str->Option Value):=Dn K mg "is_below" a4G ["n", "thing"]
set_option maxHeartbeats 4000000 in
theorem a3R (B:Bl mg) (dZ7:DZ7 K mg) (dZ6:DZ6 K mg):FnOk P w K mg base CX0 2 dZ6.f dZ6.fd ["n", "thing"] b4C:=by
 have gZ7:FnOk P w K mg base CX0 1 _ _ _ _:=a6M B dZ7
 refine dZ6.F.ok a6L (λ vs H Q E h=>?_) (λ cdv A outer s H vs Q E hr h=>?_)
 ·obtain ⟨n,i,rfl,_⟩:=h
  rfl
 obtain ⟨n,o,rfl,q⟩:=h
 refine ⟨_,(a0F (a0W (a3T (a0G gZ7 hr rfl dZ7.m dZ7.F.kp dZ7.b .nil a0X (a0A (pv 1) a0B)) (a5A (b0Q b6N b0P a0C (pv 1) (pv 0)))))),?_⟩
 cases o with
 | none=>exact ⟨_,rfl,_,_,_,_,rfl,TyOf.non,a6D,a5L,_,rfl,iteF q⟩
 | some i =>
  refine ⟨_,rfl,_,_,_,_,rfl,TyOf.int i,a1W,a1Q,_,rfl,?_⟩
  refine iteT ?_
  refine ⟨_,rfl,_,_,rfl,rfl,_,rfl,?_⟩
  refine ite2 (λ c=>?_) (λ c=>?_)
  ·have c':0<=i:=of_decide_eq_true c
   refine ⟨_,rfl,_,_,rfl,rfl,?_⟩
   have e:a1B n (some i)=decide (i < n):=by unfold a1B; simp [c']
   rw [e] at q; exact q
  ·have c':¬ 0<=i:=of_decide_eq_false (Bool.eq_false_iff.mpr c)
   have e:a1B n (some i)=false:=by unfold a1B; simp [c']
   rw [e] at q; exact q
end
end K
namespace K
open PySem L2 Lw Bg
abbrev a6N:Stmt:=top 10
theorem b1O:FnScope ["n", "pairs"] ["n", "pairs"] (a0D a6N):=⟨rfl,rfl,rfl,by decide +kernel,rfl,by decide +kernel,by decide +kernel⟩
abbrev a7L:Stmt:=top 11
theorem b0I:FnScope ["n", "a", "b"] ["n", "a", "b"] (a0D a7L):=⟨rfl,rfl,rfl,by decide +kernel,rfl,by decide +kernel,by decide +kernel⟩
structure Cts (mg:Str->Option Value) where
 u_MOST_PLACES:Value
 m_MOST_PLACES:mg "MOST_PLACES" = some u_MOST_PLACES
 r_MOST_PLACES:RelV (.int 10) u_MOST_PLACES
theorem b7M {K:Φρ} {h:Heap} {mg:Str->Option Value} {t_MOST_PLACES:Tok} (X:K.In h) (G:h.Ns mainGlobals mg) (a_MOST_PLACES:PySem.W.nsIn K mainGlobals "MOST_PLACES" = some (some (Value.int 10 t_MOST_PLACES))):Nonempty (Cts mg) :=
 ⟨{ u_MOST_PLACES:=_,m_MOST_PLACES:=PySem.W.mg_of X G a_MOST_PLACES,r_MOST_PLACES:=⟨_,rfl⟩ }⟩
def pvF (n:Int) (t:Int × Int):Nat:=if (a1B n (some t.1) && a1B n (some t.2))=false then 1 else if t.1=t.2 then 2 else 0
def dueF (n:Int):List ζζ->Nat
 | []=>0
 | t::r=>if pvF n t=0 then dueF n r else pvF n t
def mmF (t:Int × Int):Int × Int:=(min t.1 t.2,max t.1 t.2)
def b6A (np nt:Addr):Sp:=λ vs H Q E=>∃ (n a b:Int),vs=[.int n,.int a,.int b]/\(pvF n (a,b)=0->∀ p H',New H p (.tup [.int (mmF (a,b)).1,.int (mmF (a,b)).2]) H'->Q (.ref p) H')/\(pvF n (a,b)=1->∀ p H',Same H H'->H' p=none->E (.ref p) (some np) H')/\(pvF n (a,b)=2->∀ p H',Same H H'->H' p=none->E (.ref p) (some nt) H')
def lexS (s t:Int × Int):Prop:=s.1 < t.1\/(s.1=t.1/\s.2 < t.2)
def b1P (K:Φρ) (np nt:Addr):Sp:=λ vs H Q E=>∃ (n:Nat) (l:Addr) (xs:List V) (ps:List ζζ),vs=[.int n,.ref l]/\n<=10/\SqL K H l xs/\Paired (TieV K H) xs ps/\ps.length<=200 /\
 (dueF n ps=0->∀ p r ys us H',Same H H'->H r=none->H' p=some (.tup [.int n,.ref r])->H' r=some (.lst ys)->Paired (TieL H') ys us->us.Pairwise lexS->(∀ t,t∈us↔t∈ps.map mmF)->ys.length<=60->Q (.ref p) H') /\
 (dueF n ps=1->∀ p H',Same H H'->H' p=none->E (.ref p) (some np) H')/\(dueF n ps=2->∀ p H',Same H H'->H' p=none->E (.ref p) (some nt) H')
section
variable {P:Program} {w:World} {K:Φρ} {mg:Str->Option Value} {base:Heap}
abbrev DZ9 (K:PySem.W.Frag) (mg:Str->Option Value):=Dn K mg "tie_of" a7L ["n", "a", "b"]
set_option maxHeartbeats 4000000 in
theorem a7Z (B:Bl mg) (C:Cl K mg) (dZ7:DZ7 K mg) (dZ6:DZ6 K mg) (dZ9:DZ9 K mg):FnOk P w K mg base (CXE P w) 3 dZ9.f dZ9.fd ["n", "a", "b"] (b6A C.NoPlace C.NoTie):=by
 have gZ6:FnOk P w K mg base CX0 2 _ _ _ _:=a3R B dZ7 dZ6
 refine dZ9.F.okE b0I (λ vs H Q E h=>?_) (λ cdv A outer s H vs Q E hr h=>?_)
 ·obtain ⟨n,a,b,rfl,_⟩:=h
  rfl
 obtain ⟨n,a,b,rfl,q0,q1,q2⟩:=h
 refine ⟨_,(a0E (a1G (PW.pt (b4M (a2C (a0Q (K:=K) rfl (a0G gZ6 hr rfl dZ6.m dZ6.F.kp dZ6.b .nil a0X (a0A (pv 0) (a0A (pv 1) a0B))) (λ _=>rfl))) (b1Q (a2C (a0Q (K:=K) rfl (a0G gZ6 hr rfl dZ6.m dZ6.F.kp dZ6.b .nil a0X (a0A (pv 0) (a0A (pv 2) a0B))) (λ _=>rfl))))))
   (a0F (a4K hr.hd rfl C.m_NoPlace C.k_NoPlace (a0A a8C a0B)))
   a0N)
   (a0E (a1G (a0T a2S (pv 1) (pv 2) (a1A _))
   (a0F (a4K hr.hd rfl C.m_NoTie C.k_NoTie (a0A a8C a0B)))
   a0N)
   (a0F (a0W (a0V (a0A (a0J (a8O rfl) rfl B.min (by decide +kernel) (a0A (pv 1) (a0A (pv 2) a0B))) (a0A (a0J (a8N rfl) rfl B.max (by decide +kernel) (a0A (pv 1) (a0A (pv 2) a0B))) a0B))))))),?_⟩
 refine ⟨_,rfl,_,rfl,n,some a,rfl,_,rfl,?_⟩
 unfold pvF at q0 q1 q2
 dsimp only at q0 q1 q2
 cases ba:a1B n (some a) with
 | false =>
  rw [ba] at q1
  exact iteT (iteT ⟨Nat.le_of_lt (a1E (by decide)),λ p hp=>q1 rfl p H (Same.refl _) hp⟩)
 | true =>
  rw [ba] at q0 q1 q2
  refine iteF ⟨_,rfl,_,rfl,n,some b,rfl,_,rfl,?_⟩
  cases bb:a1B n (some b) with
  | false =>
   rw [bb] at q1
   exact iteT ⟨Nat.le_of_lt (a1E (by decide)),λ p hp=>q1 rfl p H (Same.refl _) hp⟩
  | true =>
   rw [bb] at q0 q1 q2
   rw [if_neg (by decide)] at q0 q2
   refine iteF ⟨_,rfl,_,rfl,rfl,_,rfl,?_⟩
   by_cases e:a=b
   ·rw [if_pos e] at q2
    rw [decide_eq_true (by rw [e]:V.int a=V.int b)]
    exact iteT ⟨Nat.le_of_lt (a1E (by decide)),λ p hp=>q2 rfl p H (Same.refl _) hp⟩
   ·rw [if_neg e] at q0
    rw [decide_eq_false (λ z=>e (V.int.inj z):¬ V.int a=V.int b)]
    refine iteF ⟨_,rfl,_,rfl,_,_,rfl,_,rfl,_,rfl,_,_,rfl,(by show 2<=1000; decide),λ p H1 n1=>q0 rfl p H1 ?_⟩
    have e1:(if b < a then b else a)=(mmF (a,b)).1:=by unfold mmF; dsimp only; split <;> omega
    have e2:(if b > a then b else a)=(mmF (a,b)).2:=by unfold mmF; dsimp only; split <;> omega
    rw [e1,e2] at n1
    exact n1
theorem b0J {n:Int}:∀ {ps:List ζζ} {i:Nat} {t:Int × Int},ps[i]?=some t->(∀ u∈ps.take i,pvF n u=0)->pvF n t≠0->dueF n ps=pvF n t
 | [],i,t,h,_,_=>by cases h
 | u::r,0,t,h,_,ne=>by
  cases h
  unfold dueF
  rw [if_neg ne]
 | u::r,i+1,t,h,al,ne=>by
  unfold dueF
  rw [if_pos (al u (by rw [List.take_succ_cons]; exact List.mem_cons_self))]
  exact b0J (by simpa using h) (λ v hv=>al v (by rw [List.take_succ_cons]; exact List.mem_cons_of_mem _ hv)) ne
theorem a2X {n:Int}:∀ {ps:List ζζ},(∀ u∈ps,pvF n u=0)->dueF n ps=0
 | [],_=>rfl
 | u::r,al=>by
  unfold dueF
  rw [if_pos (al u List.mem_cons_self)]
  exact a2X λ v hv=>al v (List.mem_cons_of_mem _ hv)
theorem b7L {n:Int} {t:Int × Int} (h:pvF n t=0):0<=(mmF t).1/\(mmF t).1 < (mmF t).2/\(mmF t).2 < n:=by
 unfold pvF at h
 split at h
 ·cases h
 ·rename_i c
  split at h
  ·cases h
  ·rename_i e
   have c':(a1B n (some t.1) && a1B n (some t.2))=true:=by
    cases z:(a1B n (some t.1) && a1B n (some t.2)) with
    | true=>rfl
    | false=>exact absurd z c
   rw [Bool.and_eq_true] at c'
   unfold a1B at c'
   have c1:=of_decide_eq_true c'.1
   have c2:=of_decide_eq_true c'.2
   unfold mmF
   dsimp only
   omega
theorem b6B {a b:Int × Int} (h:b3S a b) (ne:a≠b):lexS a b:=by
 unfold b3S at h
 obtain ⟨a1,a2⟩:=a
 obtain ⟨b1,b2⟩:=b
 dsimp only at h
 rw [List.cons_lt_cons_iff,List.cons_lt_cons_iff] at h
 show a1 < b1\/(a1=b1/\a2 < b2)
 have h3:¬ (a1=b1/\a2=b2):=λ z=>ne (by rw [z.1,z.2])
 simp only [List.lt_irrefl,and_false,or_false,List.not_lt_nil] at h
 simp only [not_or,not_and] at h
 omega
theorem b4D {H H':Hp} {p:Addr} (s:Same H H') (h:H' p=none):H p=none:=by
 cases e:H p with
 | none=>rfl
 | some o=>rw [s _ _ e] at h; cases h
abbrev DZ5 (K:PySem.W.Frag) (mg:Str->Option Value):=Dn K mg "graph" a6N ["n", "pairs"]
set_option maxHeartbeats 8000000 in
theorem b0K (B:Bl mg) (Ct:Cts mg) (C:Cl K mg) (dZ7:DZ7 K mg) (dZ6:DZ6 K mg) (dZ9:DZ9 K mg) (dZ5:DZ5 K mg):FnOk P w K mg base (CXE P w) 5 dZ5.f dZ5.fd ["n", "pairs"] (b1P K C.NoPlace C.NoTie):=by
 have GX_tie_of:FnOk P w K mg base (CXE P w) 4 _ _ _ _:=(a7Z B C dZ7 dZ6 dZ9).mono (by decide)
 have gZ6:FnOk P w K mg base CX0 4 _ _ _ _:=(a3R B dZ7 dZ6).mono (by decide)
 refine dZ5.F.okE b1O (λ vs H Q E h=>?_) (λ cdv A outer s H vs Q E hr h=>?_)
 ·obtain ⟨n,l,xs,ps,rfl,_⟩:=h
  rfl
 obtain ⟨n,l,xs,ps,rfl,n10,hl,hp,l60,q0,q1,q2⟩:=h
 have hw8:(A.deeper (PyProof.Rows.envOfC "graph" (a0D a6N) s.heap.objs.size dZ5.f cdv)).units+8 < cLine:=by have:=hr.un; omega
 have lx:=Paired.length hp
 refine ⟨_,(a0E (a1G (a2C (a0Q (K:=K) rfl (a0G gZ6 hr rfl dZ6.m dZ6.F.kp dZ6.b .nil a0X (a0A (a0K a1U (b2E (v:=.int 10) rfl Ct.m_MOST_PLACES Ct.r_MOST_PLACES) a0C) (a0A (pv 0) a0B))) (λ _=>rfl)))
   (a0F (a4K hr.hd rfl C.m_NoGraph C.k_NoGraph (a0A a8C a0B)))
   a0N)
   (a0F (a0W (a0V (a0A (pv 0) (a0A (a0J (a4R (w:=w) rfl rfl) rfl B.sorted (by decide +kernel) (a0A (a3B (a7Y (K:=K) (w:=w) rfl rfl rfl hw8) rfl B.set (by decide +kernel) (a0A (b5I ["a", "b", "n"] [none,none,some 0]  (by kernel_rfl) rfl b5J a9G (a6V (K:=K) rfl (pv 1)) (λ _ _ _ _ _=>(a8X (K:=K) (n:=2) rfl rfl (a2U (a1M (i:=0) (show (["a", "b", "n"]:List Str).Nodup by decide +kernel) rfl (Or.inl rfl)) (a2U (a1M (i:=1) (show (["a", "b", "n"]:List Str).Nodup by decide +kernel) rfl (Or.inl rfl)) a8E)))) (λ _ _ _ _ _=>a8V) (λ _ _ _ _ _ pass=>(a0G GX_tie_of hr rfl dZ9.m dZ9.F.kp dZ9.b .nil pass (a0A (pv 2) (a0A (pv 0) (a0A (pv 1) a0B)))))) a0B)) a0B)) a0B)))))),?_⟩
 refine ⟨_,_,rfl,rfl,_,rfl,11,some (n:Int),rfl,_,rfl,?_⟩
 have b11:a1B 11 (some (n:Int))=true:=by unfold a1B; simp; omega
 rw [b11]
 refine iteF ?_
 refine ⟨_,rfl,_,rfl,l,rfl,⟨_,hl⟩,?_⟩
 refine a8W (K:=K) (a:=l) (xs:=xs) (λ i ys G=>Same H G/\Paired (TieL G) ys ((ps.take i).map mmF)/\∀ u∈ps.take i,pvF n u=0) ⟨Same.refl _,.nil,λ u hu=>absurd hu List.not_mem_nil⟩ (λ i ys G hi ⟨s,p,_⟩=>⟨s.seq hl,?_⟩) (λ i x ys G hx ⟨s,p,al⟩=>?_) (λ ys G ⟨s,p,al⟩ p3 hp3=>?_)
 ·rw [Paired.length p,List.length_map,List.length_take]
  exact Nat.le_of_lt (a1E (by omega))
 ·obtain ⟨t,ht,pt,rfl,hT⟩:=paired_get hp hx
  refine ⟨pt,_,rfl,s.tupq hT,rfl,_,_,rfl,_,_,rfl,rfl,?_⟩
  refine ⟨_,rfl,_,rfl,_,rfl,(n:Int),t.1,t.2,rfl,λ z p4 H4 n4=>?_,λ z p4 H4 s4 hp4=>?_,λ z p4 H4 s4 hp4=>?_⟩
  ·have et:ps.take (i+1)=ps.take i++[t]:=by rw [List.take_succ,ht]; rfl
   refine ⟨s.trans n4.same,?_,λ u hu=>?_⟩
   ·rw [et,List.map_append]
    exact a1I (Paired.mapP p λ _ _ h=>TieL.same n4.same h) ⟨p4,rfl,n4.here⟩
   ·rw [et] at hu
    rcases List.mem_append.mp hu with hu | hu
    ·exact al u hu
    ·rw [List.mem_singleton.mp hu]; exact z
  ·exact q1 ((b0J ht al (by rw [show pvF n t=1 from z]; decide)).trans z) p4 H4 (s.trans s4) hp4
  ·exact q2 ((b0J ht al (by rw [show pvF n t=2 from z]; decide)).trans z) p4 H4 (s.trans s4) hp4
 rw [lx,List.take_length] at p al
 have n3:=New.mk0 (o:=.lst ys) hp3
 generalize upd G p3 (.lst ys)=H3 at n3 ⊢
 have s03:=s.trans n3.same
 refine ⟨p3,ys,ps.map mmF,rfl,SqL.of n3.here,Paired.mapP p λ _ _ h=>TieL.same n3.same h,λ t ht=>?_,λ p4 L H4 n4 prs nd mem l45=>?_⟩
 ·obtain ⟨u,hu,rfl⟩:=List.mem_map.mp ht
  have:=b7L (al u hu)
  omega
 refine ⟨p4,L,rfl,n4.here,λ q hq=>n4.same _ _ (prs q hq),by omega,λ us vs p5 H5 pm srt pv n5=>⟨(by show 2<=1000; decide),λ p6 H6 n6=>?_⟩⟩
 have s46:=n5.same.trans n6.same
 have lv:=Paired.length pv
 refine q0 (a2X al) p6 p5 vs us H6 (s03.trans (n4.same.trans s46)) (b4D (s03.trans n4.same) n5.fresh) n6.here (n6.same _ _ n5.here) (Paired.mapP pv λ _ _ h=>TieL.same s46 h) ?_ (λ t=>?_) ?_
 ·have nd':us.Nodup:=pm.nodup_iff.mpr nd
  exact (srt.and nd').imp λ h=>b6B h.1 h.2
 ·rw [pm.mem_iff,<- mem t]
 ·rw [lv,pm.length_eq,List.length_map]; omega
end
end K
namespace K
open PySem L2 Lw Bg
abbrev a2A:Stmt:=top 13
theorem sc__law_cell:FnScope ["_law_script", "_law_k", "_law_number"] ["_law_script", "_law_k"] (a0D a2A):=⟨rfl,rfl,rfl,by decide +kernel,rfl,by decide +kernel,by decide +kernel⟩
abbrev a1S:Stmt:=top 14
theorem a4V:FnScope ["_law_cell_here", "_law_many"] ["_law_cell_here", "_law_many"] (a0D a1S):=⟨rfl,rfl,rfl,by decide +kernel,rfl,by decide +kernel,by decide +kernel⟩
section
variable {P:Program} {w:World} {K:Φρ} {mg:Str->Option Value} {base:Heap}
set_option maxHeartbeats 4000000 in
theorem a6O (B:Bl mg) (d:Dn K mg "_law_cell" a2A ["_law_script", "_law_k"]):FnOk P w K mg base CX0 1 d.f d.fd ["_law_script", "_law_k"] (b5G K):=by
 refine d.F.ok sc__law_cell (λ vs H Q E h=>?_) (λ cdv A outer s H vs Q E hr h=>?_)
 ·obtain ⟨a,ns,k,rfl,_⟩:=h
  rfl
 obtain ⟨a,ns,k,rfl,hS,h63,h0,h1,q⟩:=h
 refine ⟨_,(a0E (a1G (a0T b0P (pv 1) (a0J (a1H (K:=K) rfl) rfl B.len (by decide +kernel) (a0A (pv 0) a0B)) (a1A _))
   (a0F (a0W (a5F (a2E (K:=K) rfl) (pv 0) (pv 1) (λ _ _=>rfl))))
   a0N)
   (a0E (a0Y (i:=2) sc__law_cell.nd rfl (Or.inl rfl) (a0K a1U (a0K a2L (pv 1) a0C) a0C))
   (a1X (a1G (a0T b6O (a0J (a1H (K:=K) rfl) rfl B.len (by decide +kernel) (a0A (pv 0) a0B)) a0C (a1A _))
   (a0F (a0Y (i:=2) sc__law_cell.nd rfl (Or.inl rfl) (a0K a1U (a0K a2L (a0K a1D (a5F (a2E (K:=K) rfl) (pv 0) (a0K a1D (a0K a2L (pv 1) a0C) (a0J (a1H (K:=K) rfl) rfl B.len (by decide +kernel) (a0A (pv 0) a0B))) (λ _ _=>rfl)) a0C) a0C) (a0K a2L (pv 1) a0C))))
   a0N)
   (a0F (a0W (a0K a1D (a0K a2L (pv 2) (pv 2)) a0C)))))),?_⟩
 have hl:(ns.map V.int).length=ns.length:=List.length_map _
 refine ⟨_,rfl,_,rfl,a,_,rfl,.inl hS,_,_,rfl,rfl,_,rfl,?_⟩
 refine ite2 (λ c=>?_) (λ c=>?_)
 ·have c':k < (((ns.map V.int).length:Nat):Int):=of_decide_eq_true c
  rw [hl] at c'
  refine ⟨_,rfl,_,rfl,a,_,_,_,rfl,rfl,hS,a8Z h0 c',?_⟩
  have e:a2F ns k=ns.getD k.toNat 0:=by unfold a2F; rw [if_pos c']
  rw [e] at q
  exact q
 ·have c':¬ k < (((ns.map V.int).length:Nat):Int):=of_decide_eq_false (Bool.eq_false_iff.mpr c)
  rw [hl] at c'
  refine ⟨_,rfl,_,_,rfl,rfl,.inr ⟨by decide,by decide⟩,_,_,rfl,rfl,?_⟩
  refine ⟨λ σ' H'=>∃ z:Int,σ'=[some (.ref a),some (.int k),some (.int z)]/\H'=H/\a2F ns k=z*z % 2147483629 /\ -(2 ^ 64) < z/\z < 2 ^ 64,?_,?_⟩
  rotate_left
  ·rintro σ' H' ⟨z,rfl,rfl,e,b1,b2⟩
   refine ⟨_,rfl,_,rfl,_,_,rfl,rfl,.inl ⟨b1,b2⟩,_,_,rfl,rfl,(show (0:Int) < _ by decide),?_⟩
   rw [e] at q
   exact q
  refine ⟨_,rfl,a,_,rfl,.inl hS,_,_,rfl,rfl,_,rfl,?_⟩
  refine ite2 (λ z=>?_) (λ z=>?_)
  ·have z':(0:Int) < (((ns.map V.int).length:Nat):Int):=of_decide_eq_true z
   rw [hl] at z'
   have m0:=Int.emod_nonneg (k*7) (show (ns.length:Int)≠0 by omega)
   have m1:=Int.emod_lt_of_pos (k*7) z'
   have b:=a7S (ns.getD (k*7 % (ns.length:Int)).toNat 0) k h0 h1
   refine ⟨_,rfl,_,rfl,_,_,rfl,rfl,.inr ⟨by decide,by decide⟩,_,rfl,a,_,rfl,.inl hS,_,_,rfl,rfl,(by rw [hl]; exact z'),a,_,_,_,rfl,rfl,hS,(by rw [hl]; exact a8Z m0 m1),_,_,rfl,rfl,(show (0:Int) < _ by decide),_,_,rfl,rfl,.inr ⟨by decide,by decide⟩,_,rfl,_,_,rfl,rfl,.inr ⟨by decide,by decide⟩,_,_,rfl,rfl,?_⟩
   refine ⟨_,rfl,rfl,?_,b.1,b.2⟩
   unfold a2F; rw [if_neg c']; simp only [if_pos z']
  ·have z':¬ (0:Int) < (((ns.map V.int).length:Nat):Int):=of_decide_eq_false (Bool.eq_false_iff.mpr z)
   rw [hl] at z'
   refine ⟨_,rfl,rfl,?_,by omega,by omega⟩
   unfold a2F; rw [if_neg c']; simp only [if_neg z']
set_option maxHeartbeats 4000000 in
theorem a7M (B:Bl mg) (d:Dn K mg "_law_mixed" a1S ["_law_cell_here", "_law_many"]):FnOk P w K mg base CX0 1 d.f d.fd ["_law_cell_here", "_law_many"] b7A:=by
 refine d.F.ok a4V (λ vs H Q E h=>?_) (λ cdv A outer s H vs Q E hr h=>?_)
 ·obtain ⟨c,m,rfl,_⟩:=h
  rfl
 obtain ⟨c,m,rfl,hm,q⟩:=h
 refine ⟨_,(a0F (a0W (a0K a1D (a0K a3A (a0K a1D (a0K a2L (a0K a1D (pv 0) (a0K a1V a0C a0C)) a0C) (a0K a1V a0C a0C)) (a0K a1V a0C a0C)) (pv 1)))),?_⟩
 have p64:(0:Int) < 2 ^ 64:=by decide
 have a1:=Int.emod_nonneg c (show (2 ^ 64:Int)≠0 by decide)
 have a2:=Int.emod_lt_of_pos c p64
 refine ⟨_,rfl,_,_,rfl,rfl,⟨by decide,by decide,by decide⟩,_,_,rfl,rfl,(show (0:Int) < _ by decide),_,_,rfl,rfl,.inl ⟨?_,?_⟩,_,_,rfl,rfl,⟨by decide,by decide,by decide⟩,_,_,rfl,rfl,(show (0:Int) < _ by decide),_,_,rfl,rfl,⟨by decide,by decide,by decide⟩,_,_,rfl,rfl,⟨by decide,by decide⟩,_,rfl,_,_,rfl,rfl,hm,?_⟩
 ·show -(2 ^ 64) < c % 2 ^ 64
  omega
 ·exact a2
 ·exact q
end
abbrev a3S:Stmt:=top 15
theorem sc__law_ties:FnScope ["_law_script", "_law_at", "_law_n", "_law_bits", "_law_way", "_law_other", "_law_ties_here", "_law_a", "_law_b"] ["_law_script", "_law_at", "_law_n"] (a0D a3S):=⟨rfl,rfl,rfl,by decide +kernel,rfl,by decide +kernel,by decide +kernel⟩
abbrev lexT (s t:Int × Int):Prop:=s.1 < t.1\/(s.1=t.1/\s.2 < t.2)
structure Web (n:Int) (ts:List ζζ):Prop where
 ok:∀ t∈ts,0<=t.1/\t.1 < t.2/\t.2 < n
 up:ts.Pairwise lexT
def b4E (K:Φρ):Sp:=λ vs H Q _=>∃ (a:Addr) (ns:List Int) (k:Int) (n:Nat),vs=[.ref a,.int k,.int n]/\SqL K H a (ns.map V.int)/\ns.length<=63/\0<=k/\k<=900/\n<=10 /\
 ∀ r xs ts H',Same H H'->H r=none->H' r=some (.lst xs)->Paired (TieL H') xs ts->Web n ts->ts.length<=100->Q (.ref r) H'
section
variable {P:Program} {w:World} {K:Φρ} {mg:Str->Option Value} {base:Heap}
abbrev DZ1 (K:PySem.W.Frag) (mg:Str->Option Value):=Dn K mg "_law_cell" a2A ["_law_script", "_law_k"]
abbrev DZ2 (K:PySem.W.Frag) (mg:Str->Option Value):=Dn K mg "_law_mixed" a1S ["_law_cell_here", "_law_many"]
abbrev DZ4 (K:PySem.W.Frag) (mg:Str->Option Value):=Dn K mg "_law_ties" a3S ["_law_script", "_law_at", "_law_n"]
set_option maxHeartbeats 4000000 in
theorem a5Y (B:Bl mg) (dZ1:DZ1 K mg) (dZ2:DZ2 K mg) (dZ4:DZ4 K mg):FnOk P w K mg base CX0 2 dZ4.f dZ4.fd ["_law_script", "_law_at", "_law_n"] (b4E K):=by
 have gZ1:FnOk P w K mg base CX0 1 _ _ _ _:=a6O B dZ1
 have gZ2:FnOk P w K mg base CX0 1 _ _ _ _:=a7M B dZ2
 refine dZ4.F.ok sc__law_ties (λ vs H Q E h=>?_) (λ cdv A outer s H vs Q E hr h=>?_)
 ·obtain ⟨a,ns,k,n,rfl,_⟩:=h
  rfl
 obtain ⟨a,ns,k,n,rfl,hS,h63,k0,k1,hn,q⟩:=h
 refine ⟨_,(a0E (a0Y (i:=3) sc__law_ties.nd rfl (Or.inl rfl) (a0G gZ2 hr rfl dZ2.m dZ2.F.kp dZ2.b .nil a0X (a0A (a0G gZ1 hr rfl dZ1.m dZ1.F.kp dZ1.b .nil a0X (a0A (pv 0) (a0A (pv 1) a0B))) (a0A (a0K a1V a0C a0C) a0B))))
   (a0E (a0Y (i:=4) sc__law_ties.nd rfl (Or.inl rfl) (a0K a1D (a0G gZ1 hr rfl dZ1.m dZ1.F.kp dZ1.b .nil a0X (a0A (pv 0) (a0A (a0K a1U (pv 1) a0C) a0B))) a0C))
   (a0E (a0Y (i:=5) sc__law_ties.nd rfl (Or.inl rfl) (a0G gZ2 hr rfl dZ2.m dZ2.F.kp dZ2.b .nil a0X (a0A (a0G gZ1 hr rfl dZ1.m dZ1.F.kp dZ1.b .nil a0X (a0A (pv 0) (a0A (a0K a1U (pv 1) a0C) a0B))) (a0A (a0K a1V a0C a0C) a0B))))
   (a1X (a1G (a0T b0P (pv 4) a0C (a1A _))
   (a0F (a0Y (i:=3) sc__law_ties.nd rfl (Or.inl rfl) (a0K b4U (pv 3) (pv 5))))
   (a0F (a1G (a0T b0P (pv 4) a0C (a1A _))
   (a0F (a0Y (i:=3) sc__law_ties.nd rfl (Or.inl rfl) (a0K b6L (pv 3) (pv 5))))
   (a0F (a1G (a0T a2S (pv 4) a0C (a1A _))
   (a0F (a0Y (i:=3) sc__law_ties.nd rfl (Or.inl rfl) (a0K b4T (a0K a1V a0C a0C) a0C)))
   a0N)))))
   (a0E (a0Y (i:=6) sc__law_ties.nd rfl (Or.inl rfl) (a6E a0B))
   (a0E (a6S PassesOwn.never rfl (a2Z rfl B.range (a0A (pv 2) a0B)) (a1M (i:=7) sc__law_ties.nd rfl (Or.inl rfl))
   (a0F (a6S PassesOwn.never rfl (a8G rfl B.range (a0A (a0K a1U (pv 7) a0C) (a0A (pv 2) a0B))) (a1M (i:=8) sc__law_ties.nd rfl (Or.inl rfl))
   (a1X (a1G (a0T a2S (a0K a1D (pv 3) a0C) a0C (a1A _))
   (a0F (a1O (a3G (K:=K) rfl PySem.F.plainAttrs_list PySem.F.slot_list_append PySem.F.type_list_append a1C (pv 6) (a0A (a0V (a0A (pv 7) (a0A (pv 8) a0B))) a0B))))
   a0N)
   (a0F (a0Y (i:=3) sc__law_ties.nd rfl (Or.inl rfl) (a0K a3A (pv 3) a0C)))))))
   (a0F (a0W (pv 6))))))))),?_⟩
 refine ⟨_,rfl,_,rfl,a,ns,k,rfl,hS,h63,k0,(by omega),_,_,rfl,rfl,⟨by decide,by decide,by decide⟩,_,_,rfl,(by decide),?_⟩
 refine ⟨_,rfl,_,rfl,_,_,rfl,rfl,a,ns,k+1,rfl,hS,h63,(by omega),(by omega),_,_,rfl,rfl,(show (0:Int) < _ by decide),?_⟩
 refine ⟨_,rfl,_,rfl,_,_,rfl,rfl,a,ns,k+2,rfl,hS,h63,(by omega),(by omega),_,_,rfl,rfl,⟨by decide,by decide,by decide⟩,_,_,rfl,(by decide),?_⟩
 refine ⟨λ σ' H'=>∃ b x y:Int,σ'=[some (.ref a),some (.int k),some (.int n),some (.int b),some (.int x),some (.int y),none,none,none]/\H'=H,?_,?_⟩
 ·refine ⟨_,rfl,_,_,rfl,rfl,_,rfl,?_⟩
  refine ite2 (λ c=>?_) (λ c=>?_)
  ·exact ⟨_,rfl,_,rfl,_,_,rfl,rfl,_,_,_,rfl,rfl⟩
  ·refine ⟨_,rfl,_,_,rfl,rfl,_,rfl,?_⟩
   refine ite2 (λ c=>?_) (λ c=>?_)
   ·exact ⟨_,rfl,_,rfl,_,_,rfl,rfl,_,_,_,rfl,rfl⟩
   ·refine ⟨_,rfl,rfl,_,rfl,?_⟩
    refine ite2 (λ c=>?_) (λ c=>?_)
    ·exact ⟨_,_,rfl,rfl,⟨by decide,by decide,by decide⟩,_,_,rfl,rfl,_,_,_,rfl,rfl⟩
    ·exact ⟨_,_,_,rfl,rfl⟩
 rintro σ' H' ⟨b0,x0,y0,rfl,rfl⟩
 refine ⟨(by show 0<=1000; decide),λ r H0 nw=>?_⟩
 refine ⟨_,rfl,_,rfl,by omega,by omega,?_⟩
 have en:((n:Nat):Int).toNat=n:=by omega
 rw [en]
 refine a1P (n:=n) (λ i σ H2=>∃ (b:Int) (aa bb:Option V) (xs:List V) (ts:List ζζ),σ=[some (.ref a),some (.int k),some (.int n),some (.int b),some (.int x0),some (.int y0),some (.ref r),aa,bb]/\Same H' H2/\H2 r=some (.lst xs)/\Paired (TieL H2) xs ts/\ts.length<=10*i/\Web n ts/\∀ t∈ts,t.1 < (i:Int))
  ⟨_,none,none,[],[],rfl,nw.same,nw.here,.nil,Nat.zero_le _,⟨λ t h=>absurd h List.not_mem_nil,.nil⟩,λ t h=>absurd h List.not_mem_nil⟩ ?_ ?_
 ·rintro i σ H2 hi ⟨b,aa,bb,xs,ts,rfl,sm,hr2,hp,hz,hw,hlt⟩
  refine ⟨_,rfl,_,_,rfl,rfl,_,rfl,_,_,rfl,⟨by omega,by omega,by omega,by omega⟩,?_⟩
  refine a1P (n:=_) (λ j σ H3=>∃ (b:Int) (bb:Option V) (xs:List V) (ts:List ζζ),σ=[some (.ref a),some (.int k),some (.int n),some (.int b),some (.int x0),some (.int y0),some (.ref r),some (.int (0+(i:Int))),bb]/\Same H' H3/\H3 r=some (.lst xs)/\Paired (TieL H3) xs ts/\ts.length<=10*i+j/\Web n ts/\∀ t∈ts,t.1 < (i:Int)\/(t.1=(i:Int)/\t.2 < (i:Int)+1+j))
   ⟨b,bb,xs,ts,rfl,sm,hr2,hp,by omega,hw,λ t h=>.inl (hlt t h)⟩ ?_ ?_
  ·rintro j σ H3 hj ⟨b,bb,xs,ts,rfl,sm,hr3,hp,hz,hw,hlt⟩
   have jn:(j:Int)+(0+(i:Int)+1) < n:=by omega
   refine ⟨λ σ' H4=>∃ (xs:List V) (ts:List ζζ),σ'=[some (.ref a),some (.int k),some (.int n),some (.int b),some (.int x0),some (.int y0),some (.ref r),some (.int (0+(i:Int))),some (.int (0+(i:Int)+1+(j:Int)))]/\Same H' H4/\H4 r=some (.lst xs)/\Paired (TieL H4) xs ts/\ts.length<=10*i+(j+1)/\Web n ts/\∀ t∈ts,t.1 < (i:Int)\/(t.1=(i:Int)/\t.2 < (i:Int)+1+(j+1:Nat)),?_,?_⟩
   ·refine ⟨_,rfl,_,_,rfl,rfl,(show (0:Int) < _ by decide),rfl,_,rfl,?_⟩
    refine ite2 (λ c=>?_) (λ c=>?_)
    ·refine ⟨_,rfl,.inl ⟨rfl,_,SqL.of hr3⟩,_,rfl,_,rfl,(by show 2<=1000; decide),λ p4 H4 n4=>?_⟩
     have hl:xs.length=ts.length:=Paired.length hp
     refine ⟨r,_,_,rfl,rfl,n4.same _ _ hr3,(by omega),λ H5 c5=>?_⟩
     refine ⟨xs++[.ref p4],ts++[(0+(i:Int),0+(i:Int)+1+(j:Int))],rfl,(sm.trans n4.same).chg nw.fresh c5,c5.here,?_,?_,⟨λ t ht=>?_,?_⟩,λ t ht=>?_⟩
     ·refine a1I (Paired.mapP hp λ v t q=>(q.same n4.same).chg (n4.same _ _ hr3) c5) ?_
      exact TieL.chg (n4.same _ _ hr3) c5 ⟨p4,rfl,n4.here⟩
     ·rw [List.length_append]; show ts.length+1<=_; omega
     ·rcases List.mem_append.mp ht with ht | ht
      ·exact hw.ok t ht
      ·rw [List.mem_singleton.mp ht]
       exact ⟨by show 0<=0+(i:Int); omega,by show 0+(i:Int) < 0+(i:Int)+1+(j:Int); omega,by show 0+(i:Int)+1+(j:Int) < n; omega⟩
     ·refine List.pairwise_append.mpr ⟨hw.up,List.pairwise_singleton _ _,λ t ht u hu=>?_⟩
      rw [List.mem_singleton.mp hu]
      show t.1 < 0+(i:Int)\/(t.1=0+(i:Int)/\t.2 < 0+(i:Int)+1+(j:Int))
      have:=hlt t ht
      omega
     ·rcases List.mem_append.mp ht with ht | ht
      ·have:=hlt t ht
       omega
      ·rw [List.mem_singleton.mp ht]
       show 0+(i:Int) < (i:Int)\/(0+(i:Int)=(i:Int)/\0+(i:Int)+1+(j:Int) < (i:Int)+1+(j+1:Nat))
       omega
    ·exact ⟨xs,ts,rfl,sm,hr3,hp,by omega,hw,λ t ht=>by have:=hlt t ht; omega⟩
   ·rintro σ' H4 ⟨xs,ts,rfl,sm,hr4,hp,hz,hw,hlt⟩
    refine ⟨_,rfl,_,_,rfl,rfl,⟨by decide,by decide⟩,?_⟩
    exact ⟨_,_,xs,ts,rfl,sm,hr4,hp,hz,hw,hlt⟩
  ·rintro σ H3 ⟨b,bb,xs,ts,rfl,sm,hr3,hp,hz,hw,hlt⟩
   exact ⟨b,_,bb,xs,ts,rfl,sm,hr3,hp,by omega,hw,λ t ht=>by have:=hlt t ht; omega⟩
 ·rintro σ H2 ⟨b,aa,bb,xs,ts,rfl,sm,hr2,hp,hz,hw,hlt⟩
  exact ⟨_,rfl,q r xs ts H2 sm nw.fresh hr2 hp hw (by omega)⟩
end
theorem andQ {a b:TT} {σ:St} {H:Hp} {Q:Bool->Hp->Prop} {c1 c2:Bool} (h1:∀ Q:Bool->Hp->Prop,Q c1 H->a σ H Q) (h2:∀ Q:Bool->Hp->Prop,Q c2 H->b σ H Q) (h:Q (c1 && c2) H):tAnd a b σ H Q:=by
 refine h1 _ ?_
 cases c1 with
 | false=>exact iteF h
 | true=>exact iteT (h2 _ h)
abbrev a2Q:Stmt:=top 16
theorem sc__law_pairs:FnScope ["_law_script", "_law_ties_here", "_law_keyed", "_law_first", "_law_k", "_law_a", "_law_b", "_law_key"] ["_law_script", "_law_ties_here"] (a0D a2Q):=⟨rfl,rfl,rfl,by decide +kernel,rfl,by decide +kernel,by decide +kernel⟩
abbrev Qd:=Int × Int × Int × Int
def QdL (H:Hp) (v:V) (q:Qd):Prop:=∃ p,v = .ref p/\H p=some (.tup [.int q.1,.int q.2.1,.int q.2.2.1,.int q.2.2.2])
theorem QdL.same {H H':Hp} {v:V} {q:Qd} (s:Same H H') (h:QdL H v q):QdL H' v q:=by
 obtain ⟨p,e,h⟩:=h
 exact ⟨p,e,s _ _ h⟩
theorem QdL.chg {H H':Hp} {v:V} {q:Qd} {r:Addr} {xs ys:List V} (hr:H r=some (.lst xs)) (c:Chg H r (.lst ys) H') (h:QdL H v q):QdL H' v q:=by
 obtain ⟨p,e,h⟩:=h
 exact ⟨p,e,(c.rest p (λ z=>by rw [z,hr] at h; cases h)).trans h⟩
theorem a1Z {α β:Type} {R:α->β->Prop} {vs ws:List α} (h:ws.Perm vs):∀ {qs:List β},Paired R vs qs->∃ rs,rs.Perm qs/\Paired R ws rs:=by
 induction h with
 | nil=>intro qs r; exact ⟨qs,List.Perm.refl _,r⟩
 | cons x _ ih =>
  intro qs r
  cases r with
  | cons a t=>obtain ⟨w,p,q⟩:=ih t; exact ⟨_::w,p.cons _,.cons a q⟩
 | swap x y l =>
  intro qs r
  cases r with
  | cons a t=>cases t with
   | cons b t=>exact ⟨_,List.Perm.swap _ _ _,.cons b (.cons a t)⟩
 | trans _ _ ih1 ih2 =>
  intro qs r
  obtain ⟨w,p,q⟩:=ih2 r
  obtain ⟨w',p',q'⟩:=ih1 q
  exact ⟨w',p'.trans p,q'⟩
def Eith (u t:Int × Int):Prop:=u=t\/u=(t.2,t.1)
structure Kd (H:Hp) (r:Addr) (ts:List ζζ) (i j:Nat) (G:Hp) (zs:List V) (qs:List Qd):Prop where
 same:Same H G
 at_:G r=some (.lst zs)
 prs:Paired (QdL G) zs qs
 few:qs.length<=4*i+j
 from_:∀ q∈qs,∃ t∈ts,Eith q.2.2 t
def Got (ts:List ζζ) (i:Nat) (qs:List Qd):Prop:=∀ t∈ts.take i,∃ q∈qs,Eith q.2.2 t
theorem Kd.put {H G G1 G2:Hp} {r p:Addr} {ts:List ζζ} {i j:Nat} {zs:List V} {qs:List Qd} (h:Kd H r ts i j G zs qs) (hr:H r=none) (q:Qd) (n1:New G p (.tup [.int q.1,.int q.2.1,.int q.2.2.1,.int q.2.2.2]) G1) (c:Chg G1 r (.lst (zs++[.ref p])) G2) (hq:∃ t∈ts,Eith q.2.2 t) :
  Kd H r ts i (j+1) G2 (zs++[.ref p]) (qs++[q]):=by
 have h1:=n1.same _ _ h.at_
 refine ⟨(h.same.trans n1.same).chg hr c,c.here,a1I (Paired.mapP h.prs λ _ _ z=>(z.same n1.same).chg h1 c) (QdL.chg h1 c ⟨p,rfl,n1.here⟩),?_,λ z hz=>?_⟩
 ·have:=h.few
  rw [List.length_append]
  show qs.length+1<=_
  omega
 ·rcases List.mem_append.mp hz with hz | hz
  ·exact h.from_ z hz
  ·rw [List.mem_singleton.mp hz]; exact hq
theorem Kd.up {H G:Hp} {r:Addr} {ts:List ζζ} {i j k:Nat} {zs:List V} {qs:List Qd} (h:Kd H r ts i j G zs qs) (hk:j<=k):Kd H r ts i k G zs qs:=⟨h.same,h.at_,h.prs,by have:=h.few; omega,h.from_⟩
theorem Got.app {ts:List ζζ} {i:Nat} {qs:List Qd} (h:Got ts i qs) (q:Qd):Got ts i (qs++[q]):=λ t ht=>by
 obtain ⟨z,hz,e⟩:=h t ht
 exact ⟨z,List.mem_append_left _ hz,e⟩
def b0L (K:Φρ):Sp:=λ vs H Q _=>∃ (a t:Addr) (ns:List Int) (xs:List V) (ts:List ζζ),vs=[.ref a,.ref t]/\SqL K H a (ns.map V.int)/\ns.length<=63/\H t=some (.lst xs)/\Paired (TieL H) xs ts/\ts.length<=45 /\
 ∀ p ys ps H',Same H H'->H' p=some (.lst ys)->Paired (TieL H') ys ps->ps.length<=180->(∀ u∈ps,∃ t∈ts,Eith u t)->(∀ t∈ts,∃ u∈ps,Eith u t)->Q (.ref p) H'
section
variable {P:Program} {w:World} {K:Φρ} {mg:Str->Option Value} {base:Heap}
abbrev DZ3 (K:PySem.W.Frag) (mg:Str->Option Value):=Dn K mg "_law_pairs" a2Q ["_law_script", "_law_ties_here"]
set_option maxHeartbeats 8000000 in
theorem a4W (B:Bl mg) (dZ1:DZ1 K mg) (dZ2:DZ2 K mg) (dZ3:DZ3 K mg):FnOk P w K mg base CX0 2 dZ3.f dZ3.fd ["_law_script", "_law_ties_here"] (b0L K):=by
 have gZ1:FnOk P w K mg base CX0 1 _ _ _ _:=a6O B dZ1
 have gZ2:FnOk P w K mg base CX0 1 _ _ _ _:=a7M B dZ2
 refine dZ3.F.ok sc__law_pairs (λ vs H Q E h=>?_) (λ cdv A outer s H vs Q E hr h=>?_)
 ·obtain ⟨a,t,ns,xs,ts,rfl,_⟩:=h
  rfl
 obtain ⟨a,t,ns,xs,ts,rfl,hS,h63,ht,hp,l45,q⟩:=h
 refine ⟨_,(a0E (a0Y (i:=2) sc__law_pairs.nd rfl (Or.inl rfl) (a6E a0B))
   (a0E (a0Y (i:=3) sc__law_pairs.nd rfl (Or.inl rfl) (a0K a1D (a0G gZ1 hr rfl dZ1.m dZ1.F.kp dZ1.b .nil a0X (a0A (pv 0) (a0A a0C a0B))) a0C))
   (a0E (a6S PassesOwn.never rfl (a2Z rfl B.range (a0A (a0J (a1H (K:=K) rfl) rfl B.len (by decide +kernel) (a0A (pv 1) a0B)) a0B)) (a1M (i:=4) sc__law_pairs.nd rfl (Or.inl rfl))
   (a0E (b4P (a5F (a2E (K:=K) rfl) (pv 1) (pv 4) (λ _ _=>rfl)) (a8X (K:=K) (n:=2) rfl rfl (a2U (a1M (i:=5) sc__law_pairs.nd rfl (Or.inl rfl)) (a2U (a1M (i:=6) sc__law_pairs.nd rfl (Or.inl rfl)) a8E))))
   (a0E (a0Y (i:=7) sc__law_pairs.nd rfl (Or.inl rfl) (a0G gZ2 hr rfl dZ2.m dZ2.F.kp dZ2.b .nil a0X (a0A (a0K a1U (a0K a2L (pv 3) (a0K a1U (a0K a2L (pv 4) (pv 4)) a0C)) (pv 4)) (a0A (a0K a1V a0C a0C) a0B))))
   (a1X (a1G (a0T a2S (a0K a1D (pv 7) a0C) a0C (a1A _))
   (a0F (b4Q rfl sc__law_pairs.nd rfl rfl (by decide) rfl rfl (i:=5) (j:=6) (a0A (pv 6) (a0A (pv 5) a0B)) (by rfl)))
   a0N)
   (a0E (a1O (a3G (K:=K) rfl PySem.F.plainAttrs_list PySem.F.slot_list_append PySem.F.type_list_append a1C (pv 2) (a0A (a0V (a0A (pv 7) (a0A (pv 4) (a0A (pv 5) (a0A (pv 6) a0B))))) a0B)))
   (a1X (a1G (PW.pt (a8D (a0T a2S (a0K a1D (a0G gZ1 hr rfl dZ1.m dZ1.F.kp dZ1.b .nil a0X (a0A (pv 0) (a0A a0C a0B))) a0C) a0C (a1A _)) (a6B (a0T a2S (a0K a1D (a0K a3A (pv 7) a0C) a0C) a0C (a1A _)))))
   (a0F (a1O (a3G (K:=K) rfl PySem.F.plainAttrs_list PySem.F.slot_list_append PySem.F.type_list_append a1C (pv 2) (a0A (a0V (a0A (a0G gZ2 hr rfl dZ2.m dZ2.F.kp dZ2.b .nil a0X (a0A (pv 7) (a0A (a0K a1V a0C a0C) a0B))) (a0A (pv 4) (a0A (pv 5) (a0A (pv 6) a0B))))) a0B))))
   a0N)
   (a1X (a1G (PW.pt (a8D (a0T a2S (a0K a1D (a0G gZ1 hr rfl dZ1.m dZ1.F.kp dZ1.b .nil a0X (a0A (pv 0) (a0A a0C a0B))) a0C) a0C (a1A _)) (a6B (a0T a2S (a0K a1D (a0K a3A (pv 7) a0C) a0C) a0C (a1A _)))))
   (a0F (a1O (a3G (K:=K) rfl PySem.F.plainAttrs_list PySem.F.slot_list_append PySem.F.type_list_append a1C (pv 2) (a0A (a0V (a0A (a0G gZ2 hr rfl dZ2.m dZ2.F.kp dZ2.b .nil a0X (a0A (a0K a1U (pv 7) a0C) (a0A (a0K a1V a0C a0C) a0B))) (a0A (pv 4) (a0A (pv 6) (a0A (pv 5) a0B))))) a0B))))
   a0N)
   (a0F (a1G (PW.pt (a8D (a0T a2S (a0K a1D (a0G gZ1 hr rfl dZ1.m dZ1.F.kp dZ1.b .nil a0X (a0A (pv 0) (a0A a0C a0B))) a0C) a0C (a1A _)) (a6B (a0T a2S (a0K a1D (a0K a3A (pv 7) a0C) a0C) a0C (a1A _)))))
   (a0F (a1O (a3G (K:=K) rfl PySem.F.plainAttrs_list PySem.F.slot_list_append PySem.F.type_list_append a1C (pv 2) (a0A (a0V (a0A (a0G gZ2 hr rfl dZ2.m dZ2.F.kp dZ2.b .nil a0X (a0A (a0K a1U (pv 7) a0C) (a0A (a0K a1V a0C a0C) a0B))) (a0A (pv 4) (a0A (pv 5) (a0A (pv 6) a0B))))) a0B))))
   a0N)))))))))
   (a0F (a0W (b6U ["_law_one"] [none]  (by kernel_rfl) rfl (a6V (K:=K) rfl (a0J (a4U (K:=K) rfl) rfl B.sorted (by decide +kernel) (a0A (pv 2) a0B))) (λ _ _ _ _ _=>(a1M (i:=0) (show (["_law_one"]:List Str).Nodup by decide +kernel) rfl (Or.inl rfl))) (λ _ _ _ _ _=>a8V) (λ _ _ _ _ _=>(a0V (a0A (a5F (a3F (K:=K) rfl) (pv 0) a0C (λ _ _=>rfl)) (a0A (a5F (a3F (K:=K) rfl) (pv 0) a0C (λ _ _=>rfl)) a0B)))))))))),?_⟩
 refine ⟨(by show 0<=1000; decide),λ r H0 n0=>?_⟩
 refine ⟨_,rfl,a,ns,4,rfl,n0.same.seq hS,h63,by decide,by decide,_,_,rfl,rfl,(show (0:Int) < 1000003 by decide),?_⟩
 have m0:=Int.emod_nonneg (a2F ns 4) (show (1000003:Int)≠0 by decide)
 have m1:=Int.emod_lt_of_pos (a2F ns 4) (show (0:Int) < 1000003 by decide)
 dsimp only
 generalize a2F ns 4 % 1000003=f at m0 m1 ⊢
 have lx:=Paired.length hp
 refine ⟨_,rfl,t,_,rfl,.inl (SqL.of (n0.same _ _ ht)),_,rfl,by omega,by omega,?_⟩
 have en:((xs.length:Nat):Int).toNat=xs.length:=by omega
 rw [en]
 refine a1P (n:=xs.length) (λ i σ G=>∃ (o4 o5 o6 o7:Option V) (zs:List V) (qs:List Qd),σ=[some (.ref a),some (.ref t),some (.ref r),some (.int f),o4,o5,o6,o7]/\Kd H r ts i 0 G zs qs/\Got ts i qs) ⟨none,none,none,none,[],[],rfl,⟨n0.same,n0.here,.nil,Nat.zero_le _,λ q hq=>absurd hq List.not_mem_nil⟩,λ t ht=>absurd ht List.not_mem_nil⟩ ?_ ?_
 ·rintro i σ G hi ⟨o4,o5,o6,o7,zs,qs,rfl,kd,got⟩
  have hx:xs[i]?=some (xs[i]'hi):=List.getElem?_eq_getElem hi
  obtain ⟨u,hu,pu,eu,hT⟩:=paired_get hp hx
  rw [eu] at hx
  have um:u∈ts:=List.mem_of_getElem? hu
  have ei:(0:Int)+(i:Int)=((i:Nat):Int):=by omega
  rw [ei]
  refine ⟨_,rfl,_,rfl,t,_,_,_,rfl,rfl,SqL.of (kd.same _ _ ht),a2I hx,?_⟩
  refine ⟨pu,_,rfl,SqT.of (kd.same _ _ hT),rfl,_,_,rfl,_,_,rfl,rfl,?_⟩
  refine ⟨_,rfl,_,rfl,_,rfl,_,_,rfl,rfl,.inl ⟨by omega,by omega⟩,_,_,rfl,rfl,_,_,rfl,rfl,.inl ⟨by omega,by omega⟩,_,rfl,_,_,rfl,rfl,?_⟩
  refine ⟨_,_,rfl,rfl,⟨by decide,by decide,by decide⟩,_,_,rfl,by decide,?_⟩
  generalize mixF _ _=key
  dsimp only [List.set]
  have hS':∀ {G':Hp},Same H G'->SqL K G' a (ns.map V.int):=λ s=>s.seq hS
  refine ⟨λ σ' H'=>H'=G/\∃ v:Int × Int,Eith v u/\σ'=[some (.ref a),some (.ref t),some (.ref r),some (.int f),some (.int (i:Nat)),some (.int v.1),some (.int v.2),some (.int key)],?_,?_⟩
  ·refine ⟨_,rfl,_,_,rfl,rfl,(show (0:Int) < 2 by decide),rfl,_,rfl,?_⟩
   exact ite2 (λ _=>⟨_,rfl,_,rfl,_,_,rfl,rfl,(u.2,u.1),.inr rfl,rfl⟩) (λ _=>⟨rfl,u,.inl rfl,rfl⟩)
  rintro σ H1 ⟨rfl,v,ev,rfl⟩
  have lz:=Paired.length kd.prs
  have fw:=kd.few
  refine ⟨_,rfl,.inl ⟨rfl,_,SqL.of kd.at_⟩,_,rfl,_,rfl,_,rfl,_,rfl,(by show 4<=1000; decide),λ p2 H2 n2=>?_⟩
  refine ⟨r,_,_,rfl,rfl,n2.same _ _ kd.at_,by omega,λ H3 c3=>?_⟩
  have k1:=kd.put n0.fresh (key,(i:Int),v) n2 c3 ⟨u,um,ev⟩
  have g1:Got ts (i+1) (qs++[(key,(i:Int),v)]):=λ t ht=>by
   rw [List.take_succ,hu] at ht
   rcases List.mem_append.mp ht with ht | ht
   ·exact got.app _ t ht
   ·have:t=u:=by simpa using ht
    rw [this]
    exact ⟨_,List.mem_append_right _ List.mem_cons_self,ev⟩
  have ev':Eith (v.2,v.1) u:=by
   rcases ev with rfl | rfl
   ·exact .inr rfl
   ·exact .inl rfl
  dsimp only
  refine ⟨λ σ' H'=>σ'=[some (.ref a),some (.ref t),some (.ref r),some (.int f),some (.int (i:Nat)),some (.int v.1),some (.int v.2),some (.int key)]/\∃ zs qs,Kd H r ts i 2 H' zs qs/\Got ts (i+1) qs,?_,?_⟩
  ·have lz:=Paired.length k1.prs
   have fw:=k1.few
   refine andQ (c1:=decide (V.int (a2F ns 5 % 2)=V.int 1)) (c2:=decide (V.int (key / 2 % 3)=V.int 0)) (λ Q h=>⟨_,rfl,a,ns,5,rfl,hS' k1.same,h63,by decide,by decide,_,_,rfl,rfl,(show (0:Int) < 2 by decide),rfl,_,rfl,h⟩) (λ Q h=>⟨_,rfl,_,_,rfl,rfl,⟨by decide,by decide⟩,_,_,rfl,rfl,(show (0:Int) < 3 by decide),rfl,_,rfl,h⟩) ?_
   refine ite2 (λ _=>?_) (λ _=>⟨rfl,_,_,k1.up (by omega),g1⟩)
   refine ⟨_,rfl,.inl ⟨rfl,_,SqL.of k1.at_⟩,_,rfl,_,_,rfl,rfl,⟨by decide,by decide,by decide⟩,_,_,rfl,by decide,_,rfl,_,rfl,_,rfl,(by show 4<=1000; decide),λ p2 H2 n2=>?_⟩
   refine ⟨r,_,_,rfl,rfl,n2.same _ _ k1.at_,by omega,λ H3 c3=>?_⟩
   exact ⟨rfl,_,_,k1.put n0.fresh (_,(i:Int),v) n2 c3 ⟨u,um,ev⟩,g1.app _⟩
  clear k1 g1
  rintro σ H3 ⟨rfl,zs,qs,k1,g1⟩
  refine ⟨λ σ' H'=>σ'=[some (.ref a),some (.ref t),some (.ref r),some (.int f),some (.int (i:Nat)),some (.int v.1),some (.int v.2),some (.int key)]/\∃ zs qs,Kd H r ts i 3 H' zs qs/\Got ts (i+1) qs,?_,?_⟩
  ·have lz:=Paired.length k1.prs
   have fw:=k1.few
   refine andQ (c1:=decide (V.int (a2F ns 5 % 2)=V.int 1)) (c2:=decide (V.int (key / 6 % 3)=V.int 0)) (λ Q h=>⟨_,rfl,a,ns,5,rfl,hS' k1.same,h63,by decide,by decide,_,_,rfl,rfl,(show (0:Int) < 2 by decide),rfl,_,rfl,h⟩) (λ Q h=>⟨_,rfl,_,_,rfl,rfl,⟨by decide,by decide⟩,_,_,rfl,rfl,(show (0:Int) < 3 by decide),rfl,_,rfl,h⟩) ?_
   refine ite2 (λ _=>?_) (λ _=>⟨rfl,_,_,k1.up (by omega),g1⟩)
   refine ⟨_,rfl,.inl ⟨rfl,_,SqL.of k1.at_⟩,_,rfl,_,_,rfl,rfl,_,_,rfl,rfl,⟨by decide,by decide,by decide⟩,_,_,rfl,by decide,_,rfl,_,rfl,_,rfl,(by show 4<=1000; decide),λ p2 H2 n2=>?_⟩
   refine ⟨r,_,_,rfl,rfl,n2.same _ _ k1.at_,by omega,λ H3 c3=>?_⟩
   exact ⟨rfl,_,_,k1.put n0.fresh (_,(i:Int),(v.2,v.1)) n2 c3 ⟨u,um,ev'⟩,g1.app _⟩
  clear k1 g1
  rintro σ H3 ⟨rfl,zs,qs,k1,g1⟩
  have lz:=Paired.length k1.prs
  have fw:=k1.few
  have fin:∀ {G':Hp} {zs':List V} {qs':List Qd},Kd H r ts i 4 G' zs' qs'->Kd H r ts (i+1) 0 G' zs' qs':=λ k=>⟨k.same,k.at_,k.prs,by have:=k.few; omega,k.from_⟩
  refine andQ (c1:=decide (V.int (a2F ns 5 % 4)=V.int 1)) (c2:=decide (V.int (key / 18 % 5)=V.int 0)) (λ Q h=>⟨_,rfl,a,ns,5,rfl,hS' k1.same,h63,by decide,by decide,_,_,rfl,rfl,(show (0:Int) < 4 by decide),rfl,_,rfl,h⟩) (λ Q h=>⟨_,rfl,_,_,rfl,rfl,⟨by decide,by decide⟩,_,_,rfl,rfl,(show (0:Int) < 5 by decide),rfl,_,rfl,h⟩) ?_
  refine ite2 (λ _=>?_) (λ _=>⟨_,_,_,_,zs,qs,rfl,fin (k1.up (by omega)),g1⟩)
  refine ⟨_,rfl,.inl ⟨rfl,_,SqL.of k1.at_⟩,_,rfl,_,_,rfl,rfl,_,_,rfl,rfl,⟨by decide,by decide,by decide⟩,_,_,rfl,by decide,_,rfl,_,rfl,_,rfl,(by show 4<=1000; decide),λ p2 H2 n2=>?_⟩
  refine ⟨r,_,_,rfl,rfl,n2.same _ _ k1.at_,by omega,λ H3 c3=>?_⟩
  exact ⟨_,_,_,_,_,_,rfl,fin (k1.put n0.fresh (_,(i:Int),v) n2 c3 ⟨u,um,ev⟩),g1.app _⟩
 ·rintro σ G ⟨o4,o5,o6,o7,zs,qs,rfl,kd,got⟩
  have lz:=Paired.length kd.prs
  have fw:=kd.few
  refine ⟨_,rfl,r,zs,qs.map λ q=>[q.1,q.2.1,q.2.2.1,q.2.2.2],rfl,SqL.of kd.at_,?_,?_,by omega,λ ws p1 H1 pw n1=>?_⟩
  ·have:∀ {zs:List V} {qs:List Qd},Paired (QdL G) zs qs->Paired (TupV K G) zs (qs.map λ q=>[q.1,q.2.1,q.2.2.1,q.2.2.2]):=λ h=>by
    induction h with
    | nil=>exact .nil
    | cons a _ ih =>
     obtain ⟨p,e,h⟩:=a
     exact .cons ⟨p,e,SqT.of h⟩ ih
   exact this kd.prs
  ·intro l hl
   obtain ⟨q,_,rfl⟩:=List.mem_map.mp hl
   exact List.cons_ne_nil _ _
  obtain ⟨rs,pr,pq⟩:=a1Z pw kd.prs
  have lr:=pr.length_eq
  have lq:=Paired.length pq
  refine ⟨p1,rfl,⟨_,SqL.of n1.here⟩,?_⟩
  refine a8W (K:=K) (a:=p1) (xs:=ws) (λ i ys G'=>Same H1 G'/\Paired (TieL G') ys ((rs.take i).map (·.2.2))) ⟨Same.refl _,.nil⟩ (λ i ys G' hi ⟨s,p⟩=>⟨s.seq (SqL.of n1.here),?_⟩) (λ i x ys G' hx ⟨s,p⟩=>?_) (λ ys G' ⟨s,p⟩ p3 hp3=>?_)
  ·rw [Paired.length p,List.length_map,List.length_take]
   exact Nat.le_of_lt (a1E (by omega))
  ·obtain ⟨z,hz,pz,rfl,hT⟩:=paired_get pq hx
   have hT':=SqT.of (K:=K) (s _ _ (n1.same _ _ hT))
   refine ⟨_,rfl,pz,_,_,_,rfl,rfl,hT',rfl,_,rfl,pz,_,_,_,rfl,rfl,hT',rfl,(by show 2<=1000; decide),λ p4 H4 n4=>?_⟩
   refine ⟨s.trans n4.same,?_⟩
   rw [List.take_succ,hz]
   show Paired _ _ (List.map _ (rs.take i++[z]))
   rw [List.map_append]
   exact a1I (Paired.mapP p λ _ _ h=>TieL.same n4.same h) ⟨p4,rfl,n4.here⟩
  ·rw [lq,List.take_length] at p
   have n3:=New.mk0 (o:=.lst ys) hp3
   refine q p3 ys (rs.map (·.2.2)) _ (kd.same.trans (n1.same.trans (s.trans n3.same))) n3.here (Paired.mapP p λ _ _ h=>TieL.same n3.same h) (by rw [List.length_map]; omega) (λ u hu=>?_) λ t ht=>?_
   ·obtain ⟨z,hz,rfl⟩:=List.mem_map.mp hu
    exact kd.from_ z (pr.mem_iff.mp hz)
   ·obtain ⟨z,hz,e⟩:=got t (by rw [lx,List.take_length]; exact ht)
    exact ⟨_,List.mem_map.mpr ⟨z,pr.mem_iff.mpr hz,rfl⟩,e⟩
end
end K
namespace K
open PySem L2 Lw Bg
theorem pigA {α:Type} [DecidableEq α] {l U:List α} (nd:l.Nodup) (h:∀ x∈l,x∈U):l.length<=U.length:=by
 induction l generalizing U with
 | nil=>exact Nat.zero_le _
 | cons a r ih =>
  obtain ⟨n1,n2⟩:=List.nodup_cons.mp nd
  have am:=h a List.mem_cons_self
  have:=ih (U:=U.erase a) n2 λ x hx=>(List.mem_erase_of_ne (λ e=>n1 (by rw [<- e]; exact hx))).mpr (h x (List.mem_cons_of_mem _ hx))
  rw [List.length_erase_of_mem am] at this
  have:=List.length_pos_of_mem am
  rw [List.length_cons]; omega
def allT:List ζζ:=(List.range 10).flatMap λ (a:Nat)=>((List.range 10).filter λ (b:Nat)=>decide (a < b)).map λ (b:Nat)=>(((a:Nat):Int),((b:Nat):Int))
theorem lexT.asymm {s t:Int × Int} (h:lexT s t) (h':lexT t s):False:=by
 unfold lexT at h h'
 omega
theorem Web.nd {n:Int} {ts:List ζζ} (h:Web n ts):ts.Nodup:=h.up.imp λ l e=>by
 subst e
 exact l.asymm l
theorem Web.few {n:Nat} {ts:List ζζ} (h:Web n ts) (n10:n<=10):ts.length<=45:=by
 have:=pigA (U:=allT) h.nd λ t ht=>by
  have o:=h.ok t ht
  unfold allT
  refine List.mem_flatMap.mpr ⟨t.1.toNat,List.mem_range.mpr (by omega),List.mem_map.mpr ⟨t.2.toNat,List.mem_filter.mpr ⟨List.mem_range.mpr (by omega),decide_eq_true (by omega)⟩,?_⟩⟩
  exact Prod.ext (by show ((t.1.toNat:Nat):Int)=t.1; omega) (by show ((t.2.toNat:Nat):Int)=t.2; omega)
 have e:allT.length=45:=by decide +kernel
 omega
abbrev a2R:Stmt:=top 17
theorem sc__law_alike:FnScope ["_law_found", "_law_due", "_law_k"] ["_law_found", "_law_due"] (a0D a2R):=⟨rfl,rfl,rfl,by decide +kernel,rfl,by decide +kernel,by decide +kernel⟩
theorem b6C {X:Cx} {r1 r2:R2} (h1:IxR X r1) (h2:IxR X r2):IxR X (λ x y H Q=>r1 x y H Q\/r2 x y H Q):=λ a b c d e f g h i j k l m n o p=>o.elim (λ o=>h1 a b c d e f g h i j k l m n o p) (λ o=>h2 a b c d e f g h i j k l m n o p)
def AlV (H:Hp):Nat->V->V->Prop
 | 0,u,v=>(∃ b,u = .bl b/\v = .bl b)\/(∃ i,u = .int i/\v = .int i)
 | m+1,u,v=>(∃ b,u = .bl b/\v = .bl b)\/(∃ i,u = .int i/\v = .int i)\/∃ a b xs ys,u = .ref a/\v = .ref b/\(H a=some (.lst xs)/\H b=some (.lst ys)\/H a=some (.tup xs)/\H b=some (.tup ys))/\xs.length<=1000/\Paired (AlV H m) xs ys
theorem AlV.cases {H:Hp} {m:Nat} {u v:V} (h:AlV H m u v):(∃ b,u = .bl b/\v = .bl b)\/(∃ i,u = .int i/\v = .int i)\/∃ m',m=m'+1/\∃ a b xs ys,u = .ref a/\v = .ref b/\(H a=some (.lst xs)/\H b=some (.lst ys)\/H a=some (.tup xs)/\H b=some (.tup ys))/\xs.length<=1000/\Paired (AlV H m') xs ys:=by
 cases m with
 | zero=>exact h.elim .inl λ h=>.inr (.inl h)
 | succ m=>exact h.elim .inl λ h=>.inr (h.elim .inl λ h=>.inr ⟨m,rfl,h⟩)
def a2Y (m:Nat):Sp:=λ vs H Q _=>∃ (u v:V) (k:Nat),k < m/\vs=[u,v]/\AlV H k u v/\Q (.bl true) H
section
variable {P:Program} {w:World} {K:Φρ} {mg:Str->Option Value} {base:Heap}
abbrev DZ0 (K:PySem.W.Frag) (mg:Str->Option Value):=Dn K mg "_law_alike" a2R ["_law_found", "_law_due"]
theorem b0M (dZ0:DZ0 K mg):FnOk P w K mg base CX0 1 dZ0.f dZ0.fd ["_law_found", "_law_due"] (a2Y 0):=by
 refine dZ0.F.ok sc__law_alike (λ vs H Q E h=>?_) (λ cdv A outer s H vs Q E hr h=>?_)
 ·obtain ⟨u,v,k,z,_⟩:=h
  omega
 ·obtain ⟨u,v,k,z,_⟩:=h
  omega
set_option maxHeartbeats 8000000 in
theorem b0N (B:Bl mg) (dZ0:DZ0 K mg) (m:Nat) (gZ0:FnOk P w K mg base CX0 (m+1) dZ0.f dZ0.fd ["_law_found", "_law_due"] (a2Y m)):FnOk P w K mg base CX0 (m+2) dZ0.f dZ0.fd ["_law_found", "_law_due"] (a2Y (m+1)):=by
 refine dZ0.F.ok sc__law_alike (λ vs H Q E h=>?_) (λ cdv A outer s H vs Q E hr h=>?_)
 ·obtain ⟨u,v,k,_,rfl,_⟩:=h
  rfl
 obtain ⟨u,v,k,km,rfl,al,q⟩:=h
 refine ⟨_,(a0E (a1G (a0Q (K:=K) rfl (a0J (a0L (K:=K) rfl) rfl B.isinstance (by decide +kernel) (a0A (pv 1) (a0A (a1L (v:=.ty "bool") (u:=.type "bool") rfl B.bool (by decide +kernel) rfl) a0B))) (λ _=>rfl))
   (a0F (a0W (a3T (a0J (a0L (K:=K) rfl) rfl B.isinstance (by decide +kernel) (a0A (pv 0) (a0A (a1L (v:=.ty "bool") (u:=.type "bool") rfl B.bool (by decide +kernel) rfl) a0B))) (a5A (a8L a2S (pv 0) (pv 1) (a1A _))))))
   a0N)
   (a0E (a1G (a0Q (K:=K) rfl (a0J (a0L (K:=K) rfl) rfl B.isinstance (by decide +kernel) (a0A (pv 1) (a0A (a1L (v:=.ty "int") (u:=.type "int") rfl B.int (by decide +kernel) rfl) a0B))) (λ _=>rfl))
   (a0F (a0W (a3T (a0J (a0L (K:=K) rfl) rfl B.isinstance (by decide +kernel) (a0A (pv 0) (a0A (a1L (v:=.ty "int") (u:=.type "int") rfl B.int (by decide +kernel) rfl) a0B))) (a3T (b1R (a0J (a0L (K:=K) rfl) rfl B.isinstance (by decide +kernel) (a0A (pv 0) (a0A (a1L (v:=.ty "bool") (u:=.type "bool") rfl B.bool (by decide +kernel) rfl) a0B)))) (a5A (a8L a2S (pv 0) (pv 1) (a1A _)))))))
   a0N)
   (a1X (a1G (a0Q (K:=K) rfl (a0J (a0L (K:=K) rfl) rfl B.isinstance (by decide +kernel) (a0A (pv 1) (a0A (a1L (v:=.ty "tuple") (u:=.type "tuple") rfl B.tuple (by decide +kernel) rfl) a0B))) (λ _=>rfl))
   (a0F (a1G (a2C (a0Q (K:=K) rfl (a0J (a0L (K:=K) rfl) rfl B.isinstance (by decide +kernel) (a0A (pv 0) (a0A (a1L (v:=.ty "tuple") (u:=.type "tuple") rfl B.tuple (by decide +kernel) rfl) a0B))) (λ _=>rfl)))
   (a0F (a0W a4Y))
   a0N))
   (a0F (a1G (a2C (a0Q (K:=K) rfl (a0J (a0L (K:=K) rfl) rfl B.isinstance (by decide +kernel) (a0A (pv 0) (a0A (a1L (v:=.ty "list") (u:=.type "list") rfl B.list (by decide +kernel) rfl) a0B))) (λ _=>rfl)))
   (a0F (a0W a4Y))
   a0N)))
   (a0E (a1G (a0T b6M (a0J (a1H (K:=K) rfl) rfl B.len (by decide +kernel) (a0A (pv 0) a0B)) (a0J (a1H (K:=K) rfl) rfl B.len (by decide +kernel) (a0A (pv 1) a0B)) (a1A _))
   (a0F (a0W a4Y))
   a0N)
   (a0E (a6S PassesOwn.never rfl (a2Z rfl B.range (a0A (a0J (a1H (K:=K) rfl) rfl B.len (by decide +kernel) (a0A (pv 1) a0B)) a0B)) (a1M (i:=2) sc__law_alike.nd rfl (Or.inl rfl))
   (a0F (a1G (a2C (a0Q (K:=K) rfl (a0G gZ0 hr rfl dZ0.m dZ0.F.kp dZ0.b .nil a0X (a0A (a5F (b6C (a2E (K:=K) rfl) (a3F (K:=K) rfl)) (pv 0) (pv 2) (λ _ _=>rfl)) (a0A (a5F (b6C (a2E (K:=K) rfl) (a3F (K:=K) rfl)) (pv 1) (pv 2) (λ _ _=>rfl)) a0B))) (λ _=>rfl)))
   (a0F (a0W a4Y))
   a0N)))
   (a0F (a0W a4Y))))))),?_⟩
 have k1:PySem.W.kitOne K (.type "bool") (.type "bool")=some true:=by rfl
 have k2:PySem.W.kitOne K (.type "list") (.type "bool")=some false:=by rfl
 have k3:PySem.W.kitOne K (.type "list") (.type "int")=some false:=by rfl
 have k4:PySem.W.kitOne K (.type "list") (.type "tuple")=some false:=by rfl
 have k5:PySem.W.kitOne K (.type "list") (.type "list")=some true:=by rfl
 have k6:PySem.W.kitOne K (.type "tuple") (.type "bool")=some false:=by rfl
 have k7:PySem.W.kitOne K (.type "tuple") (.type "int")=some false:=by rfl
 have k8:PySem.W.kitOne K (.type "tuple") (.type "tuple")=some true:=by rfl
 rcases al.cases with ⟨b,rfl,rfl⟩ | ⟨i,rfl,rfl⟩ | ⟨m',rfl,a,b,xs,ys,rfl,rfl,⟨hA,hB⟩ | ⟨hA,hB⟩,l1,pr⟩
 ·refine ⟨_,rfl,_,_,_,_,_,rfl,rfl,TyOf.bl _,k1,_,rfl,iteT ?_⟩
  refine ⟨_,rfl,_,_,_,_,_,rfl,rfl,TyOf.bl _,k1,_,rfl,iteT ⟨_,rfl,_,rfl,rfl,?_⟩⟩
  rw [decide_eq_true rfl]
  exact q
 ·refine ⟨_,rfl,_,_,_,_,_,rfl,rfl,TyOf.int _,a1Q,_,rfl,iteF ?_⟩
  refine ⟨_,rfl,_,_,_,_,_,rfl,rfl,TyOf.int _,a1W,_,rfl,iteT ?_⟩
  refine ⟨_,rfl,_,_,_,_,_,rfl,rfl,TyOf.int _,a1W,_,rfl,iteT ?_⟩
  refine ⟨_,rfl,_,_,_,_,_,rfl,rfl,TyOf.int _,a1Q,_,rfl,_,rfl,iteT ⟨_,rfl,_,rfl,rfl,?_⟩⟩
  rw [decide_eq_true rfl]
  exact q
 ·have lp:=Paired.length pr
  refine ⟨_,rfl,_,_,_,_,_,rfl,rfl,TyOf.lst hB,k2,_,rfl,iteF ?_⟩
  refine ⟨_,rfl,_,_,_,_,_,rfl,rfl,TyOf.lst hB,k3,_,rfl,iteF ?_⟩
  refine ⟨λ σ' H'=>σ'=[some (.ref a),some (.ref b),none]/\H'=H,?_,?_⟩
  ·refine ⟨_,rfl,_,_,_,_,_,rfl,rfl,TyOf.lst hB,k4,_,rfl,iteF ?_⟩
   exact ⟨_,rfl,_,_,_,_,_,rfl,rfl,TyOf.lst hA,k5,_,rfl,iteF ⟨rfl,rfl⟩⟩
  rintro σ H1 ⟨rfl,rfl⟩
  refine ⟨_,rfl,a,_,rfl,.inl (SqL.of hA),_,rfl,b,_,rfl,.inl (SqL.of hB),rfl,_,rfl,?_⟩
  rw [lp,decide_eq_true rfl]
  refine iteF ⟨_,rfl,b,_,rfl,.inl (SqL.of hB),_,rfl,by omega,by omega,?_⟩
  rw [Int.toNat_natCast]
  refine a1P (n:=ys.length) (λ i σ H'=>(∃ kk:Option V,σ=[some (.ref a),some (.ref b),kk])/\H'=H1) ⟨⟨none,rfl⟩,rfl⟩ ?_ ?_
  ·rintro i σ H2 hi ⟨⟨kk,rfl⟩,rfl⟩
   have ei:(0:Int)+(i:Int)=((i:Nat):Int):=by omega
   rw [ei]
   have hx:xs[i]?=some (xs[i]'(by omega)):=List.getElem?_eq_getElem (by omega)
   obtain ⟨y,hy,py⟩:=paired_get pr hx
   exact ⟨_,rfl,_,rfl,.inl ⟨a,_,_,_,rfl,rfl,SqL.of hA,a2I hx,_,rfl,_,rfl,.inl ⟨b,_,_,_,rfl,rfl,SqL.of hB,a2I hy,_,_,m',by omega,rfl,py,_,rfl,iteF ⟨⟨_,rfl⟩,rfl⟩⟩⟩⟩
  ·rintro σ H2 ⟨⟨kk,rfl⟩,rfl⟩
   exact q
 ·have lp:=Paired.length pr
  refine ⟨_,rfl,_,_,_,_,_,rfl,rfl,TyOf.tup hB,k6,_,rfl,iteF ?_⟩
  refine ⟨_,rfl,_,_,_,_,_,rfl,rfl,TyOf.tup hB,k7,_,rfl,iteF ?_⟩
  refine ⟨λ σ' H'=>σ'=[some (.ref a),some (.ref b),none]/\H'=H,?_,?_⟩
  ·refine ⟨_,rfl,_,_,_,_,_,rfl,rfl,TyOf.tup hB,k8,_,rfl,iteT ?_⟩
   exact ⟨_,rfl,_,_,_,_,_,rfl,rfl,TyOf.tup hA,k8,_,rfl,iteF ⟨rfl,rfl⟩⟩
  rintro σ H1 ⟨rfl,rfl⟩
  refine ⟨_,rfl,a,_,rfl,.inr (SqT.of hA),_,rfl,b,_,rfl,.inr (SqT.of hB),rfl,_,rfl,?_⟩
  rw [lp,decide_eq_true rfl]
  refine iteF ⟨_,rfl,b,_,rfl,.inr (SqT.of hB),_,rfl,by omega,by omega,?_⟩
  rw [Int.toNat_natCast]
  refine a1P (n:=ys.length) (λ i σ H'=>(∃ kk:Option V,σ=[some (.ref a),some (.ref b),kk])/\H'=H1) ⟨⟨none,rfl⟩,rfl⟩ ?_ ?_
  ·rintro i σ H2 hi ⟨⟨kk,rfl⟩,rfl⟩
   have ei:(0:Int)+(i:Int)=((i:Nat):Int):=by omega
   rw [ei]
   have hx:xs[i]?=some (xs[i]'(by omega)):=List.getElem?_eq_getElem (by omega)
   obtain ⟨y,hy,py⟩:=paired_get pr hx
   exact ⟨_,rfl,_,rfl,.inr ⟨a,_,_,_,rfl,rfl,SqT.of hA,a2I hx,_,rfl,_,rfl,.inr ⟨b,_,_,_,rfl,rfl,SqT.of hB,a2I hy,_,_,m',by omega,rfl,py,_,rfl,iteF ⟨⟨_,rfl⟩,rfl⟩⟩⟩⟩
  ·rintro σ H2 ⟨⟨kk,rfl⟩,rfl⟩
   exact q
theorem a7N (B:Bl mg) (dZ0:DZ0 K mg):∀ m:Nat,FnOk P w K mg base CX0 (m+1) dZ0.f dZ0.fd ["_law_found", "_law_due"] (a2Y m)
 | 0=>b0M dZ0
 | m+1=>b0N B dZ0 m (a7N B dZ0 m)
end
end K
namespace K
open PySem L2 Lw Bg
abbrev b4F:Stmt:=top 18
theorem sc_law:FnScope ["_law_script", "_law_n", "_law_ties_here", "_law_pairs_here", "_law_handed", "_law_found", "_law_other"] ["_law_script"] (a0D b4F):=⟨rfl,rfl,rfl,by decide +kernel,rfl,by decide +kernel,by decide +kernel⟩
theorem FnOk.calm {P:Program} {w:World} {K:Φρ} {mg:Str->Option Value} {base:Heap} {k:Nat} {f:Addr} {fd:FuncData} {ps:List Str} {sp:Sp} (F:FnOk P w K mg base (CXE P w) k f fd ps sp):FnOk P w K mg base CX0 k f fd ps (λ vs H Q _=>sp vs H Q (λ _ _ _=>False)) :=
 ⟨λ vs H Q E h=>F.len vs H Q _ h,λ A outer s H args us vs Q E hr he hb hv hs=>codeAny_mono (F.run A outer s H args us vs Q (λ _ _ _=>False) hr he hb hv hs) λ r s' hq=>by
  cases r with
  | ok o=>cases o <;> exact hq
  | error e =>
   obtain ⟨_,_,_,_,_,_,_,_,_,_,_,_,_,hE⟩:=hq
   exact hE.elim⟩
theorem a7O:∀ {l m:List ζζ},l.Pairwise lexS->m.Pairwise lexS->(∀ t,t∈l↔t∈m)->l=m
 | [],[],_,_,_=>rfl
 | [],b::m,_,_,h=>absurd ((h b).mpr List.mem_cons_self) List.not_mem_nil
 | a::l,[],_,_,h=>absurd ((h a).mp List.mem_cons_self) List.not_mem_nil
 | a::l,b::m,p,q,h=>by
  obtain ⟨p1,p2⟩:=List.pairwise_cons.mp p
  obtain ⟨q1,q2⟩:=List.pairwise_cons.mp q
  have e:a=b:=by
   rcases List.mem_cons.mp ((h a).mp List.mem_cons_self) with z | z
   ·exact z
   ·rcases List.mem_cons.mp ((h b).mpr List.mem_cons_self) with y | y
    ·exact y.symm
    ·have h1:=q1 a z
     have h2:=p1 b y
     unfold lexS at h1 h2
     omega
  subst e
  rw [a7O p2 q2 λ t=>?_]
  constructor
  ·intro ht
   rcases List.mem_cons.mp ((h t).mp (List.mem_cons_of_mem _ ht)) with z | z
   ·have:=p1 t ht
    rw [z] at this
    unfold lexS at this
    omega
   ·exact z
  ·intro ht
   rcases List.mem_cons.mp ((h t).mpr (List.mem_cons_of_mem _ ht)) with z | z
   ·have:=q1 t ht
    rw [z] at this
    unfold lexS at this
    omega
   ·exact z
theorem alG {H:Hp} {p r p' t:Addr} {n:Int} {zs xs:List V} {us:List ζζ} (h1:H p=some (.tup [.int n,.ref r])) (h2:H r=some (.lst zs)) (h3:Paired (TieL H) zs us) (g1:H p'=some (.tup [.int n,.ref t])) (g2:H t=some (.lst xs)) (g3:Paired (TieL H) xs us) (l:us.length<=1000):AlV H 3 (.ref p) (.ref p'):=by
 have lz:=Paired.length h3
 refine .inr (.inr ⟨p,p',_,_,rfl,rfl,.inr ⟨h1,g1⟩,by show 2<=1000; decide,.cons (.inr (.inl ⟨n,rfl,rfl⟩)) (.cons (.inr (.inr ⟨r,t,zs,xs,rfl,rfl,.inl ⟨h2,g2⟩,by omega,?_⟩)) .nil)⟩)
 clear h1 h2 g1 g2 lz l
 induction h3 generalizing xs with
 | nil=>cases g3; exact .nil
 | cons a _ ih =>
  cases g3 with
  | cons b g3 =>
   obtain ⟨q,e,hq⟩:=a
   obtain ⟨q',e',hq'⟩:=b
   refine .cons ?_ (ih g3)
   exact .inr (.inr ⟨q,q',_,_,e,e',.inr ⟨hq,hq'⟩,by show 2<=1000; decide,.cons (.inr ⟨_,rfl,rfl⟩) (.cons (.inr ⟨_,rfl,rfl⟩) .nil)⟩)
theorem a6P {n:Nat} {ts:List ζζ} (W:Web n ts) {u:Int × Int} (h:∃ t∈ts,Eith u t):pvF n u=0/\mmF u∈ts:=by
 obtain ⟨t,ht,e⟩:=h
 have o:=W.ok t ht
 have key:∀ u:Int × Int,Eith u t->mmF u=t:=λ u e=>by
  unfold mmF
  rcases e with rfl | rfl
  ·exact Prod.ext (by show min u.1 u.2=u.1; omega) (by show max u.1 u.2=u.2; omega)
  ·exact Prod.ext (by show min t.2 t.1=t.1; omega) (by show max t.2 t.1=t.2; omega)
 refine ⟨?_,by rw [key u e]; exact ht⟩
 have b:∀ z:Int,0<=z->z < n->a1B n (some z)=true:=λ z h1 h2=>by unfold a1B; exact decide_eq_true ⟨h1,h2⟩
 unfold pvF
 rcases e with rfl | rfl
 ·rw [b _ (by omega) (by omega),b _ (by omega) (by omega),if_neg (by decide),if_neg (by omega)]
 ·dsimp only
  rw [b _ (by omega) (by omega),b _ (by omega) (by omega),if_neg (by decide),if_neg (by omega)]
theorem a4X {n:Nat} {ts ps us:List ζζ} (W:Web n ts) (h1:∀ u∈ps,∃ t∈ts,Eith u t) (h2:∀ t∈ts,∃ u∈ps,Eith u t) (up:us.Pairwise lexS) (mem:∀ t,t∈us↔t∈ps.map mmF):us=ts:=by
 refine a7O up W.up λ t=>?_
 rw [mem]
 constructor
 ·intro h
  obtain ⟨u,hu,rfl⟩:=List.mem_map.mp h
  exact (a6P W (h1 u hu)).2
 ·intro h
  obtain ⟨u,hu,e⟩:=h2 t h
  refine List.mem_map.mpr ⟨u,hu,?_⟩
  have o:=W.ok t h
  unfold mmF
  rcases e with rfl | rfl
  ·exact Prod.ext (by show min u.1 u.2=u.1; omega) (by show max u.1 u.2=u.2; omega)
  ·exact Prod.ext (by show min t.2 t.1=t.1; omega) (by show max t.2 t.1=t.2; omega)
section
variable {P:Program} {w:World} {K:Φρ} {mg:Str->Option Value} {base:Heap}
set_option maxHeartbeats 16000000 in
theorem b7N (B:Bl mg) (C:Cl K mg) (Ct:Cts mg) (dZ7:DZ7 K mg) (dZ6:DZ6 K mg) (dZ9:DZ9 K mg) (dZ5:DZ5 K mg) (dZ1:DZ1 K mg) (dZ2:DZ2 K mg) (dZ4:DZ4 K mg) (dZ3:DZ3 K mg) (dZ0:DZ0 K mg) (dZ8:Dn K mg "law" b4F ["_law_script"]):FnOk P w K mg base CX0 7 dZ8.f dZ8.fd ["_law_script"] (spLaw K):=by
 have gZ1:FnOk P w K mg base CX0 6 _ _ _ _:=(a6O B dZ1).mono (by decide)
 have gZ4:FnOk P w K mg base CX0 6 _ _ _ _:=(a5Y B dZ1 dZ2 dZ4).mono (by decide)
 have gZ3:FnOk P w K mg base CX0 6 _ _ _ _:=(a4W B dZ1 dZ2 dZ3).mono (by decide)
 have gZ0:FnOk P w K mg base CX0 6 _ _ _ _:=(a7N B dZ0 4).mono (by decide)
 have gZ5:FnOk P w K mg base CX0 6 _ _ _ _:=(FnOk.calm (b0K B Ct C dZ7 dZ6 dZ9 dZ5)).mono (by decide)
 refine dZ8.F.ok sc_law (λ vs H Q E h=>?_) (λ cdv A outer s H vs Q E hr h=>?_)
 ·obtain ⟨a,ns,rfl,_⟩:=h
  rfl
 obtain ⟨a,ns,rfl,hScr,h63,q⟩:=h
 have hS:=hScr.seq
 have hu:(A.deeper (PyProof.Rows.envOfC "law" (a0D b4F) s.heap.objs.size dZ8.f cdv)).units+64 < cLine:=by have:=hr.un; omega
 refine ⟨_,(a0E (a0Y (i:=1) sc_law.nd rfl (Or.inl rfl) (a0K a1D (a0G gZ1 hr rfl dZ1.m dZ1.F.kp dZ1.b .nil a0X (a0A (pv 0) (a0A a0C a0B))) a0C))
   (a0E (a0Y (i:=2) sc_law.nd rfl (Or.inl rfl) (a0G gZ4 hr rfl dZ4.m dZ4.F.kp dZ4.b .nil a0X (a0A (pv 0) (a0A a0C (a0A (pv 1) a0B)))))
   (a0E (a0Y (i:=3) sc_law.nd rfl (Or.inl rfl) (a0G gZ3 hr rfl dZ3.m dZ3.F.kp dZ3.b .nil a0X (a0A (pv 0) (a0A (pv 2) a0B))))
   (a0E (a0Y (i:=4) sc_law.nd rfl (Or.inl rfl) (a3B (a3Y (K:=K) rfl) rfl B.list (by decide +kernel) (a0A (pv 3) a0B)))
   (a0E (a0Y (i:=5) sc_law.nd rfl (Or.inl rfl) (a0G gZ5 hr rfl dZ5.m dZ5.F.kp dZ5.b .nil a0X (a0A (pv 1) (a0A (pv 4) a0B))))
   (a0E (a1G (PW.pt (b4M (a2C (a0Q (K:=K) rfl (a0G gZ0 hr rfl dZ0.m dZ0.F.kp dZ0.b .nil a0X (a0A (pv 5) (a0A (a0V (a0A (pv 1) (a0A (pv 2) a0B))) a0B))) (λ _=>rfl))) (b1Q (a0T (b2M (K:=K) rfl hu) (pv 4) (pv 3) (a1A _)))))
   (a0F (a0W a4Y))
   a0N)
   (a0E (a1O (a3G (K:=K) rfl PySem.F.plainAttrs_list PySem.F.slot_list_append PySem.F.type_list_append a1C (pv 4) (a0A (a0V (a0A a0C (a0A (pv 1) a0B))) a0B)))
   (a0E (a0Y (i:=6) sc_law.nd rfl (Or.inl rfl) (a0G gZ5 hr rfl dZ5.m dZ5.F.kp dZ5.b .nil a0X (a0A (pv 1) (a0A (pv 3) a0B))))
   (a0E (a1G (a2C (a0Q (K:=K) rfl (a0G gZ0 hr rfl dZ0.m dZ0.F.kp dZ0.b .nil a0X (a0A (pv 6) (a0A (a0V (a0A (pv 1) (a0A (pv 2) a0B))) a0B))) (λ _=>rfl)))
   (a0F (a0W a4Y))
   a0N)
   (a0E (a1O (a3G (K:=K) rfl PySem.F.plainAttrs_list PySem.F.slot_list_append PySem.F.type_list_append a1C (a5F (a3F (K:=K) rfl) (pv 6) a0C (λ _ _=>rfl)) (a0A (a0V (a0A (pv 1) (a0A (pv 1) a0B))) a0B)))
   (a0E (a1O (b2O (K:=K) rfl PySem.F.plainAttrs_list PySem.F.slot_list_clear PySem.F.type_list_clear a8Y (pv 4)))
   (a0E (a1G (a2C (a0Q (K:=K) rfl (a0G gZ0 hr rfl dZ0.m dZ0.F.kp dZ0.b .nil a0X (a0A (a0G gZ5 hr rfl dZ5.m dZ5.F.kp dZ5.b .nil a0X (a0A (pv 1) (a0A (pv 4) a0B))) (a0A (a0V (a0A (pv 1) (a0A (a6E a0B) a0B))) a0B))) (λ _=>rfl)))
   (a0F (a0W a4Y))
   a0N)
   (a0F (a0W (a3T (a0G gZ0 hr rfl dZ0.m dZ0.F.kp dZ0.b .nil a0X (a0A (pv 5) (a0A (a0V (a0A (pv 1) (a0A (pv 2) a0B))) a0B))) (a5A (a0G gZ0 hr rfl dZ0.m dZ0.F.kp dZ0.b .nil a0X (a0A (a0G gZ5 hr rfl dZ5.m dZ5.F.kp dZ5.b .nil a0X (a0A (pv 1) (a0A (a3B (a3Y (K:=K) rfl) rfl B.list (by decide +kernel) (a0A (pv 2) a0B)) a0B))) (a0A (a0V (a0A (pv 1) (a0A (pv 2) a0B))) a0B))))))))))))))))))),?_⟩
 refine ⟨_,rfl,a,ns,0,rfl,hS,h63,by decide,by decide,_,_,rfl,rfl,(show (0:Int) < 11 by decide),?_⟩
 obtain ⟨n,en⟩:∃ n:Nat,a2F ns 0 % 11=(n:Int):=⟨(a2F ns 0 % 11).toNat,by omega⟩
 have n10:n<=10:=by omega
 dsimp only
 rw [en]
 refine ⟨_,rfl,_,rfl,a,ns,1,n,rfl,hS,h63,by decide,by decide,n10,λ t xs ts H1 s1 f1 h1 p1 W _=>?_⟩
 have l45:=W.few n10
 refine ⟨_,rfl,_,rfl,a,t,ns,xs,ts,rfl,s1.seq hS,h63,h1,p1,l45,λ l ys ps H2 s2 h2 p2 l180 e1 e2=>?_⟩
 have ly:=Paired.length p2
 have lx:=Paired.length p1
 have z0:dueF n ps=0:=a2X λ u hu=>(a6P W (e1 u hu)).1
 refine ⟨_,rfl,l,_,rfl,.inl (SqL.of h2),λ p3 H3 n3=>?_⟩
 have s23:=n3.same
 have pV:∀ {H':Hp},Same H2 H'->Paired (TieV K H') ys ps:=λ s=>Paired.mapP p2 λ _ _ h=>(TieL.same s h).v
 refine ⟨_,rfl,_,rfl,n,p3,ys,ps,rfl,n10,SqL.of n3.here,pV s23,by omega,λ _ p4 r4 zs us H4 s4 f4 h4 h4r p4' up mem lz=>?_,λ z=>absurd (z0.symm.trans z) (by decide),λ z=>absurd (z0.symm.trans z) (by decide)⟩
 obtain rfl:us=ts:=a4X W e1 e2 up mem
 have s24:=s23.trans s4
 have s14:=s2.trans s24
 refine ⟨_,rfl,_,rfl,_,rfl,(by show 2<=1000; decide),λ p5 H5 n5=>?_⟩
 have s15:=s14.trans n5.same
 have s25:=s24.trans n5.same
 have pT:∀ {H':Hp},Same H1 H'->Paired (TieL H') xs us:=λ s=>Paired.mapP p1 λ _ _ h=>TieL.same s h
 refine ⟨_,_,3,by decide,rfl,alG (n5.same _ _ h4) (n5.same _ _ h4r) (Paired.mapP p4' λ _ _ h=>TieL.same n5.same h) n5.here (s15 _ _ h1) (pT s15) (by omega),?_⟩
 refine ⟨_,rfl,?_⟩
 have hA:TiesAt K H5 p3 ps:=⟨ys,SqL.of (n5.same _ _ (s4 _ _ n3.here)),pV s25,by omega⟩
 have hB:TiesAt K H5 l ps:=⟨ys,SqL.of (s25 _ _ h2),pV s25,by omega⟩
 refine iteF ⟨_,rfl,_,rfl,a9B ps,a9B ps,hA.isD,hB.isD,a1Y _,a1Y _,_,rfl,?_⟩
 rw [if_pos rfl,b0U (a1Y _)]
 refine iteF ?_
 have h3:=n5.same _ _ (s4 _ _ n3.here)
 have n43:p4≠p3:=λ e=>by rw [e,s4 _ _ n3.here] at h4; cases h4
 have nr3:r4≠p3:=λ e=>by rw [e,n3.here] at f4; cases f4
 refine ⟨_,rfl,.inl ⟨rfl,_,SqL.of h3⟩,_,rfl,(by show 2<=1000; decide),λ p6 H6 n6=>?_⟩
 refine ⟨p3,_,_,rfl,rfl,n6.same _ _ h3,by omega,λ H7 c7=>?_⟩
 have h36:=n6.same _ _ h3
 have s27:=(s25.trans n6.same).chg n3.fresh c7
 have s17:=s2.trans s27
 have s46:=n5.same.trans n6.same
 have a7:H7 p4=_:=(c7.rest p4 n43).trans (s46 _ _ h4)
 have b7:H7 r4=_:=(c7.rest r4 nr3).trans (s46 _ _ h4r)
 have d7:Paired (TieL H7) zs us:=Paired.mapP p4' λ _ _ h=>TieL.chg h36 c7 (TieL.same s46 h)
 refine ⟨_,rfl,_,rfl,n,l,ys,ps,rfl,n10,SqL.of (s27 _ _ h2),pV s27,by omega,λ _ p8 r8 zs8 us8 H8 s8 f8 h8 h8r p8' up8 mem8 lz8=>?_,λ z=>absurd (z0.symm.trans z) (by decide),λ z=>absurd (z0.symm.trans z) (by decide)⟩
 obtain rfl:us8=us:=a4X W e1 e2 up8 mem8
 refine ⟨_,rfl,_,rfl,_,rfl,(by show 2<=1000; decide),λ p9 H9 n9=>?_⟩
 have s19:=s17.trans (s8.trans n9.same)
 refine ⟨_,_,3,by decide,rfl,alG (n9.same _ _ h8) (n9.same _ _ h8r) (Paired.mapP p8' λ _ _ h=>TieL.same n9.same h) n9.here (s19 _ _ h1) (pT s19) (by omega),_,rfl,iteF ?_⟩
 have h89:=n9.same _ _ h8
 have h89r:=n9.same _ _ h8r
 have lz8':=Paired.length p8'
 refine ⟨_,rfl,p8,_,_,_,rfl,rfl,SqT.of h89,rfl,.inl ⟨rfl,_,SqL.of h89r⟩,_,rfl,_,rfl,(by show 2<=1000; decide),λ p10 H10 m10=>?_⟩
 refine ⟨r8,_,_,rfl,rfl,m10.same _ _ h89r,by omega,λ H11 c11=>?_⟩
 have s711:Same H7 H11:=(s8.trans (n9.same.trans m10.same)).chg f8 c11
 have h311:=s711 _ _ c7.here
 refine ⟨_,rfl,.inl ⟨rfl,_,SqL.of h311⟩,p3,_,rfl,rfl,h311,λ H12 c12=>?_⟩
 have s212:Same H2 H12:=(s27.trans s711).chg n3.fresh c12
 have s112:=s2.trans s212
 have a12:H12 p4=_:=(c12.rest p4 n43).trans (s711 _ _ a7)
 have b12:H12 r4=_:=(c12.rest r4 nr3).trans (s711 _ _ b7)
 have d12:Paired (TieL H12) zs us8:=Paired.mapP d7 λ _ _ h=>TieL.chg h311 c12 (TieL.same s711 h)
 refine ⟨_,rfl,_,rfl,n,p3,[],[],rfl,n10,SqL.of c12.here,.nil,by decide,λ _ p13 r13 zs13 us13 H13 s13 f13 h13 h13r p13' up13 mem13 lz13=>?_,λ z=>absurd (show (0:Nat)=1 from z) (by decide),λ z=>absurd (show (0:Nat)=2 from z) (by decide)⟩
 obtain rfl:us13=[]:=List.eq_nil_iff_forall_not_mem.mpr λ t ht=>absurd ((mem13 t).mp ht) List.not_mem_nil
 cases p13'
 refine ⟨_,rfl,(by show 0<=1000; decide),λ p14 H14 n14=>⟨(by show 2<=1000; decide),λ p15 H15 n15=>?_⟩⟩
 have s1315:=n14.same.trans n15.same
 refine ⟨_,_,3,by decide,rfl,alG (us:=[]) (s1315 _ _ h13) (s1315 _ _ h13r) .nil n15.here (n15.same _ _ n14.here) .nil (by decide),_,rfl,iteF ?_⟩
 have s1215:=s13.trans s1315
 refine ⟨_,rfl,_,rfl,_,rfl,(by show 2<=1000; decide),λ p16 H16 n16=>?_⟩
 have s1216:=s1215.trans n16.same
 have s116:=s112.trans s1216
 refine ⟨_,_,3,by decide,rfl,alG (s1216 _ _ a12) (s1216 _ _ b12) (Paired.mapP d12 λ _ _ h=>TieL.same s1216 h) n16.here (s116 _ _ h1) (pT s116) (by omega),?_⟩
 refine ⟨_,rfl,iteT ?_⟩
 refine ⟨_,rfl,_,rfl,t,_,rfl,.inl (SqL.of (s116 _ _ h1)),λ p17 H17 n17=>?_⟩
 have s117:=s116.trans n17.same
 have y0:dueF n us8=0:=a2X λ u hu=>(a6P W ⟨u,hu,.inl rfl⟩).1
 refine ⟨n,p17,xs,us8,rfl,n10,SqL.of n17.here,Paired.mapP (pT s117) λ _ _ h=>h.v,by omega,λ _ p18 r18 zs18 us18 H18 s18 f18 h18 h18r p18' up18 mem18 lz18=>?_,λ z=>absurd (y0.symm.trans z) (by decide),λ z=>absurd (y0.symm.trans z) (by decide)⟩
 obtain rfl:us18=us8:=a4X W (λ u hu=>⟨u,hu,.inl rfl⟩) (λ u hu=>⟨u,hu,.inl rfl⟩) up18 mem18
 refine ⟨_,rfl,_,rfl,(by show 2<=1000; decide),λ p19 H19 n19=>?_⟩
 have s119:=s117.trans (s18.trans n19.same)
 exact ⟨_,_,3,by decide,rfl,alG (n19.same _ _ h18) (n19.same _ _ h18r) (Paired.mapP p18' λ _ _ h=>TieL.same n19.same h) n19.here (s119 _ _ h1) (pT s119) (by omega),q _⟩
end
end K
namespace L2
open PySem PySem.Spec PyProof.Rows
theorem us1 {A:Type} {us:List A} {P:List A->Prop} (h:us.length=1) (f:∀ a,P [a]):P us:=by
 match us,h with
 | [a],_=>exact f a
theorem us2 {A:Type} {us:List A} {P:List A->Prop} (h:us.length=2) (f:∀ a b,P [a,b]):P us:=by
 match us,h with
 | [a,b],_=>exact f a b
theorem us3 {A:Type} {us:List A} {P:List A->Prop} (h:us.length=3) (f:∀ a b c,P [a,b,c]):P us:=by
 match us,h with
 | [a,b,c],_=>exact f a b c
theorem dn_mk1 {K:Φρ} {h:Heap} {mg:Str->Option Value} {x:Str} {st:Stmt} {ps:List Str} {f:Addr} {oc:Value} {od an:Option Addr} {osl:Array (Option Value)} {kV doc pm cdv ct:Value} (X:K.In h) (G:h.Ns mainGlobals mg)
  (a:PySem.W.nsIn K mainGlobals x=some (some (.ref f))) (l:K.lookup f=some ⟨oc,od,.func (PySem.W.fnOf x x (a0U st) (a0S st) (a0D st) .none kV doc pm an cdv ct),osl⟩) (c:PySem.W.codeIn K cdv x=true) (k:PySem.W.keepIn K (.ref f)=true)
  (hp:ps.length=1)
  (hb:∀ (kV doc pm:Value) (an:Option Addr) (cdv ct:Value) (u0:Value),bindArgs (PySem.W.fnOf x x (a0U st) (a0S st) (a0D st) .none kV doc pm an cdv ct) ⟨[u0],[]⟩=pure (ps.zip [u0])) :
  Nonempty (Dn K mg x st ps) :=
 b2P X G a l c k λ kV doc pm an cdv ct us hl=>us1 (P:=λ us=>bindArgs (PySem.W.fnOf x x (a0U st) (a0S st) (a0D st) .none kV doc pm an cdv ct) ⟨us,[]⟩=pure (ps.zip us)) (hl.trans hp) λ u0=>hb kV doc pm an cdv ct u0
theorem dn_mk2 {K:Φρ} {h:Heap} {mg:Str->Option Value} {x:Str} {st:Stmt} {ps:List Str} {f:Addr} {oc:Value} {od an:Option Addr} {osl:Array (Option Value)} {kV doc pm cdv ct:Value} (X:K.In h) (G:h.Ns mainGlobals mg)
  (a:PySem.W.nsIn K mainGlobals x=some (some (.ref f))) (l:K.lookup f=some ⟨oc,od,.func (PySem.W.fnOf x x (a0U st) (a0S st) (a0D st) .none kV doc pm an cdv ct),osl⟩) (c:PySem.W.codeIn K cdv x=true) (k:PySem.W.keepIn K (.ref f)=true)
  (hp:ps.length=2)
  (hb:∀ (kV doc pm:Value) (an:Option Addr) (cdv ct:Value) (u0 u1:Value),bindArgs (PySem.W.fnOf x x (a0U st) (a0S st) (a0D st) .none kV doc pm an cdv ct) ⟨[u0,u1],[]⟩=pure (ps.zip [u0,u1])) :
  Nonempty (Dn K mg x st ps) :=
 b2P X G a l c k λ kV doc pm an cdv ct us hl=>us2 (P:=λ us=>bindArgs (PySem.W.fnOf x x (a0U st) (a0S st) (a0D st) .none kV doc pm an cdv ct) ⟨us,[]⟩=pure (ps.zip us)) (hl.trans hp) λ u0 u1=>hb kV doc pm an cdv ct u0 u1
theorem dn_mk3 {K:Φρ} {h:Heap} {mg:Str->Option Value} {x:Str} {st:Stmt} {ps:List Str} {f:Addr} {oc:Value} {od an:Option Addr} {osl:Array (Option Value)} {kV doc pm cdv ct:Value} (X:K.In h) (G:h.Ns mainGlobals mg)
  (a:PySem.W.nsIn K mainGlobals x=some (some (.ref f))) (l:K.lookup f=some ⟨oc,od,.func (PySem.W.fnOf x x (a0U st) (a0S st) (a0D st) .none kV doc pm an cdv ct),osl⟩) (c:PySem.W.codeIn K cdv x=true) (k:PySem.W.keepIn K (.ref f)=true)
  (hp:ps.length=3)
  (hb:∀ (kV doc pm:Value) (an:Option Addr) (cdv ct:Value) (u0 u1 u2:Value),bindArgs (PySem.W.fnOf x x (a0U st) (a0S st) (a0D st) .none kV doc pm an cdv ct) ⟨[u0,u1,u2],[]⟩=pure (ps.zip [u0,u1,u2])) :
  Nonempty (Dn K mg x st ps) :=
 b2P X G a l c k λ kV doc pm an cdv ct us hl=>us3 (P:=λ us=>bindArgs (PySem.W.fnOf x x (a0U st) (a0S st) (a0D st) .none kV doc pm an cdv ct) ⟨us,[]⟩=pure (ps.zip us)) (hl.trans hp) λ u0 u1 u2=>hb kV doc pm an cdv ct u0 u1 u2
end L2
open PySem PySem.W PyProof.Rows
def PySem.W.Fast.tw2300883910649080439 : Unit := ()
def PySem.W.Fast.tw4369360824320256910 : Unit := ()
def PySem.W.Fast.tw3649046211298730881 : Unit := ()
def PySem.W.Fast.tw14390287928825702108 : Unit := ()
def PySem.W.Fast.tw14869645484197881427 : Unit := ()
def PySem.W.Fast.tw12675123001732835176 : Unit := ()
def PySem.W.Fast.tw6277578603320487968 : Unit := ()
def PySem.W.Fast.tw1444576365290606117 : Unit := ()
def PySem.W.Fast.tw3196456585497556192 : Unit := ()
def PySem.W.Fast.tw814767437480032513 : Unit := ()
set_option maxRecDepth 100000 in
set_option maxHeartbeats 0 in
theorem PySem.Challenge.cw_bagwood_k04_a_graph_of_pairs_holds : PySem.Challenge.rw_bagwood_k04_a_graph_of_pairs.Holds := by
 w_on; o_law; k_head; (case hw => w_witness2)
 k_fill
 refine L2.walk_ofK (l := PySem.Challenge.rw_bagwood_k04_a_graph_of_pairs) (n := 63) (k := 7) (x := "_law_script") (CX := L2.CX0) (sp := Lw.spLaw) rfl (by decide) rfl ⟨rfl, by decide, by decide⟩ (fun w h Y => PySem.W.kIn_of Y) ?F ?S ?C
 case F =>
  intro w mg fa h KX G hmg
  have B : L2.Bl mg := by
   refine' L2.bl_mk KX G ?z1 ?z2 ?z3 ?z4 ?z5 ?z6 ?z7 ?z8 ?z9 ?z10 ?z11 ?z12 ?z13 ?z14 ?z15 ?z16 ?z17
   all_goals k_is
  have dZ7 : Nonempty (L2.Dn (L2.KOf KX) mg "is_whole" K.a4F ["thing"]) := by
   dsimp only [L2.KOf]
   refine' L2.dn_mk1 KX G ?a ?l ?c ?k rfl (fun _ _ _ _ _ _ _ => rfl)
   (case a => k_is); (case l => k_is); (case c => k_is); (case k => k_is)
  obtain ⟨dZ7⟩ := dZ7
  have dZ6 : Nonempty (L2.Dn (L2.KOf KX) mg "is_below" K.a4G ["n", "thing"]) := by
   dsimp only [L2.KOf]
   refine' L2.dn_mk2 KX G ?a ?l ?c ?k rfl (fun _ _ _ _ _ _ _ _ => rfl)
   (case a => k_is); (case l => k_is); (case c => k_is); (case k => k_is)
  obtain ⟨dZ6⟩ := dZ6
  have dZ9 : Nonempty (L2.Dn (L2.KOf KX) mg "tie_of" K.a7L ["n", "a", "b"]) := by
   dsimp only [L2.KOf]
   refine' L2.dn_mk3 KX G ?a ?l ?c ?k rfl (fun _ _ _ _ _ _ _ _ _ => rfl)
   (case a => k_is); (case l => k_is); (case c => k_is); (case k => k_is)
  obtain ⟨dZ9⟩ := dZ9
  have dZ5 : Nonempty (L2.Dn (L2.KOf KX) mg "graph" K.a6N ["n", "pairs"]) := by
   dsimp only [L2.KOf]
   refine' L2.dn_mk2 KX G ?a ?l ?c ?k rfl (fun _ _ _ _ _ _ _ _ => rfl)
   (case a => k_is); (case l => k_is); (case c => k_is); (case k => k_is)
  obtain ⟨dZ5⟩ := dZ5
  have dZ1 : Nonempty (L2.Dn (L2.KOf KX) mg "_law_cell" K.a2A ["_law_script", "_law_k"]) := by
   dsimp only [L2.KOf]
   refine' L2.dn_mk2 KX G ?a ?l ?c ?k rfl (fun _ _ _ _ _ _ _ _ => rfl)
   (case a => k_is); (case l => k_is); (case c => k_is); (case k => k_is)
  obtain ⟨dZ1⟩ := dZ1
  have dZ2 : Nonempty (L2.Dn (L2.KOf KX) mg "_law_mixed" K.a1S ["_law_cell_here", "_law_many"]) := by
   dsimp only [L2.KOf]
   refine' L2.dn_mk2 KX G ?a ?l ?c ?k rfl (fun _ _ _ _ _ _ _ _ => rfl)
   (case a => k_is); (case l => k_is); (case c => k_is); (case k => k_is)
  obtain ⟨dZ2⟩ := dZ2
  have dZ4 : Nonempty (L2.Dn (L2.KOf KX) mg "_law_ties" K.a3S ["_law_script", "_law_at", "_law_n"]) := by
   dsimp only [L2.KOf]
   refine' L2.dn_mk3 KX G ?a ?l ?c ?k rfl (fun _ _ _ _ _ _ _ _ _ => rfl)
   (case a => k_is); (case l => k_is); (case c => k_is); (case k => k_is)
  obtain ⟨dZ4⟩ := dZ4
  have dZ3 : Nonempty (L2.Dn (L2.KOf KX) mg "_law_pairs" K.a2Q ["_law_script", "_law_ties_here"]) := by
   dsimp only [L2.KOf]
   refine' L2.dn_mk2 KX G ?a ?l ?c ?k rfl (fun _ _ _ _ _ _ _ _ => rfl)
   (case a => k_is); (case l => k_is); (case c => k_is); (case k => k_is)
  obtain ⟨dZ3⟩ := dZ3
  have dZ0 : Nonempty (L2.Dn (L2.KOf KX) mg "_law_alike" K.a2R ["_law_found", "_law_due"]) := by
   dsimp only [L2.KOf]
   refine' L2.dn_mk2 KX G ?a ?l ?c ?k rfl (fun _ _ _ _ _ _ _ _ => rfl)
   (case a => k_is); (case l => k_is); (case c => k_is); (case k => k_is)
  obtain ⟨dZ0⟩ := dZ0
  have dZ8 : Nonempty (L2.Dn (L2.KOf KX) mg "law" K.b4F ["_law_script"]) := by
   dsimp only [L2.KOf]
   refine' L2.dn_mk1 KX G ?a ?l ?c ?k rfl (fun _ _ _ _ _ _ _ => rfl)
   (case a => k_is); (case l => k_is); (case c => k_is); (case k => k_is)
  obtain ⟨dZ8⟩ := dZ8
  have Cn : Nonempty (K.Cl (L2.KOf KX) mg) := by
   dsimp only [L2.KOf]
   refine' K.b7O KX G ?aBagError ?aNoGraph ?aNoPlace ?aNoTie ⟨?gNoGraph1, ?gNoGraph2, ?gNoGraph3, ?gNoGraph4, ?gNoGraph5, ?gNoGraph6, ?gNoGraph7, ?gNoGraph8⟩ ?vNoGraph ⟨?gNoPlace1, ?gNoPlace2, ?gNoPlace3, ?gNoPlace4, ?gNoPlace5, ?gNoPlace6, ?gNoPlace7, ?gNoPlace8⟩ ?vNoPlace ⟨?gNoTie1, ?gNoTie2, ?gNoTie3, ?gNoTie4, ?gNoTie5, ?gNoTie6, ?gNoTie7, ?gNoTie8⟩ ?vNoTie
   (case aBagError => k_is)
   (case aNoGraph => k_is)
   (case aNoPlace => k_is)
   (case aNoTie => k_is)
   (case gNoGraph1 => k_is)
   (case gNoGraph2 => k_is)
   (case gNoGraph3 => k_is)
   (case gNoGraph4 => k_is)
   (case gNoGraph5 => k_is)
   (case gNoGraph6 => k_is)
   (case gNoGraph7 => k_is)
   (case gNoGraph8 => kernel_rfl!)
   (case vNoGraph => kernel_rfl!)
   (case gNoPlace1 => k_is)
   (case gNoPlace2 => k_is)
   (case gNoPlace3 => k_is)
   (case gNoPlace4 => k_is)
   (case gNoPlace5 => k_is)
   (case gNoPlace6 => k_is)
   (case gNoPlace7 => k_is)
   (case gNoPlace8 => kernel_rfl!)
   (case vNoPlace => kernel_rfl!)
   (case gNoTie1 => k_is)
   (case gNoTie2 => k_is)
   (case gNoTie3 => k_is)
   (case gNoTie4 => k_is)
   (case gNoTie5 => k_is)
   (case gNoTie6 => k_is)
   (case gNoTie7 => k_is)
   (case gNoTie8 => kernel_rfl!)
   (case vNoTie => kernel_rfl!)
  obtain ⟨C⟩ := Cn
  have Ct : Nonempty (K.Cts mg) := by
   refine' K.b7M KX G ?aMOST_PLACES
   (case aMOST_PLACES => k_is)
  obtain ⟨Ct⟩ := Ct
  exact L2.law_at hmg dZ8 fun base => K.b7N B C Ct dZ7 dZ6 dZ9 dZ5 dZ1 dZ2 dZ4 dZ3 dZ0 dZ8
 case S => exact fun K H a ns hl hO hS => ⟨a, ns, rfl, Lw.Scr.of hO hS, hl, fun _ => rfl⟩
 case C => exact fun _ _ _ _ z => z
