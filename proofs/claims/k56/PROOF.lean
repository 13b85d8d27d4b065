import PyProof.Rows.All
import Wide.All
import OpenK.AllK
import Wide.FinOn
import Lean
import PyProof.EqAt
import PyProof.EqKinds
import PyProof.TupleCall
import PyProof.SetScanFacts
import PyProof.SetKind
import PyProof.DictKinds
import PyProof.FactsAll.set_0
import PyProof.FactsAll.set_1
import PyProof.FactsAll.set_2
import PyProof.FactsAll.set_3
import PyProof.FactsSeq
import PyProof.CollectWalk
import PyProof.ListRange
import PyProof.ZipIter
import PyProof.MeetsSeq
import PyProof.IsRules
import PyProof.Rows.ZipGen
import PyProof.SumWalkG
import PyProof.DictWalks
import PyProof.Rows.SortShell
import PyProof.Rows.SetFrom
import PyProof.SetRoads
import KE.KIntText
import KE.IntTextLaws
import PyProof.StrWalks
import PyProof.StrOps2
import PyProof.SliceStr2
import PyProof.PureStr
import PyProof.StrCalls3
import PyProof.Rows.StrMadeLen
import PyProof.StrLawsIn
import KE.KStateDown
import PyProof.Rows.Range3
import PySem.Challenge.RW_bagwood_k56_steps_refused
set_option Elab.async false
set_option linter.all false
set_option maxRecDepth 100000
local macro_rules | `(tactic| omega) => `(tactic| first | lia | omega (config := {}))
abbrev Φρ:=PySem.W.Frag
abbrev ζζ:=Int × Int
theorem τα {α:Type} {l:List α} {i:Nat} {a:α}:l.getD i a=l[i]?.getD a:=List.getD_eq_getElem?_getD ..
namespace L2
open PySem PySem.Spec PyProof.Rows
abbrev Key:=Sum Int Str
def b6B:Key->Value->Bool
 | .inl k,v=>Value.isInt k v
 | .inr x,v=>Value.isStrOf x v
def keyH (w:World):Key->Int
 | .inl k=>hashInt k
 | .inr x=>hashStr w x
theorem a1Y:∀ {k:Key} {v:Value},b6B k v=true->(∃ i t,k=Sum.inl i/\v=Value.int i t)\/(∃ x t,k=Sum.inr x/\v=Value.str x t)
 | .inl i,v,h=>by
  obtain ⟨t,e⟩:=Value.isInt_shape (k:=i) (v:=v) h
  exact .inl ⟨i,t,rfl,e⟩
 | .inr x,v,h=>by
  obtain ⟨t,e⟩:=Value.isStrOf_shape (x:=x) (v:=v) h
  exact .inr ⟨x,t,rfl,e⟩
theorem b7E (i:Int) (t:Tok):b6B (.inl i) (.int i t)=true:=by simp [b6B,Value.isInt]
theorem b7F (x:Str) (t:Tok):b6B (.inr x) (.str x t)=true:=by simp [b6B,Value.isStrOf]
theorem c7W (a b:Int):decide ((Sum.inl a:Key)=Sum.inl b)=(a == b):=by
 by_cases e:a=b
 ·subst e; simp
 ·have h:¬ (Sum.inl a:Key)=Sum.inl b:=λ q=>e (Sum.inl.inj q)
  rw [decide_eq_false h]
  exact (beq_eq_false_iff_ne.mpr e).symm
theorem c7X (a b:Str):decide ((Sum.inr a:Key)=Sum.inr b)=decide (a=b):=by
 by_cases e:a=b
 ·subst e; simp
 ·have h:¬ (Sum.inr a:Key)=Sum.inr b:=λ q=>e (Sum.inr.inj q)
  rw [decide_eq_false h,decide_eq_false e]
theorem c7Y (a:Int) (b:Str):decide ((Sum.inl a:Key)=Sum.inr b)=false:=decide_eq_false (λ q=>nomatch q)
theorem c7Z (a:Str) (b:Int):decide ((Sum.inr a:Key)=Sum.inl b)=false:=decide_eq_false (λ q=>nomatch q)
def a5G (prog:Program) (w:World):PySem.KeyKind prog w Key where
 is:=b6B
 hash:=keyH w
 inj:=λ v a b ha hb=>by
  rcases a1Y ha with ⟨i,t,rfl,rfl⟩ | ⟨x,t,rfl,rfl⟩
  ·rcases a1Y hb with ⟨j,u,rfl,e⟩ | ⟨y,u,rfl,e⟩
   ·injection e with e1 _; rw [e1]
   ·exact nomatch e
  ·rcases a1Y hb with ⟨j,u,rfl,e⟩ | ⟨y,u,rfl,e⟩
   ·exact nomatch e
   ·injection e with e1 _; rw [e1]
 byValue:=λ k v h=>by
  rcases a1Y h with ⟨i,t,rfl,rfl⟩ | ⟨x,t,rfl,rfl⟩ <;> rfl
 pyHash:=λ hv h=>by
  rcases a1Y hv with ⟨i,t,rfl,rfl⟩ | ⟨x,t,rfl,rfl⟩
  ·exact wpAny_pyHash_int h
  ·exact wpAny_pyHash_str h
 eqBool:=λ hu hv h=>by
  rcases a1Y hu with ⟨i,t,rfl,rfl⟩ | ⟨x,t,rfl,rfl⟩
  ·rcases a1Y hv with ⟨j,u,rfl,rfl⟩ | ⟨y,u,rfl,rfl⟩
   ·rw [c7W] at h; exact wpAny_eqBool_int h
   ·rw [c7Y] at h; exact SeqAt.EqAt.int_str i t y u _ _ _ _ h
  ·rcases a1Y hv with ⟨j,u,rfl,rfl⟩ | ⟨y,u,rfl,rfl⟩
   ·rw [c7Z] at h; exact SeqAt.EqAt.str_int x t j u _ _ _ _ h
   ·rw [c7X] at h; exact wpAny_eqBool_str h
 «strs» := λ k x t v h=>by
  rcases a1Y h with ⟨i,u,rfl,e⟩ | ⟨y,u,rfl,e⟩
  ·exact nomatch e
  ·injection e with e1 _
   subst e1
   cases v <;> rfl
theorem b3D (prog:Program) (w:World) (i:Int) (t:Tok):(a5G prog w).is (.inl i) (.int i t)=true:=b7E i t
theorem a1Q (prog:Program) (w:World) (x:Str) (t:Tok):(a5G prog w).is (.inr x) (.str x t)=true:=b7F x t
end L2
namespace L2
open PySem PySem.Spec PyProof.Rows
inductive V where
 | non | bl (b:Bool) | int (i:Int) | str (x:Str) | byt (b:Array UInt8) | flt (b:UInt64) | ref (a:Addr) | ty (n:String)
 deriving DecidableEq
def RelV:V->Value->Prop
 | .non,u=>u=Value.none
 | .bl b,u=>u=Value.bool b
 | .int i,u=>∃ t,u=Value.int i t
 | .str x,u=>∃ t,u=Value.str x t
 | .byt b,u=>∃ t,u=Value.bytes b t
 | .flt b,u=>∃ t,u=Value.float b t
 | .ref a,u=>u=Value.ref a
 | .ty n,u=>u=Value.type n
abbrev Vals:List V->List Value->Prop:=Paired RelV
theorem Vals.length {xs:List V} {us:List Value} (r:Vals xs us):xs.length=us.length:=Paired.length r
theorem Vals.get:∀ {xs:List V} {us:List Value} {i:Nat} {x:V},Vals xs us->xs[i]?=some x->∃ u,us[i]?=some u/\RelV x u
 | _,_,_,_,.nil,e=>by simp at e
 | _,_,0,_,.cons r _,e=>by simp at e; subst e; exact ⟨_,rfl,r⟩
 | _,_,i+1,x,.cons _ t,e=>by
  obtain ⟨u,h1,h2⟩:=Vals.get (i:=i) (x:=x) t (by simpa using e)
  exact ⟨u,by simpa using h1,h2⟩
theorem Vals.set {x:V} {u:Value} (r:RelV x u):∀ {xs:List V} {us:List Value} (i:Nat),Vals xs us->Vals (xs.set i x) (us.set i u)
 | _,_,_,.nil=>.nil
 | _,_,0,.cons _ t=>.cons r t
 | _,_,i+1,.cons q t=>.cons q (Vals.set r i t)
theorem Vals.append:∀ {xs ys:List V} {us ws:List Value},Vals xs us->Vals ys ws->Vals (xs++ys) (us++ws)
 | _,_,_,_,.nil,s=>s
 | _,_,_,_,.cons r t,s=>.cons r (Vals.append t s)
theorem Vals.take:∀ {xs:List V} {us:List Value} (n:Nat),Vals xs us->Vals (xs.take n) (us.take n)
 | _,_,0,_=>.nil
 | _,_,_+1,.nil=>.nil
 | _,_,n+1,.cons r t=>.cons r (Vals.take n t)
theorem Vals.drop:∀ {xs:List V} {us:List Value} (n:Nat),Vals xs us->Vals (xs.drop n) (us.drop n)
 | _,_,0,r=>r
 | _,_,_+1,.nil=>.nil
 | _,_,n+1,.cons _ t=>Vals.drop n t
def RelO:Option V->Option Value->Prop
 | some v,some u=>RelV v u
 | none,none=>True
 | _,_=>False
def KV {κ:Type}:List (κ × V)->List (κ × Value)->Prop:=Paired λ (p:κ × V) (q:κ × Value)=>p.1=q.1/\RelV p.2 q.2
def kV:Key->V
 | .inl i=>.int i
 | .inr x=>.str x
inductive HO where
  | lst (xs:List V)
  | tup (xs:List V)
  | dK (kvs:List (Key × V)) | dT (kvs:List (List Key × V))
  | set (S:Int->Bool) (n:Nat)
  | ins (C dx:Addr) (fs:List (Str × V))
  | own (x:Addr)
  | xd (fs:List (Str × V))
  | met (f x:Addr)
  | rng (lo hi:Int)
  | frz (o:Obj) (u:HO)
  | tbl (ps:Array Value)
  | ext (φ:Heap->Prop)
abbrev Hp:=Addr->Option HO
def upd (H:Hp) (a:Addr) (o:HO):Hp:=λ b=>if b=a then some o else H b
theorem a2X {H:Hp} {a:Addr} {o:HO}:upd H a o a=some o:=by unfold upd; rw [if_pos rfl]
theorem a1K {H:Hp} {a b:Addr} {o:HO} (h:b≠a):upd H a o b=H b:=by unfold upd; rw [if_neg h]
theorem c8A {H:Hp} {a b:Addr} {o u:HO} (h:H a=some o) (h':H b=some u) (d:o≠u):a≠b:=by
 intro e; subst e; rw [h] at h'; exact d (Option.some.inj h')
theorem a1C {H:Hp} {a b:Addr} {o:HO} (h:H a=some o) (h':H b=none):a≠b:=by
 intro e; subst e; rw [h] at h'; cases h'
section
variable (P:Program) (w:World)
def ObjOk (H:Hp) (h:Heap) (a:Addr):HO->Prop
 | .lst xs=>xs.length<=sizeLine/\∃ (its:List Value) (n:Nat),Vals xs its/\h.get? a=some { cls:=.type "list", data:=.seq its.toArray n }
 | .tup xs=>xs.length<=sizeLine/\∃ its:List Value,Vals xs its/\IsTup h a its.toArray
 | .dK kvs=>kvs.length<=sizeLine/\(a == sysModules)=false/\∃ vs,KV kvs vs/\h.DictOf (a5G P w) a vs
 | .dT kvs=>kvs.length<=sizeLine/\(a == sysModules)=false/\∃ xs:List (List Key × Addr × Value),
   Paired (λ (p:List Key × V) (q:List Key × Addr × Value)=>p.1=q.1/\H q.2.1=some (.tup (p.1.map kV))/\RelV p.2 q.2.2) kvs xs /\
   ∃ o es ep,h.get? a=some o/\o.ExactDict/\o.data = .dict es ep/\es.toList=xs.map (entryOfKey (tupleKind (a5G P w)))/\(xs.map (·.1)).Nodup
 | .set S n=>h.SetOf (intKind P w) a S n
 | .ins C dx fs=>H dx=some (.own a)/\fs.length<=1000/\dx≠a/\h.get? a=some (PySem.W.instObj C dx) /\
   ∃ mA,h.Ns1 dx mA/\(∀ f,RelO (fs.lookup f) (mA f))/\PySem.Within mA (fs.map (·.1))
 | .own _=>∃ o,h.get? a=some o
 | .xd fs=>∃ mA,h.Ns1 a mA/\∀ f,RelO (fs.lookup f) (mA f)
 | .rng lo hi=>∃ t u v,h.get? a=some { cls:=.type "range", data:=.fields #[.int lo t,.int hi u,.int 1 v] }
 | .frz o u=>h.get? a=some o/\ObjOk H h a u
 | .tbl ps=>h.get? a=some { cls:=.none,data:=.fields ps }
 | .met f x=>h.get? a=some (PySem.W.methodObj (.ref f) (.ref x))
 | .ext φ=>φ h/\(∃ o,h.get? a=some o)/\∀ h1 h2:Heap,φ h1->(∀ o,h1.get? a=some o->h2.get? a=some o)->φ h2
def HOk (H:Hp) (h:Heap):Prop:=∀ a o,H a=some o->ObjOk P w H h a o
end
section
variable {P:Program} {w:World} {H H':Hp} {h h':Heap} {a:Addr} {o:HO}
theorem ObjOk.lt (x:ObjOk P w H h a o):a < h.objs.size:=by
 cases o with
 | lst xs=>obtain ⟨_,_,_,_,e⟩:=x; exact Heap.lt_size e
 | tup xs=>obtain ⟨_,_,_,p⟩:=x; exact p.lt
 | dK kvs=>obtain ⟨_,_,_,_,o,_,_,e,_⟩:=x; exact Heap.lt_size e
 | dT kvs=>obtain ⟨_,_,_,_,o,_,_,e,_⟩:=x; exact Heap.lt_size e
 | set S n=>obtain ⟨o,_,_,_,e,_⟩:=x; exact Heap.lt_size e
 | ins C dx fs=>obtain ⟨_,_,_,e,_⟩:=x; exact Heap.lt_size e
 | own y=>obtain ⟨_,e⟩:=x; exact Heap.lt_size e
 | xd fs=>obtain ⟨_,⟨_,_,_,e,_⟩,_⟩:=x; exact Heap.lt_size e
 | rng lo hi=>obtain ⟨_,_,_,e⟩:=x; exact Heap.lt_size e
 | frz ob u=>obtain ⟨e,_⟩:=x; exact Heap.lt_size e
 | tbl ps=>exact Heap.lt_size (show h.get? a=some _ from x)
 | met f y=>exact Heap.lt_size (show h.get? a=some _ from x)
 | ext φ=>obtain ⟨_,⟨_,e⟩,_⟩:=x; exact Heap.lt_size e
theorem Paired.mapP {α β:Type} {F G:α->β->Prop}:∀ {l₁:List α} {l₂:List β},Paired F l₁ l₂->(∀ a b,F a b->G a b)->Paired G l₁ l₂
 | _,_,.nil,_=>.nil
 | _,_,.cons r t,f=>.cons (f _ _ r) (Paired.mapP t f)
theorem ObjOk.stay (x:ObjOk P w H h a o) (k:∀ b u,(b=a\/H b=some (.own a))->h.get? b=some u->h'.get? b=some u)
  (ho:∀ b,H b=some (.own a)->H' b=some (.own a)) (ht:∀ b xs,H b=some (.tup xs)->H' b=some (.tup xs)):ObjOk P w H' h' a o:=by
 induction o with
 | lst xs=>obtain ⟨z,its,n,r,e⟩:=x; exact ⟨z,its,n,r,k _ _ (.inl rfl) e⟩
 | tup xs=>obtain ⟨z,its,r,ob,e,c⟩:=x; exact ⟨z,its,r,ob,k _ _ (.inl rfl) e,c⟩
 | dK kvs=>obtain ⟨z,y,vs,r,ob,es,ep,e,c⟩:=x; exact ⟨z,y,vs,r,ob,es,ep,k _ _ (.inl rfl) e,c⟩
 | dT kvs =>
  obtain ⟨z,y,xs,r,ob,es,ep,e,c⟩:=x
  exact ⟨z,y,xs,Paired.mapP r λ p q z=>⟨z.1,ht _ _ z.2.1,z.2.2⟩,ob,es,ep,k _ _ (.inl rfl) e,c⟩
 | set S n=>obtain ⟨ob,es,ep,t,e,c⟩:=x; exact ⟨ob,es,ep,t,k _ _ (.inl rfl) e,c⟩
 | ins C dx fs =>
  obtain ⟨d,z,ne,e,mA,⟨od,es,ep,e2,c⟩,r⟩:=x
  exact ⟨ho _ d,z,ne,k _ _ (.inl rfl) e,mA,⟨od,es,ep,k _ _ (.inr d) e2,c⟩,r⟩
 | own y=>obtain ⟨ob,e⟩:=x; exact ⟨ob,k _ _ (.inl rfl) e⟩
 | xd fs=>obtain ⟨mA,⟨od,es,ep,e,c⟩,r⟩:=x; exact ⟨mA,⟨od,es,ep,k _ _ (.inl rfl) e,c⟩,r⟩
 | rng lo hi=>obtain ⟨t,u,v,e⟩:=x; exact ⟨t,u,v,k _ _ (.inl rfl) e⟩
 | frz ob u ih=>obtain ⟨e,q⟩:=x; exact ⟨k _ _ (.inl rfl) e,ih q⟩
 | tbl ps =>
  have e:h.get? a=some { cls:=.none,data:=.fields ps }:=x
  show h'.get? a=some { cls:=.none,data:=.fields ps }
  exact k a _ (.inl rfl) e
 | met f y =>
  have e:h.get? a=some (PySem.W.methodObj (.ref f) (.ref y)):=x
  show h'.get? a=some (PySem.W.methodObj (.ref f) (.ref y))
  exact k a _ (.inl rfl) e
 | ext φ=>obtain ⟨p,⟨o,e⟩,st⟩:=x; exact ⟨st _ _ p λ o q=>k _ _ (.inl rfl) q,⟨o,k _ _ (.inl rfl) e⟩,st⟩
theorem HOk.lt (x:HOk P w H h) (e:H a=some o):a < h.objs.size:=(x a o e).lt
theorem HOk.fresh (x:HOk P w H h) (e:h.objs.size<=a):H a=none:=by
 cases q:H a with
 | none=>rfl
 | some u=>exact absurd (Nat.lt_of_lt_of_le (x.lt q) e) (Nat.lt_irrefl _)
theorem HOk.kept (x:HOk P w H h) (k:∀ b u,h.get? b=some u->h'.get? b=some u):HOk P w H h':=λ a o e =>
 (x a o e).stay (λ b u _ q=>k b u q) (λ _ q=>q) λ _ _ q=>q
theorem HOk.laid (x:HOk P w H h) (k:∀ b u,h.get? b=some u->h'.get? b=some u) (hp:h.objs.size<=a) (new:ObjOk P w (upd H a o) h' a o):HOk P w (upd H a o) h':=λ b u e=>by
 have hn:=x.fresh hp
 by_cases hb:b=a
 ·subst hb; rw [a2X] at e; cases e; exact new
 ·rw [a1K hb] at e
  exact (x b u e).stay (λ c v _ q=>k c v q) (λ c q=>by rw [a1K (a1C q hn)]; exact q) λ c xs q=>by rw [a1K (a1C q hn)]; exact q
end
def Rd (H:Hp) (a:Addr) (u:HO):Prop:=H a=some u\/∃ o,H a=some (.frz o u)
theorem Rd.ok {P:Program} {w:World} {H:Hp} {h:Heap} {a:Addr} {u:HO} (r:Rd H a u) (x:HOk P w H h):ObjOk P w H h a u:=by
 rcases r with r | ⟨o,r⟩
 ·exact x a u r
 ·obtain ⟨_,q⟩:=x a _ r
  exact q
def Mut:Option HO->Prop
 | some (.lst _)=>True
 | some (.dK _)=>True
 | some (.dT _)=>True
 | some (.set _ _)=>True
 | some (.ins _ _ _)=>True
 | some (.ext _)=>True
 | _=>False
section
variable {P:Program} {w:World} {H:Hp} {h h':Heap} {x e:Addr} {o':HO}
theorem HOk.write (ok:HOk P w H h) (mu:Mut (H x)) (he:e=x\/H e=some (.own x)) (k:∀ b u,b≠e->h.get? b=some u->h'.get? b=some u) (heo:∃ u,h'.get? e=some u)
  (new:ObjOk P w (upd H x o') h' x o'):HOk P w (upd H x o') h':=λ b u q=>by
 have nown:∀ c y,H c=some (.own y)->c≠x:=λ c y r z=>by subst z; rw [r] at mu; exact mu
 have ntup:∀ c xs,H c=some (.tup xs)->c≠x:=λ c xs r z=>by subst z; rw [r] at mu; exact mu
 by_cases hb:b=x
 ·subst hb; rw [a2X] at q; cases q; exact new
 ·rw [a1K hb] at q
  by_cases hbe:b=e
  ·have q':H b=some (.own x):=by
    rcases he with z | z
    ·exact absurd (hbe.trans z) hb
    ·rw [hbe]; exact z
   rw [q] at q'; cases q'
   obtain ⟨v,hv⟩:=heo
   exact ⟨v,by rw [hbe]; exact hv⟩
  ·refine (ok b u q).stay (λ c v hc r=>k c v ?_ r) (λ c r=>by rw [a1K (nown c b r)]; exact r) λ c xs r=>by rw [a1K (ntup c xs r)]; exact r
   rcases hc with rfl | hc
   ·exact hbe
   ·rintro rfl
    rcases he with z | z
    ·exact nown c b hc z
    ·rw [hc] at z; cases z; exact hb rfl
end
structure Un (fs ex:List Addr) (H H':Hp) (h h':Heap):Prop where
 keep:∀ b o,h.get? b=some o->H b=none->b ∉ fs->b ∉ ex->h'.get? b=some o
 slot:∀ b o,h.get? b=some o->H b=none->b∈fs->b ∉ ex->∃ sl,h'.get? b=some { o with slots:=sl }
 free:∀ b o,h.get? b=some o->H b=none->b ∉ ex->H' b=none
 there:∀ b o,h.get? b=some o->b ∉ ex->∃ o',h'.get? b=some o'
 tups:∀ b xs,H b=some (.tup xs)->H' b=some (.tup xs)
 frzs:∀ b o u,H b=some (.frz o u)->H' b=some (.frz o u)
 tbls:∀ b ps,H b=some (.tbl ps)->∃ more,H' b=some (.tbl (ps++more))
section
variable {fs fs' ex ex':List Addr} {H H1 H2:Hp} {h h1 h2 h':Heap} {a x e:Addr} {o:HO}
theorem Un.any (u:Un fs ex H H1 h h1) {b:Addr} {ob:Obj} (q:h.get? b=some ob) (n:H b=none) (hx:b ∉ ex):∃ sl,h1.get? b=some { ob with slots:=sl }:=by
 by_cases hb:b∈fs
 ·exact u.slot b ob q n hb hx
 ·exact ⟨ob.slots,u.keep b ob q n hb hx⟩
theorem Un.kept (k:∀ b u,h.get? b=some u->h'.get? b=some u):Un fs ex H H h h' :=
 ⟨λ b ob q _ _ _=>k b ob q,λ b ob q _ _ _=>⟨ob.slots,k b ob q⟩,λ _ _ _ n _=>n,λ b ob q _=>⟨ob,k b ob q⟩,λ _ _ q=>q,λ _ _ _ q=>q,λ _ ps q=>⟨#[],by rw [q]; simp⟩⟩
theorem Un.refl:Un fs ex H H h h:=Un.kept λ _ _ q=>q
theorem Un.laid (k:∀ b u,h.get? b=some u->h'.get? b=some u) (hp:h.objs.size<=a) (hn:H a=none):Un fs ex H (upd H a o) h h' where
 keep:=λ b u q _ _ _=>k b u q
 slot:=λ b u q _ _ _=>⟨u.slots,k b u q⟩
 free:=λ b u q n _=>by rw [a1K (Nat.ne_of_lt (Nat.lt_of_lt_of_le (Heap.lt_size q) hp))]; exact n
 there:=λ b u q _=>⟨u,k b u q⟩
 tups:=λ b xs q=>by rw [a1K (a1C q hn)]; exact q
 frzs:=λ b u xs q=>by rw [a1K (a1C q hn)]; exact q
 tbls:=λ b ps q=>⟨#[],by rw [a1K (a1C q hn),q]; simp⟩
theorem Un.write (mu:Mut (H x)) (he:e=x\/H e=some (.own x)) (k:∀ b u,b≠e->h.get? b=some u->h'.get? b=some u) (heo:∃ u,h'.get? e=some u):Un fs ex H (upd H x o) h h':=by
 have hx:∀ b,H b=none->b≠x:=λ b n z=>by subst z; rw [n] at mu; exact mu
 have hb:∀ b,H b=none->b≠e:=λ b n z=>by
  subst z
  rcases he with r | r
  ·exact hx b n r
  ·rw [n] at r; cases r
 have hm:∀ b u,H b=some u->¬ Mut (some u)->b≠x:=λ b u q nm z=>by subst z; rw [q] at mu; exact nm mu
 refine ⟨λ b u q n _ _=>k b u (hb b n) q,λ b u q n _ _=>⟨u.slots,k b u (hb b n) q⟩,λ b u q n _=>by rw [a1K (hx b n)]; exact n,λ b u q _=>?_,
  λ b xs q=>by rw [a1K (hm b _ q λ z=>z)]; exact q,λ b u xs q=>by rw [a1K (hm b _ q λ z=>z)]; exact q,λ b ps q=>⟨#[],by rw [a1K (hm b _ q λ z=>z),q]; simp⟩⟩
 by_cases hbe:b=e
 ·subst hbe; exact heo
 ·exact ⟨u,k b u hbe q⟩
end
def trk (h:Heap) (H:Hp):List Addr:=(List.range h.objs.size).filter λ a=>(H a).isSome
def hidT (h:Heap) (H:Hp):Heap:=PySem.W.hideAll h (trk h H)
theorem b7G (h:Heap) (H:Hp):(hidT h H).objs.size=h.objs.size:=PySem.W.hideAll_size _ _
theorem c1F {h:Heap} {H:Hp} {b:Addr} {o:Obj} (e:h.get? b=some o) (n:H b=none):(hidT h H).get? b=some o :=
 PySem.W.hideAll_get _ e λ hm=>by
  have q:(H b).isSome=true:=(List.mem_filter.mp hm).2
  rw [n] at q; simp at q
theorem c4T {h:Heap} {H:Hp} {b:Addr} {o:Obj} (e:(hidT h H).get? b=some o):h.get? b=some o/\H b=none:=by
 have e':h.get? b=some o:=PySem.W.of_hideAll (trk h H) e
 refine ⟨e',?_⟩
 cases q:H b with
 | none=>rfl
 | some x =>
  have hm:b∈trk h H:=List.mem_filter.mpr ⟨List.mem_range.mpr (Heap.lt_size e'),by simp [q]⟩
  have z:(hidT h H).get? b=none:=PySem.W.hideAll_none (trk h H) hm
  rw [z] at e; cases e
end L2
namespace L2
open PySem PySem.Spec PyProof.Rows
structure Mod (K:Φρ) (mg:Str->Option Value) (base:Heap):Prop where
 kin:K.In base
 glob:base.Ns mainGlobals mg
 blt:∃ mb,base.Ns builtinsNs mb/\∀ x:Str,x ≠ "__name__" -> mb x=bootBuiltins x
 nolimit:base.NoLimit
structure Cx where
 prog:Program
 w:World
 K:Φρ
 mg:Str->Option Value
 base:Heap
 A:Around
 N:List Str
 s₀:Shared
 H₀:Hp
 env:Env
 outer:List Env
 stack:List Env
 ex:List Addr
 fn:Str->Bool
 calm:Bool
 pn:List (Addr × Obj)
 xe:Value->Shared->Prop
def frs (l:List Env):List Addr:=l.filterMap (·.frame)
abbrev Cx.fs (X:Cx):List Addr:=frs X.outer
def Vis (sc:Scope) (x:Str):Prop:=sc.names.lookup x=some .local\/sc.names.lookup x=some .cell\/sc.names.lookup x=some .free
def Loc (sc:Scope) (x:Str):Prop:=sc.names.lookup x=some .local\/sc.names.lookup x=some .cell
def Look (env:Env) (h:Heap) (m:Str->Option Value) (x:Str) (u:Value):Prop :=
 (env.kindOf x=some .local/\m x=some u)\/((env.kindOf x=some .cell\/env.kindOf x=some .free)/\∃ c,env.cells.lookup x=some c/\h.IsCell c (some u))
structure Cx.Ok (X:Cx):Prop where
 mod:Mod X.K X.mg X.base
 kind:X.env.scope.kind = .function
 glob:X.env.globals=mainGlobals
 blt:X.env.builtins=builtinsNs
 above:X.s₀.heap.objs.size<=X.env.locals
 inj:∀ x y c,X.env.cells.lookup x=some c->X.env.cells.lookup y=some c->x=y
 has:∀ x,(X.env.kindOf x=some .cell\/X.env.kindOf x=some .free)->∃ c,X.env.cells.lookup x=some c
 cab:∀ x c,X.fn x=true->X.env.cells.lookup x=some c->X.s₀.heap.objs.size<=c
 hd:X.calm=true->X.A.handled=none
 frames:X.A.frames=some X.stack
 stk:X.stack=X.outer\/(X.stack=X.env::X.outer/\X.env.frame=some X.env.locals)
 exf:∀ b∈X.ex,b≠X.env.locals/\∀ x c,X.env.cells.lookup x=some c->c≠b
 bs:∀ b o,X.base.get? b=some o->X.s₀.heap.get? b=some o/\X.H₀ b=none
 bsz:X.base.objs.size<=X.s₀.heap.objs.size
 noex:∀ b o,X.base.get? b=some o->b ∉ X.ex
 exfs:∀ b∈X.ex,b ∉ X.fs
 funs:X.s₀.heap.FunFrames X.base X.outer
 frf:∀ b∈X.fs,X.H₀ b=none
structure Inv (X:Cx) (pins:List (Addr × Obj)) (σ:List (Option V)) (H:Hp) (s:Shared):Prop where
 ok:X.Ok
 os:s.os=X.s₀.os
 bare:AllBare s.gens
 base:Un X.fs X.ex X.H₀ H X.s₀.heap s.heap
 loc:∃ m,s.heap.Ns X.env.locals m/\∀ (i:Nat) (x:Str) (v:V),X.N[i]?=some x->σ[i]?=some (some v)->Vis X.env.scope x->∃ u,RelV v u/\Look X.env s.heap m x u
 cell:∀ x c,X.env.cells.lookup x=some c->∃ v,s.heap.IsCell c v
 free:H X.env.locals=none
 freeC:∀ x c,X.env.cells.lookup x=some c->H c=none
 pin:∀ p∈X.pn++pins,s.heap.get? p.1=some p.2/\H p.1=none/\p.1≠X.env.locals/\p.1 ∉ X.fs/\∀ v,p.2.data ≠ .cell v
 hok:HOk X.prog X.w H s.heap
 len:σ.length=X.N.length
section
variable {X:Cx} {pins:List (Addr × Obj)} {σ:List (Option V)} {H H':Hp} {s:Shared} {h':Heap}
theorem Cx.Ok.nofr (ok:X.Ok) {b:Addr} {o:Obj} (e:X.base.get? b=some o):b ∉ X.fs:=λ hb=>by
 have:=(ok.funs.mem hb).1
 rw [e] at this; cases this
theorem Inv.bs (I:Inv X pins σ H s):∀ b o,X.base.get? b=some o->s.heap.get? b=some o/\H b=none:=λ b o e =>
 ⟨I.base.keep b o (I.ok.bs b o e).1 (I.ok.bs b o e).2 (I.ok.nofr e) (I.ok.noex b o e),I.base.free b o (I.ok.bs b o e).1 (I.ok.bs b o e).2 (I.ok.noex b o e)⟩
theorem Inv.bk (I:Inv X pins σ H s):∀ b o,X.base.get? b=some o->s.heap.get? b=some o:=λ b o e=>(I.bs b o e).1
theorem Inv.mod (I:Inv X pins σ H s):Mod X.K X.mg X.base:=I.ok.mod
theorem Inv.kIn (I:Inv X pins σ H s):X.K.In s.heap:=I.ok.mod.kin.keeps I.bk
theorem Inv.lt (I:Inv X pins σ H s):X.env.locals < s.heap.objs.size:=let ⟨_,hn,_⟩:=I.loc; hn.lt
theorem Inv.sz (I:Inv X pins σ H s):X.s₀.heap.objs.size<=s.heap.objs.size:=Nat.le_trans I.ok.above (Nat.le_of_lt I.lt)
theorem Inv.nofs (I:Inv X pins σ H s) {a:Addr} (h:s.heap.objs.size<=a):a ∉ X.fs:=λ hb=>by
 obtain ⟨_,o,ho,_⟩:=I.ok.funs.mem hb
 exact absurd (Nat.lt_of_lt_of_le (Heap.lt_size ho) (Nat.le_trans I.sz h)) (Nat.lt_irrefl _)
theorem Inv.cne (I:Inv X pins σ H s):∀ x c,X.env.cells.lookup x=some c->c≠X.env.locals:=λ x c e z=>by
 obtain ⟨v,o,ho,hd⟩:=I.cell x c e
 obtain ⟨m,⟨o',es,ep,ho',hd',_⟩,_⟩:=I.loc
 rw [z,ho'] at ho; cases ho; rw [hd'] at hd; cases hd
theorem Inv.funs (I:Inv X pins σ H s):s.heap.FunFrames X.base X.outer:=by
 have all:∀ (l:List Env),(∀ b∈frs l,b∈X.fs)->X.s₀.heap.FunFrames X.base l->s.heap.FunFrames X.base l:=by
  intro l
  induction l with
  | nil=>intro _ _; trivial
  | cons env r ih =>
   intro hs hl
   obtain ⟨hk,⟨L,o,hf,hn,ho,hd⟩,hr⟩:=hl
   have hL:L∈X.fs:=hs L (by unfold frs; rw [List.filterMap_cons,hf]; exact List.mem_cons_self)
   obtain ⟨sl,e⟩:=I.base.slot L o ho (I.ok.frf L hL) hL λ z=>I.ok.exfs L z hL
   exact ⟨hk,⟨L,_,hf,hn,e,hd⟩,ih (λ b hb=>hs b (by unfold frs; rw [List.filterMap_cons,hf]; exact List.mem_cons_of_mem _ hb)) hr⟩
 exact all X.outer (λ _ hb=>hb) I.ok.funs
theorem Inv.stack (I:Inv X pins σ H s):s.heap.FunFrames X.base X.stack:=by
 rcases I.ok.stk with e | ⟨e,hf⟩
 ·rw [e]; exact I.funs
 ·rw [e]
  obtain ⟨m,hn,_⟩:=I.loc
  refine .cons (by rw [I.ok.kind]; decide) hf hn ?_ I.funs
  exact Heap.get?_none_of_le (Nat.le_trans I.ok.bsz I.ok.above)
theorem Inv.stkSub (I:Inv X pins σ H s):∀ b∈frs X.stack,b∈X.env.locals::X.fs:=λ b hb=>by
 rcases I.ok.stk with e | ⟨e,hf⟩
 ·rw [e] at hb; exact List.mem_cons_of_mem _ hb
 ·rw [e] at hb
  unfold frs at hb
  rw [List.filterMap_cons,hf] at hb
  exact hb
theorem Inv.stkFree (I:Inv X pins σ H s):∀ b∈frs X.stack,H b=none:=λ b hb=>by
 rcases List.mem_cons.mp (I.stkSub b hb) with e | hb
 ·rw [e]; exact I.free
 ·obtain ⟨_,o,ho,_⟩:=I.ok.funs.mem hb
  exact I.base.free b o ho (I.ok.frf b hb) λ z=>I.ok.exfs b z hb
theorem Inv.step {g':Array GenState} {t':Nat} {d':Drawn} {ch:List Addr} (I:Inv X pins σ H s)
  (hch:∀ b∈ch,(b∈X.ex\/X.s₀.heap.objs.size<=b)/\b≠X.env.locals/\(∀ x c,X.env.cells.lookup x=some c->c≠b)/\∀ p∈X.pn++pins,p.1≠b)
  (keep:∀ b o,b≠X.env.locals->b ∉ X.fs->b ∉ ch->s.heap.get? b=some o->H b=none->h'.get? b=some o)
  (slot:∀ b o,b≠X.env.locals->b∈X.fs->b ∉ ch->s.heap.get? b=some o->H b=none->∃ sl,h'.get? b=some { o with slots:=sl }) (free:∀ b o,b ∉ ch->s.heap.get? b=some o->H b=none->H' b=none)
  (there:∀ b o,b ∉ ch->s.heap.get? b=some o->∃ o',h'.get? b=some o')
  (tups:∀ b xs,H b=some (.tup xs)->H' b=some (.tup xs)) (frzs:∀ b o u,H b=some (.frz o u)->H' b=some (.frz o u)) (tbls:∀ b ps,H b=some (.tbl ps)->∃ more,H' b=some (.tbl (ps++more)))
  (ns:∀ m,s.heap.Ns X.env.locals m->h'.Ns X.env.locals m) (hok:HOk X.prog X.w H' h') (hg:AllBare g') :
  Inv X pins σ H' { s with heap:=h',gens:=g',drawn:=d',toks:=t' }:=by
 have neL:∀ b o,X.s₀.heap.get? b=some o->b≠X.env.locals:=λ b o e=>Nat.ne_of_lt (Nat.lt_of_lt_of_le (Heap.lt_size e) I.ok.above)
 have neC:∀ b o,X.s₀.heap.get? b=some o->b ∉ X.ex->b ∉ ch:=λ b o e hx hb=>by
  rcases (hch b hb).1 with z | z
  ·exact hx z
  ·exact absurd (Nat.lt_of_lt_of_le (Heap.lt_size e) z) (Nat.lt_irrefl _)
 have cellK:∀ x c,X.env.cells.lookup x=some c->∀ v,s.heap.IsCell c v->h'.IsCell c v:=λ x c e v ⟨o,ho,hd⟩=>by
  have nch:c ∉ ch:=λ z=>(hch c z).2.2.1 x c e rfl
  by_cases hc:c∈X.fs
  ·obtain ⟨sl,q⟩:=slot c o (I.cne x c e) hc nch ho (I.freeC x c e)
   exact ⟨_,q,hd⟩
  ·exact ⟨o,keep c o (I.cne x c e) hc nch ho (I.freeC x c e),hd⟩
 refine ⟨I.ok,I.os,hg,⟨λ b o e n hb hx=>?_,λ b o e n hb hx=>?_,λ b o e n hx=>?_,λ b o e hx=>?_,λ b xs e=>tups b xs (I.base.tups b xs e),λ b o xs e=>frzs b o xs (I.base.frzs b o xs e),λ b ps e=>?_⟩,?_,λ x c e=>?_,?_,λ x c e=>?_,λ p hp=>?_,hok,I.len⟩
 ·exact keep b o (neL b o e) hb (neC b o e hx) (I.base.keep b o e n hb hx) (I.base.free b o e n hx)
 ·obtain ⟨sl,e1⟩:=I.base.slot b o e n hb hx
  obtain ⟨sl',e2⟩:=slot b _ (neL b o e) hb (neC b o e hx) e1 (I.base.free b o e n hx)
  exact ⟨sl',e2⟩
 ·obtain ⟨o',e1⟩:=I.base.there b o e hx
  exact free b o' (neC b o e hx) e1 (I.base.free b o e n hx)
 ·obtain ⟨o',e1⟩:=I.base.there b o e hx
  exact there b o' (neC b o e hx) e1
 ·obtain ⟨m1,e1⟩:=I.base.tbls b ps e
  obtain ⟨m2,e2⟩:=tbls b _ e1
  exact ⟨m1++m2,by rw [e2,Array.append_assoc]⟩
 ·obtain ⟨m,hn,hl⟩:=I.loc
  refine ⟨m,ns m hn,λ i x v e1 e2 e3=>?_⟩
  obtain ⟨u,r,l⟩:=hl i x v e1 e2 e3
  refine ⟨u,r,?_⟩
  rcases l with l | ⟨k,c,e,z⟩
  ·exact .inl l
  ·exact .inr ⟨k,c,e,cellK x c e _ z⟩
 ·obtain ⟨v,z⟩:=I.cell x c e
  exact ⟨v,cellK x c e v z⟩
 ·obtain ⟨m,⟨o,_,_,ho,_⟩,_⟩:=I.loc
  exact free _ o (λ z=>(hch _ z).2.1 rfl) ho I.free
 ·obtain ⟨v,o,ho,hd⟩:=I.cell x c e
  exact free c o (λ z=>(hch c z).2.2.1 x c e rfl) ho (I.freeC x c e)
 ·obtain ⟨e,n,ne,nf,d⟩:=I.pin p hp
  have nch:p.1 ∉ ch:=λ z=>(hch p.1 z).2.2.2 p hp rfl
  exact ⟨keep p.1 p.2 ne nf nch e n,free p.1 p.2 nch e n,ne,nf,d⟩
theorem Inv.un {t':Nat} (I:Inv X pins σ H s) (u:Un X.fs [] H H' s.heap h') (hok:HOk X.prog X.w H' h'):Inv X pins σ H' { s with heap:=h',toks:=t' }:=by
 obtain ⟨m,⟨o,es,ep,ho,r⟩,_⟩:=id I.loc
 obtain ⟨sl,hL⟩:=u.any ho I.free (by simp)
 exact I.step (g':=s.gens) (d':=s.drawn) (ch:=[]) (λ _ z=>nomatch z) (λ b o _ hb _ e n=>u.keep b o e n hb (by simp)) (λ b o _ hb _ e n=>u.slot b o e n hb (by simp)) (λ b o _ e n=>u.free b o e n (by simp)) (λ b o _ e=>u.there b o e (by simp)) u.tups u.frzs u.tbls (λ m' hm=>by
  obtain ⟨o',es',ep',ho',r'⟩:=hm
  rw [ho] at ho'; cases ho'
  exact ⟨_,es',ep',hL,r'⟩) hok I.bare
theorem Inv.call {g':Array GenState} {t':Nat} {d':Drawn} {ch:List Addr} (I:Inv X pins σ H s) (u:Un (frs X.stack) ch H H' s.heap h') (hok:HOk X.prog X.w H' h') (hg:AllBare g')
  (hch:∀ b∈ch,(b∈X.ex\/X.s₀.heap.objs.size<=b)/\b≠X.env.locals/\(∀ x c,X.env.cells.lookup x=some c->c≠b)/\∀ p∈X.pn++pins,p.1≠b) :
  Inv X pins σ H' { s with heap:=h',gens:=g',drawn:=d',toks:=t' }:=by
 obtain ⟨m,⟨o,es,ep,ho,r⟩,_⟩:=id I.loc
 obtain ⟨sl,hL⟩:=u.any ho I.free λ z=>(hch _ z).2.1 rfl
 exact I.step (ch:=ch) hch (λ b o hL hb hc e n=>u.keep b o e n (λ z=>(List.mem_cons.mp (I.stkSub b z)).elim hL hb) hc) (λ b o _ _ hc e n=>u.any e n hc) (λ b o hc e n=>u.free b o e n hc) (λ b o hc e=>u.there b o e hc) u.tups u.frzs u.tbls (λ m' hm=>by
  obtain ⟨o',es',ep',ho',r'⟩:=hm
  rw [ho] at ho'; cases ho'
  exact ⟨_,es',ep',hL,r'⟩) hok hg
theorem Inv.turned {t':Nat} {it:Addr} (I:Inv X pins σ H s) (k:∀ b o,b≠it->s.heap.get? b=some o->h'.get? b=some o) (hn:H it=none) (hL:it≠X.env.locals)
  (h1:it∈X.ex\/X.s₀.heap.objs.size<=it) (h2:∀ x c,X.env.cells.lookup x=some c->c≠it) (h3:∀ p∈X.pn++pins,p.1≠it):Inv X pins σ H { s with heap:=h',toks:=t' }:=by
 have nit:∀ b u,H b=some u->b≠it:=λ b u e z=>by rw [z,hn] at e; cases e
 refine I.step (g':=s.gens) (d':=s.drawn) (ch:=[it]) (λ b hb=>?_) (λ b o _ _ hc e _=>k b o (λ z=>hc (by simp [z])) e) (λ b o _ _ hc e _=>⟨o.slots,k b o (λ z=>hc (by simp [z])) e⟩) (λ _ _ _ _ n=>n)
  (λ b o hc e=>⟨o,k b o (λ z=>hc (by simp [z])) e⟩) (λ _ _ e=>e) (λ _ _ _ e=>e) (λ b ps e=>⟨#[],by rw [e]; simp⟩) (λ m hm=>?_) (λ b u e=>?_) I.bare
 ·have e:b=it:=by simpa using hb
  subst e
  exact ⟨h1,hL,h2,h3⟩
 ·obtain ⟨o,es,ep,ho,r⟩:=hm
  exact ⟨o,es,ep,k _ o (Ne.symm hL) ho,r⟩
 ·refine (I.hok b u e).stay (λ c v hc q=>k c v ?_ q) (λ _ q=>q) λ _ _ q=>q
  rcases hc with z | z
  ·rw [z]; exact nit b u e
  ·exact nit c _ z
theorem Inv.tok (I:Inv X pins σ H s) (t:Nat):Inv X pins σ H { s with toks:=t }:=I.un (h':=s.heap) (t':=t) Un.refl I.hok
theorem Inv.kept {t':Nat} (I:Inv X pins σ H s) (k:∀ b u,s.heap.get? b=some u->h'.get? b=some u):Inv X pins σ H { s with heap:=h',toks:=t' }:=I.un (Un.kept k) (I.hok.kept k)
theorem Inv.laid {a:Addr} {o:HO} {t':Nat} (I:Inv X pins σ H s) (k:∀ b u,s.heap.get? b=some u->h'.get? b=some u) (hp:s.heap.objs.size<=a) (new:ObjOk X.prog X.w (upd H a o) h' a o) :
  Inv X pins σ (upd H a o) { s with heap:=h',toks:=t' }:=I.un (Un.laid k hp (I.hok.fresh hp)) (I.hok.laid k hp new)
theorem Inv.write {x e:Addr} {o:HO} {t':Nat} (I:Inv X pins σ H s) (mu:Mut (H x)) (he:e=x\/H e=some (.own x)) (k:∀ b u,b≠e->s.heap.get? b=some u->h'.get? b=some u) (heo:∃ u,h'.get? e=some u)
  (new:ObjOk X.prog X.w (upd H x o) h' x o):Inv X pins σ (upd H x o) { s with heap:=h',toks:=t' }:=I.un (Un.write mu he k heo) (I.hok.write mu he k heo new)
theorem Inv.pins_of {pins':List (Addr × Obj)} (I:Inv X pins σ H s) (h:∀ p∈pins',s.heap.get? p.1=some p.2/\H p.1=none/\p.1≠X.env.locals/\p.1 ∉ X.fs/\∀ v,p.2.data ≠ .cell v):Inv X pins' σ H s :=
 ⟨I.ok,I.os,I.bare,I.base,I.loc,I.cell,I.free,I.freeC,λ p hp=>(List.mem_append.mp hp).elim (λ z=>I.pin p (List.mem_append_left _ z)) (h p),I.hok,I.len⟩
theorem a9Y {N:List Str} (hN:N.Nodup) {i j:Nat} {x:Str} (a:N[i]?=some x) (b:N[j]?=some x):i=j:=by
 obtain ⟨h1,e1⟩:=List.getElem?_eq_some_iff.mp a
 obtain ⟨h2,e2⟩:=List.getElem?_eq_some_iff.mp b
 exact (List.getElem_inj hN).mp (e1.trans e2.symm)
theorem b1A {M:Model} {A:Around} {E:Value->Shared->Prop} {i:Nat} {x:Str} {v:V} {u:Value} {Q:Unit->Shared->Prop} (I:Inv X pins σ H s) (hN:X.N.Nodup) (hi:X.N[i]?=some x) (hx:Loc X.env.scope x) (r:RelV v u)
  (h:∀ s',Inv X pins (σ.set i (some v)) H s'->(∃ a,Heap.SameBut a s.heap s'.heap/\(a=X.env.locals\/X.env.cells.lookup x=some a))->Q () s') (hf:X.fn x=true\/X.env.scope.names.lookup x=some .local:=by first | exact .inl rfl | exact .inr rfl | assumption):wpAny M A (storeName X.env x u) Q E s:=by
 obtain ⟨m,hn,hl⟩:=id I.loc
 have hcls:(X.env.scope.kind == .class || (X.env.scope.kind == .module && X.env.locals != X.env.globals))=false:=by rw [I.ok.kind]; rfl
 have hiσ:i < σ.length:=by rw [I.len]; exact (List.getElem?_eq_some_iff.mp hi).1
 have cne:=I.cne
 have tracked:∀ {a:Addr} {h':Heap},(∃ o,s.heap.get? a=some o/\H a=none)->Heap.SameBut a s.heap h'->HOk X.prog X.w H h':=λ {a h'} ha hs b ob e=>by
  obtain ⟨_,_,hfree⟩:=ha
  refine (I.hok b ob e).stay (λ c w' hc q=>(hs.2 c ?_).trans q) (λ _ q=>q) λ _ _ q=>q
  rintro rfl
  rcases hc with rfl | hc
  ·rw [hfree] at e; cases e
  ·rw [hfree] at hc; cases hc
 rcases hx with hk | hk
 ·refine wpAny_storeName_local hk hn (λ h' hn' hs=>?_) hcls
  obtain ⟨oL,_,_,hoL,_⟩:=id hn
  refine h _ ⟨I.ok,I.os,I.bare,⟨λ b o e n hb hx=>?_,λ b o e n hb hx=>?_,I.base.free,λ b o e hx=>?_,I.base.tups,I.base.frzs,I.base.tbls⟩,⟨_,hn',λ j y v' e1 e2 e3=>?_⟩,λ y c e=>?_,I.free,I.freeC,λ p hp=>?_,tracked ⟨oL,hoL,I.free⟩ hs,by simpa using I.len⟩ ⟨_,hs,.inl rfl⟩
  ·exact (hs.2 b (Nat.ne_of_lt (Nat.lt_of_lt_of_le (Heap.lt_size e) I.ok.above))).trans (I.base.keep b o e n hb hx)
  ·obtain ⟨sl,e1⟩:=I.base.slot b o e n hb hx
   exact ⟨sl,(hs.2 b (Nat.ne_of_lt (Nat.lt_of_lt_of_le (Heap.lt_size e) I.ok.above))).trans e1⟩
  ·obtain ⟨o',e1⟩:=I.base.there b o e hx
   exact ⟨o',(hs.2 b (Nat.ne_of_lt (Nat.lt_of_lt_of_le (Heap.lt_size e) I.ok.above))).trans e1⟩
  ·by_cases hj:j=i
   ·subst hj
    rw [hi] at e1; cases e1
    rw [List.getElem?_set_self hiσ] at e2
    cases e2
    exact ⟨u,r,.inl ⟨hk,by simp⟩⟩
   ·rw [List.getElem?_set_ne (Ne.symm hj)] at e2
    obtain ⟨u',r',q⟩:=hl j y v' e1 e2 e3
    refine ⟨u',r',?_⟩
    rcases q with ⟨k,e⟩ | ⟨k,c,e,z⟩
    ·refine .inl ⟨k,?_⟩
     have:y≠x:=λ e=>hj (a9Y hN e1 (e ▸ hi))
     simp [this,e]
    ·exact .inr ⟨k,c,e,z.sameBut hs (cne y c e)⟩
  ·obtain ⟨w',z⟩:=I.cell y c e
   exact ⟨w',z.sameBut hs (cne y c e)⟩
  ·obtain ⟨e,n,ne,nf,d⟩:=I.pin p hp
   exact ⟨(hs.2 p.1 ne).trans e,n,ne,nf,d⟩
 ·have hfn:X.fn x=true:=by
   rcases hf with z | z
   ·exact z
   ·rw [z] at hk; cases hk
  obtain ⟨c,hc⟩:=I.ok.has x (.inl hk)
  obtain ⟨w',z⟩:=I.cell x c hc
  refine wpAny_storeName_cell I.ok.kind hk hc z (λ h' hc' hs=>?_)
  obtain ⟨oc,hoc,hocd⟩:=id z
  refine h { s with heap:=h' } ⟨I.ok,I.os,I.bare,⟨λ b o e n hb hx=>?_,λ b o e n hb hx=>?_,I.base.free,λ b o e hx=>?_,I.base.tups,I.base.frzs,I.base.tbls⟩,⟨m,hn.sameBut hs (Ne.symm (cne x c hc)),λ j y v' e1 e2 e3=>?_⟩,λ y c' e=>?_,I.free,I.freeC,λ p hp=>?_,tracked ⟨oc,hoc,I.freeC x c hc⟩ hs,by simpa using I.len⟩ ⟨c,hs,.inr hc⟩
  ·exact (hs.2 b (Nat.ne_of_lt (Nat.lt_of_lt_of_le (Heap.lt_size e) (I.ok.cab x c hfn hc)))).trans (I.base.keep b o e n hb hx)
  ·obtain ⟨sl,e1⟩:=I.base.slot b o e n hb hx
   exact ⟨sl,(hs.2 b (Nat.ne_of_lt (Nat.lt_of_lt_of_le (Heap.lt_size e) (I.ok.cab x c hfn hc)))).trans e1⟩
  ·obtain ⟨o',e1⟩:=I.base.there b o e hx
   exact ⟨o',(hs.2 b (Nat.ne_of_lt (Nat.lt_of_lt_of_le (Heap.lt_size e) (I.ok.cab x c hfn hc)))).trans e1⟩
  ·by_cases hj:j=i
   ·subst hj
    rw [hi] at e1; cases e1
    rw [List.getElem?_set_self hiσ] at e2
    cases e2
    exact ⟨u,r,.inr ⟨.inl hk,c,hc,hc'⟩⟩
   ·rw [List.getElem?_set_ne (Ne.symm hj)] at e2
    obtain ⟨u',r',q⟩:=hl j y v' e1 e2 e3
    refine ⟨u',r',?_⟩
    rcases q with q | ⟨k,c',e,z'⟩
    ·exact .inl q
    ·refine .inr ⟨k,c',e,z'.sameBut hs ?_⟩
     rintro rfl
     exact hj (a9Y hN e1 (I.ok.inj _ _ _ e hc ▸ hi))
  ·by_cases hcc:c'=c
   ·subst hcc; exact ⟨_,hc'⟩
   ·obtain ⟨w2,z2⟩:=I.cell y c' e
    exact ⟨w2,z2.sameBut hs hcc⟩
  ·obtain ⟨e,n,ne,nf,d⟩:=I.pin p hp
   refine ⟨(hs.2 p.1 ?_).trans e,n,ne,nf,d⟩
   intro q
   rw [q,hoc] at e
   have q':oc=p.2:=Option.some.inj e
   exact d w' (by rw [<- q']; exact hocd)
theorem a9Z {M:Model} {A:Around} {E:Value->Shared->Prop} {i:Nat} {x:Str} {v:V} {u:Value} {Q:Unit->Shared->Prop} (I:Inv X pins σ H s) (hN:X.N.Nodup) (hi:X.N[i]?=some x) (hx:Loc X.env.scope x) (r:RelV v u)
  (h:∀ s',Inv X pins (σ.set i (some v)) H s'->Q () s') (hf:X.fn x=true\/X.env.scope.names.lookup x=some .local:=by first | exact .inl rfl | exact .inr rfl | assumption):wpAny M A (storeName X.env x u) Q E s :=
 b1A I hN hi hx r (λ s' I' _=>h s' I') hf
theorem Inv.call' {s':Shared} {ch:List Addr} (I:Inv X pins σ H s) (ho:s'.os=s.os) (u:Un (frs X.stack) ch H H' s.heap s'.heap) (hok:HOk X.prog X.w H' s'.heap) (hg:AllBare s'.gens)
  (hch:∀ b∈ch,(b∈X.ex\/X.s₀.heap.objs.size<=b)/\b≠X.env.locals/\(∀ x c,X.env.cells.lookup x=some c->c≠b)/\∀ p∈X.pn++pins,p.1≠b):Inv X pins σ H' s':=by
 obtain ⟨h',g',d',t',o'⟩:=s'
 have e:o'=s.os:=ho
 subst e
 exact I.call (g':=g') (t':=t') (d':=d') u hok hg hch
end
abbrev XK:=Value->Option Addr->Hp->Prop
abbrev St:=List (Option V)
abbrev VK:=V->Hp->Prop
abbrev TE:=St->Hp->VK->Prop
abbrev TT:=St->Hp->(Bool->Hp->Prop)->Prop
abbrev TA:=St->Hp->(List V->Hp->Prop)->Prop
structure Ends where
 nx:St->Hp->Prop
 rt:VK
 bk:St->Hp->Prop:=λ _ _=>False
 ct:St->Hp->Prop:=λ _ _=>False
abbrev TS:=Ends->St->Hp->Prop
def EP (X:Cx) (pins:List (Addr × Obj)) (σ:St) (Q:VK) (u:Value) (s':Shared):Prop:=∃ v H',Inv X pins σ H' s'/\RelV v u/\Q v H'
def TP (X:Cx) (pins:List (Addr × Obj)) (σ:St) (Q:Bool->Hp->Prop) (b:Bool) (s':Shared):Prop:=∃ H',Inv X pins σ H' s'/\Q b H'
def AP (X:Cx) (pins:List (Addr × Obj)) (σ:St) (Q:List V->Hp->Prop) (us:List Value) (s':Shared):Prop:=∃ vs H',Inv X pins σ H' s'/\Vals vs us/\Q vs H'
def SP (X:Cx) (pins:List (Addr × Obj)) (D:Ends) (f:Flow) (s':Shared):Prop :=
 match f with
 | .next=>∃ σ' H',Inv X pins σ' H' s'/\D.nx σ' H'
 | .brk=>∃ σ' H',Inv X pins σ' H' s'/\D.bk σ' H'
 | .cont=>∃ σ' H',Inv X pins σ' H' s'/\D.ct σ' H'
 | .ret u=>∃ v σ' H',Inv X pins σ' H' s'/\RelV v u/\D.rt v H'
def PE (X:Cx) (e:Expr) (t:TE):Prop :=
 ∀ (pins:List (Addr × Obj)) (s:Shared) (σ:St) (H:Hp) (Q:VK),Inv X pins σ H s->t σ H Q->wpAny (model X.prog X.w) X.A (eval e X.env) (EP X pins σ Q) X.xe s
def PT (X:Cx) (e:Expr) (t:TT):Prop :=
 ∀ (pins:List (Addr × Obj)) (s:Shared) (σ:St) (H:Hp) (Q:Bool->Hp->Prop),Inv X pins σ H s->t σ H Q->wpAny (model X.prog X.w) X.A (isTrue e X.env (eval e X.env)) (TP X pins σ Q) X.xe s
def PW (X:Cx) (e:Expr) (t:TT):Prop :=
 ∀ (whole:Sem Value) (pins:List (Addr × Obj)) (s:Shared) (σ:St) (H:Hp) (Q:Bool->Hp->Prop),Inv X pins σ H s->t σ H Q->wpAny (model X.prog X.w) X.A (isTrue e X.env whole) (TP X pins σ Q) X.xe s
theorem PW.pt {X:Cx} {e:Expr} {t:TT} (h:PW X e t):PT X e t:=h _
def PA (X:Cx) (es:List Expr) (t:TA):Prop :=
 ∀ (pos:Pos) (pins:List (Addr × Obj)) (s:Shared) (σ:St) (H:Hp) (Q:List V->Hp->Prop),Inv X pins σ H s->t σ H Q->wpAny (model X.prog X.w) X.A (spliced (backTo pos (starEach es X.env))) (AP X pins σ Q) X.xe s
def PS (X:Cx) (st:Stmt) (t:TS):Prop :=
 ∀ (pins:List (Addr × Obj)) (s:Shared) (σ:St) (H:Hp) (D:Ends),Inv X pins σ H s->t D σ H->wpAny (model X.prog X.w) X.A (exec st X.env) (SP X pins D) X.xe s
def PSs (X:Cx) (st:List Stmt) (t:TS):Prop :=
 ∀ (pins:List (Addr × Obj)) (s:Shared) (σ:St) (H:Hp) (D:Ends),Inv X pins σ H s->t D σ H->wpAny (model X.prog X.w) X.A (execs st X.env) (SP X pins D) X.xe s
theorem thn {α:Type} {t:Sem α} {Q Q':α->Shared->Prop} {M:Model} {A:Around} {E:Value->Shared->Prop} {s:Shared} (h:wpAny M A t Q E s) (hQ:∀ a s,Q a s->Q' a s):wpAny M A t Q' E s:=wpAny_mono h hQ λ _ _ x=>x
end L2
namespace L2
open PySem PySem.Spec PyProof.Rows
section
variable {X:Cx}
def tVar (i:Nat):TE:=λ σ H Q=>∃ v,σ[i]?=some (some v)/\Q v H
def tC (v:V):TE:=λ _ H Q=>Q v H
theorem c8B {i:Nat} {x:Str} {pos:Pos} (hN:X.N[i]?=some x) (hv:Vis X.env.scope x) (hd:(x == ("__debug__" : Str))=false:=by decide) (hcd:(x == ("__classdict__" : Str))=false:=by decide):PE X (.Name x pos) (tVar i):=by
 intro pins s σ H Q I h
 obtain ⟨v,e,h⟩:=h
 obtain ⟨m,hn,hl⟩:=I.loc
 obtain ⟨u,r,l⟩:=hl i x v hN e hv
 have fin:EP X pins σ Q u s:=⟨v,H,I,r,h⟩
 rcases l with ⟨hk,hm⟩ | ⟨hk,c,hc,hcell⟩
 ·exact wpAny_Name (wpAny_loadName_local I.ok.kind hk hn hm fin) hd
 ·rcases hk with hk | hk
  ·exact wpAny_Name (wpAny_loadName_cell I.ok.kind hk hc hcell fin) hd
  ·exact wpAny_Name (wpAny_loadName_free I.ok.kind hk hc hcell fin hcd) hd
theorem a0D {i j pos}:PE X (.Constant (.int i) j pos) (tC (.int i)):=λ _ _ _ H _ I h=>wpAny_Constant_int ⟨.int i,H,I.tok _,⟨_,rfl⟩,h⟩
theorem b7H {b j pos}:PE X (.Constant (.bool b) j pos) (tC (.bl b)):=λ _ _ _ H _ I h=>Constant_bool ⟨.bl b,H,I,rfl,h⟩
theorem a1N {j pos}:PE X (.Constant .none j pos) (tC .non):=λ _ _ _ H _ I h=>Constant_none ⟨.non,H,I,rfl,h⟩
theorem a1D {x j pos}:PE X (.Constant (.str x) j pos) (tC (.str x)):=λ _ _ _ H _ I h=>Calls.Constant_str ⟨.str x,H,I.tok _,⟨_,rfl⟩,h⟩
def Gl (X:Cx) (x:Str):Prop:=X.env.kindOf x=some .globalImplicit
theorem a5H {E:Value->Shared->Prop} {pins:List (Addr × Obj)} {s:Shared} {σ:St} {H:Hp} {x:Str} {u:Value} {pos:Pos} {Q:Value->Shared->Prop} (I:Inv X pins σ H s) (hg:Gl X x) (hm:X.mg x=some u) (h:Q u s)
  (hd:(x == ("__debug__" : Str))=false:=by decide):wpAny (model X.prog X.w) X.A (eval (.Name x pos) X.env) Q E s :=
 Calls.Name_function_global I.ok.kind hg (Calls.loadGlobal_global (by rw [I.ok.glob]; exact I.mod.glob.keeps I.bk) hm h) hd
theorem a5N {E:Value->Shared->Prop} {pins:List (Addr × Obj)} {s:Shared} {σ:St} {H:Hp} {x:Str} {u:Value} {pos:Pos} {Q:Value->Shared->Prop} (I:Inv X pins σ H s) (hg:Gl X x) (hm:X.mg x=none) (hv:bootBuiltins x=some u) (h:Q u s)
  (hn:x ≠ "__name__" := by decide) (hd:(x == ("__debug__" : Str))=false:=by decide):wpAny (model X.prog X.w) X.A (eval (.Name x pos) X.env) Q E s:=by
 obtain ⟨mb,h1,h2⟩:=I.mod.blt
 exact Calls.Name_function_global I.ok.kind hg (Calls.loadGlobal_builtin (by rw [I.ok.glob]; exact I.mod.glob.keeps I.bk) hm (by rw [I.ok.blt]; exact h1.keeps I.bk) ((h2 x hn).trans hv) h) hd
theorem a2F {x:Str} {v:V} {u:Value} {pos:Pos} (hg:Gl X x) (hm:X.mg x=some u) (r:RelV v u) (hd:(x == ("__debug__" : Str))=false:=by decide):PE X (.Name x pos) (tC v) :=
 λ _ _ _ H _ I h=>a5H I hg hm ⟨v,H,I,r,h⟩ hd
theorem b3E {x:Str} {v:V} {u:Value} {pos:Pos} (hg:Gl X x) (hm:X.mg x=none) (hv:bootBuiltins x=some u) (r:RelV v u) (hn:x ≠ "__name__" := by decide) (hd:(x == ("__debug__" : Str))=false:=by decide):PE X (.Name x pos) (tC v) :=
 λ _ _ _ H _ I h=>a5N I hg hm hv ⟨v,H,I,r,h⟩ hn hd
variable {a b:Expr} {ta tb:TE} {pos:Pos}
variable {tA tB':TT} {rest:List Expr}
def tAnd (t u:TT):TT:=λ σ H Q=>t σ H λ c H1=>if c=true then u σ H1 Q else Q false H1
def tOr (t u:TT):TT:=λ σ H Q=>t σ H λ c H1=>if c=true then Q true H1 else u σ H1 Q
def tNot (t:TT):TT:=λ σ H Q=>t σ H λ c H1=>Q (!c) H1
theorem a3B (ha:PT X a tA):PW X (.BoolOp .And [a] pos) tA:=by
 intro wh pins s σ H Q I h
 refine isTrue_and (thn (ha pins s σ H Q I h) λ c s1 e=>?_)
 cases c with
 | true=>exact isTrue_and_nil e
 | false=>exact e
theorem b4K (ha:PT X a tA):PW X (.BoolOp .Or [a] pos) tA:=by
 intro wh pins s σ H Q I h
 refine isTrue_or (thn (ha pins s σ H Q I h) λ c s1 e=>?_)
 cases c with
 | false=>exact isTrue_or_nil e
 | true=>exact e
theorem a3I (ha:PT X a tA) (hb:PW X (.BoolOp .And (b::rest) pos) tB'):PW X (.BoolOp .And (a::b::rest) pos) (tAnd tA tB'):=by
 intro wh pins s σ H Q I h
 refine isTrue_and (thn (ha pins s σ H _ I h) λ c s1 ⟨H1,I1,q1⟩=>?_)
 cases c with
 | true=>exact hb wh pins s1 σ H1 Q I1 q1
 | false=>exact ⟨H1,I1,q1⟩
theorem c1G (ha:PT X a tA) (hb:PW X (.BoolOp .Or (b::rest) pos) tB'):PW X (.BoolOp .Or (a::b::rest) pos) (tOr tA tB'):=by
 intro wh pins s σ H Q I h
 refine isTrue_or (thn (ha pins s σ H _ I h) λ c s1 ⟨H1,I1,q1⟩=>?_)
 cases c with
 | true=>exact ⟨H1,I1,q1⟩
 | false=>exact hb wh pins s1 σ H1 Q I1 q1
theorem a5B (ha:PT X a tA):PT X (.UnaryOp .Not a pos) (tNot tA):=by
 intro pins s σ H Q I h
 exact isTrue_not (ha pins s σ H (λ c H1=>Q (!c) H1) I h)
def d1F (ta tb:TE):TE:=λ σ H Q=>ta σ H λ x H1=>∃ c,x = .bl c/\if c=true then tb σ H1 Q else Q (.bl false) H1
def d1G (ta:TE):TE:=λ σ H Q=>ta σ H λ x H1=>∃ c,x = .bl c/\Q (.bl (!c)) H1
theorem b1B {op} {t:TE} (h:PE X a t):PE X (.BoolOp op [a] pos) t:=λ pins s σ H Q I hw=>BoolOp_one (h pins s σ H Q I hw)
theorem b4L (ha:PE X a ta) (hb:PE X (.BoolOp .And (b::rest) pos) tb):PE X (.BoolOp .And (a::b::rest) pos) (d1F ta tb):=by
 intro pins s σ H Q I h
 refine BoolOp_and (thn (ha pins s σ H _ I h) λ v s1 ⟨x,H1,I1,r1,q1⟩=>?_)
 obtain ⟨c,rfl,q1⟩:=q1
 cases r1
 refine wpAny_truthy_bool ?_
 cases c with
 | true=>exact hb pins s1 σ H1 Q I1 q1
 | false=>exact ⟨.bl false,H1,I1,rfl,q1⟩
theorem c8C (ha:PE X a ta):PE X (.UnaryOp .Not a pos) (d1G ta):=by
 intro pins s σ H Q I h
 refine UnaryOp_ (thn (ha pins s σ H _ I h) λ v s1 ⟨x,H1,I1,r1,q1⟩=>?_)
 obtain ⟨c,rfl,q1⟩:=q1
 cases r1
 exact not_of (wpAny_truthy_bool ⟨.bl (!c),H1,I1,rfl,q1⟩)
def tIf (t:TT) (ta tb:TE):TE:=λ σ H Q=>t σ H λ c H1=>if c=true then ta σ H1 Q else tb σ H1 Q
theorem a4B {c:Expr} (hc:PT X c tA) (ha:PE X a ta) (hb:PE X b tb):PE X (.IfExp c a b pos) (tIf tA ta tb):=by
 intro pins s σ H Q I h
 refine wpAny_IfExp (thn (hc pins s σ H _ I h) λ d s1 ⟨H1,I1,q1⟩=>?_)
 cases d with
 | true=>exact ha pins s1 σ H1 Q I1 q1
 | false=>exact hb pins s1 σ H1 Q I1 q1
end
end L2
namespace L2
open PySem PySem.Spec PyProof.Rows
def SqL (K:Φρ) (H:Hp) (a:Addr) (xs:List V):Prop :=
 Rd H a (.lst xs) \/
  ∃ (o:Obj) (its:Array Value) (n:Nat),K.lookup a=some o/\o.cls = .type "list" /\ o.dict=none/\o.data = .seq its n/\its.size<=sizeLine/\Vals xs its.toList
def SqT (K:Φρ) (H:Hp) (a:Addr) (xs:List V):Prop :=
 Rd H a (.tup xs) \/
  ∃ (o:Obj) (its:Array Value) (n:Nat),K.lookup a=some o/\o.cls = .type "tuple" /\ o.data = .seq its n/\its.size<=sizeLine/\Vals xs its.toList
def absV:Value->Option V
 | .none=>some .non
 | .bool b=>some (.bl b)
 | .int i _=>some (.int i)
 | .str x _=>some (.str x)
 | .bytes b _=>some (.byt b)
 | .float b _=>some (.flt b)
 | .ref a=>some (.ref a)
 | .type n=>some (.ty n)
 | _=>none
theorem RelV.abs {x:V} {u:Value} (r:RelV x u):absV u=some x:=by
 cases x with
 | non=>cases r; rfl
 | bl _=>cases r; rfl
 | int _=>obtain ⟨t,rfl⟩:=r; rfl
 | str _=>obtain ⟨t,rfl⟩:=r; rfl
 | byt _=>obtain ⟨t,rfl⟩:=r; rfl
 | flt _=>obtain ⟨t,rfl⟩:=r; rfl
 | ref _=>cases r; rfl
 | ty _=>cases r; rfl
theorem RelV.inj {x y:V} {u:Value} (r:RelV x u) (q:RelV y u):x=y:=Option.some.inj (r.abs.symm.trans q.abs)
theorem Vals.inj:∀ {xs ys:List V} {us:List Value},Vals xs us->Vals ys us->xs=ys
 | _,_,_,.nil,.nil=>rfl
 | _,_,_,.cons r t,.cons r' t'=>by rw [r.inj r',Vals.inj t t']
section
variable {X:Cx} {pins:List (Addr × Obj)} {σ:St} {H:Hp} {s:Shared} {a:Addr} {xs ys:List V}
theorem SqL.of {K:Φρ} (h:H a=some (.lst xs)):SqL K H a xs:=.inl (.inl h)
theorem SqT.of {K:Φρ} (h:H a=some (.tup xs)):SqT K H a xs:=.inl (.inl h)
theorem Inv.list (I:Inv X pins σ H s) (h:SqL X.K H a xs):∃ its:List Value,Vals xs its/\PlainL s.heap a its.toArray/\xs.length<=sizeLine:=by
 rcases h with h | ⟨o,its,n,hk,hc,hd,hs,hz,r⟩
 ·obtain ⟨z,its,n,r,e⟩:=h.ok I.hok
  exact ⟨its,r,⟨_,n,e,rfl,rfl,rfl⟩,z⟩
 ·refine ⟨its.toList,r,⟨o,n,I.kIn a o hk,hc,hd,by simpa using hs⟩,?_⟩
  have e:=r.length
  simp only [Array.length_toList] at e
  omega
theorem Inv.tuple (I:Inv X pins σ H s) (h:SqT X.K H a xs):∃ its:List Value,Vals xs its/\IsTup s.heap a its.toArray/\xs.length<=sizeLine:=by
 rcases h with h | ⟨o,its,n,hk,hc,hs,hz,r⟩
 ·obtain ⟨z,its,r,p⟩:=h.ok I.hok
  exact ⟨its,r,p,z⟩
 ·refine ⟨its.toList,r,⟨o,I.kIn a o hk,hc,n,by simpa using hs⟩,?_⟩
  have e:=r.length
  simp only [Array.length_toList] at e
  omega
theorem Inv.list_inj (I:Inv X pins σ H s) (h:SqL X.K H a xs) (h':SqL X.K H a ys):xs=ys:=by
 obtain ⟨its,r,⟨o,n,e,_,_,d⟩,_⟩:=I.list h
 obtain ⟨its',r',⟨o',n',e',_,_,d'⟩,_⟩:=I.list h'
 rw [e] at e'; cases e'
 rw [d] at d'
 injection d' with d1 _
 have:its=its':=by simpa using congrArg Array.toList d1
 subst this
 exact r.inj r'
theorem Inv.tuple_inj (I:Inv X pins σ H s) (h:SqT X.K H a xs) (h':SqT X.K H a ys):xs=ys:=by
 obtain ⟨its,r,⟨o,e,_,n,d⟩,_⟩:=I.tuple h
 obtain ⟨its',r',⟨o',e',_,n',d'⟩,_⟩:=I.tuple h'
 rw [e] at e'; cases e'
 rw [d] at d'
 injection d' with d1 _
 have:its=its':=by simpa using congrArg Array.toList d1
 subst this
 exact r.inj r'
end
abbrev Cx.wish (X:Cx) (E:Value->Shared->Prop):Cx:={ X with xe:=E }
abbrev Cx.nox (X:Cx):Cx:=X.wish λ _ _=>False
theorem Cx.Ok.wish {X:Cx} (ok:X.Ok) (E:Value->Shared->Prop):(X.wish E).Ok :=
 ⟨ok.mod,ok.kind,ok.glob,ok.blt,ok.above,ok.inj,ok.has,ok.cab,ok.hd,ok.frames,ok.stk,ok.exf,ok.bs,ok.bsz,ok.noex,ok.exfs,ok.funs,ok.frf⟩
theorem Cx.Ok.unwish {X:Cx} {E:Value->Shared->Prop} (ok:(X.wish E).Ok):X.Ok :=
 ⟨ok.mod,ok.kind,ok.glob,ok.blt,ok.above,ok.inj,ok.has,ok.cab,ok.hd,ok.frames,ok.stk,ok.exf,ok.bs,ok.bsz,ok.noex,ok.exfs,ok.funs,ok.frf⟩
section
variable {X:Cx} {pins:List (Addr × Obj)} {σ:St} {H:Hp} {s:Shared} {E:Value->Shared->Prop}
theorem Inv.wish (I:Inv X pins σ H s) (E:Value->Shared->Prop):Inv (X.wish E) pins σ H s:=⟨I.ok.wish E,I.os,I.bare,I.base,I.loc,I.cell,I.free,I.freeC,I.pin,I.hok,I.len⟩
theorem Inv.unwish (I:Inv (X.wish E) pins σ H s):Inv X pins σ H s:=⟨I.ok.unwish,I.os,I.bare,I.base,I.loc,I.cell,I.free,I.freeC,I.pin,I.hok,I.len⟩
theorem SP.unwish {D:Ends} {f:Flow} {s':Shared} (h:SP (X.wish E) pins D f s'):SP X pins D f s':=by
 cases f with
 | next=>obtain ⟨σ',H',I,q⟩:=h; exact ⟨σ',H',I.unwish,q⟩
 | brk=>obtain ⟨σ',H',I,q⟩:=h; exact ⟨σ',H',I.unwish,q⟩
 | cont=>obtain ⟨σ',H',I,q⟩:=h; exact ⟨σ',H',I.unwish,q⟩
 | ret u=>obtain ⟨v,σ',H',I,r,q⟩:=h; exact ⟨v,σ',H',I.unwish,r,q⟩
theorem PSs.nox {st:List Stmt} {t:TS} (h:PSs X.nox st t):PSs X st t:=λ pins s σ H D I hw =>
 wpAny_mono (h pins s σ H D (I.wish _) hw) (λ _ _ q=>q.unwish) λ _ _ z=>False.elim z
end
section
variable {X:Cx} {st:Stmt} {rest:List Stmt} {t u:TS} {e:Expr} {te:TE} {pos:Pos}
def b7I:TS:=λ D σ H=>D.nx σ H
def tSeq (t u:TS):TS:=λ D σ H=>t { D with nx:=u D } σ H
theorem a0N:PSs X [] b7I:=λ _ _ σ H _ I h=>wpAny_execs_nil ⟨σ,H,I,h⟩
theorem a0C (h1:PS X st t) (h2:PSs X rest u):PSs X (st::rest) (tSeq t u):=by
 intro pins s σ H D I h
 refine wpAny_execs_cons (thn (h1 pins s σ H { D with nx:=u D } I h) λ f s1 q=>?_)
 cases f with
 | next =>
  obtain ⟨σ',H',I',q⟩:=q
  exact h2 pins s1 σ' H' D I' q
 | ret v=>exact q
 | brk=>exact q
 | cont=>exact q
theorem a0E (h1:PS X st t):PSs X [st] t:=by
 intro pins s σ H D I h
 refine wpAny_execs_cons (thn (h1 pins s σ H D I h) λ f s1 q=>?_)
 cases f with
 | next=>exact wpAny_execs_nil q
 | ret v=>exact q
 | brk=>exact q
 | cont=>exact q
def c8D:TS:=λ D σ H=>D.bk σ H
theorem c1H:PS X (.Break pos) c8D:=λ _ _ σ H _ I h=>wpAny_Break ⟨σ,H,I,h⟩
theorem Inv.quiet {pins:List (Addr × Obj)} {σ:St} {H:Hp} {s:Shared} (I:Inv X pins σ H s):interactive X.env=false:=by simp [interactive,I.ok.kind]
def d1H (te:TE):TS:=λ D σ H=>te σ H λ _ H1=>D.nx σ H1
theorem a3C (he:PE X e te) (hs:swapsWith e none pos.line X.env=pure false:=by rfl):PS X (.Expr e pos) (d1H te):=by
 intro pins s σ H D I h
 exact wpAny_Expr_any (thn (he pins s σ H _ I h) λ v s1 ⟨x,H1,I1,r1,q1⟩=>⟨σ,H1,I1,q1⟩) I.quiet hs
def tRet (te:TE):TS:=λ D σ H=>te σ H D.rt
theorem a0P (he:PE X e te):PS X (.Return (some e) pos) (tRet te):=by
 intro pins s σ H D I h
 exact wpAny_Return_some (thn (he pins s σ H _ I h) λ v s1 ⟨x,H1,I1,r1,q1⟩=>⟨x,σ,H1,I1,r1,q1⟩)
def tIfS (c:TT) (t u:TS):TS:=λ D σ H=>c σ H λ b H1=>if b=true then t D σ H1 else u D σ H1
theorem a1O {c:Expr} {a b:List Stmt} {tc:TT} (hc:PT X c tc) (ha:PSs X a t) (hb:PSs X b u):PS X (.If c a b pos) (tIfS tc t u):=by
 intro pins s σ H D I h
 refine wpAny_If (thn (hc pins s σ H _ I h) λ d s1 ⟨H1,I1,q1⟩=>?_)
 cases d with
 | true=>exact ha pins s1 σ H1 D I1 q1
 | false=>exact hb pins s1 σ H1 D I1 q1
def c3Y:TS:=λ _ _ _=>False
theorem b0A:PS X st c3Y:=λ _ _ _ _ _ _ h=>h.elim
theorem a4K {sts:List Stmt}:PSs X sts c3Y:=λ _ _ _ _ _ _ h=>h.elim
end
abbrev TG:=V->St->Hp->(St->Hp->Prop)->Prop
abbrev TGs:=List V->St->Hp->(St->Hp->Prop)->Prop
def PG (X:Cx) (target:Expr) (t:TG):Prop :=
 ∀ (pins:List (Addr × Obj)) (s:Shared) (σ:St) (H:Hp) (v:V) (u:Value) (Q:St->Hp->Prop),Inv X pins σ H s->RelV v u->t v σ H Q ->
  wpAny (model X.prog X.w) X.A (assign target X.env u) (λ _ s'=>∃ σ' H',Inv X pins σ' H' s'/\Q σ' H') X.xe s
def PGs (X:Cx) (ts:List Expr) (t:TGs):Prop :=
 ∀ (pins:List (Addr × Obj)) (s:Shared) (σ:St) (H:Hp) (vs:List V) (us:List Value) (Q:St->Hp->Prop),Inv X pins σ H s->Vals vs us->t vs σ H Q ->
  wpAny (model X.prog X.w) X.A (assignInOrder ((assignEach ts X.env).map (·.2)) us) (λ _ s'=>∃ σ' H',Inv X pins σ' H' s'/\Q σ' H') X.xe s
abbrev TSet:=V->V->V->Hp->(Hp->Prop)->Prop
def PSet (X:Cx) (t:TSet):Prop :=
 ∀ (pins:List (Addr × Obj)) (s:Shared) (σ:St) (H:Hp) (o i v:V) (ov iv u:Value) (Q:Hp->Prop),Inv X pins σ H s->RelV o ov->RelV i iv->RelV v u->t o i v H Q ->
  wpAny (model X.prog X.w) X.A (setItem ov iv u) (λ _ s'=>∃ H',Inv X pins σ H' s'/\Q H') X.xe s
section
variable {X:Cx} {pos:Pos}
def b0B (i:Nat):TG:=λ v σ H Q=>Q (σ.set i (some v)) H
theorem a0H {i:Nat} {x:Str} (hN:X.N.Nodup) (hi:X.N[i]?=some x) (hx:Loc X.env.scope x) (hf:X.fn x=true\/X.env.scope.names.lookup x=some .local:=by first | exact .inl rfl | exact .inr rfl | assumption):PG X (.Name x pos) (b0B i):=by
 intro pins s σ H v u Q I r h
 exact wpAny_assign_Name (a9Z I hN hi hx r (λ s' I'=>⟨_,H,I',h⟩) hf)
def gNil:TGs:=λ vs σ H Q=>vs=[]/\Q σ H
def c4U (t:TG) (u:TGs):TGs:=λ vs σ H Q=>∃ v r,vs=v::r/\t v σ H λ σ' H'=>u r σ' H' Q
theorem a1X:PGs X [] gNil:=by
 intro pins s σ H vs us Q I r h
 obtain ⟨e,h⟩:=h
 subst e
 cases r
 exact assignInOrder_nil ⟨σ,H,I,h⟩
theorem a0M {e:Expr} {es:List Expr} {t:TG} {u:TGs} (h1:PG X e t) (h2:PGs X es u)
  (hs:(assignEach (e::es) X.env).map (·.2)=assign e X.env::(assignEach es X.env).map (·.2):=by rfl):PGs X (e::es) (c4U t u):=by
 intro pins s σ H vs us Q I r h
 obtain ⟨v,vr,e1,h⟩:=h
 subst e1
 cases r with
 | cons r rr =>
  rw [hs]
  refine assignInOrder_cons (thn (h1 pins s σ H _ _ _ I r h) λ _ s1 ⟨σ1,H1,I1,q1⟩=>?_)
  exact h2 pins s1 σ1 H1 _ _ Q I1 rr q1
def gTup (K:Φρ) (n:Nat) (t:TGs):TG:=λ v σ H Q=>∃ a xs,v = .ref a/\SqT K H a xs/\xs.length=n/\t xs σ H Q
theorem c8E {es:List Expr} {k:Nat} {t:TGs} {n:Nat} (hc:X.calm=true) (h:PGs X es t)
  (hn:(assignEach es X.env).length=n:=by rfl) (hst:(assignEach es X.env).findIdx? (·.1)=none:=by rfl):PG X (.Tuple es k pos) (gTup X.K n t):=by
 intro pins s σ H v u Q I r hw
 obtain ⟨a,xs,e1,hq,hl,hw⟩:=hw
 subst e1
 cases r
 obtain ⟨its,rv,ht,hz⟩:=I.tuple hq
 refine assign_Tuple_tuple (I.ok.hd hc) ht (by simp [hn,<- hl,rv.length]) hst λ h' hx=>?_
 have I1:Inv X pins σ H { s with heap:=h' }:=I.kept (t':=s.toks) λ b o e=>hx b o (Nat.ne_of_lt (Heap.lt_size e)) e
 exact h pins _ σ H xs _ Q I1 (by simpa using rv) hw
def gSub (to ti:TE) (t:TSet):TG:=λ v σ H Q=>to σ H λ o H1=>ti σ H1 λ i H2=>t o i v H2 λ H3=>Q σ H3
theorem c3Z {o i:Expr} {to ti:TE} {t:TSet} (ho:PE X o to) (hi:PE X i ti) (hs:PSet X t)
  (ha:∀ v,assign (.Subscript o i pos) X.env v=(do
   let ov <- holding [v] (eval o X.env)
   let iv <- holding [v,ov] (eval i X.env)
   standAt pos
   holding [v,ov,iv] (setItem ov iv v)
   release [v,ov,iv] []):=by intro _; rfl):PG X (.Subscript o i pos) (gSub to ti t):=by
 intro pins s σ H v u Q I r h
 rw [ha]
 refine wpAny_bind (wpAny_holding (thn (ho pins s σ H _ I h) λ ov s1 ⟨x,H1,I1,r1,q1⟩=>?_))
 refine wpAny_bind (wpAny_holding (thn (hi pins s1 σ H1 _ I1 q1) λ iv s2 ⟨y,H2,I2,r2,q2⟩=>?_))
 refine wpAny_bind (wpAny_standAt (wpAny_bind (wpAny_holding (thn (hs pins s2 σ H2 x y v ov iv u _ I2 r1 r2 r q2) λ _ s3 ⟨H3,I3,q3⟩=>?_))))
 exact wpAny_release ⟨σ,H3,I3,q3⟩
def tAsg (te:TE) (g:TG):TS:=λ D σ H=>te σ H λ x H1=>g x σ H1 D.nx
theorem a6U {tg e:Expr} {te:TE} {g:TG} (he:PE X e te) (hg:PG X tg g) (hs:swapsWithSole [tg] e pos.line X.env=pure false:=by rfl) (hw:swappedStores [tg] e X.env=pure none:=by rfl)
  (h1:(assignEach [tg] X.env).map (·.2)=[assign tg X.env]:=by rfl):PS X (.Assign [tg] e pos) (tAsg te g):=by
 intro pins s σ H D I h
 refine wpAny_Assign_stores (thn (he pins s σ H _ I h) λ v s1 ⟨x,H1,I1,r1,q1⟩=>?_) hs hw
 rw [h1]
 exact thn (hg pins s1 σ H1 x v _ I1 r1 q1) λ _ s2 q=>q
theorem a0Q {i:Nat} {x:Str} {e:Expr} {te:TE} {pos':Pos} (hN:X.N.Nodup) (hi:X.N[i]?=some x) (hx:Loc X.env.scope x) (he:PE X e te) (hs:swapsWith e (some (.Name x pos')) pos.line X.env=pure false:=by rfl) (hf:X.fn x=true\/X.env.scope.names.lookup x=some .local:=by first | exact .inl rfl | exact .inr rfl | assumption) :
  PS X (.Assign [.Name x pos'] e pos) (tAsg te (b0B i)):=by
 intro pins s σ H D I h
 refine wpAny_Assign_Name (thn (he pins s σ H _ I h) λ v s1 ⟨y,H1,I1,r1,q1⟩=>?_) hs
 exact a9Z I1 hN hi hx r1 (λ s2 I2=>⟨_,H1,I2,q1⟩) hf
end
section
variable {X:Cx} {pos:Pos}
def c8F (c:TT) (tb:TS):TS:=λ D σ H=>∃ W:Nat->St->Hp->Prop,(∃ m,W m σ H)/\∀ m σ H,W m σ H ->
 c σ H λ b H1=>if b=true then ∃ N:St->Hp->Prop,(∀ σ' H',N σ' H'->∃ m',m' < m/\W m' σ' H')/\tb { D with nx:=N,ct:=N,bk:=D.nx } σ H1 else D.nx σ H1
theorem c1I {c:Expr} {body:List Stmt} {tc:TT} {tb:TS} (hp:PassesOwn (model X.prog X.w) X.A X.env X.xe) (hc:PT X c tc) (hb:PSs X body tb):PS X (.While c body [] pos) (c8F tc tb):=by
 intro pins s σ H D I h
 obtain ⟨W,⟨m0,w0⟩,turn⟩:=h
 refine wpAny_While (codeAny_whileLoop (λ n s'=>∃ σ' H',Inv X pins σ' H' s'/\W n σ' H') ?_ m0 ⟨σ,H,I,w0⟩)
 rintro n s1 ⟨σ1,H1,I1,w1⟩
 refine wpAny_passesOwn hp (thn (hc pins s1 σ1 H1 _ I1 (turn n σ1 H1 w1)) λ b s2 ⟨H2,I2,q2⟩=>?_)
 cases b with
 | true =>
  obtain ⟨N,hN,q2⟩:=q2
  rw [if_pos rfl]
  refine wpAny_passesOwn hp (thn (hb pins s2 σ1 H2 _ I2 q2) λ f s3 q3=>?_)
  cases f with
  | next =>
   obtain ⟨σ3,H3,I3,n3⟩:=q3
   obtain ⟨m',hm,w3⟩:=hN σ3 H3 n3
   exact ⟨m',hm,σ3,H3,I3,w3⟩
  | cont =>
   obtain ⟨σ3,H3,I3,n3⟩:=q3
   obtain ⟨m',hm,w3⟩:=hN σ3 H3 n3
   exact ⟨m',hm,σ3,H3,I3,w3⟩
  | brk=>exact q3
  | ret v=>exact q3
 | false =>
  rw [if_neg Bool.false_ne_true]
  exact wpAny_execs_nil ⟨σ1,H2,I2,q2⟩
end
structure It where
 go:Nat->Hp->Prop
 yld:Nat->Hp->V->Hp->Prop
 stop:Nat->Hp->Prop
def FpOk (X:Cx) (pins:List (Addr × Obj)) (H:Hp) (b:Addr):Prop :=
 H b=none/\b≠X.env.locals/\b ∉ X.fs/\(b∈X.ex\/X.s₀.heap.objs.size<=b)/\(∀ x c,X.env.cells.lookup x=some c->c≠b)/\∀ p∈X.pn++pins,p.1≠b
theorem Inv.fpOk {X:Cx} {pins:List (Addr × Obj)} {σ:St} {H H':Hp} {s:Shared} {b:Addr} (I:Inv X pins σ H s) (hb:s.heap.objs.size<=b) (hn:H' b=none):FpOk X pins H' b:=by
 refine ⟨hn,Nat.ne_of_gt (Nat.lt_of_lt_of_le I.lt hb),I.nofs hb,.inr (Nat.le_trans I.sz hb),λ x c e z=>?_,λ p hp z=>?_⟩
 ·obtain ⟨v,q⟩:=I.cell x c e
  exact absurd (Nat.lt_of_lt_of_le q.lt (by rw [z]; exact hb)) (Nat.lt_irrefl _)
 ·exact absurd (Nat.lt_of_lt_of_le (Heap.lt_size (I.pin p hp).1) (by rw [z]; exact hb)) (Nat.lt_irrefl _)
structure Turn (P:Program) (w:World) (K:Φρ) (tg:Expr) (J:It) (fp:List Addr) (it:Addr) (tn:Nat->Heap->Prop):Prop where
 mem:it∈fp
 obj:∀ i h,tn i h->∀ b∈fp,∃ o,h.get? b=some o/\∀ v,o.data ≠ .cell v
 keep:∀ i h h',tn i h->(∀ b∈fp,∀ o,h.get? b=some o->h'.get? b=some o)->tn i h'
 item:∀ (X:Cx),X.prog=P->X.w=w->X.K=K->X.calm=true->∀ (i:Nat) (pins:List (Addr × Obj)) (s:Shared) (σ:St) (H:Hp) (E:Value->Shared->Prop),Inv X pins σ H s->(∀ b∈fp,FpOk X pins H b)->tn i s.heap->J.go i H ->
  wpAny (model P w) X.A (pyNext (.ref it)) (λ r s1=>∃ u,r=some u /\
   wpAny (model P w) X.A (letOwnedTupleGo tg (.ref it) u) (λ _ s2=>∃ x H',Inv X pins σ H' s2/\RelV x u/\J.yld i H x H'/\tn (i+1) s2.heap/\∀ b∈fp,H' b=none) E s1) E s
 done:∀ (X:Cx),X.prog=P->X.w=w->X.K=K->X.calm=true->∀ (i:Nat) (pins:List (Addr × Obj)) (s:Shared) (σ:St) (H:Hp) (E:Value->Shared->Prop),Inv X pins σ H s->(∀ b∈fp,FpOk X pins H b)->tn i s.heap->J.stop i H ->
  wpAny (model P w) X.A (pyNext (.ref it)) (λ r s1=>r=none/\Inv X pins σ H s1) E s
 self:∀ (A:Around) (i:Nat) (s:Shared) (Q:Value->Shared->Prop) (E:Value->Shared->Prop),tn i s.heap->Q (.ref it) s->wpAny (model P w) A (pyIter (.ref it)) Q E s
abbrev TI:=St->Hp->(It->Hp->Prop)->Prop
def PIE (X:Cx) (pins:List (Addr × Obj)) (σ:St) (tg:Expr) (R:It->Hp->Prop) (itv:Value) (s2:Shared):Prop :=
 ∃ (it:Addr) (fp:List Addr) (tn:Nat->Heap->Prop) (J:It) (H':Hp),itv = .ref it/\Inv X pins σ H' s2/\Turn X.prog X.w X.K tg J fp it tn/\tn 0 s2.heap/\(∀ b∈fp,FpOk X pins H' b)/\R J H'
def PI (X:Cx) (tg iter:Expr) (wi:TI):Prop :=
 ∀ (pins:List (Addr × Obj)) (s:Shared) (σ:St) (H:Hp) (R:It->Hp->Prop),Inv X pins σ H s->wi σ H R ->
  wpAny (model X.prog X.w) X.A (eval iter X.env) (λ v s1=>wpAny (model X.prog X.w) X.A (pyIter v) (PIE X pins σ tg R) X.xe s1) X.xe s
theorem b7J {M : Model} {A : Around} {E : Value -> Shared -> Prop} {s : Shared} {tg : Expr} {it : Addr} {u : Value} {o : Obj} {n : String} {vs : Array Value} {Q : Unit -> Shared -> Prop} (ho : s.heap.get? it = some o) (hc : o.cls = .type n) (hd : o.data = .fields vs)
    (hn : ["enumerate", "zip", "dict_itemiterator", "dict_reverseitemiterator", "odict_iterator", "itertools.zip_longest", "itertools.pairwise"].contains n = false) (hQ : Q () s) : wpAny M A (letOwnedTupleGo tg (.ref it) u) Q E s := by
  unfold letOwnedTupleGo
  cases tg <;> first
    | exact wpAny_pure hQ
    | (cases u <;> first
        | exact wpAny_pure hQ
        | (refine wpAny_bind (wpAny_load ho ?_)
           rw [hc, hd]
           show wpAny M A (if (["enumerate", "zip", "dict_itemiterator", "dict_reverseitemiterator", "odict_iterator", "itertools.zip_longest", "itertools.pairwise"].contains n && vs[0]? == some (rawInt _)) = true then _ else _) Q E s
           rw [if_neg (by intro h; rw [hn, Bool.false_and] at h; cases h)]
           exact wpAny_pure hQ))
def Itl (K:Φρ) (a:Addr):It :=
 ⟨λ i H=>∃ xs x,SqL K H a xs/\xs[i]?=some x,λ i H x H'=>H'=H/\∀ xs,SqL K H a xs->xs[i]?=some x,λ i H=>∃ xs,SqL K H a xs/\xs.length<=i⟩
def Itt (K:Φρ) (a:Addr):It :=
 ⟨λ i H=>∃ xs x,SqT K H a xs/\xs[i]?=some x,λ i H x H'=>H'=H/\∀ xs,SqT K H a xs->xs[i]?=some x,λ i H=>∃ xs,SqT K H a xs/\xs.length<=i⟩
def Itr (lo:Int) (n:Nat):It:=⟨λ i _=>i < n,λ i H x H'=>H'=H/\x = .int (lo+i),λ i _=>n<=i⟩
theorem a4L {P:Program} {w:World} {K:Φρ} {tg:Expr} (a it:Addr):Turn P w K tg (Itl K a) [it] it (λ i h=>h.IsListIter it a i) where
 mem:=by simp
 obj:=λ i h st b hb=>by
  have e:b=it:=by simpa using hb
  subst e
  obtain ⟨o,e,c,d⟩:=st
  exact ⟨o,e,λ v z=>by rw [d] at z; cases z⟩
 keep:=λ i h h' st k=>st.at λ o e=>k it (by simp) o e
 item:=by
  intro X hP hw hK hc i pins s σ H E I hf st hg
  subst hP hw hK
  obtain ⟨xs,x,hq,hx⟩:=hg
  obtain ⟨its,rv,p,hz⟩:=I.list hq
  obtain ⟨u,hu,ru⟩:=rv.get hx
  obtain ⟨f0,f1,f2,f3,f4,f5⟩:=hf it (by simp)
  refine wpAny_pyNext_list_item st p.isList (x:=u) (by simpa using hu) λ h' st' sb=>?_
  have I1:Inv X pins σ H { s with heap:=h' }:=I.turned (t':=s.toks) (λ b o hb e=>(sb.2 b hb).trans e) f0 f1 f3 f4 f5
  obtain ⟨o,e,c,d⟩:=id st'
  exact ⟨u,rfl,b7J (s:={ s with heap:=h' }) e c d (by decide) ⟨x,H,I1,ru,⟨rfl,λ ys hy=>by rw [I.list_inj hy hq]; exact hx⟩,st',λ b hb=>(hf b hb).1⟩⟩
 done:=by
  intro X hP hw hK hc i pins s σ H E I hf st hg
  subst hP hw hK
  obtain ⟨xs,hq,hx⟩:=hg
  obtain ⟨its,rv,p,hz⟩:=I.list hq
  obtain ⟨f0,f1,f2,f3,f4,f5⟩:=hf it (by simp)
  have hl:=rv.length
  exact wpAny_pyNext_list_end (I.ok.hd hc) st p.isList (by simp; omega) λ h' eb=>⟨rfl,I.turned (t':=s.toks) (λ b o hb e=>eb b o hb e) f0 f1 f3 f4 f5⟩
 self:=λ _ _ _ _ _ st h=>wpAny_pyIter_listiter st h
theorem b6C {P:Program} {w:World} {K:Φρ} {tg:Expr} (a it:Addr):Turn P w K tg (Itt K a) [it] it (λ i h=>h.IsTupleIter it a i) where
 mem:=by simp
 obj:=λ i h st b hb=>by
  have e:b=it:=by simpa using hb
  subst e
  obtain ⟨o,e,c,d⟩:=st
  exact ⟨o,e,λ v z=>by rw [d] at z; cases z⟩
 keep:=λ i h h' st k=>st.at λ o e=>k it (by simp) o e
 item:=by
  intro X hP hw hK hc i pins s σ H E I hf st hg
  subst hP hw hK
  obtain ⟨xs,x,hq,hx⟩:=hg
  obtain ⟨its,rv,p,hz⟩:=I.tuple hq
  obtain ⟨u,hu,ru⟩:=rv.get hx
  obtain ⟨f0,f1,f2,f3,f4,f5⟩:=hf it (by simp)
  refine wpAny_pyNext_tuple_item st (show s.heap.IsTuple a its.toArray from p) (x:=u) (by simpa using hu) λ h' st' sb=>?_
  have I1:Inv X pins σ H { s with heap:=h' }:=I.turned (t':=s.toks) (λ b o hb e=>(sb.2 b hb).trans e) f0 f1 f3 f4 f5
  obtain ⟨o,e,c,d⟩:=id st'
  exact ⟨u,rfl,b7J (s:={ s with heap:=h' }) e c d (by decide) ⟨x,H,I1,ru,⟨rfl,λ ys hy=>by rw [I.tuple_inj hy hq]; exact hx⟩,st',λ b hb=>(hf b hb).1⟩⟩
 done:=by
  intro X hP hw hK hc i pins s σ H E I hf st hg
  subst hP hw hK
  obtain ⟨xs,hq,hx⟩:=hg
  obtain ⟨its,rv,p,hz⟩:=I.tuple hq
  obtain ⟨f0,f1,f2,f3,f4,f5⟩:=hf it (by simp)
  have hl:=rv.length
  exact wpAny_pyNext_tuple_end (I.ok.hd hc) st (show s.heap.IsTuple a its.toArray from p) (by simp; omega) λ h' eb=>⟨rfl,I.turned (t':=s.toks) (λ b o hb e=>eb b o hb e) f0 f1 f3 f4 f5⟩
 self:=λ _ _ _ _ _ st h=>wpAny_pyIter_tupleiter st h
theorem b6D {P:Program} {w:World} {K:Φρ} {tg:Expr} (it:Addr) (lo:Int) (n:Nat):Turn P w K tg (Itr lo n) [it] it (λ i h=>IsRangeIter h it (lo+(i:Nat)*1) ((n:Int) - (i:Nat)) 1) where
 mem:=by simp
 obj:=λ i h st b hb=>by
  have e:b=it:=by simpa using hb
  subst e
  exact ⟨_,st,λ v z=>by
   have z':Data.fields _=Data.cell v:=z
   cases z'⟩
 keep:=λ i h h' st k=>k it (by simp) _ st
 item:=by
  intro X hP hw hK hc i pins s σ H E I hf st hg
  subst hP hw hK
  obtain ⟨f0,f1,f2,f3,f4,f5⟩:=hf it (by simp)
  have W:=Walks.range (prog:=X.prog) (w:=X.w) (I.ok.hd hc) it lo 1 n
  refine W.item i s _ _ hg st λ v h' tk hv st' kk=>?_
  obtain ⟨t,rfl⟩:=hv
  have I1:Inv X pins σ H { s with heap:=h',toks:=tk }:=I.turned (λ b o hb e=>kk b o (by simpa using hb) e) f0 f1 f3 f4 f5
  refine ⟨_,rfl,b7J (s:={ s with heap:=h',toks:=tk }) (n:="range_iterator") st' rfl rfl (by decide) ⟨.int (lo+i),H,I1,⟨t,?_⟩,⟨rfl,rfl⟩,st',λ b hb=>(hf b hb).1⟩⟩
  rw [Int.mul_one]
 done:=by
  intro X hP hw hK hc i pins s σ H E I hf st hg
  subst hP hw hK
  obtain ⟨f0,f1,f2,f3,f4,f5⟩:=hf it (by simp)
  exact wpAny_pyNext_range_end (I.ok.hd hc) st (by have:n<=i:=hg; omega) λ h' eb=>⟨rfl,I.turned (t':=s.toks) (λ b o hb e=>eb b o hb e) f0 f1 f3 f4 f5⟩
 self:=λ _ _ _ _ _ st h=>wpAny_pyIter_rangeiter st h
end L2
namespace L2
open PySem PySem.Spec PyProof.Rows
section
variable {X:Cx} {tg:Expr}
def c4V (K:Φρ) (tl:TE):TI:=λ σ H R=>tl σ H λ x H1=>∃ a,x = .ref a/\(∃ xs,SqL K H1 a xs)/\R (Itl K a) H1
def iTup (K:Φρ) (tl:TE):TI:=λ σ H R=>tl σ H λ x H1=>∃ a,x = .ref a/\(∃ xs,SqT K H1 a xs)/\R (Itt K a) H1
theorem c4W {l:Expr} {tl:TE} (hl:PE X l tl):PI X tg l (c4V X.K tl):=by
 intro pins s σ H R I h
 refine thn (hl pins s σ H _ I h) λ v s1 ⟨x,H1,I1,r1,q1⟩=>?_
 obtain ⟨a,e,⟨xs,hq⟩,q⟩:=q1
 subst e
 cases r1
 obtain ⟨its,rv,p,hz⟩:=I1.list hq
 refine wpAny_pyIter_list p.isList ?_
 refine ⟨s1.heap.objs.size,[s1.heap.objs.size],_,_,H1,rfl,I1.kept (t':=s1.toks) λ b o e=>Heap.get?_push_of_some _ e,a4L a _,⟨_,Heap.get?_push_size _ rfl,rfl,rfl⟩,λ b hb=>?_,q⟩
 have e:b=s1.heap.objs.size:=by simpa using hb
 subst e
 exact I1.fpOk (Nat.le_refl _) (I1.hok.fresh (Nat.le_refl _))
theorem c8G {l:Expr} {tl:TE} (hl:PE X l tl):PI X tg l (iTup X.K tl):=by
 intro pins s σ H R I h
 refine thn (hl pins s σ H _ I h) λ v s1 ⟨x,H1,I1,r1,q1⟩=>?_
 obtain ⟨a,e,⟨xs,hq⟩,q⟩:=q1
 subst e
 cases r1
 obtain ⟨its,rv,p,hz⟩:=I1.tuple hq
 refine wpAny_pyIter_tuple (show s1.heap.IsTuple a its.toArray from p) ?_
 refine ⟨s1.heap.objs.size,[s1.heap.objs.size],_,_,H1,rfl,I1.kept (t':=s1.toks) λ b o e=>Heap.get?_push_of_some _ e,b6C a _,⟨_,Heap.get?_push_size _ rfl,rfl,rfl⟩,λ b hb=>?_,q⟩
 have e:b=s1.heap.objs.size:=by simpa using hb
 subst e
 exact I1.fpOk (Nat.le_refl _) (I1.hok.fresh (Nat.le_refl _))
theorem b4M {pins:List (Addr × Obj)} {σ:St} {H:Hp} {s:Shared} {R:It->Hp->Prop} {E:Value->Shared->Prop} {lo hi:Int} {t u v:Tok} {tk:Nat} (I:Inv X pins σ H s) (h1 : -(2 ^ 62)<=lo) (h2:lo < 2 ^ 62) (h3 : -(2 ^ 62)<=hi) (h4:hi < 2 ^ 62)
  (q:R (Itr lo (hi - lo).toNat) H):wpAny (model X.prog X.w) X.A (pyIter (.ref s.heap.objs.size)) (PIE X pins σ tg R) E { s with heap:=s.heap.push { cls:=.type "range", data:=.fields #[.int lo t,.int hi u,.int 1 v] },toks:=tk }:=by
 refine wpAny_pyIter_range (IsRange.new ..) (small_one h1 h2 h3 h4) ?_
 have I1:Inv X pins σ H { s with heap:=s.heap.push { cls:=.type "range", data:=.fields #[.int lo t,.int hi u,.int 1 v] },toks:=tk }:=I.kept λ b o e=>Heap.get?_push_of_some _ e
 refine ⟨(s.heap.push { cls:=.type "range", data:=.fields #[.int lo t,.int hi u,.int 1 v] }).objs.size,[(s.heap.push { cls:=.type "range", data:=.fields #[.int lo t,.int hi u,.int 1 v] }).objs.size],_,_,H,rfl,
  I1.kept (t':=tk) λ b o e=>Heap.get?_push_of_some _ e,b6D _ lo (hi - lo).toNat,?_,λ b hb=>?_,q⟩
 ·have e1:lo+((0:Nat):Int)*1=lo:=by simp
  have e2:(((hi - lo).toNat:Nat):Int) - ((0:Nat):Int)=Builtin.Range.rangeSize lo hi 1:=by rw [rangeSize_one]; split <;> omega
  show IsRangeIter _ _ (lo+((0:Nat):Int)*1) ((((hi - lo).toNat:Nat):Int) - ((0:Nat):Int)) 1
  rw [e1,e2]
  exact Heap.get?_push_size _ rfl
 ·have e:b=(s.heap.push { cls:=.type "range", data:=.fields #[.int lo t,.int hi u,.int 1 v] }).objs.size:=by simpa using hb
  subst e
  exact I1.fpOk (Nat.le_refl _) (I1.hok.fresh (Nat.le_refl _))
def d1I (ta:TA):TI:=λ σ H R=>ta σ H λ vs H1=>∃ j:Int,vs=[.int j] /\ -(2 ^ 62)<=j/\j < 2 ^ 62/\R (Itr 0 j.toNat) H1
def d1J (ta:TA):TI:=λ σ H R=>ta σ H λ vs H1=>∃ i j:Int,vs=[.int i,.int j]/\(-(2 ^ 62)<=i/\i < 2 ^ 62 /\ -(2 ^ 62)<=j/\j < 2 ^ 62)/\R (Itr i (j - i).toNat) H1
theorem a2O {a:Expr} {ta:TA} {p pos:Pos} (hg:Gl X "range") (hm:X.mg "range" = none) (ha:PA X [a] ta) (hs:starEach [a] X.env=[(false,eval a X.env)]:=by rfl):PI X tg (.Call (.Name "range" p) [a] [] pos) (d1I ta):=by
 intro pins s σ H R I h
 refine Call_ (a5N I hg hm boot_range (PyProof.Rows.callWith_type1 (thn (ha pos pins s σ H _ I h) λ us s1 ⟨vs,H1,I1,r1,q1⟩=>?_) hs rfl))
 obtain ⟨j,e,q1,q2,q⟩:=q1
 subst e
 cases r1 with
 | cons r rr =>
  cases rr
  obtain ⟨t,rfl⟩:=r
  exact call_range_1 (b4M I1 (by omega) (by omega) q1 q2 (by simpa using q))
theorem a4M {a b:Expr} {ta:TA} {p pos:Pos} (hg:Gl X "range") (hm:X.mg "range" = none) (ha:PA X [a,b] ta) (hs:starEach [a,b] X.env=[(false,eval a X.env),(false,eval b X.env)]:=by rfl) (hs2:starEach [b] X.env=[(false,eval b X.env)]:=by rfl) :
  PI X tg (.Call (.Name "range" p) [a,b] [] pos) (d1J ta):=by
 intro pins s σ H R I h
 refine Call_ (a5N I hg hm boot_range (PyProof.Rows.callWith_type1 (thn (ha pos pins s σ H _ I h) λ us s1 ⟨vs,H1,I1,r1,q1⟩=>?_) (by rw [hs,hs2]) (by rw [hs2]; rfl)))
 obtain ⟨i,j,e,⟨q1,q2,q3,q4⟩,q⟩:=q1
 subst e
 cases r1 with
 | cons r rr =>
  cases rr with
  | cons r' rr =>
   cases rr
   obtain ⟨t,rfl⟩:=r
   obtain ⟨t',rfl⟩:=r'
   exact call_range_2 (b4M I1 q1 q2 q3 q4 q)
def tFor (wi:TI) (g:TG) (tb:TS):TS:=λ D σ H=>wi σ H λ J H1=>∃ W:Nat->Nat->St->Hp->Prop,(∃ m,W 0 m σ H1)/\∀ i m σ H,W i m σ H ->
 (J.stop i H/\D.nx σ H)\/(J.go i H/\∃ N:St->Hp->Prop,(∀ σ' H',N σ' H'->∃ m',m' < m/\W (i+1) m' σ' H')/\∀ x H',J.yld i H x H'->g x σ H' λ σ2 H2=>tb { D with nx:=N,ct:=N,bk:=D.nx } σ2 H2)
def a5C (fp:List Addr) (h:Heap):List (Addr × Obj):=fp.filterMap λ b=>(h.get? b).map λ o=>(b,o)
theorem a3H {fp:List Addr} {h:Heap} {b:Addr} {o:Obj} (hb:b∈fp) (e:h.get? b=some o):(b,o)∈a5C fp h:=List.mem_filterMap.mpr ⟨b,hb,by rw [e]; rfl⟩
theorem b7K {fp:List Addr} {h:Heap} {p:Addr × Obj} (hp:p∈a5C fp h):p.1∈fp/\h.get? p.1=some p.2:=by
 obtain ⟨b,hb,e⟩:=List.mem_filterMap.mp hp
 cases q:h.get? b with
 | none=>rw [q] at e; cases e
 | some o =>
  rw [q] at e
  have e':(b,o)=p:=Option.some.inj e
  subst e'
  exact ⟨hb,q⟩
theorem Inv.pinned {pins:List (Addr × Obj)} {σ:St} {H:Hp} {s:Shared} {fp:List Addr} (I:Inv X pins σ H s) (hf:∀ b∈fp,FpOk X pins H b) (ho:∀ b∈fp,∃ o,s.heap.get? b=some o/\∀ v,o.data ≠ .cell v):Inv X (pins++a5C fp s.heap) σ H s :=
 I.pins_of λ p hp=>(List.mem_append.mp hp).elim (λ z=>I.pin p (List.mem_append_right _ z)) λ z=>by
  obtain ⟨hb,e⟩:=b7K z
  obtain ⟨f0,f1,f2,_⟩:=hf p.1 hb
  obtain ⟨o,e',d⟩:=ho p.1 hb
  rw [e] at e'; cases e'
  exact ⟨e,f0,f1,f2,d⟩
theorem Inv.unpinned {pins pl:List (Addr × Obj)} {σ:St} {H:Hp} {s:Shared} (I:Inv X (pins++pl) σ H s):Inv X pins σ H s:=I.pins_of λ p hp=>I.pin p (List.mem_append_right _ (List.mem_append_left _ hp))
theorem a2Z {iter:Expr} {body:List Stmt} {wi:TI} {g:TG} {tb:TS} {pos:Pos} (hp:PassesOwn (model X.prog X.w) X.A X.env X.xe) (hc:X.calm=true) (hi:PI X tg iter wi) (hg:PG X tg g) (hb:PSs X body tb)
  (hs:∀ x,foldedSetIterable iter X.env x=pure x:=by intro _; rfl):PS X (.For tg iter body [] pos) (tFor wi g tb):=by
 intro pins s σ H D I h
 refine wpAny_For (thn (hi pins s σ H _ I h) λ v s1 h1=>thn h1 λ itv s2 h2=>?_) hs
 obtain ⟨it,fp,tn,J,H2,e,I2,T,st2,f2,W,⟨m0,w0⟩,turn⟩:=h2
 subst e
 have stat:∀ {H':Hp},(∀ b∈fp,H' b=none)->∀ b∈fp,FpOk X pins H' b:=λ hn b hb=>⟨hn b hb,(f2 b hb).2⟩
 refine codeAny_forLoop_any (λ n s'=>∃ i σ' H',Inv X pins σ' H' s'/\tn i s'.heap/\(∀ b∈fp,H' b=none)/\W i n σ' H') ?_ m0 ⟨0,σ,H2,I2,st2,λ b hb=>(f2 b hb).1,w0⟩
 rintro n s3 ⟨i,σ3,H3,I3,st3,fr3,w3⟩
 rcases turn i n σ3 H3 w3 with ⟨stop,qn⟩ | ⟨go,N,hN,step⟩
 ·refine wpAny_passesOwn hp (thn (T.done X rfl rfl rfl hc i pins s3 σ3 H3 X.xe I3 (stat fr3) st3 stop) λ r s4 ⟨hr,I4⟩=>?_)
  subst hr
  exact wpAny_execs_nil ⟨σ3,H3,I4,qn⟩
 ·refine wpAny_passesOwn hp (thn (T.item X rfl rfl rfl hc i pins s3 σ3 H3 X.xe I3 (stat fr3) st3 go) λ r s4 ⟨u,hr,h4⟩=>?_)
  subst hr
  refine wpAny_passesOwn hp (thn h4 λ _ s5 ⟨x,H5,I5,r5,y5,st5,fr5⟩=>?_)
  have I5':=I5.pinned (stat fr5) (T.obj _ _ st5)
  refine wpAny_passesOwn hp (thn (hg _ s5 σ3 H5 x u _ I5' r5 (step x H5 y5)) λ _ s6 ⟨σ6,H6,I6,q6⟩=>?_)
  refine wpAny_passesOwn hp (thn (hb _ s6 σ6 H6 _ I6 q6) λ f s7 q7=>?_)
  have again:∀ {σ7:St} {H7:Hp},Inv X (pins++a5C fp s5.heap) σ7 H7 s7->N σ7 H7->∃ m,m < n/\∃ i σ' H',Inv X pins σ' H' s7/\tn i s7.heap/\(∀ b∈fp,H' b=none)/\W i m σ' H':=λ {σ7 H7} I7 n7=>by
   obtain ⟨m',hm,w7⟩:=hN σ7 H7 n7
   refine ⟨m',hm,i+1,σ7,H7,I7.unpinned,T.keep _ _ _ st5 λ b hb o e=>(I7.pin (b,o) (List.mem_append_right _ (List.mem_append_right _ (a3H hb e)))).1,λ b hb=>?_,w7⟩
   obtain ⟨o,e,d⟩:=T.obj _ _ st5 b hb
   exact (I7.pin (b,o) (List.mem_append_right _ (List.mem_append_right _ (a3H hb e)))).2.1
  cases f with
  | next=>obtain ⟨σ7,H7,I7,n7⟩:=q7; exact again I7 n7
  | cont=>obtain ⟨σ7,H7,I7,n7⟩:=q7; exact again I7 n7
  | brk=>obtain ⟨σ7,H7,I7,q7⟩:=q7; exact ⟨σ7,H7,I7.unpinned,q7⟩
  | ret v=>obtain ⟨x7,σ7,H7,I7,r7,q7⟩:=q7; exact ⟨x7,σ7,H7,I7.unpinned,r7,q7⟩
end
theorem a5O {K:Φρ} {a:Addr} {xs:List V} {g:TG} {tb:TS} {D:Ends} {σ:St} {H:Hp} (Pv:Nat->St->Hp->Prop) (h0:Pv 0 σ H) (hl:∀ i σ H,i<=xs.length->Pv i σ H->SqL K H a xs)
  (hs:∀ i x σ H,xs[i]?=some x->Pv i σ H->g x σ H λ σ2 H2=>tb { D with nx:=Pv (i+1),ct:=Pv (i+1),bk:=D.nx } σ2 H2) (hd:∀ σ H,Pv xs.length σ H->D.nx σ H) :
  ∃ W:Nat->Nat->St->Hp->Prop,(∃ m,W 0 m σ H)/\∀ i m σ H,W i m σ H ->
   ((Itl K a).stop i H/\D.nx σ H)\/((Itl K a).go i H/\∃ N:St->Hp->Prop,(∀ σ' H',N σ' H'->∃ m',m' < m/\W (i+1) m' σ' H')/\∀ x H',(Itl K a).yld i H x H'->g x σ H' λ σ2 H2=>tb { D with nx:=N,ct:=N,bk:=D.nx } σ2 H2):=by
 refine ⟨λ i m σ H=>m=xs.length - i/\i<=xs.length/\Pv i σ H,⟨xs.length,by simp,Nat.zero_le _,h0⟩,?_⟩
 rintro i m σ H ⟨rfl,hi,p⟩
 have q:=hl i σ H hi p
 by_cases hlt:i < xs.length
 ·refine .inr ⟨⟨xs,xs[i],q,by simp [hlt]⟩,Pv (i+1),λ σ' H' p'=>⟨xs.length - (i+1),by omega,rfl,hlt,p'⟩,λ x H' y=>?_⟩
  obtain ⟨e,y⟩:=y
  subst e
  exact hs i x σ _ (y xs q) p
 ·have e:i=xs.length:=by omega
  subst e
  exact .inl ⟨⟨xs,q,Nat.le_refl _⟩,hd σ H p⟩
theorem a3A {lo:Int} {n:Nat} {g:TG} {tb:TS} {D:Ends} {σ:St} {H:Hp} (Pv:Nat->St->Hp->Prop) (h0:Pv 0 σ H)
  (hs:∀ i σ H,i < n->Pv i σ H->g (.int (lo+i)) σ H λ σ2 H2=>tb { D with nx:=Pv (i+1),ct:=Pv (i+1),bk:=D.nx } σ2 H2) (hd:∀ σ H,Pv n σ H->D.nx σ H) :
  ∃ W:Nat->Nat->St->Hp->Prop,(∃ m,W 0 m σ H)/\∀ i m σ H,W i m σ H ->
   ((Itr lo n).stop i H/\D.nx σ H)\/((Itr lo n).go i H/\∃ N:St->Hp->Prop,(∀ σ' H',N σ' H'->∃ m',m' < m/\W (i+1) m' σ' H')/\∀ x H',(Itr lo n).yld i H x H'->g x σ H' λ σ2 H2=>tb { D with nx:=N,ct:=N,bk:=D.nx } σ2 H2):=by
 refine ⟨λ i m σ H=>m=n - i/\i<=n/\Pv i σ H,⟨n,by simp,Nat.zero_le _,h0⟩,?_⟩
 rintro i m σ H ⟨rfl,hi,p⟩
 by_cases hlt:i < n
 ·refine .inr ⟨hlt,Pv (i+1),λ σ' H' p'=>⟨n - (i+1),by omega,rfl,hlt,p'⟩,λ x H' y=>?_⟩
  obtain ⟨e,y⟩:=y
  subst e y
  exact hs i σ _ hlt p
 ·have e:i=n:=by omega
  subst e
  exact .inl ⟨Nat.le_refl _,hd σ H p⟩
end L2
namespace L2
open PySem PySem.Spec PyProof.Rows
abbrev R2:=V->V->Hp->VK->Prop
def OpR (X:Cx) (f:Value->Value->Sem Value) (r:R2):Prop :=
 ∀ (pins:List (Addr × Obj)) (s:Shared) (σ:St) (H:Hp) (x y:V) (v u:Value) (Q:VK),Inv X pins σ H s->RelV x v->RelV y u->r x y H Q ->
  wpAny (model X.prog X.w) X.A (f v u) (EP X pins σ Q) X.xe s
def UnR (X:Cx) (f:Value->Sem Value) (r:V->Hp->VK->Prop):Prop :=
 ∀ (pins:List (Addr × Obj)) (s:Shared) (σ:St) (H:Hp) (x:V) (v:Value) (Q:VK),Inv X pins σ H s->RelV x v->r x H Q ->
  wpAny (model X.prog X.w) X.A (f v) (EP X pins σ Q) X.xe s
def CallR (X:Cx) (f:Value) (r:List V->Hp->VK->Prop):Prop :=
 ∀ (pins:List (Addr × Obj)) (s:Shared) (σ:St) (H:Hp) (xs:List V) (us:List Value) (Q:VK),Inv X pins σ H s->Vals xs us->r xs H Q ->
  wpAny (model X.prog X.w) X.A (call f us) (EP X pins σ Q) X.xe s
def TruR (X:Cx) (r:V->Hp->(Bool->Hp->Prop)->Prop):Prop :=
 ∀ (pins:List (Addr × Obj)) (s:Shared) (σ:St) (H:Hp) (x:V) (v:Value) (Q:Bool->Hp->Prop),Inv X pins σ H s->RelV x v->r x H Q ->
  wpAny (model X.prog X.w) X.A (truthy v) (TP X pins σ Q) X.xe s
def tOp (r:R2) (ta tb:TE):TE:=λ σ H Q=>ta σ H λ x H1=>tb σ H1 λ y H2=>r x y H2 Q
def tUn (r:V->Hp->VK->Prop) (ta:TE):TE:=λ σ H Q=>ta σ H λ x H1=>r x H1 Q
def rI (C:Int->Int->Prop) (g:Int->Int->V):R2:=λ x y H Q=>∃ i j,x = .int i/\y = .int j/\C i j/\Q (g i j) H
def rI0 (g:Int->Int->V):R2:=λ x y H Q=>∃ i j,x = .int i/\y = .int j/\Q (g i j) H
def rU (g:Int->V):V->Hp->VK->Prop:=λ x H Q=>∃ i,x = .int i/\Q (g i) H
section
variable {X:Cx} {a b c:Expr} {ta tb tc:TE} {pos:Pos}
theorem binT (ha:PE X a ta) (hb:PE X b tb) {pins:List (Addr × Obj)} {s:Shared} {σ:St} {H:Hp} {R:V->V->Hp->Prop} (I:Inv X pins σ H s)
  (h:ta σ H λ x H1=>tb σ H1 λ y H2=>R x y H2) {Q:Value->Shared->Prop} {f:Value->Value->Sem Value}
  (hf:∀ v u s2 x y H2,Inv X pins σ H2 s2->RelV x v->RelV y u->R x y H2->wpAny (model X.prog X.w) X.A (f v u) Q X.xe s2) :
  wpAny (model X.prog X.w) X.A (eval a X.env) (λ v s₁=>wpAny (model X.prog X.w) X.A (eval b X.env) (λ u s₂=>wpAny (model X.prog X.w) X.A (f v u) Q X.xe s₂) X.xe s₁) X.xe s:=by
 refine thn (ha pins s σ H _ I h) λ v s1 ⟨x,H1,I1,r1,q1⟩=>?_
 refine thn (hb pins s1 σ H1 _ I1 q1) λ u s2 ⟨y,H2,I2,r2,q2⟩=>?_
 exact hf v u s2 x y H2 I2 r1 r2 q2
theorem a0R {op:Operator} {r:R2} (ho:OpR X (binaryOp op) r) (ha:PE X a ta) (hb:PE X b tb):PE X (.BinOp a op b pos) (tOp r ta tb):=by
 intro pins s σ H Q I h
 exact wpAny_BinOp (binT ha hb I h λ v u s2 x y H2 I2 rx ry q=>ho pins s2 σ H2 x y v u Q I2 rx ry q)
theorem c1J {op:UnaryOp} {r:V->Hp->VK->Prop} (ho:UnR X (unaryOp op) r) (ha:PE X a ta):PE X (.UnaryOp op a pos) (tUn r ta):=by
 intro pins s σ H Q I h
 exact UnaryOp_ (thn (ha pins s σ H _ I h) λ v s1 ⟨x,H1,I1,r1,q1⟩=>ho pins s1 σ H1 x v Q I1 r1 q1)
theorem opI {f:Value->Value->Sem Value} {C:Int->Int->Prop} {g:Int->Int->Int}
  (rule:∀ (i j:Int) (t u:Tok) (s:Shared) (Q:Value->Shared->Prop) (E:Value->Shared->Prop),C i j->Q (.int (g i j) s.toks) { s with toks:=s.toks+1 }->wpAny (model X.prog X.w) X.A (f (.int i t) (.int j u)) Q E s) :
  OpR X f (rI C λ i j=>.int (g i j)):=by
 intro pins s σ H x y v u Q I rx ry h
 obtain ⟨i,j,rfl,rfl,hc,q⟩:=h
 obtain ⟨t,rfl⟩:=rx
 obtain ⟨t',rfl⟩:=ry
 exact rule i j t t' s _ _ hc ⟨.int (g i j),H,I.tok _,⟨_,rfl⟩,q⟩
theorem opI0 {f:Value->Value->Sem Value} {g:Int->Int->Int}
  (rule:∀ (i j:Int) (t u:Tok) (s:Shared) (Q:Value->Shared->Prop) (E:Value->Shared->Prop),Q (.int (g i j) s.toks) { s with toks:=s.toks+1 }->wpAny (model X.prog X.w) X.A (f (.int i t) (.int j u)) Q E s) :
  OpR X f (rI0 λ i j=>.int (g i j)):=by
 intro pins s σ H x y v u Q I rx ry h
 obtain ⟨i,j,rfl,rfl,q⟩:=h
 obtain ⟨t,rfl⟩:=rx
 obtain ⟨t',rfl⟩:=ry
 exact rule i j t t' s _ _ ⟨.int (g i j),H,I.tok _,⟨_,rfl⟩,q⟩
theorem opB0 {f:Value->Value->Sem Value} {g:Int->Int->Bool}
  (rule:∀ (i j:Int) (t u:Tok) (s:Shared) (Q:Value->Shared->Prop) (E:Value->Shared->Prop),Q (.bool (g i j)) s->wpAny (model X.prog X.w) X.A (f (.int i t) (.int j u)) Q E s) :
  OpR X f (rI0 λ i j=>.bl (g i j)):=by
 intro pins s σ H x y v u Q I rx ry h
 obtain ⟨i,j,rfl,rfl,q⟩:=h
 obtain ⟨t,rfl⟩:=rx
 obtain ⟨t',rfl⟩:=ry
 exact rule i j t t' s _ _ ⟨.bl (g i j),H,I,rfl,q⟩
def CDiv (i j:Int):Prop:=0 < j/\j < 1073741824
def CMul (i j:Int):Prop:=(-(2 ^ 64) < i/\i < 2 ^ 64)\/(-(2 ^ 64) < j/\j < 2 ^ 64)
theorem CMul.ok {i j:Int} (h:CMul i j):IntMulOk i j:=by
 rcases h with ⟨h1,h2⟩ | ⟨h1,h2⟩
 ·exact .of_left (intBits_le_64 h1 h2)
 ·exact .of_right (intBits_le_64 h1 h2)
theorem a2I:OpR X (binaryOp .Add) (rI0 λ i j=>.int (i+j)):=opI0 λ _ _ _ _ _ _ _ q=>add_int q
theorem a4N:OpR X (binaryOp .Sub) (rI0 λ i j=>.int (i - j)):=opI0 λ _ _ _ _ _ _ _ q=>sub_int q
theorem a7T:OpR X (binaryOp .Mult) (rI CMul λ i j=>.int (i*j)):=opI λ _ _ _ _ _ _ _ hc q=>mul_int q hc.ok
theorem b7L:OpR X (binaryOp .FloorDiv) (rI CDiv λ i j=>.int (i / j)):=opI λ i j _ _ _ _ _ hc q=>by
 have h1:(0:Int) < j:=hc.1
 have h2:j < 1073741824:=hc.2
 exact floordiv_int (by omega) (by rw [Int.fdiv_eq_ediv_of_nonneg i (by omega)]; exact q) (.inl (PyProof.noPylong_small (by omega)))
theorem a2E:OpR X (binaryOp .Mod) (rI (λ _ j=>0 < j) λ i j=>.int (i % j)):=opI λ i j _ _ _ _ _ hc q=>by
 have h1:(0:Int) < j:=hc
 exact mod_int' (by omega) (by rw [Int.fmod_eq_emod_of_nonneg i (by omega)]; exact q)
theorem unI {f:Value->Sem Value} {g:Int->Int}
  (rule:∀ (i:Int) (t:Tok) (s:Shared) (Q:Value->Shared->Prop) (E:Value->Shared->Prop),Q (.int (g i) s.toks) { s with toks:=s.toks+1 }->wpAny (model X.prog X.w) X.A (f (.int i t)) Q E s) :
  UnR X f (rU λ i=>.int (g i)):=by
 intro pins s σ H x v Q I rx h
 obtain ⟨i,rfl,q⟩:=h
 obtain ⟨t,rfl⟩:=rx
 exact rule i t s _ _ ⟨.int (g i),H,I.tok _,⟨_,rfl⟩,q⟩
theorem b4N:UnR X (unaryOp .USub) (rU λ i=>.int (-i)):=unI λ _ _ _ _ _ q=>neg_int q
end
def scal:V->V->Bool
 | .non,.non=>true | .non,.int _=>true | .int _,.non=>true | .non,.bl _=>true | .bl _,.non=>true | .non,.str _=>true | .str _,.non=>true
 | .int _,.int _=>true | .bl _,.bl _=>true | .str _,.str _=>true | .byt _,.byt _=>true
 | .int _,.str _=>true | .str _,.int _=>true | .bl _,.str _=>true | .str _,.bl _=>true
 | _,_=>false
def rEq:R2:=λ x y H Q=>scal x y=true/\Q (.bl (decide (x=y))) H
def rNe:R2:=λ x y H Q=>scal x y=true/\Q (.bl (!decide (x=y))) H
theorem b7M {i j:Int}:decide (V.int i=V.int j)=(i == j):=by
 rw [Bool.eq_iff_iff]
 simp
theorem c4A {i j:Bool}:decide (V.bl i=V.bl j)=(i == j):=by
 rw [Bool.eq_iff_iff]
 simp
theorem b7N {i j:Str}:decide (V.str i=V.str j)=(i == j):=by
 rw [Bool.eq_iff_iff]
 simp
theorem b7O {i j:Array UInt8}:decide (V.byt i=V.byt j)=(i.toList == j.toList):=by
 rw [Bool.eq_iff_iff]
 cases i
 cases j
 simp
section
variable {X:Cx} {a b c:Expr} {ta tb tc:TE} {pos:Pos}
theorem a1P {pins:List (Addr × Obj)} {σ:St} {H:Hp} {s:Shared} {Q:VK} {k k':Bool} (I:Inv X pins σ H s) (q:Q (.bl k) H) (e:k=k'):EP X pins σ Q (.bool k') s:=by
 subst e
 exact ⟨.bl k,H,I,rfl,q⟩
theorem a5P:OpR X (compareOp .Eq) rEq:=by
 intro pins s σ H x y v u Q I rx ry h
 obtain ⟨hs,q⟩:=h
 cases x with
 | non =>
  cases rx
  cases y with
  | non=>cases ry; exact PySem.EqNone.eq_none_none (a1P I q (by simp))
  | bl j=>cases ry; exact PySem.EqNone.eq_none_bool (a1P I q (by simp))
  | int j=>obtain ⟨t',rfl⟩:=ry; exact PySem.EqNone.eq_none_int (a1P I q (by simp))
  | str j=>obtain ⟨t',rfl⟩:=ry; exact PySem.EqNone.eq_none_str (a1P I q (by simp))
  | _=>exact absurd (show false=true from hs) Bool.false_ne_true
 | bl i =>
  cases rx
  cases y with
  | non=>cases ry; exact PySem.EqNone.eq_bool_none (a1P I q (by simp))
  | bl j=>cases ry; exact eq_bool (a1P I q c4A)
  | str j=>obtain ⟨t',rfl⟩:=ry; exact PySem.EqMixed.eq_bool_str (a1P I q (by simp))
  | _=>exact absurd (show false=true from hs) Bool.false_ne_true
 | int i =>
  obtain ⟨t,rfl⟩:=rx
  cases y with
  | non=>cases ry; exact PySem.EqNone.eq_int_none (a1P I q (by simp))
  | int j=>obtain ⟨t',rfl⟩:=ry; exact eq_int (a1P I q b7M)
  | str j=>obtain ⟨t',rfl⟩:=ry; exact PySem.EqMixed.eq_int_str (a1P I q (by simp))
  | _=>exact absurd (show false=true from hs) Bool.false_ne_true
 | str i =>
  obtain ⟨t,rfl⟩:=rx
  cases y with
  | non=>cases ry; exact PySem.EqNone.eq_str_none (a1P I q (by simp))
  | bl j=>cases ry; exact PySem.EqMixed.eq_str_bool (a1P I q (by simp))
  | int j=>obtain ⟨t',rfl⟩:=ry; exact PySem.EqMixed.eq_str_int (a1P I q (by simp))
  | str j=>obtain ⟨t',rfl⟩:=ry; exact eq_str (a1P I q b7N)
  | _=>exact absurd (show false=true from hs) Bool.false_ne_true
 | byt i =>
  obtain ⟨t,rfl⟩:=rx
  cases y with
  | byt j=>obtain ⟨t',rfl⟩:=ry; exact PySem.W.eq_bytes (a1P I q b7O)
  | _=>exact absurd (show false=true from hs) Bool.false_ne_true
 | _=>cases y <;> exact absurd (show false=true from hs) Bool.false_ne_true
theorem b7P:OpR X (compareOp .NotEq) rNe:=by
 intro pins s σ H x y v u Q I rx ry h
 obtain ⟨hs,q⟩:=h
 cases x with
 | non =>
  cases rx
  cases y with
  | non=>cases ry; exact PySem.EqNone.ne_none_none (a1P I q (by simp))
  | bl j=>cases ry; exact PySem.EqNone.ne_none_bool (a1P I q (by simp))
  | int j=>obtain ⟨t',rfl⟩:=ry; exact PySem.EqNone.ne_none_int (a1P I q (by simp))
  | str j=>obtain ⟨t',rfl⟩:=ry; exact PySem.EqNone.ne_none_str (a1P I q (by simp))
  | _=>exact absurd (show false=true from hs) Bool.false_ne_true
 | bl i =>
  cases rx
  cases y with
  | non=>cases ry; exact PySem.EqNone.ne_bool_none (a1P I q (by simp))
  | bl j=>cases ry; exact ne_bool (a1P I q (congrArg not c4A))
  | str j=>obtain ⟨t',rfl⟩:=ry; exact PySem.EqMixed.ne_bool_str (a1P I q (by simp))
  | _=>exact absurd (show false=true from hs) Bool.false_ne_true
 | int i =>
  obtain ⟨t,rfl⟩:=rx
  cases y with
  | non=>cases ry; exact PySem.EqNone.ne_int_none (a1P I q (by simp))
  | int j=>obtain ⟨t',rfl⟩:=ry; exact ne_int (a1P I q (congrArg not b7M))
  | str j=>obtain ⟨t',rfl⟩:=ry; exact PySem.EqMixed.ne_int_str (a1P I q (by simp))
  | _=>exact absurd (show false=true from hs) Bool.false_ne_true
 | str i =>
  obtain ⟨t,rfl⟩:=rx
  cases y with
  | non=>cases ry; exact PySem.EqNone.ne_str_none (a1P I q (by simp))
  | bl j=>cases ry; exact PySem.EqMixed.ne_str_bool (a1P I q (by simp))
  | int j=>obtain ⟨t',rfl⟩:=ry; exact PySem.EqMixed.ne_str_int (a1P I q (by simp))
  | str j=>obtain ⟨t',rfl⟩:=ry; exact ne_str (a1P I q (congrArg not b7N))
  | _=>exact absurd (show false=true from hs) Bool.false_ne_true
 | byt i =>
  obtain ⟨t,rfl⟩:=rx
  cases y with
  | byt j=>obtain ⟨t',rfl⟩:=ry; exact PySem.W.ne_bytes (a1P I q (congrArg not b7O))
  | _=>exact absurd (show false=true from hs) Bool.false_ne_true
 | _=>cases y <;> exact absurd (show false=true from hs) Bool.false_ne_true
theorem b7Q:OpR X (compareOp .Lt) (rI0 λ i j=>.bl (decide (i < j))):=opB0 λ _ _ _ _ _ _ _ q=>lt_int q
theorem d1K:OpR X (compareOp .LtE) (rI0 λ i j=>.bl (decide (i<=j))):=opB0 λ _ _ _ _ _ _ _ q=>le_int q
theorem a4Y:OpR X (compareOp .Gt) (rI0 λ i j=>.bl (decide (j < i))):=opB0 λ _ _ _ _ _ _ _ q=>gt_int q
theorem d1L:OpR X (compareOp .GtE) (rI0 λ i j=>.bl (decide (j<=i))):=opB0 λ _ _ _ _ _ _ _ q=>ge_int q
theorem a5Q : OpR X (compareOp .Is) (fun x y H Q => y = .non /\ Q (.bl (decide (x = .non))) H) := by
  intro pins s σ H x y v u Q I rx ry h
  obtain ⟨rfl, q⟩ := h
  cases ry
  refine is_none_gen (a1P I q ?_)
  cases x <;> first
    | (cases rx; rfl)
    | (obtain ⟨t, rfl⟩ := rx; rfl)
theorem a5I : OpR X (compareOp .IsNot) (fun x y H Q => y = .non /\ Q (.bl (!decide (x = .non))) H) := by
  intro pins s σ H x y v u Q I rx ry h
  obtain ⟨rfl, q⟩ := h
  cases ry
  refine isnot_none_gen (a1P I q ?_)
  cases x <;> first
    | (cases rx; rfl)
    | (obtain ⟨t, rfl⟩ := rx; rfl)
theorem a0S (b:Expr) {op:CmpOp} (h:op ≠ .In:=by decide) (h2:op ≠ .NotIn:=by decide):behindInMarks op b=false:=by
 have e1:(op == CmpOp.In)=false:=by cases op <;> first | rfl | exact absurd rfl h
 have e2:(op == CmpOp.NotIn)=false:=by cases op <;> first | rfl | exact absurd rfl h2
 cases b <;> simp [behindInMarks,e1,e2]
theorem a3S {op:CmpOp} {r:R2} (ho:OpR X (compareOp op) r) (ha:PE X a ta) (hb:PE X b tb) (hm:behindInMarks op b=false):PE X (.Compare a [op] [b] pos) (tOp r ta tb):=by
 intro pins s σ H Q I h
 exact wpAny_Compare1 (binT ha hb I h λ v u s2 x y H2 I2 rx ry q=>ho pins s2 σ H2 x y v u Q I2 rx ry q) hm
def c4X (t:TE):TT:=λ σ H Q=>t σ H λ x H'=>∃ k,x = .bl k/\Q k H'
theorem a0J {op:CmpOp} {r:R2} (ho:OpR X (compareOp op) r) (ha:PE X a ta) (hb:PE X b tb) (hm:behindInMarks op b=false):PT X (.Compare a [op] [b] pos) (c4X (tOp r ta tb)):=by
 intro pins s σ H Q I h
 refine wpAny_isTrue_Compare1 (thn (ha pins s σ H _ I h) λ v s1 ⟨x,H1,I1,r1,q1⟩=>thn (hb pins s1 σ H1 _ I1 q1) λ u s2 ⟨y,H2,I2,r2,q2⟩ =>
  thn (ho pins s2 σ H2 x y v u _ I2 r1 r2 q2) λ c s3 ⟨z,H3,I3,r3,k,e,q3⟩=>?_) hm
 subst e
 cases r3
 exact wpAny_truthy_bool ⟨H3,I3,q3⟩
def c8H (r r':R2) (ta tb tc:TE):TE:=λ σ H Q=>ta σ H λ x H1=>tb σ H1 λ y H2=>r x y H2 λ z H3=>∃ k,z = .bl k /\
 (if k=true then tc σ H3 λ w' H4=>r' y w' H4 Q else Q (.bl false) H3)
theorem c1K {op op':CmpOp} {r r':R2} (ho:OpR X (compareOp op) r) (ho':OpR X (compareOp op') r') (ha:PE X a ta) (hb:PE X b tb) (hc:PE X c tc)
  (hm:lastMarks [op,op'] [b,c]=false:=by with_unfolding_all rfl):PE X (.Compare a [op,op'] [b,c] pos) (c8H r r' ta tb tc):=by
 intro pins s σ H Q I h
 refine Compare_chain (thn (ha pins s σ H _ I h) λ v s1 ⟨x,H1,I1,r1,q1⟩=>chain_link (thn (hb pins s1 σ H1 _ I1 q1) λ u s2 ⟨y,H2,I2,r2,q2⟩ =>
  thn (ho pins s2 σ H2 x y v u _ I2 r1 r2 q2) λ d s3 ⟨z,H3,I3,r3,k,e,q3⟩=>?_)) hm
 subst e
 cases r3
 refine wpAny_truthy_bool ?_
 cases k with
 | false=>exact ite_ff ⟨.bl false,H3,I3,rfl,q3⟩
 | true=>exact ite_tt (chain_last (thn (hc pins s3 σ H3 _ I3 q3) λ w' s4 ⟨z',H4,I4,r4,q4⟩=>ho' pins s4 σ H4 y z' u w' Q I4 r2 r4 q4))
def TruV (K:Φρ) (x:V) (H:Hp) (k:Bool):Prop :=
 match x with
 | .non=>k=false
 | .bl b=>k=b
 | .int i=>k=(i != 0)
 | .str y=>y.length<=sizeLine/\k=((y.length:Int) != 0)
 | .byt y=>y.size<=sizeLine/\k=((y.size:Int) != 0)
 | .ref p=>(∃ xs,SqL K H p xs/\k = !xs.isEmpty)\/(∃ xs,SqT K H p xs/\k = !xs.isEmpty)\/∃ kvs,H p=some (.dK kvs)/\k = !kvs.isEmpty
 | _=>False
theorem b6E {κ:Type} {kvs:List (κ × V)} {vs:List (κ × Value)} (r:KV kvs vs):(!vs.isEmpty) = !kvs.isEmpty:=by
 cases r <;> rfl
theorem a6I {xs:List V} {its:List Value} (r:Vals xs its):(!its.toArray.isEmpty) = !xs.isEmpty:=by
 cases r <;> simp
theorem a9L:(sizeLine:Nat) < 2 ^ 63:=by rw [sizeLine_eq]; decide
theorem b4O:TruR X (λ x H Q=>∃ k,TruV X.K x H k/\Q k H):=by
 intro pins s σ H x v Q I rx h
 obtain ⟨k,e,q⟩:=h
 have hl:=a9L
 have hs:sizeLine=16777216:=sizeLine_eq
 cases x with
 | non =>
  cases rx
  have e':k=false:=e
  subst e'
  exact truthy_none ⟨H,I,q⟩
 | bl b =>
  cases rx
  have e':k=b:=e
  subst e'
  exact wpAny_truthy_bool ⟨H,I,q⟩
 | int i =>
  obtain ⟨t,rfl⟩:=rx
  have e':k=(i != 0):=e
  subst e'
  exact PySem.P.truthy_int ⟨H,I,q⟩
 | str y =>
  obtain ⟨t,rfl⟩:=rx
  obtain ⟨hy,e'⟩:y.length<=sizeLine/\k=((y.length:Int) != 0):=e
  subst e'
  exact PySem.P.truthy_str (by omega) ⟨H,I.tok _,q⟩
 | byt y =>
  obtain ⟨t,rfl⟩:=rx
  obtain ⟨hy,e'⟩:y.size<=sizeLine/\k=((y.size:Int) != 0):=e
  subst e'
  exact PySem.W.truthy_bytes (by omega) ⟨H,I.tok _,q⟩
 | ref p =>
  cases rx
  have e':(∃ xs,SqL X.K H p xs/\k = !xs.isEmpty)\/(∃ xs,SqT X.K H p xs/\k = !xs.isEmpty)\/∃ kvs,H p=some (.dK kvs)/\k = !kvs.isEmpty:=e
  rcases e' with ⟨xs,hx,e'⟩ | ⟨xs,hx,e'⟩ | ⟨kvs,hx,e'⟩
  ·subst e'
   obtain ⟨its,r,pl,hz⟩:=I.list hx
   have hlen:=r.length
   exact wpAny_truthy_list pl.isList (by simp only [List.size_toArray]; omega) ⟨H,I.tok _,by rw [a6I r]; exact q⟩
  ·subst e'
   obtain ⟨its,r,pl,hz⟩:=I.tuple hx
   have hlen:=r.length
   exact truthy_tuple pl (by simp only [List.size_toArray]; omega) ⟨H,I.tok _,by rw [a6I r]; exact q⟩
  ·subst e'
   obtain ⟨hz,hS,vs,r,m⟩:kvs.length<=sizeLine/\(p == sysModules)=false/\∃ vs,KV kvs vs/\s.heap.DictOf (a5G X.prog X.w) p vs:=I.hok p _ hx
   have hlen:kvs.length=vs.length:=Paired.length r
   exact wpAny_truthy_dict hS m (by omega) ⟨H,I.tok _,by rw [b6E r]; exact q⟩
 | _=>exact (show False from e).elim
theorem c1L (ha:PE X a ta) (he:∀ whole,isTrue a X.env whole=(do let v <- whole; standAt a.pos; holding [v] (truthy v))) :
  PT X a (λ σ H Q=>ta σ H λ x H'=>∃ k,TruV X.K x H' k/\Q k H'):=by
 intro pins s σ H Q I h
 exact isTrue_plain (thn (ha pins s σ H _ I h) λ v s1 ⟨x,H1,I1,r1,q1⟩=>b4O pins s1 σ H1 x v Q I1 r1 q1) (he _)
theorem a7F {x:V} {us:List Value} (r:Vals [x] us):∃ u,us=[u]/\RelV x u:=by
 cases r with
 | cons r1 r2=>cases r2; exact ⟨_,rfl,r1⟩
theorem c4Y {x y:V} {us:List Value} (r:Vals [x,y] us):∃ u w',us=[u,w']/\RelV x u/\RelV y w':=by
 cases r with
 | cons r1 r2 =>
  cases r2 with
  | cons r3 r4=>cases r4; exact ⟨_,_,rfl,r1,r3⟩
theorem b1C (hc:X.calm=true):CallR X (.builtin "min") (λ xs H Q=>∃ i j,xs=[.int i,.int j]/\Q (.int (if j < i then j else i)) H):=by
 intro pins s σ H xs us Q I r h
 obtain ⟨i,j,rfl,q⟩:=h
 obtain ⟨u,w',rfl,⟨t,rfl⟩,⟨t',rfl⟩⟩:=c4Y r
 refine min_two_ints (I.ok.hd hc) λ h' tk k=>⟨_,H,I.kept k,?_,q⟩
 by_cases hj:j < i
 ·rw [if_pos hj,if_pos hj]; exact ⟨_,rfl⟩
 ·rw [if_neg hj,if_neg hj]; exact ⟨_,rfl⟩
end
end L2
namespace L2
open PySem PySem.Spec PyProof.Rows
structure ObjM (h:Heap) (x dx C:Addr) (mA:Str->Option Value):Prop where
 obj:h.get? x=some (PySem.W.instObj C dx)
 ns:h.Ns1 dx mA
 ne:dx≠x
theorem b7R {h:Heap} {dx:Addr} {mA:Str->Option Value} (n:h.Ns1 dx mA):∃ od,h.get? dx=some od/\∀ name,PySem.W.lookIn name od=some (mA name):=by
 obtain ⟨o,es,ep,ho,hd,hk,_,hm⟩:=n
 refine ⟨o,ho,λ name=>?_⟩
 have e:=hm name
 unfold nsFind findBy at e
 rw [<- Array.find?_toList] at e
 unfold PySem.W.lookIn
 rw [hd]
 dsimp only
 split
 ·rename_i y q
  rw [q] at e
  exact congrArg some e
 ·rename_i q
  rw [q] at e
  have a:es.toList.any (·.refKey)=false:=by
   rw [List.any_eq_false]
   intro y hy
   obtain ⟨z,t,hkey⟩:=hk y (Array.mem_toList_iff.mp hy)
   simp [DictEntry.refKey,hkey]
  have a':¬ es.toList.any (·.refKey)=true:=by rw [a]; exact Bool.false_ne_true
  rw [if_neg a']
  exact congrArg some e
theorem ObjM.look {h:Heap} {x dx C:Addr} {mA:Str->Option Value} (I:ObjM h x dx C mA):∃ od,PySem.W.InstAt h x (PySem.W.instObj C dx) C (some od)/\∀ name,PySem.W.lookIn name od=some (mA name) :=
 let ⟨od,ho,hl⟩:=b7R I.ns
 ⟨od,⟨I.obj,rfl,rfl,ho⟩,hl⟩
section
variable {prog:Program} {w:World} {A:Around} {E:Value->Shared->Prop} {s:Shared} {K:Φρ} {x dx C f:Addr} {mA:Str->Option Value} {name:Str} {v:Value}
end
theorem RelO.some_of {v:V} {o:Option Value} (r:RelO (some v) o):∃ u,o=some u/\RelV v u:=by
 cases o with
 | none=>exact (show False from r).elim
 | some u=>exact ⟨u,rfl,r⟩
section
variable {P:Program} {w:World} {H H':Hp} {h h':Heap} {a C dx:Addr} {fs fs':List (Str × V)}
theorem c4Z (hok:HOk P w H h) (e:H a=some (.ins C dx fs)):∃ mA,ObjM h a dx C mA/\(∀ f,RelO (fs.lookup f) (mA f))/\PySem.Within mA (fs.map (·.1))/\fs.length<=1000/\H dx=some (.own a):=by
 obtain ⟨d,z,ne,ob,mA,n,r,q⟩:=(show ObjOk P w H h a (.ins C dx fs) from hok a _ e)
 exact ⟨mA,⟨ob,n,ne⟩,r,q,z,d⟩
end
structure Cls (K:Φρ) (C:Addr):Prop where
 pg:PySem.W.plainGet K C Str.empty=true
 hd:PySem.W.hasDictIn K C=true
 po:PySem.W.plainOver K C=true
 sa:PySem.W.findIn K (.ref C) "__setattr__" = some (some (.builtin "object.__setattr__"))
theorem Cls.get {K:Φρ} {C:Addr} (c:Cls K C) (f:Str):PySem.W.plainGet K C f=true:=c.pg
section
variable {X:Cx} {pins:List (Addr × Obj)} {σ:St} {H:Hp} {s:Shared} {a C dx:Addr} {fs:List (Str × V)} {f:Str} {v:V} {A:Around} {E:Value->Shared->Prop}
end
section
variable {X:Cx} {o e value:Expr} {f:Str} {pos pos' tpos:Pos} {ta tv:TE}
end
section
variable {X:Cx} {pins:List (Addr × Obj)} {σ:St} {H:Hp} {s:Shared} {A:Around} {E:Value->Shared->Prop} {Q:Value->Shared->Prop} {c:Value} {b:Bool}
inductive TyOf (K:Φρ) (H:Hp):V->Value->Prop where
 | non:TyOf K H .non (.type "NoneType")
 | bl (x:Bool):TyOf K H (.bl x) (.type "bool")
 | int (i:Int):TyOf K H (.int i) (.type "int")
 | str (x:Str):TyOf K H (.str x) (.type "str")
 | flt (x:UInt64):TyOf K H (.flt x) (.type "float")
 | lst {a:Addr} {xs:List V} (e:H a=some (.lst xs)):TyOf K H (.ref a) (.type "list")
 | frz {a:Addr} {o:Obj} {xs:List V} (e:H a=some (.frz o (.lst xs))):TyOf K H (.ref a) (.type "list")
 | tup {a:Addr} {xs:List V} (e:H a=some (.tup xs)):TyOf K H (.ref a) (.type "tuple")
 | dK {a:Addr} {kvs:List (Key × V)} (e:H a=some (.dK kvs)):TyOf K H (.ref a) (.type "dict")
 | dT {a:Addr} {kvs:List (List Key × V)} (e:H a=some (.dT kvs)):TyOf K H (.ref a) (.type "dict")
 | ins {a C dx:Addr} {fs:List (Str × V)} (e:H a=some (.ins C dx fs)) (cl:Cls K C) (ha:PySem.W.findIn K (.ref C) "__class__" = some (some (.builtin "object.__class__")))
   (hn:PySem.W.specialIn K (.builtin "object.__class__") "__get__" = some (some (.builtin "getset_descriptor.__get__"))) (htk:PySem.W.takesIn K (.builtin "object.__class__")=some true)
   (hm:PySem.W.mroIn K C (.type "object")=some true):TyOf K H (.ref a) (.ref C)
theorem b7S {x:V} {u t:Value} (I:Inv X pins σ H s) (rx:RelV x u) (ty:TyOf X.K H x t) (e:PySem.W.kitOne X.K t c=some b) (h:∀ tk,Q (.bool b) { s with toks:=tk }) :
  wpAny (model X.prog X.w) A (call (.builtin "isinstance") [u,c]) Q E s:=by
 cases ty with
 | non=>cases (show u=Value.none from rx); exact PySem.W.kia_one PySem.W.kitx_none I.kIn True.intro e (λ z=>nomatch z) h
 | bl y=>cases (show u=Value.bool y from rx); exact PySem.W.kia_one PySem.W.kitx_bool I.kIn True.intro e (λ z=>nomatch z) h
 | int i=>obtain ⟨t,q⟩:=(show ∃ t,u=Value.int i t from rx); cases q; exact PySem.W.kia_one PySem.W.kitx_int I.kIn True.intro e (λ z=>nomatch z) h
 | str y=>obtain ⟨t,q⟩:=(show ∃ t,u=Value.str y t from rx); cases q; exact PySem.W.kia_one PySem.W.kitx_str I.kIn True.intro e (λ z=>nomatch z) h
 | flt y=>obtain ⟨t,q⟩:=(show ∃ t,u=Value.float y t from rx); cases q; exact PySem.W.kia_one PySem.W.kitx_float I.kIn True.intro e (λ z=>nomatch z) h
 | @lst a xs ea =>
  cases (show u=Value.ref a from rx)
  obtain ⟨_,_,n,_,h1⟩:=(show ObjOk X.prog X.w H s.heap a (.lst xs) from I.hok a _ ea)
  exact PySem.W.kia_one PySem.W.kitx_list I.kIn ⟨_,h1,rfl⟩ e (λ z=>nomatch z) h
 | @frz a ob xs ea =>
  cases (show u=Value.ref a from rx)
  obtain ⟨_,_,_,n,_,h1⟩:=(show ObjOk X.prog X.w H s.heap a (.frz ob (.lst xs)) from I.hok a _ ea)
  exact PySem.W.kia_one PySem.W.kitx_list I.kIn ⟨_,h1,rfl⟩ e (λ z=>nomatch z) h
 | @tup a xs ea =>
  cases (show u=Value.ref a from rx)
  obtain ⟨_,_,_,p⟩:=(show ObjOk X.prog X.w H s.heap a (.tup xs) from I.hok a _ ea)
  obtain ⟨o,h1,h2,_⟩:=p
  exact PySem.W.kia_one PySem.W.kitx_tuple I.kIn ⟨o,h1,h2⟩ e (λ z=>nomatch z) h
 | @dK a kvs ea =>
  cases (show u=Value.ref a from rx)
  obtain ⟨_,_,vs,_,p⟩:=(show ObjOk X.prog X.w H s.heap a (.dK kvs) from I.hok a _ ea)
  obtain ⟨o,es,ep,h1,h2,_⟩:=p
  exact PySem.W.kia_one PySem.W.kitx_dict I.kIn ⟨o,h1,h2.1⟩ e (λ z=>nomatch z) h
 | @dT a kvs ea =>
  cases (show u=Value.ref a from rx)
  obtain ⟨_,_,xs,_,o,es,ep,h1,h2,_⟩:=(show ObjOk X.prog X.w H s.heap a (.dT kvs) from I.hok a _ ea)
  exact PySem.W.kia_one PySem.W.kitx_dict I.kIn ⟨o,h1,h2.1⟩ e (λ z=>nomatch z) h
 | @ins a C dx fs ea cl ha hn htk hm =>
  cases (show u=Value.ref a from rx)
  obtain ⟨mA,O,_⟩:=c4Z I.hok ea
  obtain ⟨od,J,_⟩:=O.look
  exact PySem.W.kia_one (PySem.W.kitx_own (cl.get _) cl.hd ha hn htk hm) I.kIn J e (λ z=>nomatch z) h
end
end L2
namespace L2
open PySem PySem.Spec PyProof.Rows
structure Room (k:Nat) (A:Around):Prop where
 hd:A.handled=none
 dp:A.depth+3*k+5 < recursionLimit
 un:A.units+16*k+200 < cLine
theorem Room.mono {j k:Nat} {A:Around} (r:Room k A) (h:j<=k):Room j A:=⟨r.hd,by have:=r.dp; omega,by have:=r.un; omega⟩
theorem Room.deeper {k:Nat} {A:Around} (r:Room (k+1) A) (env:Env):Room k (A.deeper env) :=
 ⟨r.hd,by have:=r.dp; show A.depth+1+3*k+5 < _; omega,by have:=r.un; show A.units+3+16*k+200 < _; omega⟩
theorem Room.depth {k:Nat} {A:Around} (r:Room k A):A.depth < recursionLimit:=by have:=r.dp; omega
def tNil:TA:=λ _ H Q=>Q [] H
def a7G (ta:TE) (tr:TA):TA:=λ σ H Q=>ta σ H λ x H1=>tr σ H1 λ xs H2=>Q (x::xs) H2
section
variable {X:Cx} {e:Expr} {es:List Expr} {te:TE} {t:TA} {pos:Pos}
theorem a0B:PA X [] tNil:=λ _ _ _ _ H Q I h=>Calls.spliced_nil ⟨[],H,I,.nil,h⟩
theorem a0A (ha:PE X e te) (hr:PA X es t) (hs:starEach (e::es) X.env=(false,eval e X.env)::starEach es X.env:=by rfl):PA X (e::es) (a7G te t):=by
 intro pos pins s σ H Q I h
 rw [hs]
 show wpAny _ _ (spliced ((false,eval e X.env)::backTo pos (starEach es X.env))) _ _ s
 refine Calls.spliced_cons (thn (ha pins s σ H _ I h) λ u s1 ⟨x,H1,I1,r1,q1⟩=>?_)
 exact thn (hr pos pins s1 σ H1 _ I1 q1) λ us s2 ⟨xs,H2,I2,r2,q2⟩=>⟨x::xs,H2,I2,.cons r1 r2,q2⟩
end
abbrev Sp:=List V->Hp->VK->XK->Prop
abbrev CXT:=List Env->Hp->Shared->XK->Value->Shared->Prop
structure Env0 (P:Program) (w:World) (K:Φρ) (mg:Str->Option Value) (base:Heap) (A:Around) (outer:List Env) (s:Shared) (H:Hp):Prop where
 frames:A.frames=some outer
 mod:Mod K mg base
 bs:∀ b o,base.get? b=some o->s.heap.get? b=some o/\H b=none
 bsz:base.objs.size<=s.heap.objs.size
 funs:s.heap.FunFrames base outer
 frf:∀ b∈frs outer,H b=none
 hok:HOk P w H s.heap
 bare:AllBare s.gens
def CE (outer:List Env) (P:Program) (w:World) (H:Hp) (s:Shared) (Q:VK) (u:Value) (s':Shared):Prop :=
 ∃ v H',s'.os=s.os/\AllBare s'.gens/\Un (frs outer) [] H H' s.heap s'.heap/\HOk P w H' s'.heap/\RelV v u/\Q v H'
def CR (CX:CXT) (outer:List Env) (P:Program) (w:World) (H:Hp) (s:Shared) (Q:VK) (E:XK) (r:Result) (s':Shared):Prop :=
 match r with
 | .ok (.ret u)=>CE outer P w H s Q u s'
 | .ok _=>False
 | .error e=>CX outer H s E e s'
structure FnOk (P:Program) (w:World) (K:Φρ) (mg:Str->Option Value) (base:Heap) (CX:CXT) (k:Nat) (f:Addr) (fd:FuncData) (ps:List Str) (sp:Sp):Prop where
 len:∀ vs H Q E,sp vs H Q E->vs.length=ps.length
 run:∀ (A:Around) (outer:List Env) (s:Shared) (H:Hp) (args:Args) (us:List Value) (vs:List V) (Q:VK) (E:XK),Room k A->Env0 P w K mg base A outer s H->BindsTo s fd args (ps.zip us)->Vals vs us->sp vs H Q E ->
  codeAny (model P w) A (.call (.ref f) args) (CR CX outer P w H s Q E) s
theorem FnOk.mono {P:Program} {w:World} {K:Φρ} {mg:Str->Option Value} {base:Heap} {CX:CXT} {j k:Nat} {f:Addr} {fd:FuncData} {ps:List Str} {sp:Sp} (F:FnOk P w K mg base CX j f fd ps sp) (h:j<=k) :
  FnOk P w K mg base CX k f fd ps sp:=⟨F.len,λ A outer s H args us vs Q E hr=>F.run A outer s H args us vs Q E (hr.mono h)⟩
section
variable {X:Cx} {pins:List (Addr × Obj)} {σ:St} {H:Hp} {s s':Shared}
theorem Inv.env0 (I:Inv X pins σ H s):Env0 X.prog X.w X.K X.mg X.base X.A X.stack s H :=
 ⟨I.ok.frames,I.ok.mod,I.bs,Nat.le_trans I.ok.bsz I.sz,I.stack,I.stkFree,I.hok,I.bare⟩
theorem Inv.after {Q:VK} {u:Value} (I:Inv X pins σ H s) (h:CE X.stack X.prog X.w H s Q u s'):EP X pins σ Q u s':=by
 obtain ⟨v,H',os,bare,un,hok,r,q⟩:=h
 obtain ⟨hh,g,d,t,os'⟩:=s'
 obtain rfl:os'=s.os:=os
 exact ⟨v,H',I.call (h':=hh) (g':=g) (d':=d) (t':=t) (ch:=[]) un hok bare (λ b z=>absurd z (by simp)),r,q⟩
end
def c8I (sp:Sp) (dvs:List V) (E:XK) (t:TA):TE:=λ σ H Q=>t σ H λ vs H1=>sp (vs++dvs) H1 Q E
def Binds (K:Φρ) (fd:FuncData) (ps:List Str) (ds:List Value):Prop :=
 ∀ (s:Shared) (us:List Value),K.In s.heap->(us++ds).length=ps.length->BindsTo s fd ⟨us,[]⟩ (ps.zip (us++ds))
theorem Binds.all {K:Φρ} {fd:FuncData} {ps:List Str} (h:∀ us:List Value,us.length=ps.length->bindArgs fd ⟨us,[]⟩=pure (ps.zip us)):Binds K fd ps []:=λ s us _ hl=>by
 rw [List.append_nil] at hl ⊢
 exact .of_eq (h us hl)
def b4P (CX:CXT) (X:Cx) (E:XK):Prop:=∀ (pins:List (Addr × Obj)) (σ:St) (H:Hp) (s:Shared) (e:Value) (s':Shared),Inv X pins σ H s->CX X.stack H s E e s'->X.xe e s'
section
variable {X:Cx} {CX:CXT} {k:Nat} {f C:Addr} {fd:FuncData} {ps:List Str} {sp:Sp} {dvs:List V} {ds:List Value} {E:XK} {x m:Str} {p pos apos:Pos} {e o:Expr} {es:List Expr} {ta:TE} {t:TA}
theorem c8J {pins:List (Addr × Obj)} {σ:St} {H:Hp} {s:Shared} {Q:VK} {us:List Value} {vs:List V} (F:FnOk X.prog X.w X.K X.mg X.base CX k f fd ps sp) (hr:Room k X.A) (hb:Binds X.K fd ps ds) (hd:Vals dvs ds) (hx:b4P CX X E)
  (I:Inv X pins σ H s) (r:Vals vs us) (h:sp (vs++dvs) H Q E):wpAny (model X.prog X.w) X.A (call (.ref f) us) (EP X pins σ Q) X.xe s:=by
 have r2:Vals (vs++dvs) (us++ds):=r.append hd
 have hl:(us++ds).length=ps.length:=by rw [<- r2.length]; exact F.len _ _ _ _ h
 refine wpAny_call (codeAny_mono (F.run X.A X.stack s H ⟨us,[]⟩ (us++ds) (vs++dvs) Q E hr I.env0 (hb s us I.kIn hl) r2 h) λ r s' hq=>?_)
 cases r with
 | error e=>exact hx pins σ H s e s' I hq
 | ok fl =>
  cases fl with
  | ret u=>exact I.after hq
  | next=>exact False.elim hq
  | brk=>exact False.elim hq
  | cont=>exact False.elim hq
theorem a0K (F:FnOk X.prog X.w X.K X.mg X.base CX k f fd ps sp) (hr:Room k X.A) (hg:Gl X x) (hm:X.mg x=some (.ref f)) (hk:PySem.W.keepIn X.K (.ref f)=true) (hb:Binds X.K fd ps ds) (hd:Vals dvs ds) (hx:b4P CX X E)
  (ha:PA X (e::es) t) (hdb:(x == ("__debug__" : Str))=false:=by decide) (he:starEach (e::es) X.env=(false,eval e X.env)::starEach es X.env:=by rfl) (hpl:(backTo pos (starEach es X.env)).any (·.1)=false:=by rfl) :
  PE X (.Call (.Name x p) (e::es) [] pos) (c8I sp dvs E t):=by
 intro pins s σ H Q I h
 refine wpAny_Call_Name_kw (a5H I hg hm ?_ hdb)
 refine PySem.W.callWith_K (h₀:=X.base) I.ok.mod.kin hk (thn (ha pos pins s σ H _ I h) λ us s1 ⟨vs,H1,I1,r,q⟩=>⟨I1.kIn,?_⟩) he hpl
 exact c8J F hr hb hd hx I1 r q
end
section
variable {X:Cx} {CX:CXT} {k:Nat} {f C:Addr} {fd:FuncData} {ps ks:List Str} {sp:Sp} {E:XK} {x m:Str} {p pos apos kpos:Pos} {e o:Expr} {es:List Expr} {kws:List Keyword} {te ta:TE} {t tk:TA} {nm:Option Str}
variable {g:List Value->List Value->List Value} {gV:List V->List V->List V}
end
structure FnScope (N P:List Str) (sc:Scope):Prop where
 kind:sc.kind = .function
 co:sc.isCoroutine=false
 gen:sc.isGenerator=false
 nd:N.Nodup
 pre:N.take P.length=P
 par:∀ x∈P,sc.names.lookup x=some .local\/sc.names.lookup x=some .cell
 nofree:∀ y∈sc.names,y.2 ≠ .free
theorem b1D {kindOf:Str->Option NameKind} {x:Str}:∀ {binds:List (Str × Value)} {m:Str->Option Value},(∀ v,(x,v) ∉ binds)->bindL kindOf binds m x=m x
 | [],_,_=>rfl
 | (n,v)::r,m,h=>by
  unfold bindL
  rw [b1D λ w hw=>h w (List.mem_cons_of_mem _ hw)]
  split
  ·have:x≠n:=by rintro rfl; exact h v List.mem_cons_self
   simp [this]
  ·rfl
theorem b1E {kindOf:Str->Option NameKind} {x:Str}:∀ {binds:List (Str × Value)} {m:Str->Option Value},(∀ v,(x,v) ∉ binds)->bindC kindOf binds m x=m x
 | [],_,_=>rfl
 | (n,v)::r,m,h=>by
  unfold bindC
  rw [b1E λ w hw=>h w (List.mem_cons_of_mem _ hw)]
  split
  ·rfl
  ·have:x≠n:=by rintro rfl; exact h v List.mem_cons_self
   simp [this]
theorem b1F {kindOf:Str->Option NameKind} {x:Str} {v:Value}:∀ {P:List Str} {vs:List Value} {i:Nat} {m:Str->Option Value},P.Nodup->P[i]?=some x->vs[i]?=some v->kindOf x=some .local ->
  bindL kindOf (P.zip vs) m x=some v
 | [],_,_,_,_,h,_,_=>by simp at h
 | _::_,[],_,_,_,_,h,_=>by simp at h
 | p::P,w::vs,0,m,nd,h1,h2,hk=>by
  simp at h1 h2; subst h1; subst h2
  show bindL kindOf ((p,w)::P.zip vs) m p=_
  unfold bindL
  rw [b1D λ v hv=>(List.nodup_cons.mp nd).1 (List.of_mem_zip hv).1,if_pos hk]
  simp
 | p::P,w::vs,i+1,m,nd,h1,h2,hk=>by
  show bindL kindOf ((p,w)::P.zip vs) m x=_
  unfold bindL
  exact b1F (i:=i) (List.nodup_cons.mp nd).2 (by simpa using h1) (by simpa using h2) hk
theorem b1G {kindOf:Str->Option NameKind} {x:Str} {v:Value}:∀ {P:List Str} {vs:List Value} {i:Nat} {m:Str->Option Value},P.Nodup->P[i]?=some x->vs[i]?=some v->kindOf x≠some .local ->
  bindC kindOf (P.zip vs) m x=some v
 | [],_,_,_,_,h,_,_=>by simp at h
 | _::_,[],_,_,_,_,h,_=>by simp at h
 | p::P,w::vs,0,m,nd,h1,h2,hk=>by
  simp at h1 h2; subst h1; subst h2
  show bindC kindOf ((p,w)::P.zip vs) m p=_
  unfold bindC
  rw [b1E λ v hv=>(List.nodup_cons.mp nd).1 (List.of_mem_zip hv).1,if_neg hk]
  simp
 | p::P,w::vs,i+1,m,nd,h1,h2,hk=>by
  show bindC kindOf ((p,w)::P.zip vs) m x=_
  unfold bindC
  exact b1G (i:=i) (List.nodup_cons.mp nd).2 (by simpa using h1) (by simpa using h2) hk
def a6J (N:List Str) (vs:List V):St:=vs.map some++List.replicate (N.length - vs.length) none
def cxOf (CX:CXT) (P:Program) (w:World) (K:Φρ) (mg:Str->Option Value) (base:Heap) (N:List Str) (qual:Str) (scope:Scope) (f:Addr) (cd:Value) (A:Around) (outer:List Env) (s:Shared) (H:Hp) (E:XK):Cx where
 prog:=P
 w:=w
 K:=K
 mg:=mg
 base:=base
 A:=A.deeper (envOfC qual scope s.heap.objs.size f cd)
 N:=N
 s₀:=s
 H₀:=H
 env:=envOfC qual scope s.heap.objs.size f cd
 outer:=outer
 stack:=envOfC qual scope s.heap.objs.size f cd::outer
 ex:=[]
 calm:=true
 fn:=λ _=>true
 pn:=[]
 xe:=λ e s'=>wpAny (model P w) (A.deeper (envOfC qual scope s.heap.objs.size f cd)) (leaving (envOfC qual scope s.heap.objs.size f cd) e) (λ _ s''=>CX outer H s E e s'') (λ e' s''=>CX outer H s E e' s'') s'
theorem b4Q {sc:Scope} {n:Nat} {x:Str} (h:sc.names.lookup x=some .cell):∃ c,(cellsFrom n sc.names []).lookup x=some c:=by
 have q:=PySem.W.cellsFrom_some sc.names n [] (.inl h)
 exact Option.isSome_iff_exists.mp q
theorem b1H {CX:CXT} {P:Program} {w:World} {K:Φρ} {mg:Str->Option Value} {base:Heap} {N ps:List Str} {qual:Str} {scope:Scope} {f:Addr} {cd:Value} {A:Around} {outer:List Env} {s s1:Shared} {H:Hp} {E:XK} {us:List Value} {vs:List V}
  (S:FnScope N ps scope) (hd:A.handled=none) (e0:Env0 P w K mg base A outer s H) (hl:vs.length=ps.length) (r:Vals vs us)
  (x:InCallC s s.heap.objs.size (bindL (envOfC qual scope s.heap.objs.size f cd).kindOf (ps.zip us) λ _=>none) (cellsFrom (s.heap.objs.size+1) scope.names []) (bindC (envOfC qual scope s.heap.objs.size f cd).kindOf (ps.zip us) λ _=>none) s1) :
  Inv (cxOf CX P w K mg base N qual scope f cd A outer s H E) [] (a6J N vs) H s1:=by
 have hpl:ps.length<=N.length:=by have:=congrArg List.length S.pre; rw [List.length_take] at this; omega
 obtain ⟨h1,tk,rfl,hk⟩:=x.done
 have noA:∀ b:Addr,b ∉ (cxOf CX P w K mg base N qual scope f cd A outer s H E).ex:=λ b z=>absurd (show b∈([]:List Addr) from z) (by simp)
 refine ⟨⟨e0.mod,S.kind,rfl,rfl,Nat.le_refl _,λ y z c h1 h2=>?_,λ y hy=>?_,λ y c _ h=>?_,λ _=>hd,Around.frames_deeper e0.frames,.inr ⟨rfl,rfl⟩,λ b z=>absurd z (noA b),e0.bs,e0.bsz,λ b _ _=>noA b,λ b z=>absurd z (noA b),e0.funs,e0.frf⟩,
  rfl,e0.bare,Un.kept hk,⟨_,x.toInCall.ns,λ i y v h1 h2 h3=>?_⟩,λ y c h=>⟨_,x.cell y c h⟩,e0.hok.fresh (Nat.le_refl _),λ y c h=>?_,λ p hp=>absurd (show p∈([]:List (Addr × Obj)) from hp) (by simp),e0.hok.kept hk,?_⟩
 ·exact name_of_addr x.apart (PySem.mem_of_lookup h1) (PySem.mem_of_lookup h2)
 ·have hy:scope.names.lookup y=some .cell\/scope.names.lookup y=some .free:=hy
  rcases hy with hy | hy
  ·exact b4Q hy
  ·exact absurd rfl (S.nofree _ (PySem.mem_of_lookup hy))
 ·exact Nat.le_of_lt (x.above y c (PySem.mem_of_lookup h))
 ·have hi:i < vs.length:=by
   unfold a6J at h2
   by_cases hi:i < vs.length
   ·exact hi
   ·rw [List.getElem?_append_right (by simpa using hi)] at h2
    rw [List.getElem?_replicate] at h2
    split at h2 <;> cases h2
  have ha:vs[i]?=some v:=by
   unfold a6J at h2
   rw [List.getElem?_append_left (by simpa using hi),List.getElem?_map] at h2
   cases e:vs[i]? with
   | none=>rw [e] at h2; cases h2
   | some a=>rw [e] at h2; cases h2; rfl
  obtain ⟨u,hu,rv⟩:=r.get ha
  have hp:ps[i]?=some y:=by
   rw [<- S.pre,List.getElem?_take_of_lt (by omega)]; exact h1
  have ndP:ps.Nodup:=by rw [<- S.pre]; exact S.nd.sublist (List.take_sublist _ _)
  refine ⟨u,rv,?_⟩
  rcases S.par y (List.mem_of_getElem? hp) with k | k
  ·exact .inl ⟨k,b1F ndP hp hu k⟩
  ·obtain ⟨c,e⟩:=b4Q (n:=s.heap.objs.size+1) k
   refine .inr ⟨.inl k,c,e,?_⟩
   have q:=x.cell y c e
   rw [b1G ndP hp hu (by show scope.names.lookup y≠_; rw [k]; decide)] at q
   exact q
 ·exact e0.hok.fresh (Nat.le_of_lt (x.above y c (PySem.mem_of_lookup h)))
 ·unfold a6J
  show _=N.length
  rw [List.length_append,List.length_map,List.length_replicate]
  omega
theorem c8K {CX:CXT} {P:Program} {w:World} {K:Φρ} {mg:Str->Option Value} {base:Heap} {k:Nat} {f:Addr} {name qual:Str} {params:Arguments} {body:List Stmt} {scope:Scope} {dV kV doc pm cdv ct oc:Value} {an od:Option Addr}
  {osl:Array (Option Value)} {N ps:List Str} {sp:Sp} (lk:K.lookup f=some ⟨oc,od,.func (PySem.W.fnOf name qual params body scope dV kV doc pm an cdv ct),osl⟩) (hcd:PySem.W.codeIn K cdv qual=true) (S:FnScope N ps scope)
  (len:∀ vs H Q E,sp vs H Q E->vs.length=ps.length)
  (hbody:∀ (A:Around) (outer:List Env) (s:Shared) (H:Hp) (vs:List V) (Q:VK) (E:XK),Room k (A.deeper (envOfC qual scope s.heap.objs.size f cdv))->sp vs H Q E ->
   ∃ t,PSs (cxOf CX P w K mg base N qual scope f cdv A outer s H E) body t/\t { nx:=λ _ H'=>Q .non H',rt:=Q } (a6J N vs) H) :
  FnOk P w K mg base CX (k+1) f (PySem.W.fnOf name qual params body scope dV kV doc pm an cdv ct) ps sp:=by
 refine ⟨len,λ A outer s H args us vs Q E hr e0 hb r hsp=>?_⟩
 have hl:=len _ _ _ _ hsp
 have KX:K.In s.heap:=e0.mod.kin.keeps λ b o e=>(e0.bs b o e).1
 have lim:s.heap.NoLimit:=e0.mod.nolimit.keeps λ b o e=>(e0.bs b o e).1
 have hkind:∀ y∈ps.zip us,scope.names.lookup y.1=some .local\/(scope.names.lookup y.1=some .cell/\((cellsFrom (s.heap.objs.size+1) scope.names []).lookup y.1).isSome=true):=λ ⟨n,v⟩ hy=>by
  rcases S.par n (List.of_mem_zip hy).1 with q | q
  ·exact .inl q
  ·exact .inr ⟨q,PySem.W.cellsFrom_some _ _ _ (.inl q)⟩
 refine codeAny_call_function hr.depth (KX _ _ lk) rfl S.co S.gen rfl (PySem.W.codeRec_of KX hcd) (hb _ _ _ _ ?_)
 refine wpAny_newFunctionEnv_cells S.kind hkind λ env he s1 x=>?_
 subst he
 refine ⟨lim.keeps x.toInCall.keep,codeAny_func ?_⟩
 obtain ⟨t,ht,hq⟩:=hbody A outer s H vs Q E (hr.deeper _) hsp
 have I:Inv (cxOf CX P w K mg base N qual scope f cdv A outer s H E) [] (a6J N vs) H s1:=b1H S hr.hd e0 hl r x
 refine wpAny_mono (ht [] s1 (a6J N vs) H _ I hq) (λ fl s' hs=>?_) λ e s' hs=>hs
 have fin:∀ {σ':St} {H':Hp} {v:V} {u:Value},Inv (cxOf CX P w K mg base N qual scope f cdv A outer s H E) [] σ' H' s'->RelV v u->Q v H'->CE outer P w H s Q u s' :=
  λ {σ' H' v u} J rv q=>⟨v,H',J.os,J.bare,J.base,J.hok,rv,q⟩
 cases fl with
 | ret u =>
  obtain ⟨v,σ',H',J,rv,q⟩:=hs
  exact fin J rv q
 | next =>
  obtain ⟨σ',H',J,q⟩:=hs
  exact fin (v:=V.non) (u:=Value.none) J rfl q
 | brk =>
  obtain ⟨_,_,_,q⟩:=hs
  exact False.elim q
 | cont =>
  obtain ⟨_,_,_,q⟩:=hs
  exact False.elim q
end L2
namespace L2
open PySem PySem.Spec PyProof.Rows
section
variable {X:Cx} {x:Str} {p pos:Pos} {e:Expr} {es:List Expr} {t:TA} {id T:String} {r:List V->Hp->VK->Prop}
def tCB (r:List V->Hp->VK->Prop) (t:TA):TE:=λ σ H Q=>t σ H λ vs H1=>r vs H1 Q
theorem a0G (hc:CallR X (.builtin id) r) (hg:Gl X x) (hm:X.mg x=none) (hv:bootBuiltins x=some (.builtin id)) (ha:PA X (e::es) t) (hn:x ≠ "__name__" := by decide) (hdb:(x == ("__debug__" : Str))=false:=by decide)
  (he:starEach (e::es) X.env=(false,eval e X.env)::starEach es X.env:=by rfl) (hpl:(backTo pos (starEach es X.env)).any (·.1)=false:=by rfl):PE X (.Call (.Name x p) (e::es) [] pos) (tCB r t):=by
 intro pins s σ H Q I h
 refine wpAny_Call_Name_kw (a5N I hg hm hv ?_ hn hdb)
 exact PyProof.Rows.callWith_builtin1 (thn (ha pos pins s σ H _ I h) λ us s1 ⟨vs,H1,I1,r1,q1⟩=>hc pins s1 σ H1 vs us Q I1 r1 q1) he hpl
theorem a3Y (hc:CallR X (.type T) r) (hg:Gl X x) (hm:X.mg x=none) (hv:bootBuiltins x=some (.type T)) (ha:PA X (e::es) t) (hn:x ≠ "__name__" := by decide) (hdb:(x == ("__debug__" : Str))=false:=by decide)
  (he:starEach (e::es) X.env=(false,eval e X.env)::starEach es X.env:=by rfl) (hpl:(backTo pos (starEach es X.env)).any (·.1)=false:=by rfl):PE X (.Call (.Name x p) (e::es) [] pos) (tCB r t):=by
 intro pins s σ H Q I h
 refine wpAny_Call_Name_kw (a5N I hg hm hv ?_ hn hdb)
 exact PyProof.Rows.callWith_type1 (thn (ha pos pins s σ H _ I h) λ us s1 ⟨vs,H1,I1,r1,q1⟩=>hc pins s1 σ H1 vs us Q I1 r1 q1) he hpl
end
end L2
namespace HT
open PySem PyProof.Rows
section
open PySem.SeqAt
open PySem.AutoSeq1 (wpAny_loadPart')
open PySem.MeetsSeq PySem.MeetsSeq2 PySem.MeetsSeq3
end
section
variable {prog:Program} {w:World} {A:Around} {E:Value->Shared->Prop} {s:Shared}
def sIx (n d:Nat):Option Int->Nat
 | none=>d
 | some v=>if v < 0 then (v+(n:Int)).toNat else min v.toNat n
theorem sIx_nat (n d k:Nat):sIx n d (some (k:Int))=min k n:=by
 show (if (k:Int) < 0 then ((k:Int)+(n:Int)).toNat else min (k:Int).toNat n)=min k n
 rw [if_neg (by omega),Int.toNat_natCast]
theorem c8L (n d:Nat) (hd:d<=n) (o:Option Int):sIx n d o<=n:=by
 cases o with
 | none=>exact hd
 | some v =>
  show (if v < 0 then (v+(n:Int)).toNat else min v.toNat n)<=n
  by_cases hv:v < 0
  ·rw [if_pos hv]; omega
  ·rw [if_neg hv]; exact Nat.min_le_right _ _
theorem b7T (v:Int) (n d:Nat):(if v < 0 then max (v+(n:Int)) 0 else min v (n:Int))=((sIx n d (some v):Nat):Int):=by
 show (if v < 0 then max (v+(n:Int)) 0 else min v (n:Int))=(((if v < 0 then (v+(n:Int)).toNat else min v.toNat n):Nat):Int)
 by_cases hv:v < 0
 ·simp only [if_pos hv]; omega
 ·simp only [if_neg hv]; omega
theorem b6F (lo hi:Option Int) (n:Nat):Builtin.Slice.sliceAdjust lo hi 1 (n:Int)=(((sIx n 0 lo:Nat):Int),((sIx n n hi:Nat):Int)):=by
 have h1:¬ ((1:Int) < 0):=by omega
 unfold Builtin.Slice.sliceAdjust
 simp only [h1,if_false]
 refine Prod.ext ?_ ?_
 ·cases lo with
  | none=>rfl
  | some v=>exact b7T v n 0
 ·cases hi with
  | none=>rfl
  | some v=>exact b7T v n n
theorem b6G (i j:Nat):Builtin.Slice.slicePlaces (i:Int) (j:Int) 1=j - i:=by
 unfold Builtin.Slice.slicePlaces
 have h1:(1:Int) > 0:=by omega
 simp only [h1,if_true,Int.ediv_one]
 split <;> omega
theorem a9M {v:Value} {o:Option Int} {Q:Option Int->Shared->Prop} (p:IsPart v o) (h:Q o s):wpAny (model prog w) A (Builtin.Slice.slicePartIndex v) Q E s:=by
 cases p with
 | none=>exact slicePart_none h
 | int i t=>exact slicePart_int h
theorem a7H {sl:Addr} {vl vu:Value} {lo hi:Option Int} {n:Nat} {Q:Int × Int × Nat->Shared->Prop} (hs:s.heap.IsSliceOf sl vl vu .none) (pl:IsPart vl lo) (pu:IsPart vu hi)
  (h:Q (((sIx n 0 lo:Nat):Int),1,sIx n n hi - sIx n 0 lo) s):wpAny (model prog w) A (Builtin.Slice.sliceApplied (.ref sl) (pure (n:Int))) Q E s:=by
 obtain ⟨os,hos,hcs,hds⟩:=id hs
 unfold Builtin.Slice.sliceApplied Builtin.Slice.sliceFields
 refine wpAny_bind (wpAny_bind (wpAny_field hos hds (x:=vl) rfl (wpAny_bind (wpAny_field hos hds (x:=vu) rfl (wpAny_bind (wpAny_field hos hds (x:=.none) rfl (wpAny_pure ?_)))))))
 refine wpAny_bind (slicePart_none ?_)
 show wpAny _ _ (if ((1:Int) == 0)=true then _ else _) _ _ s
 rw [if_neg (by decide)]
 refine wpAny_bind (a9M pl (wpAny_bind (a9M pu (wpAny_bind (wpAny_pure ?_)))))
 show wpAny _ _ (match Builtin.Slice.sliceAdjust lo hi 1 (n:Int) with | (lo,hi)=>pure (lo,(1:Int),Builtin.Slice.slicePlaces lo hi 1)) _ _ s
 rw [b6F lo hi n]
 show wpAny _ _ (pure (((sIx n 0 lo:Nat):Int),(1:Int),Builtin.Slice.slicePlaces ((sIx n 0 lo:Nat):Int) ((sIx n n hi:Nat):Int) 1)) _ _ s
 rw [b6G]
 exact wpAny_pure h
theorem c1M (xs:Array Value) (i k:Nat):((List.range k).filterMap λ (m:Nat)=>xs[((i:Int)+(m:Int)*1).toNat]?).toArray=((xs.toList.drop i).take k).toArray:=by
 have e:(λ (m:Nat)=>xs[((i:Int)+(m:Int)*1).toNat]?)=λ m=>xs[i+m]?:=by
  funext m
  have:((i:Int)+(m:Int)*1).toNat=i+m:=by omega
  rw [this]
 rw [e]
 have:=pick_run xs i k
 rw [List.filterMap_map] at this
 have e2:((λ x=>xs[x]?) ∘ λ x=>i+x)=λ m=>xs[i+m]?:=rfl
 rw [e2] at this
 rw [this]
theorem getItem_tuple_cut {t sl:Addr} {items:Array Value} {vl vu:Value} {lo hi:Option Int} {Q:Value->Shared->Prop} (ht:IsTup s.heap t items) (hs:s.heap.IsSliceOf sl vl vu .none) (pl:IsPart vl lo) (pu:IsPart vu hi)
  (hw:¬ (sIx items.size 0 lo=0/\sIx items.size items.size hi=items.size))
  (h:Q (.ref s.heap.objs.size) { s with heap:=s.heap.push { cls:=.type "tuple", data:=.seq ((items.toList.drop (sIx items.size 0 lo)).take (sIx items.size items.size hi - sIx items.size 0 lo)).toArray } })
  (hsz:items.size<=sizeLine):wpAny (model prog w) A (getItem (.ref t) (.ref sl)) Q E s:=by
 have htake:sizeOk (.seq ((items.toList.drop (sIx items.size 0 lo)).take (sIx items.size items.size hi - sIx items.size 0 lo)).toArray):=by
  show ((items.toList.drop (sIx items.size 0 lo)).take (sIx items.size items.size hi - sIx items.size 0 lo)).toArray.size<=sizeLine
  rw [List.size_toArray,List.length_take,List.length_drop,Array.length_toList]
  omega
 have hj:sIx items.size items.size hi<=items.size:=c8L _ _ (Nat.le_refl _) hi
 obtain ⟨os,hos,hcs,hds⟩:=id hs
 have hTs:s.TypeIs (.ref sl) "slice" := ⟨os,hos,hcs⟩
 unfold getItem
 try with_reducible refine wpAny_holding ?_
 first | refine wpAny_bind (wpAny_pure ?_) | skip
 refine wpAny_bind (wpAny_sequenceKey ht.typeIs (by decide) ?_)
 refine wpAny_bind (wpAny_callSpecial?_slot (name:=Str.ofString "__getitem__") ht.typeIs PyProof.Rows.slot_tuple_getitem
  (wpAny_call_entry PyProof.Rows.slot_tuple_getitem ht.typeIs entry_tuple_getitem ?_ (args_tuple_getitem _ _)))
 show wpAny _ _ (Builtin.Tuple.tupleItemsOf (.ref t) >>= _) _ _ s
 refine wpAny_bind (tupleItemsOf_ ht ?_)
 refine wpAny_bind (wpAny_typeOf hTs ?_)
 rw [if_pos (by decide)]
 refine wpAny_bind (a7H hs pl pu ?_)
 have hno:¬ ((((sIx items.size 0 lo:Nat):Int) == 0 && (1:Int) == 1 && (sIx items.size items.size hi - sIx items.size 0 lo) == items.size)=true):=by
  intro q
  rw [Bool.and_eq_true,Bool.and_eq_true] at q
  have q1:((sIx items.size 0 lo:Nat):Int)=0:=eq_of_beq q.1.1
  have q2:sIx items.size items.size hi - sIx items.size 0 lo=items.size:=eq_of_beq q.2
  exact hw ⟨by omega,by omega⟩
 show wpAny _ _ (if (((sIx items.size 0 lo:Nat):Int) == 0 && (1:Int) == 1 && (sIx items.size items.size hi - sIx items.size 0 lo) == items.size)=true then _ else _) _ _ s
 rw [if_neg hno,c1M]
 first
  | exact wpAny_bind (m:=Builtin.Tuple.tupleExact _) (wpAny_newObj_type (wpAny_pure ⟨_,rfl,wpAny_pure h⟩) htake)
  | exact wpAny_bind (m:=Builtin.Tuple.tupleExact _) (wpAny_newObj_type (wpAny_bind (wpAny_pure (wpAny_pure ⟨_,rfl,wpAny_pure h⟩))) htake)
  | exact wpAny_bind (wpAny_bind (m:=Builtin.Tuple.tupleExact _) (wpAny_newObj_type (wpAny_pure (wpAny_pure ⟨_,rfl,wpAny_pure h⟩)) htake))
  | exact wpAny_bind (wpAny_bind (m:=Builtin.Tuple.tupleExact _) (wpAny_newObj_type (wpAny_pure ⟨_,rfl,wpAny_pure h⟩) htake))
end
end HT
namespace L2
open PySem PySem.Spec PyProof.Rows
abbrev TO:=St->Hp->(Option Int->Hp->Prop)->Prop
def PO (X:Cx) (e:Option Expr) (t:TO):Prop :=
 ∀ (pins:List (Addr × Obj)) (s:Shared) (σ:St) (H:Hp) (Q:Option Int->Hp->Prop),Inv X pins σ H s->t σ H Q ->
  wpAny (model X.prog X.w) X.A (evalPart e X.env) (λ u s'=>∃ o H',Inv X pins σ H' s'/\IsPart u o/\Q o H') X.xe s
def c5A:TO:=λ _ H Q=>Q none H
def d1M (t:TE):TO:=λ σ H Q=>t σ H λ x H1=>∃ i,x = .int i/\Q (some i) H1
section
variable {X:Cx} {e:Expr} {te:TE} {lo hi:Option Expr} {tl th:TO} {pos p2:Pos}
theorem a2K:PO X none c5A:=by
 intro pins s σ H Q I h
 rw [evalPart_none]
 exact wpAny_pure ⟨none,H,I,.none,h⟩
theorem a2L (h:PE X e te):PO X (some e) (d1M te):=by
 intro pins s σ H Q I hw
 rw [evalPart_some]
 refine thn (h pins s σ H _ I hw) λ u s1 ⟨x,H1,I1,r1,q1⟩=>?_
 obtain ⟨i,rfl,q⟩:=q1
 obtain ⟨t,rfl⟩:=r1
 exact ⟨some i,H1,I1,.int i t,q⟩
def SlR (X:Cx) (r:V->Option Int->Option Int->Hp->VK->Prop):Prop :=
 ∀ (pins:List (Addr × Obj)) (s:Shared) (σ:St) (H:Hp) (x:V) (v vl vu:Value) (lo hi:Option Int) (sl:Addr) (Q:VK),Inv X pins σ H s->RelV x v->s.heap.IsSliceOf sl vl vu .none->IsPart vl lo->IsPart vu hi->r x lo hi H Q ->
  ∃ T id,typeLookup (.type T) "__getitem__" = pure (some (.builtin id))/\s.TypeIs v T/\wpAny (model X.prog X.w) X.A (getItem v (.ref sl)) (EP X pins σ Q) X.xe s
def tSl (r:V->Option Int->Option Int->Hp->VK->Prop) (te:TE) (tl th:TO):TE:=λ σ H Q=>te σ H λ x H1=>tl σ H1 λ l H2=>th σ H2 λ u H3=>r x l u H3 Q
theorem a1Z {r:V->Option Int->Option Int->Hp->VK->Prop} (hr:SlR X r) (he:PE X e te) (hl:PO X lo tl) (hu:PO X hi th):PE X (.Subscript e (.Slice lo hi none p2) pos) (tSl r te tl th):=by
 intro pins s σ H Q I h
 refine Subscript_ (thn (he pins s σ H _ I h) λ v s1 ⟨x,H1,I1,r1,q1⟩=>?_)
 refine wpAny_Slice (thn (hl pins s1 σ H1 _ I1 q1) λ vl s2 ⟨l,H2,I2,pl,q2⟩=>thn (hu pins s2 σ H2 _ I2 q2) λ vu s3 ⟨u,H3,I3,pu,q3⟩=>?_)
 rw [evalPart_none]
 refine wpAny_pure ?_
 have I4:Inv X pins σ H3 { s3 with heap:=s3.heap.push { cls:=.type "slice", data:=.fields #[vl,vu,.none] } }:=I3.kept (t':=s3.toks) λ b ob q=>Heap.get?_push_of_some _ q
 obtain ⟨T,id,hT,ht,hg⟩:=hr pins { s3 with heap:=s3.heap.push { cls:=.type "slice", data:=.fields #[vl,vu,.none] } } σ H3 x v vl vu l u s3.heap.objs.size Q I4 r1 (Heap.IsSliceOf.new ..) pl pu q3
 show wpAny (model X.prog X.w) X.A (subscriptTail e (.Slice lo hi none p2) v (.ref s3.heap.objs.size)) (EP X pins σ Q) X.xe { s3 with heap:=s3.heap.push { cls:=.type "slice", data:=.fields #[vl,vu,.none] } }
 exact tail_any (ops:=[.ref s3.heap.objs.size,v]) ht hT hg (by with_unfolding_all rfl)
def cutV (xs:List V) (lo hi:Option Int):List V:=(xs.drop (HT.sIx xs.length 0 lo)).take (HT.sIx xs.length xs.length hi - HT.sIx xs.length 0 lo)
theorem a7U (xs:List V) (lo hi:Option Int):(cutV xs lo hi).length<=xs.length:=by
 unfold cutV
 rw [List.length_take,List.length_drop]
 omega
def rSlT (K:Φρ):V->Option Int->Option Int->Hp->VK->Prop:=λ x lo hi H Q=>∃ a xs,x = .ref a/\SqT K H a xs /\
 ¬ (HT.sIx xs.length 0 lo=0/\HT.sIx xs.length xs.length hi=xs.length)/\∀ p,H p=none->Q (.ref p) (upd H p (.tup (cutV xs lo hi)))
theorem c8M:SlR X (rSlT X.K):=by
 intro pins s σ H x v vl vu lo hi sl Q I rx hs pl pu h
 obtain ⟨a,xs,rfl,hx,hw,q⟩:=h
 cases rx
 obtain ⟨its,r,ht,hz⟩:=I.tuple hx
 have hlen:its.toArray.size=xs.length:=by rw [List.size_toArray]; exact r.length.symm
 refine ⟨"tuple", _,PyProof.Rows.slot_tuple_getitem.lookup,ht.typeIs,?_⟩
 refine HT.getItem_tuple_cut ht hs pl pu (by rw [hlen]; exact hw) ?_ (by rw [hlen]; exact hz)
 rw [hlen]
 refine ⟨.ref s.heap.objs.size,_,I.laid (t':=s.toks) (o:=.tup (cutV xs lo hi)) (λ b ob q=>Heap.get?_push_of_some _ q) (Nat.le_refl _) ?_,rfl,q _ (I.hok.fresh (Nat.le_refl _))⟩
 exact ⟨Nat.le_trans (a7U xs lo hi) hz,_,(r.drop (HT.sIx xs.length 0 lo)).take (HT.sIx xs.length xs.length hi - HT.sIx xs.length 0 lo),IsTup.new _ _⟩
end
end L2
namespace L2
open PySem PySem.Spec PyProof.Rows
def ixN (n:Nat) (i:Int):Option Nat:=if 0<=i then (if i < n then some i.toNat else none) else if -(n:Int)<=i then some (i+n).toNat else none
def atI {α:Type} (xs:List α) (i:Int):Option α:=(ixN xs.length i).bind λ j=>xs[j]?
theorem b7U {n:Nat} {i:Int} {j:Nat} (h:ixN n i=some j):seqIndex? i n=some j/\j < n /\ -(n:Int)<=i/\i < n:=by
 unfold ixN at h
 by_cases h0:0<=i
 ·rw [if_pos h0] at h
  by_cases h1:i < n
  ·rw [if_pos h1] at h
   have e:i.toNat=j:=Option.some.inj h
   exact ⟨by rw [seqIndex_of h0 h1,e],by omega,by omega,h1⟩
  ·rw [if_neg h1] at h; cases h
 ·rw [if_neg h0] at h
  by_cases h1 : -(n:Int)<=i
  ·rw [if_pos h1] at h
   have e:(i+n).toNat=j:=Option.some.inj h
   exact ⟨by rw [seqIndex_neg (by omega) h1,e],by omega,h1,by omega⟩
  ·rw [if_neg h1] at h; cases h
theorem b3F {α:Type} {xs:List α} {i:Int} {v:α} (h:atI xs i=some v):∃ j,seqIndex? i xs.length=some j/\xs[j]?=some v/\j < xs.length /\ -(xs.length:Int)<=i/\i < xs.length:=by
 unfold atI at h
 cases e:ixN xs.length i with
 | none=>rw [e] at h; cases h
 | some j =>
  rw [e] at h
  obtain ⟨h1,h2,h3,h4⟩:=b7U e
  exact ⟨j,h1,h,h2,h3,h4⟩
theorem a1M {α:Type} {xs:List α} {j:Nat} {v:α} (h:xs[j]?=some v):atI xs (j:Int)=some v:=by
 have hj:j < xs.length:=(List.getElem?_eq_some_iff.mp h).1
 have e:ixN xs.length (j:Int)=some j:=by
  unfold ixN
  rw [if_pos (by omega),if_pos (by omega)]; simp
 unfold atI; rw [e]; exact h
def c5B (b:Expr):Prop:=∀ o i,subscripted b false o i=operate [o,i] (getItem o i)
def IxR (X:Cx) (r:R2):Prop :=
 ∀ (value slice:Expr) (pins:List (Addr × Obj)) (s:Shared) (σ:St) (H:Hp) (x y:V) (v u:Value) (Q:VK),Inv X pins σ H s->RelV x v->RelV y u->r x y H Q ->
  subscripted slice false v u=operate [v,u] (getItem v u)->wpAny (model X.prog X.w) X.A (subscriptTail value slice v u) (EP X pins σ Q) X.xe s
def MtR (X:Cx) (id:String) (r:V->List V->Hp->VK->Prop):Prop :=
 ∀ (pins:List (Addr × Obj)) (s:Shared) (σ:St) (H:Hp) (x:V) (xs:List V) (v:Value) (us:List Value) (Q:VK),Inv X pins σ H s->RelV x v->Vals xs us->r x xs H Q ->
  wpAny (model X.prog X.w) X.A (call (.builtin id) (v::us)) (EP X pins σ Q) X.xe s
section
variable {X:Cx} {a b:Expr} {ta tb:TE} {pos:Pos}
theorem a1B {r:R2} (hr:IxR X r) (ha:PE X a ta) (hb:PE X b tb) (hs:c5B b):PE X (.Subscript a b pos) (tOp r ta tb):=by
 intro pins s σ H Q I h
 exact Subscript_ (binT ha hb I h λ v u s2 x y H2 I2 rx ry q=>hr a b pins s2 σ H2 x y v u Q I2 rx ry q (hs _ _))
def rIxL (K:Φρ):R2:=λ x y H Q=>∃ p xs i v,x = .ref p/\y = .int i/\SqL K H p xs/\atI xs i=some v/\Q v H
def rIxT (K:Φρ):R2:=λ x y H Q=>∃ p xs i v,x = .ref p/\y = .int i/\SqT K H p xs/\atI xs i=some v/\Q v H
theorem c5C:IxR X (rIxL X.K):=by
 intro value slice pins s σ H x y v u Q I rx ry h hs
 obtain ⟨p,xs,i,z,rfl,rfl,hq,he,q⟩:=h
 cases rx
 obtain ⟨t,rfl⟩:=ry
 obtain ⟨its,r,pl,hz⟩:=I.list hq
 obtain ⟨j,h1,h2,h3,h4,h5⟩:=b3F he
 obtain ⟨w,ew,rw'⟩:=r.get h2
 have hl:=r.length
 have hn:=a9L
 have fin:EP X pins σ Q w s:=⟨z,H,I,rw',q⟩
 by_cases h0:0<=i
 ·have hj:i.toNat=j:=by
   rw [seqIndex_of h0 h5] at h1
   exact Option.some.inj h1
  exact item_listR pl.isList h0 (by omega) (by rw [hj]; simpa using ew) fin hs
 ·have hj:(i+(its.toArray.size:Int)).toNat=j:=by
   rw [seqIndex_neg (by omega) h4] at h1
   rw [List.size_toArray,<- hl]
   exact Option.some.inj h1
  exact subscriptTail_builtinR (x:=w) pl.isList.typeIs slot_list_getitem.lookup
   (wpAny_getItem_list_neg (Q:=λ r s'=>r=w/\EP X pins σ Q r s') pl.isList (by omega) (by rw [List.size_toArray] <;> omega) (by omega) (by rw [hj]; simpa using ew) ⟨rfl,fin⟩) hs
theorem c8N:IxR X (rIxT X.K):=by
 intro value slice pins s σ H x y v u Q I rx ry h hs
 obtain ⟨p,xs,i,z,rfl,rfl,hq,he,q⟩:=h
 cases rx
 obtain ⟨t,rfl⟩:=ry
 obtain ⟨its,r,pl,hz⟩:=I.tuple hq
 obtain ⟨j,h1,h2,h3,h4,h5⟩:=b3F he
 obtain ⟨w,ew,rw'⟩:=r.get h2
 have hl:=r.length
 have hn:=a9L
 have fin:EP X pins σ Q w s:=⟨z,H,I,rw',q⟩
 exact subscriptTail_builtinR (x:=w) pl.typeIs slot_tuple_getitem.lookup
  (getItem_tuple (j:=j) (Q:=λ r s'=>r=w/\EP X pins σ Q r s') pl (by omega) (by omega) (by rw [List.size_toArray,<- hl]; exact h1) (by simpa using ew) ⟨rfl,fin⟩) hs
theorem b6H (its:List Value) (n j:Nat) (u:Value):Obj.mapSeq (·.setIfInBounds j u) { cls:=.type "list", data:=.seq its.toArray n }={ cls:=.type "list", data:=.seq (its.set j u).toArray n }:=by
 simp [Obj.mapSeq]
theorem Inv.lst {pins:List (Addr × Obj)} {σ:St} {H:Hp} {s:Shared} {p:Addr} {xs:List V} (I:Inv X pins σ H s) (h:H p=some (.lst xs)) :
  ∃ (its:List Value) (n:Nat),Vals xs its/\s.heap.get? p=some { cls:=.type "list", data:=.seq its.toArray n }/\xs.length<=sizeLine:=by
 obtain ⟨z,its,n,r,e⟩:=I.hok p _ h
 exact ⟨its,n,r,e,z⟩
theorem Inv.lstUpd {pins:List (Addr × Obj)} {σ:St} {H:Hp} {s:Shared} {p:Addr} {xs ys:List V} {its its':List Value} {n n':Nat} {f:Obj->Obj} (I:Inv X pins σ H s) (h:H p=some (.lst xs))
  (ho:s.heap.get? p=some { cls:=.type "list", data:=.seq its.toArray n }) (hf:f { cls:=.type "list", data:=.seq its.toArray n }={ cls:=.type "list", data:=.seq its'.toArray n' }) (r:Vals ys its') (hz:ys.length<=sizeLine) (t:Nat) :
  Inv X pins σ (upd H p (.lst ys)) { s with heap:=s.heap.update p f,toks:=t }:=by
 have e:(s.heap.update p f).get? p=some { cls:=.type "list", data:=.seq its'.toArray n' }:=by
  rw [Heap.get?_update_self f ho (by rw [hf] <;> rfl),hf]
 refine I.write (x:=p) (e:=p) (by rw [h]; trivial) (.inl rfl) (λ b u hb q=>(Heap.get?_update_other _ _ (Ne.symm hb)).trans q) ⟨_,e⟩ ?_
 exact ⟨hz,its',n',r,e⟩
def d1N:V->V->V->Hp->(Hp->Prop)->Prop:=λ o i v H Q=>∃ p xs k j,o = .ref p/\i = .int k/\H p=some (.lst xs)/\ixN xs.length k=some j/\Q (upd H p (.lst (xs.set j v)))
theorem c1N:PSet X d1N:=by
 intro pins s σ H o i v ov iv u Q I ro ri rv h
 obtain ⟨p,xs,k,j,rfl,rfl,hp,hj,q⟩:=h
 cases ro
 obtain ⟨t,rfl⟩:=ri
 obtain ⟨its,n,r,ho,hz⟩:=I.lst hp
 obtain ⟨h1,h2,h3,h4⟩:=b7U hj
 have hl:=r.length
 have hn:=a9L
 have I':Inv X pins σ (upd H p (.lst (xs.set j v))) { s with heap:=s.heap.update p (Obj.mapSeq (·.setIfInBounds j u)) } :=
  I.lstUpd hp ho (b6H its n j u) (r.set rv j) (by rw [List.length_set]; exact hz) s.toks
 by_cases h0:0<=k
 ·have hk:k.toNat=j:=by
   rw [seqIndex_of h0 h4] at h1
   exact Option.some.inj h1
  exact PySem.W.ki_setAt ho h0 (by omega) (by rw [List.size_toArray,<- hl]; exact h4) (by rw [hk]; exact ⟨_,I',q⟩)
 ·have hk:(k+(its.toArray.size:Int)).toNat=j:=by
   rw [seqIndex_neg (by omega) h3] at h1
   rw [List.size_toArray,<- hl]
   exact Option.some.inj h1
  exact PySem.W.ki_setBack ho (by omega) (by rw [List.size_toArray,<- hl]; exact h3) (by omega) (by rw [hk]; exact ⟨_,I',q⟩)
theorem b1I (lo hi:Option Int) (n:Nat):(sliceBounds lo hi none n).1=((HT.sIx n 0 lo:Nat):Int)/\(sliceBounds lo hi none n).2.1=((HT.sIx n n hi:Nat):Int)/\(sliceBounds lo hi none n).2.2=1:=by
 refine ⟨?_,?_,rfl⟩
 ·cases lo with
  | none=>simp [sliceBounds,HT.sIx]
  | some i =>
   simp only [sliceBounds,HT.sIx,Option.getD_none,show (1:Int) > 0 by decide,if_true]
   by_cases h:i < 0
   ·simp only [h,if_true] <;> omega
   ·simp only [h,if_false] <;> omega
 ·cases hi with
  | none=>simp [sliceBounds,HT.sIx]
  | some i =>
   simp only [sliceBounds,HT.sIx,Option.getD_none,show (1:Int) > 0 by decide,if_true]
   by_cases h:i < 0
   ·simp only [h,if_true] <;> omega
   ·simp only [h,if_false] <;> omega
theorem b0C (its:List Value) (lo hi:Option Int):slicePick its.toArray lo hi none=((its.drop (HT.sIx its.length 0 lo)).take (HT.sIx its.length its.length hi - HT.sIx its.length 0 lo)).toArray:=by
 obtain ⟨h1,h2,h3⟩:=b1I lo hi its.toArray.size
 unfold slicePick
 rw [h1,h2,h3]
 simp only [sliceRange_one,pick_run,List.size_toArray] <;> rfl
def rSlL (K:Φρ):V->Option Int->Option Int->Hp->VK->Prop:=λ x lo hi H Q=>∃ a xs,x = .ref a/\SqL K H a xs/\∀ p,H p=none->Q (.ref p) (upd H p (.lst (cutV xs lo hi)))
theorem c5D:SlR X (rSlL X.K):=by
 intro pins s σ H x v vl vu lo hi sl Q I rx hs pl pu h
 obtain ⟨a,xs,rfl,hx,q⟩:=h
 cases rx
 obtain ⟨its,r,ht,hz⟩:=I.list hx
 have hlen:=r.length
 refine ⟨"list", _,slot_list_getitem.lookup,ht.isList.typeIs,?_⟩
 refine wpAny_getItem_list_slice ht.isList hs pl pu .none (by simp) ?_ (by rw [List.size_toArray] <;> omega)
 rw [b0C,<- hlen]
 refine ⟨.ref s.heap.objs.size,_,I.laid (t':=s.toks) (o:=.lst (cutV xs lo hi)) (λ b ob q=>Heap.get?_push_of_some _ q) (Nat.le_refl _) ?_,rfl,q _ (I.hok.fresh (Nat.le_refl _))⟩
 exact ⟨Nat.le_trans (a7U xs lo hi) hz,_,0,(r.drop (HT.sIx xs.length 0 lo)).take (HT.sIx xs.length xs.length hi - HT.sIx xs.length 0 lo),Heap.get?_push_size _ rfl⟩
def b0D:V->Bool
 | .non=>true
 | .bl _=>true
 | .int _=>true
 | .str _=>true
 | _=>false
def eqV:V->V->Bool
 | .non,.non=>true
 | .bl a,.bl b=>a == b
 | .bl a,.int b=>(if a then 1 else 0) == b
 | .int a,.bl b=>a == (if b then 1 else 0)
 | .int a,.int b=>a == b
 | .str a,.str b=>a == b
 | _,_=>false
theorem c8O {A:Around} {s:Shared} {y x:V} {u v:Value} (ry:RelV y u) (rx:RelV x v) (fy:b0D y=true) (fx:b0D x=true):SeqAt.EqAt A s u v (eqV y x):=by
 cases y with
 | non =>
  cases ry
  cases x with
  | non=>cases rx; exact SeqAt.EqAt.same _
  | bl b=>cases rx; exact SeqAt.EqAt.none_bool b
  | int b=>obtain ⟨t,rfl⟩:=rx; exact SeqAt.EqAt.none_int b t
  | str b=>obtain ⟨t,rfl⟩:=rx; exact SeqAt.EqAt.none_str b t
  | _=>exact absurd (show false=true from fx) Bool.false_ne_true
 | bl a =>
  cases ry
  cases x with
  | non=>cases rx; exact SeqAt.EqAt.bool_none a
  | bl b=>cases rx; exact SeqAt.EqAt.bool_bool a b
  | int b=>obtain ⟨t,rfl⟩:=rx; exact SeqAt.EqAt.bool_int a b t
  | str b=>obtain ⟨t,rfl⟩:=rx; exact SeqAt.EqAt.bool_str a b t
  | _=>exact absurd (show false=true from fx) Bool.false_ne_true
 | int a =>
  obtain ⟨t',rfl⟩:=ry
  cases x with
  | non=>cases rx; exact SeqAt.EqAt.int_none a t'
  | bl b=>cases rx; exact SeqAt.EqAt.int_bool a t' b
  | int b=>obtain ⟨t,rfl⟩:=rx; exact SeqAt.EqAt.int_int a t' b t
  | str b=>obtain ⟨t,rfl⟩:=rx; exact SeqAt.EqAt.int_str a t' b t
  | _=>exact absurd (show false=true from fx) Bool.false_ne_true
 | str a =>
  obtain ⟨t',rfl⟩:=ry
  cases x with
  | non=>cases rx; exact SeqAt.EqAt.str_none a t'
  | bl b=>cases rx; exact SeqAt.EqAt.str_bool a t' b
  | int b=>obtain ⟨t,rfl⟩:=rx; exact SeqAt.EqAt.str_int a t' b t
  | str b=>obtain ⟨t,rfl⟩:=rx; exact SeqAt.EqAt.str_str a t' b t
  | _=>exact absurd (show false=true from fx) Bool.false_ne_true
 | _=>exact absurd (show false=true from fy) Bool.false_ne_true
def eqU (x:V) (u:Value):Bool:=match u with
 | .none=>eqV .non x
 | .bool b=>eqV (.bl b) x
 | .int i _=>eqV (.int i) x
 | .str z _=>eqV (.str z) x
 | _=>false
theorem c4B {x y:V} {u:Value} (r:RelV y u) (f:b0D y=true):eqU x u=eqV y x:=by
 cases y with
 | non=>cases r; rfl
 | bl b=>cases r; rfl
 | int i=>obtain ⟨t,rfl⟩:=r; rfl
 | str z=>obtain ⟨t,rfl⟩:=r; rfl
 | _=>exact absurd (show false=true from f) Bool.false_ne_true
theorem b3G {x:V}:∀ {xs:List V} {us:List Value},Vals xs us->xs.all b0D=true->us.any (eqU x)=xs.any λ y=>eqV y x
 | _,_,.nil,_=>rfl
 | y::xs,u::us,.cons r t,f=>by
  rw [List.all_cons,Bool.and_eq_true] at f
  rw [List.any_cons,List.any_cons,c4B r f.1,b3G t f.2]
theorem b0E {A:Around} {s:Shared} {x:V} {v:Value} (rx:RelV x v) (fx:b0D x=true):∀ {xs:List V} {us:List Value},Vals xs us->xs.all b0D=true->∀ u∈us,SeqAt.EqAt A s u v (eqU x u)
 | _,_,.nil,_=>λ u hu=>by cases hu
 | y::xs,u::us,.cons r t,f=>λ u' hu=>by
  rw [List.all_cons,Bool.and_eq_true] at f
  rcases List.mem_cons.mp hu with rfl | hu
  ·rw [c4B r f.1]; exact c8O r rx f.1 fx
  ·exact b0E rx fx t f.2 u' hu
def inV (x:V) (xs:List V):Bool:=xs.any λ y=>eqV y x
def rIn (K:Φρ) (neg:Bool):R2:=λ x y H Q=>∃ p xs,y = .ref p/\(SqL K H p xs\/SqT K H p xs)/\b0D x=true/\xs.all b0D=true/\Q (.bl (if neg then !inV x xs else inV x xs)) H
theorem b1J:OpR X (compareOp .NotIn) (rIn X.K true):=by
 intro pins s σ H x y v u Q I rx ry h
 obtain ⟨p,xs,rfl,hq,fx,fs,q⟩:=h
 cases ry
 rcases hq with hq | hq
 ·obtain ⟨its,r,pl,hz⟩:=I.list hq
  refine SeqAt.notIn_listAt (eqU x) pl.isList (λ w hw=>b0E rx fx r fs w (by simpa using hw)) ⟨.bl _,H,I,rfl,?_⟩
  rw [show its.toArray.any (eqU x)=its.any (eqU x) by simp,b3G r fs]
  exact q
 ·obtain ⟨its,r,pl,hz⟩:=I.tuple hq
  refine SeqAt.notIn_tupleAt (eqU x) pl (λ w hw=>b0E rx fx r fs w (by simpa using hw)) ⟨.bl _,H,I,rfl,?_⟩
  rw [show its.toArray.any (eqU x)=its.any (eqU x) by simp,b3G r fs]
  exact q
theorem b1K:CallR X (.builtin "len") (λ xs H Q=>∃ p ys,xs=[.ref p]/\(SqL X.K H p ys\/SqT X.K H p ys)/\Q (.int ys.length) H):=by
 intro pins s σ H xs us Q I r h
 obtain ⟨p,ys,rfl,hq,q⟩:=h
 obtain ⟨u,rfl,rx⟩:=a7F r
 cases rx
 have hn:=a9L
 rcases hq with hq | hq
 ·obtain ⟨its,r',pl,hz⟩:=I.list hq
  have hlen:=r'.length
  exact Calls.call_len_list pl.isList (by simp only [List.size_toArray] <;> omega) ⟨.int ys.length,H,I.tok _,⟨s.toks+1,by rw [List.size_toArray,hlen]⟩,q⟩
 ·obtain ⟨its,r',pl,hz⟩:=I.tuple hq
  have hlen:=r'.length
  exact len_tuple pl (by simp only [List.size_toArray] <;> omega) ⟨.int ys.length,H,I.tok _,⟨s.toks+1,by rw [List.size_toArray,hlen]⟩,q⟩
theorem b1L:CallR X (.type "list") (λ xs H Q=>∃ p ys,xs=[.ref p]/\(SqL X.K H p ys\/SqT X.K H p ys)/\∀ l,H l=none->Q (.ref l) (upd H l (.lst ys))):=by
 intro pins s σ H xs us Q I r h
 obtain ⟨p,ys,rfl,hq,q⟩:=h
 obtain ⟨u,rfl,rx⟩:=a7F r
 cases rx
 have fin:∀ (its:List Value),Vals ys its->ys.length<=sizeLine->∀ (h':Heap) (c':Nat),(∀ b o',s.heap.get? b=some o'->h'.get? b=some o') ->
   h'.get? s.heap.objs.size=some { cls:=.type "list", dict:=none,data:=.seq its.toArray c',slots:=#[] }->EP X pins σ Q (.ref s.heap.objs.size) { s with heap:=h' }:=λ its r' hz h' c' kp e =>
  ⟨.ref s.heap.objs.size,_,I.laid (t':=s.toks) kp (Nat.le_refl _) (show ObjOk X.prog X.w _ h' _ (.lst ys) from ⟨hz,its,c',r',e⟩),rfl,q _ (I.hok.fresh (Nat.le_refl _))⟩
 rcases hq with hq | hq
 ·obtain ⟨its,r',pl,hz⟩:=I.list hq
  have hlen:=r'.length
  obtain ⟨o,ho,hc,n,hd⟩:=pl.isList
  exact call_list_seq p (.inl rfl) ho hc hd (λ h' c' kp e=>fin its r' hz h' c' kp e) (by simp only [List.size_toArray] <;> omega)
 ·obtain ⟨its,r',pl,hz⟩:=I.tuple hq
  have hlen:=r'.length
  obtain ⟨o,ho,hc,n,hd⟩:=pl
  exact call_list_seq p (.inr rfl) ho hc hd (λ h' c' kp e=>fin its r' hz h' c' kp e) (by simp only [List.size_toArray] <;> omega)
def tyV (K:Φρ) (T:String) (x:V) (H:Hp):Prop:=match x with
 | .str _=>T = "str"
 | .int _=>T = "int"
 | .ref p=>(T = "list" /\ ∃ xs,SqL K H p xs)\/(T = "tuple" /\ ∃ o,K.lookup p=some o/\o.cls = .type "tuple" /\ o.dict=none) \/
   (T = "dict" /\ ((∃ kvs,H p=some (.dK kvs))\/∃ kvs,H p=some (.dT kvs)))\/(T = "set" /\ ∃ S n,H p=some (.set S n))
 | _=>False
theorem c4C {pins:List (Addr × Obj)} {σ:St} {H:Hp} {s:Shared} {T:String} {x:V} {v:Value} (I:Inv X pins σ H s) (r:RelV x v) (ty:tyV X.K T x H) :
  s.TypeIs v T/\∀ a,v = .ref a->∃ ob,s.heap.get? a=some ob/\ob.dict=none:=by
 cases x with
 | str z =>
  obtain ⟨t,rfl⟩:=r
  cases (show T = "str" from ty)
  exact ⟨typeIs_str s z t,λ _ e=>nomatch e⟩
 | int i =>
  obtain ⟨t,rfl⟩:=r
  cases (show T = "int" from ty)
  exact ⟨typeIs_int s i t,λ _ e=>nomatch e⟩
 | ref p =>
  cases r
  rcases ty with ⟨rfl,xs,hq⟩ | ⟨rfl,o,hk,hc,hd⟩ | ⟨rfl,hk⟩ | ⟨rfl,S,n,hk⟩
  ·obtain ⟨its,_,pl,_⟩:=I.list hq
   refine ⟨pl.isList.typeIs,λ a e=>?_⟩
   cases e
   obtain ⟨o,n,e,c,hd,_⟩:=pl
   exact ⟨o,e,hd⟩
  ·refine ⟨⟨o,I.kIn p o hk,hc⟩,λ a e=>?_⟩
   cases e
   exact ⟨o,I.kIn _ o hk,hd⟩
  ·have z:∃ o,s.heap.get? p=some o/\o.ExactDict:=by
    rcases hk with ⟨kvs,hk⟩ | ⟨kvs,hk⟩
    ·obtain ⟨_,_,_,_,o,_,_,e,ex,_⟩:=I.hok p _ hk
     exact ⟨o,e,ex⟩
    ·obtain ⟨_,_,_,_,o,_,_,e,ex,_⟩:=I.hok p _ hk
     exact ⟨o,e,ex⟩
   obtain ⟨o,e,ex⟩:=z
   refine ⟨⟨o,e,ex.1⟩,λ a e2=>?_⟩
   cases e2
   exact ⟨o,e,ex.2.1⟩
  ·obtain ⟨o,_,_,_,e,ex,_⟩:=I.hok p _ hk
   refine ⟨⟨o,e,ex.1⟩,λ a e2=>?_⟩
   cases e2
   exact ⟨o,e,ex.2.1⟩
 | _=>exact False.elim ty
def tBM0 (K:Φρ) (T:String) (r:V->List V->Hp->VK->Prop) (to:TE):TE:=λ σ H Q=>to σ H λ x H1=>tyV K T x H1/\r x [] H1 Q
def tBM (K:Φρ) (T:String) (r:V->List V->Hp->VK->Prop) (to:TE) (t:TA):TE:=λ σ H Q=>to σ H λ x H1=>tyV K T x H1/\t σ H1 λ xs H2=>r x xs H2 Q
variable {o e:Expr} {es:List Expr} {to:TE} {t:TA} {name:Str} {apos cpos:Pos} {T id:String} {r:V->List V->Hp->VK->Prop}
theorem c8P (pa:PlainAttrs T) (slot:Slot T name id) (hty:typeOf (.builtin id)=pure (.type "method_descriptor")) (hm:MtR X id r) (ho:PE X o to)
  (hbase:attributeBase o name X.env (eval o X.env)=eval o X.env:=by rfl) (hline:(apos.endLine == cpos.line)=true:=by rfl):PE X (.Call (.Attribute o name apos) [] [] cpos) (tBM0 X.K T r to):=by
 intro pins s σ H Q I h
 refine wpAny_Call_method0_late hbase hline (thn (ho pins s σ H _ I h) λ v s1 ⟨x,H1,I1,r1,ty,q1⟩=>?_)
 obtain ⟨h1,h2⟩:=c4C I1 r1 ty
 exact ⟨T,id,pa,slot,hty,h1,h2,Calls.callWith_builtin rfl (PySem.evalArgs_none (hm pins s1 σ H1 x [] v [] Q I1 r1 .nil q1))⟩
theorem d1O (pa:PlainAttrs T) (slot:Slot T name id) (hty:typeOf (.builtin id)=pure (.type "method_descriptor")) (hm:MtR X id r) (ho:PE X o to) (ha:PA X (e::es) t)
  (hbase:attributeBase o name X.env (eval o X.env)=eval o X.env:=by rfl)
  (hfew:((backTo cpos (starEach (e::es) X.env)).all (λ x=>!x.1) && (backToKw cpos (keywordEach [] X.env)).all (λ x=>x.1.isSome)
   && decide ((e::es).length+([]:List Keyword).length+(if ([]:List Keyword).isEmpty then 0 else 1) < 30))=true:=by rfl)
  (hline:(apos.endLine == cpos.line)=true:=by rfl) (hs:starEach (e::es) X.env=(false,eval e X.env)::starEach es X.env:=by rfl) (hplain:(backTo cpos (starEach es X.env)).any (·.1)=false:=by rfl) :
  PE X (.Call (.Attribute o name apos) (e::es) [] cpos) (tBM X.K T r to t):=by
 intro pins s σ H Q I h
 refine wpAny_Call_method_late hbase hfew hline rfl (thn (ho pins s σ H _ I h) λ v s1 ⟨x,H1,I1,r1,ty,q1⟩=>?_)
 obtain ⟨h1,h2⟩:=c4C I1 r1 ty
 refine ⟨T,id,pa,slot,hty,h1,h2,?_⟩
 have hA:=ha cpos pins s1 σ H1 _ I1 q1
 rw [hs] at hA ⊢
 refine Calls.callWith_builtin (by show (false || (backTo cpos (starEach es X.env)).any (·.1))=false; rw [hplain] <;> rfl) (Calls.evalArgs_plain ?_)
 exact thn hA λ us s2 ⟨vs,H2,I2,r2,q2⟩=>hm pins s2 σ H2 x vs v us Q I2 r1 r2 q2
end
end L2
namespace L2
open PySem PySem.Spec PyProof.Rows
def MtM (X:Cx) (id:String) (r:V->List V->Hp->VK->Prop):Prop :=
 ∀ (pins:List (Addr × Obj)) (s:Shared) (σ:St) (H:Hp) (x:V) (xs:List V) (v:Value) (us:List Value) (Q:VK),Inv X pins σ H s->RelV x v->Vals xs us->r x xs H Q ->
  wpAny (model X.prog X.w) X.A (call (.builtin id) (v::us)) (EP X pins σ Q) X.xe s
theorem Vals.one:∀ {x:V} {us:List Value},Vals [x] us->∃ u,us=[u]/\RelV x u
 | _,_,.cons r .nil=>⟨_,rfl,r⟩
theorem Vals.zero:∀ {us:List Value},Vals [] us->us=[]
 | _,.nil=>rfl
theorem Vals.dropLast {xs:List V} {us:List Value} (h:Vals xs us):Vals xs.dropLast us.dropLast:=by
 induction h with
 | nil=>exact .nil
 | cons r t ih =>
  cases t with
  | nil=>exact .nil
  | cons q t'=>exact .cons r ih
theorem Vals.reverse {xs:List V} {us:List Value} (h:Vals xs us):Vals xs.reverse us.reverse:=by
 induction h with
 | nil=>exact .nil
 | cons r t ih=>rw [List.reverse_cons,List.reverse_cons]; exact Vals.append ih (.cons r .nil)
theorem b6I {α:Type} (l:List α):l.eraseIdx (l.length - 1)=l.dropLast:=by
 induction l with
 | nil=>rfl
 | cons a r ih =>
  cases r with
  | nil=>rfl
  | cons b r =>
   have e:(a::b::r).length - 1=((b::r).length - 1)+1:=by
    have h1:(a::b::r).length=r.length+2:=rfl
    have h2:(b::r).length=r.length+1:=rfl
    omega
   rw [e,List.eraseIdx_cons_succ,ih]
   all_goals rfl
section
variable {X:Cx} {pins:List (Addr × Obj)} {σ:St} {H:Hp} {s:Shared} {l b:Addr} {xs ys zs:List V}
theorem Inv.lset {its its':List Value} {n:Nat} {f:Array Value->Array Value} {t':Nat} (I:Inv X pins σ H s) (hH:H l=some (.lst xs))
  (e:s.heap.get? l=some { cls:=.type "list", data:=.seq its.toArray n }) (hf:f its.toArray=its'.toArray) (hv:Vals ys its') (hz:ys.length<=sizeLine) :
  Inv X pins σ (upd H l (.lst ys)) { s with heap:=s.heap.update l (Obj.mapSeq f),toks:=t' }:=by
 have q:=PySem.IsL.update e f
 rw [hf] at q
 refine I.write (x:=l) (e:=l) (by rw [hH]; exact trivial) (.inl rfl) (λ b' u hb hu=>(Heap.get?_update_other s.heap (Obj.mapSeq f) (Ne.symm hb)).trans hu) ⟨_,q⟩ ?_
 exact ⟨hz,its',_,hv,q⟩
theorem Inv.lnew {its:List Value} {t':Nat} (I:Inv X pins σ H s) (hv:Vals ys its) (hz:ys.length<=sizeLine) :
  Inv X pins σ (upd H s.heap.objs.size (.lst ys)) { s with heap:=s.heap.push { cls:=.type "list", data:=.seq its.toArray },toks:=t' } :=
 I.laid (λ _ _ q=>Heap.get?_push_of_some _ q) (Nat.le_refl _) ⟨hz,its,0,hv,Heap.get?_push_size _ rfl⟩
theorem Inv.fresh (I:Inv X pins σ H s):H s.heap.objs.size=none:=I.hok.fresh (Nat.le_refl _)
theorem Inv.lstM (I:Inv X pins σ H s) (hH:H l=some (.lst xs)):xs.length<=sizeLine/\∃ (its:List Value) (n:Nat),Vals xs its/\xs.length=its.length/\s.heap.get? l=some { cls:=.type "list", data:=.seq its.toArray n }:=by
 obtain ⟨z,its,n,r,e⟩:=I.hok l _ hH
 exact ⟨z,its,n,r,r.length,e⟩
end
section
variable {X:Cx}
def c5E:V->List V->Hp->VK->Prop:=λ x vs H Q=>∃ l xs y,x = .ref l/\vs=[y]/\H l=some (.lst xs)/\xs.length < sizeLine/\Q .non (upd H l (.lst (xs++[y])))
theorem mt_append:MtM X "list.append" c5E:=by
 intro pins s σ H x vs v us Q I rx rv h
 obtain ⟨l,xs,y,rfl,rfl,hH,hz,q⟩:=h
 cases rx
 obtain ⟨u,rfl,ru⟩:=rv.one
 obtain ⟨z,its,n,r,hl,e⟩:=I.lstM hH
 refine call_meets F.slot_list_append ⟨_,e,rfl⟩ F.entry_list_append (F.args_list_append_2 _ _) (PySem.list_append l its.toArray n u (by rw [List.size_toArray]; omega)) ⟨e,?_⟩
 refine ⟨.non,_,I.lset (its':=its++[u]) hH e (by simp) (r.append (.cons ru .nil)) ?_,rfl,q⟩
 rw [List.length_append,List.length_singleton]
 omega
def rPop:V->List V->Hp->VK->Prop:=λ x vs H Q=>∃ l xs y,x = .ref l/\vs=[]/\H l=some (.lst xs)/\xs[xs.length - 1]?=some y/\Q y (upd H l (.lst xs.dropLast))
theorem mt_pop:MtM X "list.pop" rPop:=by
 intro pins s σ H x vs v us Q I rx rv h
 obtain ⟨l,xs,y,rfl,rfl,hH,hy,q⟩:=h
 cases rx
 have hus:=rv.zero
 subst hus
 obtain ⟨z,its,n,r,hl,e⟩:=I.lstM hH
 obtain ⟨u,hu,ru⟩:=r.get hy
 have hy':its.toArray[its.toArray.size - 1]?=some u:=by
  show its.toArray[its.length - 1]?=some u
  rw [<- Array.getElem?_toList,<- hl]
  exact hu
 refine call_meets F.slot_list_pop ⟨_,e,rfl⟩ F.entry_list_pop (F.args_list_pop_1 _) (MeetsSeq.list_pop_last l its.toArray n u hy' (by rw [List.size_toArray]; omega)) ⟨e,?_⟩
 refine ⟨y,_,I.lset (its':=its.dropLast) hH e ?_ r.dropLast ?_,ru,q⟩
 ·show its.toArray.eraseIdxIfInBounds (its.toArray.size - 1)=its.dropLast.toArray
  rw [List.size_toArray,List.eraseIdxIfInBounds_toArray,b6I]
 ·rw [List.length_dropLast]
  omega
def c1O:V->List V->Hp->VK->Prop:=λ x vs H Q=>∃ l xs,x = .ref l/\vs=[]/\H l=some (.lst xs)/\Q .non (upd H l (.lst xs.reverse))
theorem mt_reverse:MtM X "list.reverse" c1O:=by
 intro pins s σ H x vs v us Q I rx rv h
 obtain ⟨l,xs,rfl,rfl,hH,q⟩:=h
 cases rx
 have hus:=rv.zero
 subst hus
 obtain ⟨z,its,n,r,hl,e⟩:=I.lstM hH
 refine call_meets F.slot_list_reverse ⟨_,e,rfl⟩ F.entry_list_reverse (F.args_list_reverse_1 _) (AutoSeq1.list_reverse_list_0 l its.toArray n (by rw [List.size_toArray]; omega)) ⟨e,?_⟩
 refine ⟨.non,_,I.lset (its':=its.reverse) hH e (by simp) r.reverse ?_,rfl,q⟩
 rw [List.length_reverse]
 omega
def rCat:R2:=λ x y H Q=>∃ l b xs zs,x = .ref l/\y = .ref b/\H l=some (.lst xs)/\H b=some (.lst zs)/\xs.length+zs.length<=sizeLine/\∀ p,H p=none->Q (.ref p) (upd H p (.lst (xs++zs)))
theorem op_cat:OpR X (binaryOp .Add) rCat:=by
 intro pins s σ H x y v u Q I rx ry h
 obtain ⟨l,b,xs,zs,rfl,rfl,hH,hB,hz,q⟩:=h
 cases rx
 cases ry
 obtain ⟨z,its,n,r,hl,e⟩:=I.lstM hH
 obtain ⟨z2,its2,n2,r2,hl2,e2⟩:=I.lstM hB
 refine PySem.P.add_list e e2 ?_ (by rw [List.size_toArray,List.size_toArray]; omega)
 have ea:its.toArray++its2.toArray=(its++its2).toArray:=by simp
 rw [ea]
 exact ⟨.ref _,_,I.lnew (t':=s.toks) (r.append r2) (by rw [List.length_append]; omega),rfl,q _ I.fresh⟩
end
section
variable {prog:Program} {w:World} {A:Around} {E:Value->Shared->Prop} {s:Shared}
end
section
variable {X:Cx}
end
end L2
namespace Att
open PySem PySem.W PySem.Calls PyProof.Rows
theorem a7V {P:Params} {h:Heap}:∀ (ns:List Int) (vs:List Value),WellAll P h vs (ns.map WData.int)->IntsAre vs ns:=by
 intro ns
 induction ns with
 | nil =>
  intro vs w
  rw [List.map_nil] at w
  cases w
  exact .nil
 | cons n ns ih =>
  intro vs w
  rw [List.map_cons] at w
  cases w with
  | cons a b =>
   cases a
   exact .cons _ _ (ih _ b)
theorem b7V {l : OpenLaw} {n : Nat} (hn : l.most = some n) {P : Params} {h : Heap} {args : List WData} {vals : List Value}
    (hpre : l.row.toRowW.claim.pre args = true) (hwl : WellAll P h vals args) :
    ∃ a vs ns, vals = [Value.ref a] /\ args = [WData.list (ns.map WData.int)] /\ h.get? a = some { cls := .type "list", data := .seq vs.toArray } /\ IntsAre vs ns /\ ns.length <= n := by
  have hsh : WShape.hasAll [] args [.list .int] = true := (pre_splitW hpre).1
  have hc : l.pre.holds [] { args := args } = true := (pre_splitW hpre).2
  obtain ⟨d, r, rfl, h1, h2⟩ := hasAllW_cons hsh
  obtain rfl := hasAllW_nil h2
  obtain ⟨xs, rfl, h3⟩ := hasW_list h1
  obtain ⟨ns, rfl⟩ := items_int h3
  have hlen : ns.length <= n := by
    unfold OpenLaw.pre at hc
    have h4 : (WTm.not (.lt (.lit (.int (n : Int))) (.len (.arg 0)))).holds [] { args := [.list (ns.map .int)] } = true := by
      have h4 := (holds_andW hc).1
      rw [hn] at h4
      exact h4
    have h5 := condW_of h4 (w_not (w_lt w_lit (w_len_list (w_arg rfl))))
    rw [List.length_map] at h5
    refine Nat.le_of_not_lt fun q => ?_
    have q' : (n : Int) < ((ns.length : Nat) : Int) := by omega
    first
      | (rw [decide_eq_true q'] at h5; exact absurd h5 (by decide))
      | (simp at h5; omega)
  cases hwl with
  | cons w1 w2 =>
    cases w2
    cases w1 with
    | list ho hall => exact ⟨_, _, ns, rfl, rfl, ho, a7V ns _ hall, hlen⟩
theorem b7W (l : OpenLaw) (args : List WData) : l.row.toRowW.claim.post args (.bool true) args = true :=
  postW_of (r := l.row.toRowW) (X := (true == true))
    (show WShape.has [] (.bool true) .bool = true by first | rfl | decide | simp [WShape.has, WShape.arms, WShape.armsAll])
    (show (WTm.eq .res (.lit (.bool true))).value [] { args := args, res := some (.bool true), after := args } = some (.bool (true == true)) from w_eq_bool (w_res rfl) w_lit) rfl
theorem attach_call {l:OpenLaw} {n:Nat} {q:Program} {loose:List Str} {XP:(Str->Option Value)->Heap->Prop} {YP:World->Heap->Prop} {d:DefRec}
  (hn:l.most=some n) (hdf:d.params.defaults=[])
  (call:∀ (w:World) (s₀ s₁:Shared) (mg mb:Str->Option Value) (fa:Addr) (o:Obj) (pm cd doc:Value) (a:Addr) (vs:List Value) (ns:List Int),
   Ground q loose [] XP w s₀ mg mb s₁.heap->YP w s₁.heap ->
   s₁.heap.get? fa=some o->o.data = .func (docDef d.name d.params d.body d.scope pm cd doc)->s₁.heap.CodeRec cd d.name->mg d.name=some (.ref fa) ->
   s₁.heap.get? a=some { cls:=.type "list", data:=.seq vs.toArray }->IntsAre vs ns->ns.length<=n->s₁.gens = #[] ->
   codeAny (model l.prog w) callerA (.call (.ref fa) ⟨[.ref a],[]⟩) (λ r s'=>r = .ok (.ret (.bool true))/\OldK s₁.heap s'.heap/\s'.os=s₁.os/\AllBare s'.gens) s₁) :
  WalkO q loose XP YP l.row.toRowW d [] (λ f vs=>PySem.call f vs):=by
 intro w s₀ s₁ mg mb G Y fa o pm cd doc dV kV ho hd hcd hD hmg hg args vals as hpre hlay hrd hwl hlo
 obtain rfl:dV = .none:=Dflts.none hD hdf
 obtain rfl:kV = .none:=Dflts.noKw hD
 obtain ⟨a,vs,ns,rfl,rfl,hobj,hints,hlen⟩:=b7V hn hpre hwl
 refine enter_call (codeAny_mono (call w s₀ s₁ mg mb fa o pm cd doc a vs ns G Y ho (fd_plain hd) hcd hmg hobj hints hlen hg) λ r s' hq=>?_)
 obtain ⟨rfl,h2,h3,h4⟩:=hq
 exact ⟨.inl ⟨.bool true,.bool true,[],rfl,λ _=>rfl,.bool true,b7W l _,λ _=>⟨List.Pairwise.nil,λ _ hm=>(nomatch hm)⟩⟩,h2,h3,h4⟩
section
variable {prog:Program} {w:World} {A:Around} {E:Value->Shared->Prop} {s:Shared} {K:Frag}
end
end Att
namespace L2
open PySem PySem.Spec PyProof.Rows
theorem b1M:∀ {vs:List Value} {ns:List Int},IntsAre vs ns->Vals (ns.map V.int) vs
 | _,_,.nil=>.nil
 | _,_,.cons n t h=>.cons ⟨t,rfl⟩ (b1M h)
def Only (H:Hp):Prop:=∀ b,H b=none\/∃ o xs,H b=some (.frz o (.lst xs))
theorem c1P {P:Program} {w:World} {K:Φρ} {mg mb:Str->Option Value} {CX:CXT} {k:Nat} {fa a:Addr} {fd:FuncData} {x:Str} {sp:Sp} {s₁:Shared} {vs:List Value} {ns:List Int}
  (KX:K.In s₁.heap) (hns:s₁.heap.Ns mainGlobals mg) (hb:s₁.heap.Ns builtinsNs mb) (hbb:∀ x:Str,x ≠ "__name__" -> mb x=bootBuiltins x) (hlim:s₁.heap.NoLimit) (hg:s₁.gens = #[])
  (ha:s₁.heap.get? a=some { cls:=.type "list", data:=.seq vs.toArray }) (hi:IntsAre vs ns) (hl:ns.length<=sizeLine) (hr:Room k callerA)
  (F:∀ base:Heap,K.In base->base.Ns mainGlobals mg->FnOk P w K mg base CX k fa fd [x] sp) (hbind:∀ (s:Shared) (u:Value),BindsTo s fd ⟨[u],[]⟩ [(x,u)])
  (hsp:∀ H:Hp,Only H->SqL K H a (ns.map V.int)->sp [.ref a] H (λ v _=>v = .bl true) λ _ _ _=>False)
  (hCX:∀ H e s',CX [] H s₁ (λ _ _ _=>False) e s'->False) :
  codeAny (model P w) callerA (.call (.ref fa) ⟨[.ref a],[]⟩) (λ r s'=>r = .ok (.ret (.bool true))/\OldK s₁.heap s'.heap/\s'.os=s₁.os/\AllBare s'.gens) s₁:=by
 have rv:=b1M hi
 have lenV:=hi.length
 have core:∀ H:Hp,Only H->SqL K H a (ns.map V.int)->HOk P w H s₁.heap->(∀ b,H b≠none->b=a)->(H a≠none->K.lookup a=none) ->
   codeAny (model P w) callerA (.call (.ref fa) ⟨[.ref a],[]⟩) (λ r s'=>r = .ok (.ret (.bool true))/\OldK s₁.heap s'.heap/\s'.os=s₁.os/\AllBare s'.gens) s₁:=by
  intro H hO hS hok hA hK
  have base_of:∀ {b:Addr} {o:Obj},s₁.heap.get? b=some o->H b=none->(hidT s₁.heap H).get? b=some o:=λ e n=>c1F e n
  have noA:∀ {b:Addr} {o:Obj} {es:Array DictEntry} {ep:Nat},s₁.heap.get? b=some o->o.data = .dict es ep->H b=none:=λ {b o es ep} e d=>by
   cases q:H b with
   | none=>rfl
   | some u =>
    have e':b=a:=hA b (by rw [q]; simp)
    subst e'
    rw [ha] at e; cases e
    have d':Data.seq vs.toArray _=Data.dict es ep:=d
    cases d'
  have nsK:∀ {b:Addr} {m:Str->Option Value},s₁.heap.Ns b m->(hidT s₁.heap H).Ns b m:=λ {b m} ⟨o,es,ep,e,d,r⟩=>⟨o,es,ep,base_of e (noA e d),d,r⟩
  have hKb:K.In (hidT s₁.heap H):=λ b o e=>base_of (KX b o e) (by
   cases q:H b with
   | none=>rfl
   | some u =>
    have e':b=a:=hA b (by rw [q]; simp)
    subst e'
    rw [hK (by rw [q]; simp)] at e; cases e)
  have hM:Mod K mg (hidT s₁.heap H):=⟨hKb,nsK hns,⟨mb,nsK hb,hbb⟩,let ⟨mc,h1,h2⟩:=hlim; ⟨mc,nsK h1,h2⟩⟩
  have e0:Env0 P w K mg (hidT s₁.heap H) callerA [] s₁ H:=⟨rfl,hM,λ b o e=>c4T e,Nat.le_of_eq (b7G _ _),trivial,λ b hb=>absurd (show b∈([]:List Addr) from hb) (by simp),hok,.of_eq hg⟩
  refine codeAny_mono ((F _ hKb (nsK hns)).run callerA [] s₁ H ⟨[.ref a],[]⟩ [.ref a] [.ref a] _ _ hr e0 (hbind s₁ (.ref a)) (.cons rfl .nil) (hsp H hO hS)) λ r s' h=>?_
  cases r with
  | error e=>exact (hCX H e s' h).elim
  | ok fl =>
   cases fl with
   | next=>exact False.elim h
   | brk=>exact False.elim h
   | cont=>exact False.elim h
   | ret u =>
    obtain ⟨v,H',os,bare,un,hok',r',q⟩:=h
    have q':v = .bl true:=q
    subst q'
    obtain rfl:u=Value.bool true:=r'
    refine ⟨rfl,OldK.of_keep λ b o e=>?_,os,bare⟩
    cases q:H b with
    | none=>exact un.keep b o e q (by intro z; exact absurd (show b∈([]:List Addr) from z) (by simp)) (by simp)
    | some u =>
     rcases hO b with z | ⟨ob,xs,z⟩
     ·rw [q] at z; cases z
     ·have z2:=un.frzs b ob _ z
      obtain ⟨e1,_⟩:=hok b _ z
      obtain ⟨e2,_⟩:=hok' b _ z2
      rw [e] at e1; cases e1
      exact e2
 cases hk:K.lookup a with
 | some o =>
  have e:=KX a o hk
  rw [ha] at e
  cases e
  refine core (λ _=>none) (λ _=>.inl rfl) (.inr ⟨_,vs.toArray,_,hk,rfl,rfl,rfl,by rw [List.size_toArray,lenV]; exact hl,by simpa using rv⟩) (λ b u z=>by have z':(none:Option HO)=some u:=z; cases z') (λ b z=>absurd rfl z) λ z=>absurd rfl z
 | none =>
  refine core (λ b=>if b=a then some (.frz { cls:=.type "list", data:=.seq vs.toArray } (.lst (ns.map V.int))) else none) (λ b=>?_) (.inl (.inr ⟨{ cls:=.type "list", data:=.seq vs.toArray },if_pos rfl⟩)) (λ b u z=>?_) (λ b z=>?_) λ _=>hk
  ·by_cases hb:b=a
   ·exact .inr ⟨_,_,if_pos hb⟩
   ·exact .inl (if_neg hb)
  ·by_cases hb:b=a
   ·have z':=(if_pos hb).symm.trans z
    cases z'
    subst hb
    exact ⟨ha,by rw [List.length_map]; exact hl,vs,_,rv,ha⟩
   ·have z':=(if_neg hb).symm.trans z
    cases z'
  ·by_cases hb:b=a
   ·exact hb
   ·exact absurd (if_neg hb) z
end L2
namespace L2
open PySem PySem.Spec PyProof.Rows
abbrev KOf {K:Φρ} {h:Heap} (_:K.In h):Φρ:=K
theorem c5F {l:PySem.W.OpenLaw} {n k:Nat} {q:Program} {loose:List Str} {XP:(Str->Option Value)->Heap->Prop} {YP:World->Heap->Prop} {d:DefRec} {K:Params->Φρ} {CX:World->CXT} {sp:World->Sp} {x:Str}
  (hn:l.most=some n) (hn2:n<=sizeLine) (hdf:d.params.defaults=[]) (hr:Room k callerA)
  (hY:∀ (w:World) (h:Heap),YP w h->(K w.params).In h)
  (F:∀ (w:World) (mg:Str->Option Value) (fa:Addr) (h:Heap),(K w.params).In h->h.Ns mainGlobals mg->mg d.name=some (.ref fa) ->
   ∃ fd:FuncData,(∀ (s:Shared) (u:Value),BindsTo s fd ⟨[u],[]⟩ [(x,u)]) /\
    ∀ base:Heap,(K w.params).In base->base.Ns mainGlobals mg->FnOk l.prog w (K w.params) mg base (CX w) k fa fd [x] (sp w))
  (hsp:∀ (w:World) (H:Hp) (a:Addr) (ns:List Int),ns.length<=n->Only H->SqL (K w.params) H a (ns.map V.int)->sp w [.ref a] H (λ v _=>v = .bl true) λ _ _ _=>False)
  (hCX:∀ (w:World) (H:Hp) (s:Shared) (e:Value) (s':Shared),CX w [] H s (λ _ _ _=>False) e s'->False) :
  PySem.W.WalkO q loose XP YP l.row.toRowW d [] (λ f vs=>PySem.call f vs):=by
 refine Att.attach_call hn hdf λ w s₀ s₁ mg mb fa o pm cd doc a vs ns G Y ho hd hcd hmg hobj hints hlen hg=>?_
 have KX:=hY w _ Y
 obtain ⟨fd,hb,hF⟩:=F w mg fa _ KX G.T.g hmg
 exact c1P KX G.T.g G.T.b G.T.builtins G.T.nolimit hg hobj hints (Nat.le_trans hlen hn2) hr hF hb (λ H hO hS=>hsp w H a ns hlen hO hS) λ H e s'=>hCX w H s₁ e s'
theorem walk_ofK {l:PySem.W.OpenLaw} {n k:Nat} {q:Program} {loose:List Str} {XP:(Str->Option Value)->Heap->Prop} {YP:World->Heap->Prop} {d:DefRec} {K:Params->Φρ} {CX:CXT} {sp:Φρ->Sp} {x:Str}
  (hn:l.most=some n) (hn2:n<=sizeLine) (hdf:d.params.defaults=[]) (hr:Room k callerA)
  (hY:∀ (w:World) (h:Heap),YP w h->(K w.params).In h)
  (F:∀ (w:World) (mg:Str->Option Value) (fa:Addr) (h:Heap),(K w.params).In h->h.Ns mainGlobals mg->mg d.name=some (.ref fa) ->
   ∃ fd:FuncData,(∀ (s:Shared) (u:Value),BindsTo s fd ⟨[u],[]⟩ [(x,u)]) /\
    ∀ base:Heap,(K w.params).In base->base.Ns mainGlobals mg->FnOk l.prog w (K w.params) mg base CX k fa fd [x] (sp (K w.params)))
  (hsp:∀ (K:Φρ) (H:Hp) (a:Addr) (ns:List Int),ns.length<=n->Only H->SqL K H a (ns.map V.int)->sp K [.ref a] H (λ v _=>v = .bl true) λ _ _ _=>False)
  (hCX:∀ (H:Hp) (s:Shared) (e:Value) (s':Shared),CX [] H s (λ _ _ _=>False) e s'->False) :
  PySem.W.WalkO q loose XP YP l.row.toRowW d [] (λ f vs=>PySem.call f vs) :=
 c5F (K:=K) (CX:=λ _=>CX) (sp:=λ w=>sp (K w.params)) hn hn2 hdf hr hY F (λ w H a ns h1 h2 h3=>hsp (K w.params) H a ns h1 h2 h3) λ _ H s e s'=>hCX H s e s'
end L2
namespace L2
open PySem PySem.Spec PyProof.Rows
def a2D (s:Stmt):Arguments:=match s with
 | .FunctionDef _ a _ _ _ _ _ _ _ _=>a
 | _=>{ posonlyargs:=[],args:=[],vararg:=none,kwonlyargs:=[],kw_defaults:=[],kwarg:=none,defaults:=[] }
def a1U (s:Stmt):List Stmt:=match s with
 | .FunctionDef _ _ b _ _ _ _ _ _ _=>b
 | _=>[]
def a0F (s:Stmt):Scope:=match s with
 | .FunctionDef _ _ _ _ _ _ sc _ _ _=>sc
 | _=>{ kind:=.function,names:=[],isGenerator:=false,isCoroutine:=false }
abbrev CX0:CXT:=λ _ _ _ _ _ _=>False
abbrev E0:XK:=λ _ _ _=>False
theorem a1I {X:Cx}:b4P CX0 X E0:=λ _ _ _ _ _ _ _ h=>h.elim
structure Fun (K:Φρ) (x qual:Str) (st:Stmt) (f:Addr) (fd:FuncData):Prop where
 ex:∃ (oc:Value) (od:Option Addr) (kV doc pm:Value) (an:Option Addr) (cdv ct:Value) (osl:Array (Option Value)),
  fd=PySem.W.fnOf x qual (a2D st) (a1U st) (a0F st) .none kV doc pm an cdv ct/\K.lookup f=some ⟨oc,od,.func fd,osl⟩/\PySem.W.codeIn K cdv qual=true
 kp:PySem.W.keepIn K (.ref f)=true
section
variable {P:Program} {w:World} {K:Φρ} {mg:Str->Option Value} {base:Heap}
theorem Fun.ok {x qual:Str} {st:Stmt} {f:Addr} {fd:FuncData} {N ps:List Str} {k:Nat} {sp:Sp} (F:Fun K x qual st f fd) (S:FnScope N ps (a0F st)) (len:∀ vs H Q E,sp vs H Q E->vs.length=ps.length)
  (hbody:∀ (cdv:Value) (A:Around) (outer:List Env) (s:Shared) (H:Hp) (vs:List V) (Q:VK) (E:XK),Room k (A.deeper (envOfC qual (a0F st) s.heap.objs.size f cdv))->sp vs H Q E ->
   ∃ t,PSs (cxOf CX0 P w K mg base N qual (a0F st) f cdv A outer s H E).nox (a1U st) t/\t { nx:=λ _ H'=>Q .non H',rt:=Q } (a6J N vs) H):FnOk P w K mg base CX0 (k+1) f fd ps sp:=by
 obtain ⟨oc,od,kV,doc,pm,an,cdv,ct,osl,rfl,lk,hcd⟩:=F.ex
 refine c8K lk hcd S len λ A outer s H vs Q E hr hsp=>?_
 obtain ⟨t,h,q⟩:=hbody cdv A outer s H vs Q E hr hsp
 exact ⟨t,h.nox,q⟩
theorem Fun.binds {x qual:Str} {st:Stmt} {f:Addr} {fd:FuncData} {ps:List Str} (F:Fun K x qual st f fd)
  (h:∀ (kV doc pm:Value) (an:Option Addr) (cdv ct:Value) (us:List Value),us.length=ps.length->bindArgs (PySem.W.fnOf x qual (a2D st) (a1U st) (a0F st) .none kV doc pm an cdv ct) ⟨us,[]⟩=pure (ps.zip us)):Binds K fd ps []:=by
 obtain ⟨oc,od,kV,doc,pm,an,cdv,ct,osl,rfl,lk,hcd⟩:=F.ex
 exact .all (h kV doc pm an cdv ct)
theorem c8Q {x qual:Str} {st:Stmt} {f:Addr} {oc:Value} {od an:Option Addr} {osl:Array (Option Value)} {kV doc pm cdv ct:Value} (l:K.lookup f=some ⟨oc,od,.func (PySem.W.fnOf x qual (a2D st) (a1U st) (a0F st) .none kV doc pm an cdv ct),osl⟩)
  (c:PySem.W.codeIn K cdv qual=true) (k:PySem.W.keepIn K (.ref f)=true):Fun K x qual st f (PySem.W.fnOf x qual (a2D st) (a1U st) (a0F st) .none kV doc pm an cdv ct):=⟨⟨oc,od,kV,doc,pm,an,cdv,ct,osl,rfl,l,c⟩,k⟩
end
theorem a0W {n:Nat} (h:n<=1000):n < sizeLine:=Nat.lt_of_le_of_lt h (by decide)
section
variable {X:Cx}
theorem pv (i:Nat) {x:Str} {pos:Pos} (hN:X.N[i]?=some x:=by rfl) (hv:Vis X.env.scope x:=by first | exact Or.inl rfl | exact Or.inr (Or.inl rfl) | exact Or.inr (Or.inr rfl)) (hd:(x == ("__debug__" : Str))=false:=by decide)
  (hcd:(x == ("__classdict__" : Str))=false:=by decide):PE X (.Name x pos) (tVar i):=c8B hN hv hd hcd
end
theorem iteF {A B:Prop} (h:B):if false=true then A else B:=by
 rw [if_neg Bool.false_ne_true]
 exact h
theorem iteT {A B:Prop} (h:A):if true=true then A else B:=by
 rw [if_pos rfl]
 exact h
theorem ite2 {c A B:Prop} [Decidable c] (h1:c->A) (h2:¬ c->B):if c then A else B:=by
 by_cases h:c
 ·rw [if_pos h]
  exact h1 h
 ·rw [if_neg h]
  exact h2 h
def Same (H H':Hp):Prop:=∀ b o,H b=some o->H' b=some o
theorem Same.refl (H:Hp):Same H H:=λ _ _ h=>h
theorem Same.trans {H H1 H2:Hp} (a:Same H H1) (b:Same H1 H2):Same H H2:=λ c o h=>b c o (a c o h)
theorem Same.free {H H':Hp} (e:Same H H') {l:Addr} (h:H' l=Option.none):H l=Option.none:=by
 cases q:H l with
 | none=>rfl
 | some o =>
  rw [e l o q] at h
  cases h
theorem Same.seq {K:Φρ} {H H':Hp} {a:Addr} {xs:List V} (e:Same H H') (h:SqL K H a xs):SqL K H' a xs:=by
 rcases h with (h | ⟨o,h⟩) | h
 ·exact .inl (.inl (e _ _ h))
 ·exact .inl (.inr ⟨o,e _ _ h⟩)
 ·exact .inr h
end L2
namespace L2
open PySem PySem.Spec PyProof.Rows
def clOf (cells:List (Str × Addr)):List (Str × NameKind)->List (Str × Addr)->List (Str × Addr)
 | [],acc=>acc
 | (n,k)::r,acc=>clOf cells r (if k == .free then (match cells.lookup n with | some c=>(n,c)::acc | none=>acc) else acc)
theorem c4D {env:Env}:∀ (ns:List (Str × NameKind)) (acc:List (Str × Addr)),(∀ x∈ns,x.2 = .free->∃ c,env.cells.lookup x.1=some c) ->
  (forIn ns acc λ (x:Str × NameKind) (cs:List (Str × Addr))=>(if x.2 == NameKind.free then do let a <- cellOf env x.1; pure (ForInStep.yield ((x.1,a)::cs)) else pure (ForInStep.yield cs):Sem (ForInStep (List (Str × Addr)))))=pure (clOf env.cells ns acc)
 | [],acc,_=>by simp [clOf]
 | (n,k)::r,acc,h=>by
  rw [List.forIn_cons]
  have ih:=λ a=>c4D (env:=env) r a λ x hx=>h x (List.mem_cons_of_mem _ hx)
  unfold clOf
  by_cases hk:(k == NameKind.free)=true
  ·obtain ⟨c,hc⟩:=h (n,k) List.mem_cons_self (by simpa using hk)
   have hc':env.cells.lookup n=some c:=hc
   have hce:cellOf env n=pure c:=by simp only [cellOf,hc']
   simp only [hk,if_true,hce,pure_bind,hc']
   exact ih _
  ·simp only [hk,if_false,pure_bind,ih]
   simp
theorem a6K {scope:Scope} {env:Env} (h:∀ x∈scope.names,x.2 = .free->∃ c,env.cells.lookup x.1=some c):closureFor scope env=pure (clOf env.cells scope.names []):=by
 have q:=c4D (env:=env) scope.names [] h
 unfold closureFor
 rw [<- q]
 first
  | rfl
  | simp
theorem a5R {cells:List (Str × Addr)}:∀ (ns:List (Str × NameKind)) (acc:List (Str × Addr)) {x:Str} {c:Addr},(∀ y d,acc.lookup y=some d->cells.lookup y=some d)->(clOf cells ns acc).lookup x=some c->cells.lookup x=some c
 | [],acc,x,c,ha,h=>ha x c h
 | (n,k)::r,acc,x,c,ha,h=>by
  unfold clOf at h
  refine a5R r _ (λ y d hy=>?_) h
  split at hy
  ·split at hy
   ·rename_i c' hc'
    rw [List.lookup_cons] at hy
    split at hy
    ·rename_i e
     have e':y=n:=by simpa using e
     subst e'
     rw [hc']; exact hy
    ·exact ha y d hy
   ·exact ha y d hy
  ·exact ha y d hy
theorem b1N {cells:List (Str × Addr)}:∀ (ns:List (Str × NameKind)) (acc:List (Str × Addr)) {x:Str},(∃ c,acc.lookup x=some c)->∃ c,(clOf cells ns acc).lookup x=some c
 | [],acc,x,h=>h
 | (n,k)::r,acc,x,h=>by
  unfold clOf
  refine b1N r _ ?_
  split
  ·split
   ·rw [List.lookup_cons]
    split
    ·exact ⟨_,rfl⟩
    ·exact h
   ·exact h
  ·exact h
theorem b0F {cells:List (Str × Addr)}:∀ (ns:List (Str × NameKind)) (acc:List (Str × Addr)) {x:Str},(x,NameKind.free)∈ns->(∃ c,cells.lookup x=some c)->∃ c,(clOf cells ns acc).lookup x=some c
 | [],acc,x,h,_=>nomatch h
 | (n,k)::r,acc,x,h,hc=>by
  unfold clOf
  rcases List.mem_cons.mp h with e | h
  ·cases e
   obtain ⟨c,hc⟩:=hc
   refine b1N r _ ?_
   simp [hc]
  ·exact b0F r _ h hc
end L2
namespace L2
open PySem PySem.Spec PyProof.Rows
theorem Inv.track {X:Cx} {pins:List (Addr × Obj)} {σ:St} {H:Hp} {s:Shared} {a:Addr} {o:HO} (I:Inv X pins σ H s) (hn:H a=none) (h0:X.s₀.heap.objs.size<=a) (hL:a≠X.env.locals)
  (hc:∀ x c,X.env.cells.lookup x=some c->c≠a) (hp:∀ p∈X.pn++pins,p.1≠a) (new:ObjOk X.prog X.w (upd H a o) s.heap a o):Inv X pins σ (upd H a o) s:=by
 have ne:∀ b u,H b=some u->b≠a:=λ b u e=>a1C e hn
 have q:=I.step (g':=s.gens) (d':=s.drawn) (t':=s.toks) (h':=s.heap) (H':=upd H a o) (ch:=[a]) (λ b hb=>?_) (λ b ob _ _ _ e _=>e) (λ b ob _ _ _ e _=>⟨ob.slots,e⟩) (λ b ob hb _ n=>?_)
  (λ b ob _ e=>⟨ob,e⟩) (λ b xs e=>by rw [a1K (ne b _ e)]; exact e) (λ b ob u e=>by rw [a1K (ne b _ e)]; exact e) (λ b ps e=>⟨#[],by rw [a1K (ne b _ e),e]; simp⟩) (λ m hm=>hm) (λ b u e=>?_) I.bare
 ·exact q
 ·have e:b=a:=by simpa using hb
  subst e
  exact ⟨.inr h0,hL,hc,hp⟩
 ·rw [a1K (λ z=>hb (by simp [z]))]; exact n
 ·by_cases hb:b=a
  ·subst hb; rw [a2X] at e; cases e; exact new
  ·rw [a1K hb] at e
   exact (I.hok b u e).stay (λ c v _ q=>q) (λ c q=>by rw [a1K (a1C q hn)]; exact q) λ c xs q=>by rw [a1K (a1C q hn)]; exact q
def a2S (X:Cx) (N':List Str) (scope:Scope) (C:Addr) (s:Shared) (H:Hp) (fp:List Addr) (xe:Value->Shared->Prop):Cx :=
 { X with N:=N',s₀:=s,H₀:=H,env:=compEnvC scope (clOf X.env.cells scope.names []) C X.env,outer:=X.stack,ex:=fp,fn:=λ _=>false,xe:=xe }
structure BlkOk (X:Cx) (N':List Str) (ix:List (Option Nat)) (scope:Scope):Prop where
 kind:scope.kind = .function
 nocell:∀ y∈scope.names,y.2 ≠ .cell
 locs:∀ y∈scope.names,y.2 = .local->scope.names.lookup y.1=some .local
 free:∀ y∈scope.names,y.2 = .free->X.env.kindOf y.1=some .cell\/X.env.kindOf y.1=some .free
 len:ix.length=N'.length
 cap:∀ (i j:Nat),ix[i]?=some (some j)->∃ x,N'[i]?=some x/\X.N[j]?=some x/\scope.names.lookup x=some .free
def capt (ix:List (Option Nat)) (σ:St):St:=ix.map λ o=>o.bind λ j=>(σ[j]?).join
theorem a6V {env:Env} {x:Str}:∀ {names:List (Str × NameKind)},names.lookup x=some .free->(names.map λ (n,k)=>if (k == NameKind.free && env.scope.kind == .function && env.kindOf n == some .cell) then (n,NameKind.cell) else (n,k)).lookup x=some .cell\/(names.map λ (n,k)=>if (k == NameKind.free && env.scope.kind == .function && env.kindOf n == some .cell) then (n,NameKind.cell) else (n,k)).lookup x=some .free
 | [],h=>by simp at h
 | (n,k)::r,h=>by
  have ih:=@a6V env x r
  simp only [List.map_cons]
  cases hx:x == n with
  | true =>
   simp only [List.lookup_cons,hx] at h
   cases h
   by_cases hc:(NameKind.free == NameKind.free && env.scope.kind == .function && env.kindOf n == some .cell)=true
   ·rw [if_pos hc]; left; simp [List.lookup_cons,hx]
   ·rw [if_neg hc]; right; simp [List.lookup_cons,hx]
  | false =>
   simp only [List.lookup_cons,hx] at h
   by_cases hc:(k == NameKind.free && env.scope.kind == .function && env.kindOf n == some .cell)=true
   ·rw [if_pos hc]; simp only [List.lookup_cons,hx]; exact ih h
   ·rw [if_neg hc]; simp only [List.lookup_cons,hx]; exact ih h
theorem a6W {env:Env} {x:Str}:∀ {names:List (Str × NameKind)},(∀ y∈names,y.2 ≠ .cell)->((names.map λ (n,k)=>if (k == NameKind.free && env.scope.kind == .function && env.kindOf n == some .cell) then (n,NameKind.cell) else (n,k)).lookup x=some .cell\/(names.map λ (n,k)=>if (k == NameKind.free && env.scope.kind == .function && env.kindOf n == some .cell) then (n,NameKind.cell) else (n,k)).lookup x=some .free)->(x,NameKind.free)∈names
 | [],_,h=>by simp at h
 | (n,k)::r,hn,h=>by
  have ih:=@a6W env x r λ y hy=>hn y (List.mem_cons_of_mem _ hy)
  simp only [List.map_cons] at h
  cases hx:x == n with
  | true =>
   have e:x=n:=by simpa using hx
   subst e
   have hk:=hn (x,k) List.mem_cons_self
   by_cases hc:(k == NameKind.free && env.scope.kind == .function && env.kindOf x == some .cell)=true
   ·have hf:k = .free:=by
     simp only [Bool.and_eq_true,beq_iff_eq] at hc
     exact hc.1.1
    subst hf
    exact List.mem_cons_self
   ·rw [if_neg hc] at h
    simp only [List.lookup_cons,hx] at h
    rcases h with h | h
    ·exact absurd (Option.some.inj h) hk
    ·have hf:k = .free:=Option.some.inj h
     subst hf
     exact List.mem_cons_self
  | false =>
   refine List.mem_cons_of_mem _ (ih ?_)
   by_cases hc:(k == NameKind.free && env.scope.kind == .function && env.kindOf n == some .cell)=true
   ·rw [if_pos hc] at h; simpa only [List.lookup_cons,hx] using h
   ·rw [if_neg hc] at h; simpa only [List.lookup_cons,hx] using h
theorem a7W {X:Cx} {pins:List (Addr × Obj)} {σ:St} {H:Hp} {s:Shared} {N':List Str} {ix:List (Option Nat)} {scope:Scope} {i:Nat} {x:Str} {v:V} (B:BlkOk X N' ix scope) (I:Inv X pins σ H s)
  (h1:N'[i]?=some x) (h2:(capt ix σ)[i]?=some (some v)):∃ u c,RelV v u/\(clOf X.env.cells scope.names []).lookup x=some c/\X.env.cells.lookup x=some c/\s.heap.IsCell c (some u) /\
   ((relabel scope X.env).names.lookup x=some .cell\/(relabel scope X.env).names.lookup x=some .free):=by
 have clB:∀ x c,(clOf X.env.cells scope.names []).lookup x=some c->X.env.cells.lookup x=some c:=λ x c h=>a5R scope.names [] (λ _ _ z=>by simp at z) h
 obtain ⟨j,hj,hv⟩:∃ j,ix[i]?=some (some j)/\σ[j]?=some (some v):=by
  unfold capt at h2
  rw [List.getElem?_map] at h2
  cases e:ix[i]? with
  | none=>rw [e] at h2; cases h2
  | some o =>
   rw [e] at h2
   cases o with
   | none=>cases h2
   | some j =>
    refine ⟨j,rfl,?_⟩
    have h2':(σ[j]?).join=some v:=Option.some.inj h2
    cases e2:σ[j]? with
    | none=>rw [e2] at h2'; cases h2'
    | some o2=>rw [e2] at h2'; have:o2=some v:=h2'; rw [this]
 obtain ⟨x',hx1,hx2,hx3⟩:=B.cap i j hj
 have exx:x'=x:=by
  have h1':N'[i]?=some x:=h1
  rw [hx1] at h1'; exact Option.some.inj h1'
 subst exx
 have hmem:=PySem.mem_of_lookup hx3
 have hout:=B.free _ hmem rfl
 obtain ⟨m0,_,hl⟩:=I.loc
 obtain ⟨u,r,l⟩:=hl j x' v hx2 hv (by
  rcases hout with e | e
  ·exact .inr (.inl e)
  ·exact .inr (.inr e))
 rcases l with ⟨k,_⟩ | ⟨k,c,e,z⟩
 ·rcases hout with e | e
  ·rw [e] at k; cases k
  ·rw [e] at k; cases k
 ·obtain ⟨c',hc'⟩:=b0F scope.names [] hmem (I.ok.has x' hout)
  have:=clB x' c' hc'
  rw [e] at this; cases this
  exact ⟨u,c,r,hc',e,z,a6V hx3⟩
theorem b1O {X:Cx} {pins:List (Addr × Obj)} {σ:St} {H:Hp} {s s4:Shared} {N':List Str} {ix:List (Option Nat)} {scope:Scope} {C:Addr} {fp:List Addr} {xe:Value->Shared->Prop} {m:Str->Option Value}
  (B:BlkOk X N' ix scope) (I:Inv X pins σ H s) (hf:∀ b∈fp,FpOk X pins H b) (hC:s.heap.objs.size<=C) (hfs:∀ b∈fp,b < s.heap.objs.size)
  (ho:s4.os=s.os) (hg:s4.gens=s.gens) (hk:∀ b o,s.heap.get? b=some o->s4.heap.get? b=some o) (hns:s4.heap.Ns C m) :
  Inv (a2S X N' scope C s H fp xe) pins (capt ix σ) H s4:=by
 have clB:∀ x c,(clOf X.env.cells scope.names []).lookup x=some c->X.env.cells.lookup x=some c:=λ x c h=>a5R scope.names [] (λ _ _ z=>by simp at z) h
 have hfree:H C=none:=I.hok.fresh hC
 have neC:∀ b o,s.heap.get? b=some o->b≠C:=λ b o e=>Nat.ne_of_lt (Nat.lt_of_lt_of_le (Heap.lt_size e) hC)
 refine ⟨⟨I.ok.mod,B.kind,I.ok.glob,I.ok.blt,hC,λ x y c h1 h2=>I.ok.inj x y c (clB x c h1) (clB y c h2),λ x hx=>?_,λ x c h=>absurd (show false=true from h) Bool.false_ne_true,I.ok.hd,I.ok.frames,.inl rfl,λ b hb=>⟨?_,λ x c e=>?_⟩,I.bs,?_,λ b o e hb=>?_,λ b hb z=>?_,I.stack,I.stkFree⟩,
  ho,?_,Un.kept hk,⟨m,hns,λ i x v h1 h2 h3=>?_⟩,λ x c e=>?_,hfree,λ x c e=>I.freeC x c (clB x c e),λ p hp=>?_,I.hok.kept hk,?_⟩
 ·have hx':=a6W (env:=X.env) (x:=x) B.nocell hx
  exact b0F scope.names [] hx' (I.ok.has x (B.free _ hx' rfl))
 ·exact Nat.ne_of_lt (Nat.lt_of_lt_of_le (hfs b hb) hC)
 ·exact (hf b hb).2.2.2.2.1 x c (clB x c e)
 ·exact Nat.le_trans I.ok.bsz I.sz
 ·obtain ⟨_,_,_,q,_⟩:=hf b hb
  rcases q with q | q
  ·exact I.ok.noex b o e q
  ·exact absurd (Nat.lt_of_lt_of_le (Heap.lt_size (I.ok.bs b o e).1) q) (Nat.lt_irrefl _)
 ·obtain ⟨_,q1,q2,_⟩:=hf b hb
  rcases List.mem_cons.mp (I.stkSub b z) with e | e
  ·exact q1 e
  ·exact q2 e
 ·rw [hg]; exact I.bare
 ·obtain ⟨u,c,r,hc1,_,⟨oc,z1,z2⟩,hk'⟩:=a7W B I h1 h2
  exact ⟨u,r,.inr ⟨hk',c,hc1,oc,hk _ _ z1,z2⟩⟩
 ·obtain ⟨v,oc,h1,h2⟩:=I.cell x c (clB x c e)
  exact ⟨v,oc,hk _ _ h1,h2⟩
 ·obtain ⟨e,n,ne,nf,d⟩:=I.pin p hp
  refine ⟨hk _ _ e,n,neC _ _ e,λ z=>?_,d⟩
  rcases List.mem_cons.mp (I.stkSub p.1 z) with e' | e'
  ·exact ne e'
  ·exact nf e'
 ·show (ix.map _).length=N'.length
  rw [List.length_map]; exact B.len
end L2
namespace L2
open PySem PySem.Spec PyProof.Rows
theorem a7X {prog:Program} {w:World} {A:Around} {R:Result->Shared->Prop} {s:Shared} {elt target iter:Expr} {ifs:List Expr} {scope:Scope} {pos:Pos} {it acc:Value} {env:Env} (Iv:Nat->Shared->Prop)
  (turn:∀ n s,Iv n s->wpAny (model prog w) A (pyNext it) (λ r s₁=>match r with
   | none=>R (.ok .next) s₁
   | some v=>wpAny (model prog w) A (letOwnedTupleGo target it v) (λ _ s₁'=>wpAny (model prog w) A (assign target env v) (λ _ s₂ =>
     wpAny (model prog w) A (forIn ifs true λ c r=>if r=true then do let ok <- isTrue c env (eval c env); pure (ForInStep.yield ok) else pure (ForInStep.yield r)) (λ ok s₃ =>
      if ok=true then wpAny (model prog w) A (eval elt env) (λ x s₄ =>
       wpAny (model prog w) A (call (.builtin "list.append") [acc,x]) (λ _ s₅=>∃ m,m < n/\Iv m s₅) (notedBy (model prog w) A env λ e s'=>R (.error e) s') s₄) (notedBy (model prog w) A env λ e s'=>R (.error e) s') s₃
      else ∃ m,m < n/\Iv m s₃) (notedBy (model prog w) A env λ e s'=>R (.error e) s') s₂) (notedBy (model prog w) A env λ e s'=>R (.error e) s') s₁') (notedBy (model prog w) A env λ e s'=>R (.error e) s') s₁) (notedBy (model prog w) A env λ e s'=>R (.error e) s') s)
  (n:Nat) (h:Iv n s) :
  codeAny (model prog w) A (.compLoop (.ListComp elt [⟨target,iter,ifs,0⟩] scope pos) 0 it acc env) R s:=by
 refine codeAny_loop rfl Iv (λ n s hI=>?_) n h
 show wpAny _ A ((compTurn (.ListComp elt [⟨target,iter,ifs,0⟩] scope pos) 0 it acc env).onRaise (λ x=>do noteFrame x env; theTreesLotGoes x)) _ _ s
 refine wpAny_noted ?_
 rw [compTurn_list]
 refine wpAny_bind (wpAny_standAt (wpAny_bind (wpAny_mono (turn n s hI) (λ r s₁ h₁=>?_) λ _ _ h'=>h')))
 cases r with
 | none=>exact wpAny_pure h₁
 | some v =>
  refine wpAny_bind (wpAny_mono h₁ (λ _ s₁' h₁'=>?_) λ _ _ h'=>h')
  refine wpAny_bind (wpAny_mono h₁' (λ _ s₂ h₂=>wpAny_bind (wpAny_mono h₂ (λ ok s₃ h₃=>?_) λ _ _ h'=>h')) λ _ _ h'=>h')
  cases ok with
  | false=>exact wpAny_pure ⟨rfl,h₃⟩
  | true =>
   exact wpAny_bind (wpAny_bind (wpAny_mono h₃ (λ x s₄ h₄=>wpAny_bind (wpAny_mono h₄ (λ _ s₅ h₅=>wpAny_pure (wpAny_pure ⟨rfl,h₅⟩)) λ _ _ h'=>h')) λ _ _ h'=>h'))
def PTs (X:Cx) (ifs:List Expr) (t:TT):Prop :=
 ∀ (pins:List (Addr × Obj)) (s:Shared) (σ:St) (H:Hp) (Q:Bool->Hp->Prop),Inv X pins σ H s->t σ H Q ->
  wpAny (model X.prog X.w) X.A (forIn ifs true λ c r=>if r=true then do let ok <- isTrue c X.env (eval c X.env); pure (ForInStep.yield ok) else pure (ForInStep.yield r)) (TP X pins σ Q) X.xe s
def d1P:TT:=λ _ H Q=>Q true H
theorem a1V {X:Cx}:PTs X [] d1P:=λ _ _ _ H _ I h=>wpAny_tests_nil ⟨H,I,h⟩
theorem a2U {X:Cx} {c:Expr} {t:TT} (h:PT X c t):PTs X [c] t:=λ pins s σ H Q I hw=>wpAny_tests_one (h pins s σ H Q I hw)
def a3J (ix:List (Option Nat)) (g:TG) (tt:TT) (te:TE) (σ:St) (H1:Hp) (Q:VK) (J:It):Prop:=∃ W:Nat->Nat->List V->Hp->Prop,(∃ m,W 0 m [] H1)/\∀ i m ys H,W i m ys H ->
 (J.stop i H/\ys.length<=sizeLine/\∀ p,H p=none->Q (.ref p) (upd H p (.lst ys))) \/
 (J.go i H/\ys.length<=sizeLine/\∃ N:List V->Hp->Prop,(∀ ys' H',N ys' H'->∃ m',m' < m/\W (i+1) m' ys' H')/\∀ x H',J.yld i H x H'->g x (capt ix σ) H' λ σ2 H2=>tt σ2 H2 λ b H3=>if b=true then te σ2 H3 λ v H4=>N (ys++[v]) H4 else N ys H3)
def tLC (ix:List (Option Nat)) (wi:TI) (g:TG) (tt:TT) (te:TE):TE:=λ σ H Q=>wi σ H λ J H1=>a3J ix g tt te σ H1 Q J
section
variable {X:Cx} {elt tg iter:Expr} {ifs:List Expr} {scope:Scope} {pos:Pos} {N':List Str} {ix:List (Option Nat)} {wi:TI} {g:TG} {tt:TT} {te:TE}
theorem c4E (B:BlkOk X N' ix scope) (hc:X.calm=true)
  (hg:∀ C s H fp xe,PG (a2S X N' scope C s H fp xe) tg g) (ht:∀ C s H fp xe,PTs (a2S X N' scope C s H fp xe) ifs tt) (he:∀ C s H fp xe,PE (a2S X N' scope C s H fp xe) elt te)
  {pins:List (Addr × Obj)} {s2:Shared} {σ:St} {H2:Hp} {Q:VK} {it:Addr} {fp:List Addr} {tn:Nat->Heap->Prop} {J:It} {RR:Value->Addr->Result->Shared->Prop} {E:Value->Shared->Prop}
  (I2:Inv X pins σ H2 s2) (T:Turn X.prog X.w X.K tg J fp it tn) (st2:tn 0 s2.heap) (f2:∀ b∈fp,FpOk X pins H2 b)
  (q:∃ W:Nat->Nat->List V->Hp->Prop,(∃ m,W 0 m [] H2)/\∀ i m ys H,W i m ys H ->
   (J.stop i H/\ys.length<=sizeLine/\∀ p,H p=none->Q (.ref p) (upd H p (.lst ys))) \/
   (J.go i H/\ys.length<=sizeLine/\∃ N:List V->Hp->Prop,(∀ ys' H',N ys' H'->∃ m',m' < m/\W (i+1) m' ys' H')/\∀ x H',J.yld i H x H'->g x (capt ix σ) H' λ σ2 H2=>tt σ2 H2 λ b H3=>if b=true then te σ2 H3 λ v H4=>N (ys++[v]) H4 else N ys H3))
  (hRR:∀ D C s' H' ys,Inv X pins σ (upd H' D (.lst ys)) s'->H' D=none->Q (.ref D) (upd H' D (.lst ys))->(∃ m,s'.heap.Ns C m)->upd H' D (.lst ys) C=none->C≠X.env.locals->X.s₀.heap.objs.size<=C->(∀ x c,X.env.cells.lookup x=some c->c≠C)->(∀ p∈X.pn++pins,p.1≠C)->RR (.ref D) C (.ok .next) s') :
  wpAny (model X.prog X.w) X.A (newList []) (λ acc s₃=>wpAny (model X.prog X.w) X.A (newFunctionEnv scope X.env.globals (clOf X.env.cells scope.names []) [] X.env.qual none .none (some X.env)) (λ cenv s₄ =>
   codeAny (model X.prog X.w) X.A (.compStart (.ListComp elt [⟨tg,iter,ifs,0⟩] scope pos) 0 (.ref it) acc { cenv with scope:=relabel scope X.env }) (RR acc cenv.locals) s₄) E s₃) E s2:=by
 have hfs:∀ b∈fp,b < s2.heap.objs.size:=λ b hb=>by
  obtain ⟨o,e,_⟩:=T.obj _ _ st2 b hb
  exact Heap.lt_size e
 refine wpAny_newObj_type (wpAny_newFunctionEnv B.nocell (by intro y hy; simp at hy) (λ h₁ hns₁ hsb₁=>?_) B.kind)
 dsimp only at hns₁ hsb₁ ⊢
 generalize hH3:s2.heap.push { cls:=.type "list", dict:=none,data:=.seq ([]:List Value).toArray }=H3 at hns₁ hsb₁ ⊢
 have hC:H3.objs.size=s2.heap.objs.size+1:=by rw [<- hH3,Heap.size_push]
 have hDC:s2.heap.objs.size≠H3.objs.size:=by rw [hC]; exact Nat.ne_of_lt (Nat.lt_succ_self _)
 have below:∀ b,b < s2.heap.objs.size->b≠H3.objs.size/\b≠s2.heap.objs.size:=λ b hb=>⟨by rw [hC]; exact Nat.ne_of_lt (Nat.lt_succ_of_lt hb),Nat.ne_of_lt hb⟩
 have old:∀ b o,s2.heap.get? b=some o->h₁.get? b=some o:=λ b o e=>hsb₁.extBut b o (below b (Heap.lt_size e)).1 (Heap.get?_push_of_some _ (hH3 ▸ Heap.get?_push_of_some _ e))
 have hacc:h₁.get? s2.heap.objs.size=some { cls:=.type "list", data:=.seq ([]:List Value).toArray 0 }:=hsb₁.extBut _ _ hDC (Heap.get?_push_of_some _ (hH3 ▸ Heap.get?_push_size _ rfl))
 have hCle:s2.heap.objs.size<=H3.objs.size:=by rw [hC]; exact Nat.le_succ _
 generalize hD:s2.heap.objs.size=D at *
 generalize hCC:H3.objs.size=C at *
 obtain ⟨W,⟨m0,w0⟩,turn⟩:=q
 let xe:Value->Shared->Prop:=notedBy (model X.prog X.w) X.A (compEnvC scope (clOf X.env.cells scope.names []) C X.env) λ e s'=>RR (.ref D) C (.error e) s'
 let X':Cx:=a2S X N' scope C s2 H2 fp xe
 have DL:D ∉ frs X.stack:=λ z=>by
  rcases List.mem_cons.mp (I2.stkSub D z) with e | e
  ·exact absurd I2.lt (by rw [<- e,hD]; exact Nat.lt_irrefl _)
  ·exact I2.nofs (by rw [hD]; exact Nat.le_refl _) e
 have cellLt:∀ x c,X.env.cells.lookup x=some c->c < D:=λ x c e=>by
  obtain ⟨v,oc,h,_⟩:=I2.cell x c e
  rw [<- hD]; exact Heap.lt_size h
 have clB:∀ x c,(clOf X.env.cells scope.names []).lookup x=some c->X.env.cells.lookup x=some c:=λ x c h=>a5R scope.names [] (λ _ _ z=>by simp at z) h
 have pinLt:∀ p∈X.pn++pins,p.1 < D:=λ p hp=>by rw [<- hD]; exact Heap.lt_size (I2.pin p hp).1
 have fpX:∀ {pl:List (Addr × Obj)} {H':Hp},(∀ b∈fp,H' b=none)->(∀ p∈pl,p∈pins\/p.1=D)->∀ b∈fp,FpOk X' pl H' b:=λ {pl H'} hn hpl b hb=>by
  obtain ⟨_,q1,q2,q3,q4,q5⟩:=f2 b hb
  refine ⟨hn b hb,(below b (hfs b hb)).1,λ z=>?_,.inl hb,λ x c e=>q4 x c (clB x c e),λ p hp=>?_⟩
  ·rcases List.mem_cons.mp (I2.stkSub b z) with e | e
   ·exact q1 e
   ·exact q2 e
  ·rcases List.mem_append.mp hp with hp | hp
   ·exact q5 p (List.mem_append_left _ hp)
   ·rcases hpl p hp with z | z
    ·exact q5 p (List.mem_append_right _ z)
    ·rw [z]; exact Ne.symm (below b (hfs b hb)).2
 have loop:∀ s₃:Shared,s₃={ s2 with heap:=h₁,toks:=s2.toks+([]:List (Str × Value)).length } ->
   codeAny (model X.prog X.w) X.A (.compLoop (.ListComp elt [⟨tg,iter,ifs,0⟩] scope pos) 0 (.ref it) (.ref D) (compEnvC scope (clOf X.env.cells scope.names []) C X.env)) (RR (.ref D) C) s₃:=by
  rintro s₃ rfl
  refine a7X (λ n s'=>∃ i H' ys its k,Inv X' pins (capt ix σ) H' s'/\tn i s'.heap/\(∀ b∈fp,H' b=none)/\H' D=none/\s'.heap.get? D=some { cls:=.type "list", data:=.seq (List.toArray its) k }/\Vals ys its/\W i n ys H') ?_ m0
   ⟨0,H2,[],[],0,b1O B I2 f2 (by rw [hD]; exact hCle) (λ b hb=>by rw [hD]; exact hfs b hb) rfl rfl old hns₁,T.keep _ _ _ st2 λ b _ o e=>old b o e,λ b hb=>(f2 b hb).1,I2.hok.fresh (by rw [hD]; exact Nat.le_refl _),hacc,.nil,w0⟩
  rintro n s' ⟨i,H',ys,its,k,I',st',fr',hDn,hDo,rv,w'⟩
  have hDX:∀ v,({ cls:=.type "list", data:=.seq (List.toArray its) k }:Obj).data ≠ .cell v:=λ v z=>by
   have z':Data.seq (List.toArray its) k=Data.cell v:=z
   cases z'
  have pinD:∀ {σ':St} {H'':Hp} {s'':Shared} {its':List Value} {k':Nat},Inv X' pins σ' H'' s''->H'' D=none->s''.heap.get? D=some { cls:=.type "list", data:=.seq (List.toArray its') k' }->Inv X' (pins++[(D,{ cls:=.type "list", data:=.seq (List.toArray its') k' })]) σ' H'' s'':=λ {σ' H'' s'' its' k'} J hn ho =>
   J.pins_of λ p hp=>(List.mem_append.mp hp).elim (λ z=>J.pin p (List.mem_append_right _ z)) λ z=>by
    have e:p=(D,{ cls:=.type "list", data:=.seq (List.toArray its') k' }):=by simpa using z
    subst e
    exact ⟨ho,hn,hDC,DL,λ v z=>by
     have z':Data.seq (List.toArray its') k'=Data.cell v:=z
     cases z'⟩
  have plD:∀ {its':List Value} {k':Nat},∀ p∈pins++[(D,({ cls:=.type "list", data:=.seq (List.toArray its') k' }:Obj))],p∈pins\/p.1=D:=λ {its' k'} p hp=>(List.mem_append.mp hp).elim .inl λ z=>by
   have e:p=(D,{ cls:=.type "list", data:=.seq (List.toArray its') k' }):=by simpa using z
   subst e
   exact .inr rfl
  have unD:∀ {pl:List (Addr × Obj)} {σ':St} {H'':Hp} {s'':Shared},Inv X' (pins++pl) σ' H'' s''->Inv X' pins σ' H'' s'':=λ J=>J.pins_of λ p hp=>J.pin p (List.mem_append_right _ (List.mem_append_left _ hp))
  have I'p:=pinD I' hDn hDo
  rcases turn i n ys H' w' with ⟨stop,hsz,fin⟩ | ⟨go,hsz,N,hN,step⟩
  ·refine wpAny_mono (T.done X' rfl rfl rfl hc i _ s' (capt ix σ) H' X'.xe I'p (fpX fr' plD) st' stop) (λ r s5 ⟨hr,I5⟩=>?_) λ _ _ z=>z
   subst hr
   have hDo5:s5.heap.get? D=some { cls:=.type "list", data:=.seq (List.toArray its) k }:=(I5.pin (D,_) (List.mem_append_right _ (List.mem_append_right _ (List.mem_singleton.mpr rfl)))).1
   have sz0:X.s₀.heap.objs.size<=D:=by rw [<- hD]; exact I2.sz
   have J:Inv X pins σ H' s5:=I2.call' (ch:=fp) I5.os I5.base I5.hok I5.bare λ b hb=>by
    obtain ⟨_,q1,_,q3,q4,q5⟩:=f2 b hb
    exact ⟨q3,q1,q4,q5⟩
   have nL:X.env.locals < D:=by rw [<- hD]; exact I2.lt
   have J2:Inv X pins σ (upd H' D (.lst ys)) s5:=Inv.track J hDn sz0 (Nat.ne_of_gt nL) (λ x c e=>Nat.ne_of_lt (cellLt x c e)) (λ p hp=>Nat.ne_of_lt (pinLt p hp)) ⟨hsz,its,k,rv,hDo5⟩
   obtain ⟨mC,hnC,_⟩:=I5.loc
   have DltC:D < C:=Nat.lt_of_le_of_ne hCle hDC
   refine hRR D C s5 H' ys J2 hDn (fin D hDn) ⟨mC,hnC⟩ ?_ (Nat.ne_of_gt (Nat.lt_trans nL DltC)) (Nat.le_trans sz0 hCle) (λ x c e=>Nat.ne_of_lt (Nat.lt_trans (cellLt x c e) DltC)) λ p hp=>Nat.ne_of_lt (Nat.lt_trans (pinLt p hp) DltC)
   rw [a1K (Ne.symm hDC)]
   exact I5.free
  ·refine wpAny_mono (T.item X' rfl rfl rfl hc i _ s' (capt ix σ) H' X'.xe I'p (fpX fr' plD) st' go) (λ r s5 ⟨u,hr,h5⟩=>?_) λ _ _ z=>z
   subst hr
   refine wpAny_mono h5 (λ _ s6 ⟨x,H6,I6,r6,y6,st6,fr6⟩=>?_) λ _ _ z=>z
   have I6':=I6.pinned (fpX fr6 plD) (T.obj _ _ st6)
   refine wpAny_mono (hg C s2 H2 fp xe _ s6 (capt ix σ) H6 x u _ I6' r6 (step x H6 y6)) (λ _ s7 ⟨σ7,H7,I7,q7⟩=>?_) λ _ _ z=>z
   have after:∀ {σ8:St} {H8:Hp} {s8:Shared},Inv X' ((pins++[(D,{ cls:=.type "list", data:=.seq (List.toArray its) k })])++a5C fp s6.heap) σ8 H8 s8 ->
     Inv X' pins (capt ix σ) H8 s8/\tn (i+1) s8.heap/\(∀ b∈fp,H8 b=none)/\H8 D=none/\s8.heap.get? D=some { cls:=.type "list", data:=.seq (List.toArray its) k }:=λ {σ8 H8 s8} I8=>by
    have pD:=I8.pin (D,{ cls:=.type "list", data:=.seq (List.toArray its) k }) (List.mem_append_right _ (List.mem_append_left _ (List.mem_append_right _ (List.mem_singleton.mpr rfl))))
    have fpP:∀ b∈fp,∀ o,s6.heap.get? b=some o->s8.heap.get? b=some o/\H8 b=none:=λ b hb o e=>by
     have z:=I8.pin (b,o) (List.mem_append_right _ (List.mem_append_right _ (a3H hb e)))
     exact ⟨z.1,z.2.1⟩
    refine ⟨⟨I8.ok,I8.os,I8.bare,I8.base,?_,I8.cell,I8.free,I8.freeC,λ p hp=>?_,I8.hok,?_⟩,T.keep _ _ _ st6 λ b hb o e=>(fpP b hb o e).1,λ b hb=>?_,pD.2.1,pD.1⟩
    ·obtain ⟨m8,hn8,_⟩:=I8.loc
     refine ⟨m8,hn8,λ i x v h1 h2 h3=>?_⟩
     obtain ⟨u,c,r,hc1,hc2,⟨oc,z1,z2⟩,hk'⟩:=a7W B I2 h1 h2
     obtain ⟨sl,e8⟩:=I8.base.any z1 (I2.freeC x c hc2) λ z=>(f2 c z).2.2.2.2.1 x c hc2 rfl
     exact ⟨u,r,.inr ⟨hk',c,hc1,_,e8,z2⟩⟩
    ·rcases List.mem_append.mp hp with hp | hp
     ·exact I8.pin p (List.mem_append_left _ hp)
     ·exact I8.pin p (List.mem_append_right _ (List.mem_append_left _ (List.mem_append_left _ hp)))
    ·show (capt ix σ).length=N'.length
     unfold capt
     rw [List.length_map]; exact B.len
    ·obtain ⟨o,e,_⟩:=T.obj _ _ st6 b hb
     exact (fpP b hb o e).2
   refine wpAny_mono (ht C s2 H2 fp xe _ s7 σ7 H7 _ I7 q7) (λ b s8 ⟨H8,I8,q8⟩=>?_) λ _ _ z=>z
   cases b with
   | false =>
    rw [if_neg Bool.false_ne_true] at q8 ⊢
    obtain ⟨m',hm,w8⟩:=hN _ _ q8
    obtain ⟨J,tn8,f8,d8,o8⟩:=after I8
    exact ⟨m',hm,i+1,H8,ys,its,k,J,tn8,f8,d8,o8,rv,w8⟩
   | true =>
    rw [if_pos rfl] at q8 ⊢
    refine wpAny_mono (he C s2 H2 fp xe _ s8 σ7 H8 _ I8 q8) (λ v s9 ⟨y,H9,I9,r9,q9⟩=>?_) λ _ _ z=>z
    obtain ⟨J,tn9,f9,d9,o9⟩:=after I9
    obtain ⟨m',hm,w9⟩:=hN _ _ q9
    refine append_at (hsz:=by rw [List.size_toArray,<- rv.length]; exact hsz) o9 λ h10 hs10 hD10=>?_
    refine ⟨m',hm,i+1,H9,ys++[y],its++[v],k+1,?_,T.keep _ _ _ tn9 λ b hb o e=>hs10.extBut b o (λ z=>?_) e,f9,d9,by rw [List.push_toArray] at hD10; exact hD10,rv.append (.cons r9 .nil),w9⟩
    ·refine J.turned (t':=s9.toks) (it:=D) (λ b o hb e=>hs10.extBut b o hb e) d9 hDC (.inr (by show s2.heap.objs.size<=D; rw [hD]; exact Nat.le_refl _)) (λ x c e=>Nat.ne_of_lt (cellLt x c (clB x c e))) λ p hp=>Nat.ne_of_lt (pinLt p hp)
    ·exact (below b (hfs b hb)).2 z
 exact codeAny_compStart_list (loop _ rfl) (T.self X.A 0 _ _ _ (T.keep _ _ _ st2 λ b _ o e=>old b o e) (loop _ rfl))
end
end L2
namespace L2
open PySem PySem.Spec PyProof.Rows
def a5S (outer:Scope) (N N':List Str) (ix:List (Option Nat)) (scope:Scope):Bool :=
 (scope.kind == .function) && (scope.names.all λ y=>y.2 != .cell) && (scope.names.all λ y=>y.2 != .local || scope.names.lookup y.1 == some .local) &&
 (scope.names.all λ y=>y.2 != .free || outer.names.lookup y.1 == some .cell || outer.names.lookup y.1 == some .free) && (ix.length == N'.length) &&
 (List.range ix.length).all λ i=>match ix[i]? with
  | some (some j)=>(match N'[i]? with | some x=>N[j]? == some x && scope.names.lookup x == some .free | none=>false)
  | _=>true
theorem b7X {X:Cx} {N':List Str} {ix:List (Option Nat)} {scope:Scope} (h:a5S X.env.scope X.N N' ix scope=true):BlkOk X N' ix scope:=by
 unfold a5S at h
 simp only [Bool.and_eq_true] at h
 obtain ⟨⟨⟨⟨⟨h1,h2⟩,h3⟩,h4⟩,h5⟩,h6⟩:=h
 refine ⟨?_,λ y hy=>?_,λ y hy hl=>?_,λ y hy hl=>?_,by simpa using h5,λ i j e=>?_⟩
 ·simpa using h1
 ·have:=List.all_eq_true.mp h2 y hy
  simpa using this
 ·have:=List.all_eq_true.mp h3 y hy
  rw [hl] at this
  simpa using this
 ·have:=List.all_eq_true.mp h4 y hy
  rw [hl] at this
  simp at this
  exact this
 ·have hi:i < ix.length:=(List.getElem?_eq_some_iff.mp e).1
  have:=List.all_eq_true.mp h6 i (List.mem_range.mpr hi)
  rw [e] at this
  simp only at this
  cases q:N'[i]? with
  | none=>rw [q] at this; simp at this
  | some x =>
   rw [q] at this
   simp at this
   exact ⟨x,rfl,this.1,this.2⟩
section
variable {X:Cx} {elt tg iter:Expr} {ifs:List Expr} {scope:Scope} {pos:Pos} {N':List Str} {ix:List (Option Nat)} {wi:TI} {g:TG} {tt:TT} {te:TE}
theorem a2P (N':List Str) (ix:List (Option Nat)) (hB:a5S X.env.scope X.N N' ix scope=true) (hc:X.calm=true) (hi:PI X tg iter wi)
  (hg:∀ C s H fp xe,PG (a2S X N' scope C s H fp xe) tg g) (ht:∀ C s H fp xe,PTs (a2S X N' scope C s H fp xe) ifs tt) (he:∀ C s H fp xe,PE (a2S X N' scope C s H fp xe) elt te)
  (hs:∀ x,foldedSetIterable iter X.env x=pure x:=by intro _; rfl):PE X (.ListComp elt [⟨tg,iter,ifs,0⟩] scope pos) (tLC ix wi g tt te):=by
 intro pins s σ H Q I h
 have B:=b7X hB
 rw [eval_ListComp]
 refine wpAny_comprehension_free (use:=none) rfl hs (a6K λ y hy hf=>I.ok.has y.1 (B.free y hy hf)) B.kind B.locs (thn (hi pins s σ H _ I h) λ v s1 h1=>thn h1 λ itv s2 h2=>?_)
 obtain ⟨it,fp,tn,J,H2,e,I2,T,st2,f2,q⟩:=h2
 subst e
 refine c4E B hc hg ht he I2 T st2 f2 q ?_
 intro D C s' H' ys J2 hDn hq ⟨m,hn⟩ hC1 hC2 hC3 hC4 hC5
 refine ⟨m,hn,λ h' hs'=>?_⟩
 exact ⟨.ref D,_,J2.turned (t':=s'.toks) (it:=C) (λ b o hb e=>hs'.extBut b o hb e) hC1 hC2 (.inr hC3) hC4 hC5,rfl,hq⟩
theorem a7L {i:Nat} {x:Str} {pos' spos:Pos} (N':List Str) (ix:List (Option Nat)) (hN:X.N.Nodup) (hi':X.N[i]?=some x) (hx:X.env.scope.names.lookup x=some .local)
  (hB:a5S X.env.scope X.N N' ix scope=true) (hc:X.calm=true) (hi:PI X tg iter wi)
  (hg:∀ C s H fp xe,PG (a2S X N' scope C s H fp xe) tg g) (ht:∀ C s H fp xe,PTs (a2S X N' scope C s H fp xe) ifs tt) (he:∀ C s H fp xe,PE (a2S X N' scope C s H fp xe) elt te)
  (hsw:swapsWith (.ListComp elt [⟨tg,iter,ifs,0⟩] scope pos) (some (.Name x pos')) spos.line X.env=pure true)
  (hs:∀ x,foldedSetIterable iter X.env x=pure x:=by intro _; rfl):PS X (.Assign [.Name x pos'] (.ListComp elt [⟨tg,iter,ifs,0⟩] scope pos) spos) (tAsg (tLC ix wi g tt te) (b0B i)):=by
 intro pins s σ H D0 I h
 have B:=b7X hB
 rw [exec_Assign_Name_used _ _ _ _ hsw]
 refine wpAny_bind (wpAny_standAt (wpAny_bind ?_))
 show wpAny _ X.A (do let _ <- comprehension (.ListComp elt [⟨tg,iter,ifs,0⟩] scope pos) scope X.env _ (newList []) false (eval iter X.env) (some (assign (.Name x pos') X.env))) _ _ s
 refine wpAny_bind (wpAny_mono (wpAny_comprehension_free (use:=some (assign (.Name x pos') X.env)) (Q:=λ _ s'=>SP X pins D0 .next s') rfl hs (a6K λ y hy hf=>I.ok.has y.1 (B.free y hy hf)) B.kind B.locs
  (thn (hi pins s σ H _ I h) λ v s1 h1=>thn h1 λ itv s2 h2=>?_)) (λ _ s' hq=>wpAny_pure (wpAny_pure hq)) λ _ _ e=>e)
 obtain ⟨it,fp,tn,J,H2,e,I2,T,st2,f2,q⟩:=h2
 subst e
 refine c4E (Q:=λ x H1=>b0B i x σ H1 D0.nx) B hc hg ht he I2 T st2 f2 q ?_
 intro D C s' H' ys J2 hDn hq ⟨m,hn⟩ hC1 hC2 hC3 hC4 hC5
 show wpAny _ X.A (assign (.Name x pos') X.env (.ref D)) _ _ _
 refine wpAny_assign_Name (b1A (v:=.ref D) J2 hN hi' (.inl hx) rfl (λ s'' I'' hsb=>?_) (.inr hx))
 obtain ⟨a,hsb,ha⟩:=hsb
 have aC:C≠a:=by
  rcases ha with rfl | ha
  ·exact hC2
  ·exact λ z=>hC4 x a ha z.symm
 refine ⟨m,hn.sameBut hsb aC,λ h'' hs''=>?_⟩
 exact ⟨_,_,I''.turned (t':=s''.toks) (it:=C) (λ b o hb e=>hs''.extBut b o hb e) hC1 hC2 (.inr hC3) hC4 hC5,hq⟩
end
section
variable {K:Φρ} {a:Addr} {xs:List V} {ix:List (Option Nat)} {g:TG} {tt:TT} {te:TE} {σ:St} {H1:Hp} {Q:VK}
theorem a3T (Pv:Nat->List V->Hp->Prop) (h0:Pv 0 [] H1) (hl:∀ i ys H,i<=xs.length->Pv i ys H->SqL K H a xs/\ys.length<=sizeLine)
  (hs:∀ i x ys H,xs[i]?=some x->Pv i ys H->g x (capt ix σ) H λ σ2 H2=>tt σ2 H2 λ b H3=>if b=true then te σ2 H3 λ v H4=>Pv (i+1) (ys++[v]) H4 else Pv (i+1) ys H3)
  (hd:∀ ys H,Pv xs.length ys H->∀ p,H p=none->Q (.ref p) (upd H p (.lst ys))):a3J ix g tt te σ H1 Q (Itl K a):=by
 refine ⟨λ i m ys H=>m=xs.length - i/\i<=xs.length/\Pv i ys H,⟨xs.length,by simp,Nat.zero_le _,h0⟩,?_⟩
 rintro i m ys H ⟨rfl,hi,p⟩
 obtain ⟨q,z⟩:=hl i ys H hi p
 by_cases hlt:i < xs.length
 ·refine .inr ⟨⟨xs,xs[i],q,by simp [hlt]⟩,z,Pv (i+1),λ ys' H' p'=>⟨xs.length - (i+1),by omega,rfl,hlt,p'⟩,λ x H' y=>?_⟩
  obtain ⟨e,y⟩:=y
  subst e
  exact hs i x ys _ (y xs q) p
 ·have e:i=xs.length:=by omega
  subst e
  exact .inl ⟨⟨xs,q,Nat.le_refl _⟩,z,hd ys H p⟩
theorem a5T {lo:Int} {n:Nat} (Pv:Nat->List V->Hp->Prop) (h0:Pv 0 [] H1) (hl:∀ i ys H,i<=n->Pv i ys H->ys.length<=sizeLine)
  (hs:∀ i ys H,i < n->Pv i ys H->g (.int (lo+i)) (capt ix σ) H λ σ2 H2=>tt σ2 H2 λ b H3=>if b=true then te σ2 H3 λ v H4=>Pv (i+1) (ys++[v]) H4 else Pv (i+1) ys H3)
  (hd:∀ ys H,Pv n ys H->∀ p,H p=none->Q (.ref p) (upd H p (.lst ys))):a3J ix g tt te σ H1 Q (Itr lo n):=by
 refine ⟨λ i m ys H=>m=n - i/\i<=n/\Pv i ys H,⟨n,by simp,Nat.zero_le _,h0⟩,?_⟩
 rintro i m ys H ⟨rfl,hi,p⟩
 have z:=hl i ys H hi p
 by_cases hlt:i < n
 ·refine .inr ⟨hlt,z,Pv (i+1),λ ys' H' p'=>⟨n - (i+1),by omega,rfl,hlt,p'⟩,λ x H' y=>?_⟩
  obtain ⟨e,y⟩:=y
  subst e y
  exact hs i ys _ hlt p
 ·have e:i=n:=by omega
  subst e
  exact .inl ⟨Nat.le_refl _,z,hd ys H p⟩
end
theorem d1Q {K:Φρ} {a:Addr} {xs:List V} {ix:List (Option Nat)} {g:TG} {tt:TT} {te:TE} {σ:St} {H1:Hp} {Q:VK} (f:V->Option V) (hx:SqL K H1 a xs) (hz:xs.length<=sizeLine)
  (hs:∀ x H (N:Option V->Hp->Prop),x∈xs->Same H1 H->(∀ H',Same H1 H'->N (f x) H')->g x (capt ix σ) H λ σ2 H2=>tt σ2 H2 λ b H3=>if b=true then te σ2 H3 λ v H4=>N (some v) H4 else N none H3)
  (hd:∀ H p,Same H1 H->H p=none->Q (.ref p) (upd H p (.lst (xs.filterMap f)))):a3J ix g tt te σ H1 Q (Itl K a):=by
 refine a3T (K:=K) (a:=a) (xs:=xs) (λ i ys H=>ys=(xs.take i).filterMap f/\Same H1 H) ⟨rfl,Same.refl _⟩ (λ i ys H hi ⟨e,s⟩=>⟨s.seq hx,?_⟩) (λ i x ys H hi ⟨e,s⟩=>?_) λ ys H ⟨e,s⟩ p hp=>?_
 ·subst e
  refine Nat.le_trans (List.length_filterMap_le _ _) (Nat.le_trans ?_ hz)
  rw [List.length_take]; exact Nat.min_le_right _ _
 ·have hm:x∈xs:=List.mem_of_getElem? hi
  obtain ⟨hil,hix⟩:=List.getElem?_eq_some_iff.mp hi
  have et:xs.take (i+1)=xs.take i++[x]:=by rw [List.take_succ_eq_append_getElem hil,hix]
  refine hs x H (λ o H'=>match o with | some v=>(ys++[v]=(xs.take (i+1)).filterMap f/\Same H1 H') | none=>(ys=(xs.take (i+1)).filterMap f/\Same H1 H')) hm s λ H' s'=>?_
  cases ef:f x with
  | some v =>
   refine ⟨?_,s'⟩
   rw [e,et,List.filterMap_append]
   simp [ef]
  | none =>
   refine ⟨?_,s'⟩
   rw [e,et,List.filterMap_append]
   simp [ef]
 ·subst e
  rw [List.take_length]
  exact hd H p s hp
theorem c8R {lo:Int} {n:Nat} {ix:List (Option Nat)} {g:TG} {tt:TT} {te:TE} {σ:St} {H1:Hp} {Q:VK} (f:Nat->Option V) (hz:n<=sizeLine)
  (hs:∀ i H (N:Option V->Hp->Prop),i < n->Same H1 H->(∀ H',Same H1 H'->N (f i) H')->g (.int (lo+i)) (capt ix σ) H λ σ2 H2=>tt σ2 H2 λ b H3=>if b=true then te σ2 H3 λ v H4=>N (some v) H4 else N none H3)
  (hd:∀ H p,Same H1 H->H p=none->Q (.ref p) (upd H p (.lst ((List.range n).filterMap f)))):a3J ix g tt te σ H1 Q (Itr lo n):=by
 refine a5T (λ i ys H=>ys=(List.range i).filterMap f/\Same H1 H) ⟨rfl,Same.refl _⟩ (λ i ys H hi ⟨e,s⟩=>?_) (λ i ys H hi ⟨e,s⟩=>?_) λ ys H ⟨e,s⟩ p hp=>?_
 ·subst e
  refine Nat.le_trans (List.length_filterMap_le _ _) (Nat.le_trans ?_ hz)
  rw [List.length_range]; exact hi
 ·refine hs i H (λ o H'=>match o with | some v=>(ys++[v]=(List.range (i+1)).filterMap f/\Same H1 H') | none=>(ys=(List.range (i+1)).filterMap f/\Same H1 H')) hi s λ H' s'=>?_
  cases ef:f i with
  | some v =>
   refine ⟨?_,s'⟩
   rw [e,List.range_succ,List.filterMap_append]
   simp [ef]
  | none =>
   refine ⟨?_,s'⟩
   rw [e,List.range_succ,List.filterMap_append]
   simp [ef]
 ·subst e
  exact hd H p s hp
end L2
namespace L2
open PySem PySem.Spec PyProof.Rows
mutual
inductive IsD (K:Φρ) (H:Hp):V->PyData->Prop
 | non:IsD K H .non .none
 | bl (b:Bool):IsD K H (.bl b) (.bool b)
 | int (i:Int):IsD K H (.int i) (.int i)
 | str (x:Str):IsD K H (.str x) (.str x)
 | lst {a:Addr} {xs:List V} {ds:List PyData}:SqL K H a xs->IsDs K H xs ds->IsD K H (.ref a) (.list ds)
 | tup {a:Addr} {xs:List V} {ds:List PyData}:SqT K H a xs->IsDs K H xs ds->IsD K H (.ref a) (.tuple ds)
inductive IsDs (K:Φρ) (H:Hp):List V->List PyData->Prop
 | nil:IsDs K H [] []
 | cons {x:V} {xs:List V} {d:PyData} {ds:List PyData}:IsD K H x d->IsDs K H xs ds->IsDs K H (x::xs) (d::ds)
end
theorem Same.tupq {K:Φρ} {H H':Hp} {a:Addr} {xs:List V} (e:Same H H') (h:SqT K H a xs):SqT K H' a xs:=by
 rcases h with (h | ⟨o,h⟩) | h
 ·exact .inl (.inl (e _ _ h))
 ·exact .inl (.inr ⟨o,e _ _ h⟩)
 ·exact .inr h
mutual
theorem IsD.reads {X:Cx} {pins:List (Addr × Obj)} {σ:St} {H:Hp} {s:Shared} (I:Inv X pins σ H s):∀ {v:V} {d:PyData} {u:Value},IsD X.K H v d->RelV v u->∃ as,Reads s.heap u d as
 | _,_,_,.non,r=>by cases r; exact ⟨_,.none⟩
 | _,_,_,.bl b,r=>by cases r; exact ⟨_,.bool b⟩
 | _,_,_,.int i,r=>by obtain ⟨t,rfl⟩:=r; exact ⟨_,.int i t⟩
 | _,_,_,.str x,r=>by obtain ⟨t,rfl⟩:=r; exact ⟨_,.str x t⟩
 | _,_,_,.lst h q,r=>by
  cases r
  obtain ⟨its,rv,⟨o,n,e,c,_,d⟩,_⟩:=I.list h
  obtain ⟨as,ra⟩:=IsDs.reads I q rv
  exact ⟨_,.list e c d (by simpa using ra)⟩
 | _,_,_,.tup h q,r=>by
  cases r
  obtain ⟨its,rv,⟨o,e,c,n,d⟩,_⟩:=I.tuple h
  obtain ⟨as,ra⟩:=IsDs.reads I q rv
  exact ⟨_,.tuple e c d (by simpa using ra)⟩
theorem IsDs.reads {X:Cx} {pins:List (Addr × Obj)} {σ:St} {H:Hp} {s:Shared} (I:Inv X pins σ H s):∀ {xs:List V} {ds:List PyData} {us:List Value},IsDs X.K H xs ds->Vals xs us->∃ as,ReadsAll s.heap us ds as
 | _,_,_,.nil,.nil=>⟨_,.nil⟩
 | _,_,_,.cons h q,.cons r t=>by
  obtain ⟨as,ra⟩:=IsD.reads I h r
  obtain ⟨bs,rb⟩:=IsDs.reads I q t
  exact ⟨_,.cons ra rb⟩
end
theorem IsDs.ints {K:Φρ} {H:Hp}:∀ ns:List Int,IsDs K H (ns.map V.int) (ns.map PyData.int)
 | []=>.nil
 | n::ns=>.cons (.int n) (IsDs.ints ns)
section
variable {X:Cx}
def rEqD (K:Φρ) (neg:Bool):R2:=λ x y H Q=>∃ d d',IsD K H x d/\IsD K H y d'/\SeqAt.shaped d=true/\SeqAt.shaped d'=true/\Q (.bl (if neg then !PyData.eqv d d' else PyData.eqv d d')) H
theorem c8S (hu:X.A.units+64 < cLine):OpR X (compareOp .Eq) (rEqD X.K false):=by
 intro pins s σ H x y v u Q I rx ry h
 obtain ⟨d,d',h1,h2,s1,s2,q⟩:=h
 obtain ⟨as,ra⟩:=h1.reads I rx
 obtain ⟨bs,rb⟩:=h2.reads I ry
 exact eq_dataH ra rb s1 s2 hu ⟨.bl _,H,I,rfl,q⟩
theorem c8T (hu:X.A.units+64 < cLine):OpR X (compareOp .NotEq) (rEqD X.K true):=by
 intro pins s σ H x y v u Q I rx ry h
 obtain ⟨d,d',h1,h2,s1,s2,q⟩:=h
 obtain ⟨as,ra⟩:=h1.reads I rx
 obtain ⟨bs,rb⟩:=h2.reads I ry
 exact ne_dataH ra rb s1 s2 hu ⟨.bl _,H,I,rfl,q⟩
def rInD (K:Φρ) (neg:Bool):R2:=λ x y H Q=>∃ d ds,IsD K H x d/\IsD K H y (.list ds)/\SeqAt.shaped d=true/\SeqAt.shaped (.list ds)=true/\Q (.bl (if neg then !ds.any (λ e=>PyData.eqv e d) else ds.any (λ e=>PyData.eqv e d))) H
theorem c8U (hu:X.A.units+65 < cLine):OpR X (compareOp .In) (rInD X.K false):=by
 intro pins s σ H x y v u Q I rx ry h
 obtain ⟨d,ds,h1,h2,s1,s2,q⟩:=h
 obtain ⟨as,ra⟩:=h1.reads I rx
 obtain ⟨bs,rb⟩:=h2.reads I ry
 exact SeqAt.in_list_reads rb ra (SeqAt.canLay_of_shaped s2) (SeqAt.canLay_of_shaped s1) (room_in_shaped s1 hu) ⟨.bl _,H,I,rfl,q⟩
theorem b7Y (hu:X.A.units+65 < cLine):OpR X (compareOp .NotIn) (rInD X.K true):=by
 intro pins s σ H x y v u Q I rx ry h
 obtain ⟨d,ds,h1,h2,s1,s2,q⟩:=h
 obtain ⟨as,ra⟩:=h1.reads I rx
 obtain ⟨bs,rb⟩:=h2.reads I ry
 exact SeqAt.notIn_list_reads rb ra (SeqAt.canLay_of_shaped s2) (SeqAt.canLay_of_shaped s1) (room_in_shaped s1 hu) ⟨.bl _,H,I,rfl,q⟩
def clsV:V->Option Value
 | .ty n=>some (.type n)
 | .ref a=>some (.ref a)
 | _=>none
theorem b4R {c:V} {cv u:Value} (h:clsV c=some cv) (r:RelV c u):u=cv:=by
 cases c with
 | ty n=>cases h; exact r
 | ref a=>cases h; exact r
 | _=>cases h
theorem b3H:CallR X (.builtin "isinstance") (λ xs H Q=>∃ x c cv t b,xs=[x,c]/\clsV c=some cv/\TyOf X.K H x t/\PySem.W.kitOne X.K t cv=some b/\Q (.bl b) H):=by
 intro pins s σ H xs us Q I r h
 obtain ⟨x,c,cv,t,b,rfl,hc,ty,hk,q⟩:=h
 obtain ⟨u1,u2,rfl,r1,r2⟩:=c4Y r
 obtain rfl:=b4R hc r2
 exact b7S I r1 ty hk λ tk=>⟨.bl b,H,I.tok tk,rfl,q⟩
abbrev Cx.in1 (X:Cx):Cx:={ X with A:=X.A.in1 }
theorem Inv.in1 {pins:List (Addr × Obj)} {σ:St} {H:Hp} {s:Shared} (I:Inv X pins σ H s):Inv X.in1 pins σ H s :=
 ⟨⟨I.ok.mod,I.ok.kind,I.ok.glob,I.ok.blt,I.ok.above,I.ok.inj,I.ok.has,I.ok.cab,I.ok.hd,I.ok.frames,I.ok.stk,I.ok.exf,I.ok.bs,I.ok.bsz,I.ok.noex,I.ok.exfs,I.ok.funs,I.ok.frf⟩,I.os,I.bare,I.base,I.loc,I.cell,I.free,I.freeC,I.pin,I.hok,I.len⟩
theorem Inv.of_in1 {pins:List (Addr × Obj)} {σ:St} {H:Hp} {s:Shared} (I:Inv X.in1 pins σ H s):Inv X pins σ H s :=
 ⟨⟨I.ok.mod,I.ok.kind,I.ok.glob,I.ok.blt,I.ok.above,I.ok.inj,I.ok.has,I.ok.cab,I.ok.hd,I.ok.frames,I.ok.stk,I.ok.exf,I.ok.bs,I.ok.bsz,I.ok.noex,I.ok.exfs,I.ok.funs,I.ok.frf⟩,I.os,I.bare,I.base,I.loc,I.cell,I.free,I.freeC,I.pin,I.hok,I.len⟩
def Truths (K:Φρ) (H:Hp) (xs:List V) (bs:List Bool):Prop:=Paired (λ x b=>TruV K x H b) xs bs
theorem Truths.get {K:Φρ} {H:Hp}:∀ {xs:List V} {bs:List Bool} {i:Nat} {x:V},Truths K H xs bs->xs[i]?=some x->∃ b,bs[i]?=some b/\TruV K x H b
 | _,_,_,_,.nil,h=>by simp at h
 | _,_,0,_,.cons h r,e=>by
  simp at e; subst e
  exact ⟨_,rfl,h⟩
 | _,_,i+1,_,.cons h r,e=>by
  obtain ⟨d,e1,q⟩:=Truths.get (i:=i) r (by simpa using e)
  exact ⟨d,by simpa using e1,q⟩
theorem Truths.bls {K:Φρ} {H:Hp}:∀ bs:List Bool,Truths K H (bs.map V.bl) bs
 | []=>.nil
 | b::bs=>.cons rfl (Truths.bls bs)
theorem c1Q {pins:List (Addr × Obj)} {σ:St} {H:Hp} {p it:Addr} {ys:List V} {bs:List Bool} {R:Result->Shared->Prop} (hc:X.calm=true) (hq:SqL X.K H p ys) (ht:Truths X.K H ys bs) (f:FpOk X pins H it) :
  ∀ (k i:Nat) (s:Shared),ys.length - i=k->Inv X pins σ H s->s.heap.IsListIter it p i->(∀ s',Inv X pins σ H s'->R (.ok (.ret (.bool ((bs.drop i).all id)))) s') ->
  codeAny (model X.prog X.w) X.A (.builtin "all.loop" ⟨[.ref it],[]⟩) R s:=by
 obtain ⟨f0,f1,f2,f3,f4,f5⟩:=f
 intro k
 induction k with
 | zero =>
  intro i s hk I st hR
  obtain ⟨its,rv,pl,hz⟩:=I.list hq
  have hl:=rv.length
  refine codeAny_builtin F.entry_all_loop ?_
  rw [Around.under_plainId F.plain_all_loop _]
  show wpAny _ X.A.in1 (pyNext (.ref it) >>= _) _ _ s
  refine wpAny_bind (wpAny_pyNext_list_end (I.ok.hd hc) st pl.isList (by simp; omega) λ h' eb=>?_)
  refine wpAny_bind (wpAny_rule (wpAny_pure ?_))
  have q:=hR _ (I.turned (t':=s.toks) (λ b o hb e=>eb b o hb e) f0 f1 f3 f4 f5)
  have hlb:bs.length=ys.length:=(Paired.length ht).symm
  rw [List.drop_of_length_le (by omega)] at q
  exact q
 | succ k ih =>
  intro i s hk I st hR
  obtain ⟨its,rv,pl,hz⟩:=I.list hq
  have hl:=rv.length
  have hlt:i < ys.length:=by omega
  have hx:ys[i]?=some ys[i]:=by simp [hlt]
  obtain ⟨u,hu,ru⟩:=rv.get hx
  obtain ⟨b,hb,tb⟩:=ht.get hx
  refine codeAny_builtin F.entry_all_loop ?_
  rw [Around.under_plainId F.plain_all_loop _]
  show wpAny _ X.A.in1 (pyNext (.ref it) >>= _) _ _ s
  refine wpAny_bind (wpAny_pyNext_list_item st pl.isList (x:=u) (by simpa using hu) λ h' st' sb=>?_)
  have I1:Inv X pins σ H { s with heap:=h' }:=I.turned (t':=s.toks) (λ b o hb e=>(sb.2 b hb).trans e) f0 f1 f3 f4 f5
  have hdb:bs.drop i=b::bs.drop (i+1):=by
   obtain ⟨hlb,eb⟩:=List.getElem?_eq_some_iff.mp hb
   rw [List.drop_eq_getElem_cons hlb,eb]
  rw [hdb] at hR
  have I1p:Inv X (pins++a5C [it] h') σ H { s with heap:=h' }:=I1.pinned (fp:=[it]) (λ c hcc=>by rw [List.mem_singleton.mp hcc]; exact ⟨f0,f1,f2,f3,f4,f5⟩) λ c hcc=>by
   rw [List.mem_singleton.mp hcc]
   obtain ⟨o,e,c',d⟩:=st'
   exact ⟨o,e,λ v z=>by rw [d] at z; cases z⟩
  refine wpAny_bind (wpAny_holding (wpAny_mono (b4O (X:=X.in1.nox) _ _ σ H ys[i] u (λ c H'=>c=b/\H'=H) ((Inv.in1 I1p).wish _) ru ⟨b,tb,rfl,rfl⟩) (λ c s2 ⟨H',I2,e1,e2⟩=>?_) λ _ _ z=>False.elim z))
  rw [e2] at I2
  subst e1
  have I2':Inv X (pins++a5C [it] h') σ H s2:=Inv.of_in1 I2.unwish
  have I2'':Inv X pins σ H s2:=I2'.unpinned
  have st2:s2.heap.IsListIter it p (i+1):=st'.at λ o e=>(I2'.pin (it,o) (List.mem_append_right _ (List.mem_append_right _ (a3H (List.mem_singleton.mpr rfl) e)))).1
  refine wpAny_bind (wpAny_letGo ?_)
  cases c with
  | true =>
   simp only [if_true]
   exact wpAny_pure ⟨plainId_quiet F.plain_all_loop _,ih (i+1) s2 (by omega) I2'' st2 λ s' I'=>by simpa using hR s' I'⟩
  | false =>
   simp only [Bool.false_eq_true,if_false]
   refine wpAny_bind (wpAny_rule (wpAny_pure ?_))
   simpa using hR s2 I2''
theorem b7Z (hc:X.calm=true):CallR X (.builtin "all") (λ xs H Q=>∃ p ys bs,xs=[.ref p]/\SqL X.K H p ys/\Truths X.K H ys bs/\Q (.bl (bs.all id)) H):=by
 intro pins s σ H xs us Q I r h
 obtain ⟨p,ys,bs,rfl,hq,ht,q⟩:=h
 obtain ⟨u,rfl,rx⟩:=a7F r
 cases rx
 refine call_function_tree F.kind_all F.plain_all F.entry_all (F.args_all1 _) ?_
 unfold Builtin.«all»
 refine wpAny_bind (m:=oneArg "all" _) (wpAny_pure ?_)
 obtain ⟨its,rv,pl,hz⟩:=I.list hq
 refine wpAny_bind (wpAny_pyIter_list pl.isList ?_)
 have I1:Inv X pins σ H { s with heap:=s.heap.push { cls:=.type "list_iterator", data:=.fields #[.ref p,.int 0 0] } }:=I.kept (t':=s.toks) λ b o e=>Heap.get?_push_of_some _ e
 refine wpAny_pure ⟨plainId_quiet F.plain_all_loop _,c1Q hc hq ht (I.fpOk (Nat.le_refl _) (I.hok.fresh (Nat.le_refl _))) ys.length 0 _ (Nat.sub_zero _) I1 ⟨_,Heap.get?_push_size _ rfl,rfl,rfl⟩ λ s' I'=>?_⟩
 exact ⟨.bl _,H,I',rfl,by simpa using q⟩
theorem c1R {pins:List (Addr × Obj)} {σ:St} {H:Hp} {p it:Addr} {ys:List V} {bs:List Bool} {R:Result->Shared->Prop} (hc:X.calm=true) (hq:SqL X.K H p ys) (ht:Truths X.K H ys bs) (f:FpOk X pins H it) :
  ∀ (k i:Nat) (s:Shared),ys.length - i=k->Inv X pins σ H s->s.heap.IsListIter it p i->(∀ s',Inv X pins σ H s'->R (.ok (.ret (.bool ((bs.drop i).any id)))) s') ->
  codeAny (model X.prog X.w) X.A (.builtin "any.loop" ⟨[.ref it],[]⟩) R s:=by
 obtain ⟨f0,f1,f2,f3,f4,f5⟩:=f
 intro k
 induction k with
 | zero =>
  intro i s hk I st hR
  obtain ⟨its,rv,pl,hz⟩:=I.list hq
  have hl:=rv.length
  refine codeAny_builtin F.entry_any_loop ?_
  rw [Around.under_plainId F.plain_any_loop _]
  show wpAny _ X.A.in1 (pyNext (.ref it) >>= _) _ _ s
  refine wpAny_bind (wpAny_pyNext_list_end (I.ok.hd hc) st pl.isList (by simp; omega) λ h' eb=>?_)
  refine wpAny_bind (wpAny_rule (wpAny_pure ?_))
  have q:=hR _ (I.turned (t':=s.toks) (λ b o hb e=>eb b o hb e) f0 f1 f3 f4 f5)
  have hlb:bs.length=ys.length:=(Paired.length ht).symm
  rw [List.drop_of_length_le (by omega)] at q
  exact q
 | succ k ih =>
  intro i s hk I st hR
  obtain ⟨its,rv,pl,hz⟩:=I.list hq
  have hl:=rv.length
  have hlt:i < ys.length:=by omega
  have hx:ys[i]?=some ys[i]:=by simp [hlt]
  obtain ⟨u,hu,ru⟩:=rv.get hx
  obtain ⟨b,hb,tb⟩:=ht.get hx
  refine codeAny_builtin F.entry_any_loop ?_
  rw [Around.under_plainId F.plain_any_loop _]
  show wpAny _ X.A.in1 (pyNext (.ref it) >>= _) _ _ s
  refine wpAny_bind (wpAny_pyNext_list_item st pl.isList (x:=u) (by simpa using hu) λ h' st' sb=>?_)
  have I1:Inv X pins σ H { s with heap:=h' }:=I.turned (t':=s.toks) (λ b o hb e=>(sb.2 b hb).trans e) f0 f1 f3 f4 f5
  have hdb:bs.drop i=b::bs.drop (i+1):=by
   obtain ⟨hlb,eb⟩:=List.getElem?_eq_some_iff.mp hb
   rw [List.drop_eq_getElem_cons hlb,eb]
  rw [hdb] at hR
  have I1p:Inv X (pins++a5C [it] h') σ H { s with heap:=h' }:=I1.pinned (fp:=[it]) (λ c hcc=>by rw [List.mem_singleton.mp hcc]; exact ⟨f0,f1,f2,f3,f4,f5⟩) λ c hcc=>by
   rw [List.mem_singleton.mp hcc]
   obtain ⟨o,e,c',d⟩:=st'
   exact ⟨o,e,λ v z=>by rw [d] at z; cases z⟩
  refine wpAny_bind (wpAny_holding (wpAny_mono (b4O (X:=X.in1.nox) _ _ σ H ys[i] u (λ c H'=>c=b/\H'=H) ((Inv.in1 I1p).wish _) ru ⟨b,tb,rfl,rfl⟩) (λ c s2 ⟨H',I2,e1,e2⟩=>?_) λ _ _ z=>False.elim z))
  rw [e2] at I2
  subst e1
  have I2':Inv X (pins++a5C [it] h') σ H s2:=Inv.of_in1 I2.unwish
  have I2'':Inv X pins σ H s2:=I2'.unpinned
  have st2:s2.heap.IsListIter it p (i+1):=st'.at λ o e=>(I2'.pin (it,o) (List.mem_append_right _ (List.mem_append_right _ (a3H (List.mem_singleton.mpr rfl) e)))).1
  refine wpAny_bind (wpAny_letGo ?_)
  cases c with
  | false =>
   simp only [Bool.false_eq_true,if_false]
   exact wpAny_pure ⟨plainId_quiet F.plain_any_loop _,ih (i+1) s2 (by omega) I2'' st2 λ s' I'=>by simpa using hR s' I'⟩
  | true =>
   simp only [if_true]
   refine wpAny_bind (wpAny_rule (wpAny_pure ?_))
   simpa using hR s2 I2''
theorem b8A (hc:X.calm=true):CallR X (.builtin "any") (λ xs H Q=>∃ p ys bs,xs=[.ref p]/\SqL X.K H p ys/\Truths X.K H ys bs/\Q (.bl (bs.any id)) H):=by
 intro pins s σ H xs us Q I r h
 obtain ⟨p,ys,bs,rfl,hq,ht,q⟩:=h
 obtain ⟨u,rfl,rx⟩:=a7F r
 cases rx
 refine call_function_tree F.kind_any F.plain_any F.entry_any (F.args_any1 _) ?_
 unfold Builtin.«any»
 refine wpAny_bind (m:=oneArg "any" _) (wpAny_pure ?_)
 obtain ⟨its,rv,pl,hz⟩:=I.list hq
 refine wpAny_bind (wpAny_pyIter_list pl.isList ?_)
 have I1:Inv X pins σ H { s with heap:=s.heap.push { cls:=.type "list_iterator", data:=.fields #[.ref p,.int 0 0] } }:=I.kept (t':=s.toks) λ b o e=>Heap.get?_push_of_some _ e
 refine wpAny_pure ⟨plainId_quiet F.plain_any_loop _,c1R hc hq ht (I.fpOk (Nat.le_refl _) (I.hok.fresh (Nat.le_refl _))) ys.length 0 _ (Nat.sub_zero _) I1 ⟨_,Heap.get?_push_size _ rfl,rfl,rfl⟩ λ s' I'=>?_⟩
 exact ⟨.bl _,H,I',rfl,by simpa using q⟩
end
end L2
namespace L2
open PySem PySem.Spec PyProof.Rows
structure Dn (K:Φρ) (mg:Str->Option Value) (x:Str) (st:Stmt) (ps:List Str) where
 f:Addr
 fd:FuncData
 F:Fun K x x st f fd
 b:Binds K fd ps []
 m:mg x=some (.ref f)
 bd:∀ (s:Shared) (us:List Value),us.length=ps.length->BindsTo s fd ⟨us,[]⟩ (ps.zip us)
structure Bl (mg:Str->Option Value):Prop where
 get:∀ x:Str,x∈(["len", "range", "list", "isinstance", "int", "bool", "str", "all", "any", "sorted", "set", "min", "max", "tuple", "enumerate", "dict", "ValueError"]:List Str)->mg x=none
theorem Bl.len {mg:Str->Option Value} (B:Bl mg):mg "len" = none:=B.get _ (by decide +kernel)
theorem Bl.range {mg:Str->Option Value} (B:Bl mg):mg "range" = none:=B.get _ (by decide +kernel)
theorem Bl.list {mg:Str->Option Value} (B:Bl mg):mg "list" = none:=B.get _ (by decide +kernel)
theorem Bl.isinstance {mg:Str->Option Value} (B:Bl mg):mg "isinstance" = none:=B.get _ (by decide +kernel)
theorem Bl.int {mg:Str->Option Value} (B:Bl mg):mg "int" = none:=B.get _ (by decide +kernel)
theorem Bl.bool {mg:Str->Option Value} (B:Bl mg):mg "bool" = none:=B.get _ (by decide +kernel)
theorem Bl.all {mg:Str->Option Value} (B:Bl mg):mg "all" = none:=B.get _ (by decide +kernel)
theorem Bl.any {mg:Str->Option Value} (B:Bl mg):mg "any" = none:=B.get _ (by decide +kernel)
theorem Bl.sorted {mg:Str->Option Value} (B:Bl mg):mg "sorted" = none:=B.get _ (by decide +kernel)
theorem Bl.set {mg:Str->Option Value} (B:Bl mg):mg "set" = none:=B.get _ (by decide +kernel)
theorem Bl.min {mg:Str->Option Value} (B:Bl mg):mg "min" = none:=B.get _ (by decide +kernel)
theorem Bl.max {mg:Str->Option Value} (B:Bl mg):mg "max" = none:=B.get _ (by decide +kernel)
theorem Bl.enumerate {mg:Str->Option Value} (B:Bl mg):mg "enumerate" = none:=B.get _ (by decide +kernel)
theorem Bl.ValueError {mg:Str->Option Value} (B:Bl mg):mg "ValueError" = none:=B.get _ (by decide +kernel)
theorem b3I {K:Φρ}:PySem.W.kitOne K (.type "int") (.type "int")=some true:=by rfl
theorem b1P {K:Φρ}:PySem.W.kitOne K (.type "int") (.type "bool")=some false:=by rfl
theorem b3J {K:Φρ}:PySem.W.kitOne K (.type "NoneType") (.type "int")=some false:=by rfl
theorem b1Q {K:Φρ}:PySem.W.kitOne K (.type "NoneType") (.type "bool")=some false:=by rfl
end L2
namespace L2
open PySem PySem.Spec PyProof.Rows
section
variable {X:Cx} {K:Φρ}
theorem a0V (e:X.K=K):IxR X (rIxL K):=by subst e; exact c5C
theorem a0X (e:X.K=K):IxR X (rIxT K):=by subst e; exact c8N
theorem c5G (e:X.K=K) (hu:X.A.units+64 < cLine):OpR X (compareOp .Eq) (rEqD K false):=by subst e; exact c8S hu
theorem c5H (e:X.K=K) (hu:X.A.units+64 < cLine):OpR X (compareOp .NotEq) (rEqD K true):=by subst e; exact c8T hu
theorem a2V (e:X.K=K) (hu:X.A.units+65 < cLine):OpR X (compareOp .In) (rInD K false):=by subst e; exact c8U hu
theorem a2G (e:X.K=K) (hu:X.A.units+65 < cLine):OpR X (compareOp .NotIn) (rInD K true):=by subst e; exact b7Y hu
theorem a9N (e:X.K=K):OpR X (compareOp .NotIn) (rIn K true):=by subst e; exact b1J
def rLen (K:Φρ):List V->Hp->VK->Prop:=λ xs H Q=>∃ p ys,xs=[.ref p]/\(SqL K H p ys\/SqT K H p ys)/\Q (.int ys.length) H
theorem a0L (e:X.K=K):CallR X (.builtin "len") (rLen K):=by subst e; exact b1K
def c5I (K:Φρ):List V->Hp->VK->Prop:=λ xs H Q=>∃ p ys,xs=[.ref p]/\(SqL K H p ys\/SqT K H p ys)/\∀ l,H l=none->Q (.ref l) (upd H l (.lst ys))
theorem b6J (e:X.K=K):CallR X (.type "list") (c5I K):=by subst e; exact b1L
def d1R (K:Φρ):List V->Hp->VK->Prop:=λ xs H Q=>∃ x c cv t b,xs=[x,c]/\clsV c=some cv/\TyOf K H x t/\PySem.W.kitOne K t cv=some b/\Q (.bl b) H
theorem a6X (e:X.K=K):CallR X (.builtin "isinstance") (d1R K):=by subst e; exact b3H
def rAll (K:Φρ):List V->Hp->VK->Prop:=λ xs H Q=>∃ p ys bs,xs=[.ref p]/\SqL K H p ys/\Truths K H ys bs/\Q (.bl (bs.all id)) H
def rAny (K:Φρ):List V->Hp->VK->Prop:=λ xs H Q=>∃ p ys bs,xs=[.ref p]/\SqL K H p ys/\Truths K H ys bs/\Q (.bl (bs.any id)) H
theorem b1R (e:X.K=K) (hc:X.calm=true):CallR X (.builtin "all") (rAll K):=by subst e; exact b7Z hc
theorem a5U (e:X.K=K) (hc:X.calm=true):CallR X (.builtin "any") (rAny K):=by subst e; exact b8A hc
theorem a1A {tg l:Expr} {tl:TE} (e:X.K=K) (hl:PE X l tl):PI X tg l (c4V K tl):=by subst e; exact c4W hl
theorem c5J {tg l:Expr} {tl:TE} (e:X.K=K) (hl:PE X l tl):PI X tg l (iTup K tl):=by subst e; exact c8G hl
def tTru (K:Φρ) (ta:TE):TT:=λ σ H Q=>ta σ H λ x H'=>∃ k,TruV K x H' k/\Q k H'
theorem a1L {a:Expr} {ta:TE} (e:X.K=K) (ha:PE X a ta) (he:∀ whole,isTrue a X.env whole=(do let v <- whole; standAt a.pos; holding [v] (truthy v))):PT X a (tTru K ta):=by subst e; exact c1L ha he
theorem a2A {es:List Expr} {k:Nat} {t:TGs} {n:Nat} {pos:Pos} (e:X.K=K) (hc:X.calm=true) (h:PGs X es t)
  (hn:(assignEach es X.env).length=n:=by rfl) (hst:(assignEach es X.env).findIdx? (·.1)=none:=by rfl):PG X (.Tuple es k pos) (gTup K n t):=by subst e; exact c8E hc h hn hst
theorem b3K {o:Expr} {to:TE} {name:Str} {apos cpos:Pos} {T id:String} {r:V->List V->Hp->VK->Prop} (e:X.K=K) (pa:PlainAttrs T) (slot:Slot T name id) (hty:typeOf (.builtin id)=pure (.type "method_descriptor")) (hm:MtR X id r) (ho:PE X o to)
  (hbase:attributeBase o name X.env (eval o X.env)=eval o X.env:=by rfl) (hline:(apos.endLine == cpos.line)=true:=by rfl):PE X (.Call (.Attribute o name apos) [] [] cpos) (tBM0 K T r to):=by subst e; exact c8P pa slot hty hm ho hbase hline
theorem a5V {o e:Expr} {es:List Expr} {to:TE} {t:TA} {name:Str} {apos cpos:Pos} {T id:String} {r:V->List V->Hp->VK->Prop} (e0:X.K=K) (pa:PlainAttrs T) (slot:Slot T name id) (hty:typeOf (.builtin id)=pure (.type "method_descriptor")) (hm:MtR X id r) (ho:PE X o to) (ha:PA X (e::es) t)
  (hbase:attributeBase o name X.env (eval o X.env)=eval o X.env:=by rfl)
  (hfew:((backTo cpos (starEach (e::es) X.env)).all (λ x=>!x.1) && (backToKw cpos (keywordEach [] X.env)).all (λ x=>x.1.isSome)
   && decide ((e::es).length+([]:List Keyword).length+(if ([]:List Keyword).isEmpty then 0 else 1) < 30))=true:=by rfl)
  (hline:(apos.endLine == cpos.line)=true:=by rfl) (hs:starEach (e::es) X.env=(false,eval e X.env)::starEach es X.env:=by rfl) (hplain:(backTo cpos (starEach es X.env)).any (·.1)=false:=by rfl) :
  PE X (.Call (.Attribute o name apos) (e::es) [] cpos) (tBM K T r to t):=by subst e0; exact d1O pa slot hty hm ho ha hbase hfew hline hs hplain
end
end L2
namespace L2
open PySem PySem.Spec PyProof.Rows
def tCut (t u:TS):TS:=λ D σ H=>∃ J:St->Hp->Prop,t { D with nx:=J } σ H/\∀ σ' H',J σ' H'->u D σ' H'
theorem a3K {X:Cx} {st:Stmt} {rest:List Stmt} {t u:TS} (h1:PS X st t) (h2:PSs X rest u):PSs X (st::rest) (tCut t u):=by
 intro pins s σ H D I h
 obtain ⟨J,q1,q2⟩:=h
 refine wpAny_execs_cons (thn (h1 pins s σ H { D with nx:=J } I q1) λ f s1 q=>?_)
 cases f with
 | next =>
  obtain ⟨σ',H',I',q⟩:=q
  exact h2 pins s1 σ' H' D I' (q2 σ' H' q)
 | ret v=>exact q
 | brk=>exact q
 | cont=>exact q
end L2
namespace L2
open PySem PySem.Spec PyProof.Rows
structure New (H:Hp) (p:Addr) (o:HO) (H':Hp):Prop where
 fresh:H p=none
 here:H' p=some o
 rest:∀ b,b≠p->H' b=H b
theorem New.mk0 {H:Hp} {p:Addr} {o:HO} (h:H p=none):New H p o (upd H p o):=⟨h,a2X,λ _ hb=>a1K hb⟩
theorem New.same {H H':Hp} {p:Addr} {o:HO} (n:New H p o H'):Same H H':=λ b u e=>(n.rest b (a1C e n.fresh)).trans e
theorem New.ne {H H':Hp} {p b:Addr} {o u:HO} (n:New H p o H') (h:H b=some u):b≠p:=a1C h n.fresh
structure Chg (H:Hp) (l:Addr) (o:HO) (H':Hp):Prop where
 here:H' l=some o
 rest:∀ b,b≠l->H' b=H b
theorem Chg.mk0 {H:Hp} {l:Addr} {o:HO}:Chg H l o (upd H l o):=⟨a2X,λ _ hb=>a1K hb⟩
section
variable {X:Cx} {K:Φρ} {es:List Expr} {t:TA} {pos:Pos}
def c5K (t:TA):TE:=λ σ H Q=>t σ H λ xs H1=>xs.length<=1000/\∀ p H',New H1 p (.tup xs) H'->Q (.ref p) H'
def c1S (t:TA):TE:=λ σ H Q=>t σ H λ xs H1=>xs.length<=1000/\∀ p H',New H1 p (.lst xs) H'->Q (.ref p) H'
theorem a0T {x1} (h:PA X es t):PE X (.Tuple es x1 pos) (c5K t):=by
 intro pins s σ H Q I hq
 refine wpAny_Tuple_spliced (thn (h pos pins s σ H _ I hq) λ us s1 ⟨xs,H1,I1,r,z,q⟩=>?_)
 have z':xs.length<=sizeLine:=Nat.le_of_lt (a0W z)
 refine ⟨by rw [<- r.length]; exact z',?_⟩
 have hf:H1 s1.heap.objs.size=none:=I1.hok.fresh (Nat.le_refl _)
 refine ⟨.ref s1.heap.objs.size,upd H1 s1.heap.objs.size (.tup xs),I1.laid (t':=s1.toks) (λ b u e=>Heap.get?_push_of_some _ e) (Nat.le_refl _) ?_,rfl,q _ _ (New.mk0 hf)⟩
 exact ⟨z',us,r,⟨_,Heap.get?_push_size _ rfl,rfl,_,rfl⟩⟩
theorem a0O (h:PA X es t):PE X (.List es pos) (c1S t):=by
 intro pins s σ H Q I hq
 refine wpAny_List_spliced (thn (h pos pins s σ H _ I hq) λ us s1 ⟨xs,H1,I1,r,z,q⟩=>?_)
 have z':xs.length<=sizeLine:=Nat.le_of_lt (a0W z)
 refine ⟨by rw [<- r.length]; exact z',?_⟩
 have hf:H1 s1.heap.objs.size=none:=I1.hok.fresh (Nat.le_refl _)
 refine ⟨.ref s1.heap.objs.size,upd H1 s1.heap.objs.size (.lst xs),I1.laid (t':=s1.toks) (λ b u e=>Heap.get?_push_of_some _ e) (Nat.le_refl _) ?_,rfl,q _ _ (New.mk0 hf)⟩
 exact ⟨z',us,0,r,Heap.get?_push_size _ rfl⟩
theorem OpR.weak {f:Value->Value->Sem Value} {r r':R2} (h:OpR X f r) (m:∀ x y H Q,r' x y H Q->r x y H Q):OpR X f r':=λ pins s σ H x y v u Q I rx ry q=>h pins s σ H x y v u Q I rx ry (m x y H Q q)
theorem CallR.weak {f:Value} {r r':List V->Hp->VK->Prop} (h:CallR X f r) (m:∀ xs H Q,r' xs H Q->r xs H Q):CallR X f r':=λ pins s σ H xs us Q I rs q=>h pins s σ H xs us Q I rs (m xs H Q q)
def c8V:R2:=λ x y H Q=>∃ l b xs zs,x = .ref l/\y = .ref b/\H l=some (.lst xs)/\H b=some (.lst zs)/\xs.length+zs.length<=1000/\∀ p H',New H p (.lst (xs++zs)) H'->Q (.ref p) H'
theorem a1R:OpR X (binaryOp .Add) c8V:=op_cat.weak λ x y H Q ⟨l,b,xs,zs,e1,e2,h1,h2,z,q⟩=>⟨l,b,xs,zs,e1,e2,h1,h2,Nat.le_of_lt (a0W z),λ p hp=>q p _ (New.mk0 hp)⟩
def rSlN (K:Φρ):V->Option Int->Option Int->Hp->VK->Prop:=λ x lo hi H Q=>∃ a xs,x = .ref a/\SqL K H a xs/\∀ p H',New H p (.lst (cutV xs lo hi)) H'->Q (.ref p) H'
theorem a2J (e:X.K=K):SlR X (rSlN K):=by
 subst e
 exact λ pins s σ H x v vl vu lo hi sl Q I rx hs pl pu ⟨a,xs,e,h,q⟩=>c5D pins s σ H x v vl vu lo hi sl Q I rx hs pl pu ⟨a,xs,e,h,λ p hp=>q p _ (New.mk0 hp)⟩
def c8W (K:Φρ):List V->Hp->VK->Prop:=λ xs H Q=>∃ p ys,xs=[.ref p]/\(SqL K H p ys\/SqT K H p ys)/\∀ l H',New H l (.lst ys) H'->Q (.ref l) H'
theorem a6L (e:X.K=K):CallR X (.type "list") (c8W K):=(b6J e).weak λ xs H Q ⟨p,ys,e,h,q⟩=>⟨p,ys,e,h,λ l hl=>q l _ (New.mk0 hl)⟩
theorem MtM.weak {id:String} {r r':V->List V->Hp->VK->Prop} (h:MtM X id r) (m:∀ x xs H Q,r' x xs H Q->r x xs H Q):MtM X id r':=λ pins s σ H x xs v us Q I rx rs q=>h pins s σ H x xs v us Q I rx rs (m x xs H Q q)
def d1S:V->List V->Hp->VK->Prop:=λ x vs H Q=>∃ l xs y,x = .ref l/\vs=[y]/\H l=some (.lst xs)/\xs.length < 1000/\∀ H',Chg H l (.lst (xs++[y])) H'->Q .non H'
theorem a2M:MtM X "list.append" d1S:=mt_append.weak λ x vs H Q ⟨l,xs,y,e1,e2,h,z,q⟩=>⟨l,xs,y,e1,e2,h,a0W (Nat.le_of_lt z),q _ Chg.mk0⟩
end
theorem a7Y {K:Φρ} {a:Addr} {xs:List V} {ix:List (Option Nat)} {g:TG} {tt:TT} {te:TE} {σ:St} {H1:Hp} {Q:VK} (f:V->Option V) (hx:SqL K H1 a xs) (hz:xs.length<=1000)
  (hs:∀ x H (N:Option V->Hp->Prop),x∈xs->Same H1 H->(∀ H',Same H1 H'->N (f x) H')->g x (capt ix σ) H λ σ2 H2=>tt σ2 H2 λ b H3=>if b=true then te σ2 H3 λ v H4=>N (some v) H4 else N none H3)
  (hd:∀ H p H',Same H1 H->New H p (.lst (xs.filterMap f)) H'->Q (.ref p) H'):a3J ix g tt te σ H1 Q (Itl K a) :=
 d1Q f hx (Nat.le_of_lt (a0W hz)) hs λ H p s hp=>hd H p _ s (New.mk0 hp)
theorem c5L {lo:Int} {n:Nat} {ix:List (Option Nat)} {g:TG} {tt:TT} {te:TE} {σ:St} {H1:Hp} {Q:VK} (f:Nat->Option V) (hz:n<=1000)
  (hs:∀ i H (N:Option V->Hp->Prop),i < n->Same H1 H->(∀ H',Same H1 H'->N (f i) H')->g (.int (lo+i)) (capt ix σ) H λ σ2 H2=>tt σ2 H2 λ b H3=>if b=true then te σ2 H3 λ v H4=>N (some v) H4 else N none H3)
  (hd:∀ H p H',Same H1 H->New H p (.lst ((List.range n).filterMap f)) H'->Q (.ref p) H'):a3J ix g tt te σ H1 Q (Itr lo n) :=
 c8R f (Nat.le_of_lt (a0W hz)) hs λ H p s hp=>hd H p _ s (New.mk0 hp)
end L2
namespace Lw
open PySem L2
theorem b0G {H:Hp} {p:Addr} (h:H p=none) (o:HO):Same H (upd H p o):=λ b u q=>by rw [a1K (a1C q h)]; exact q
theorem a4C {α β:Type} {f:α->Option β} {g:α->β}:∀ {l:List α},(∀ x∈l,f x=some (g x))->l.filterMap f=l.map g
 | [],_=>rfl
 | x::r,h=>by
  rw [List.filterMap_cons_some (h x List.mem_cons_self),List.map_cons,a4C λ y hy=>h y (List.mem_cons_of_mem _ hy)]
theorem c5M {f:V->Option V} {g:Int->V} {ns:List Int} (h:∀ v∈ns,f (.int v)=some (g v)):(ns.map V.int).filterMap f=ns.map g:=by
 rw [List.filterMap_map]
 exact a4C h
theorem a7Z {f:V->Option V} {p:Int->Bool}:∀ {ns:List Int},(∀ v∈ns,f (.int v)=if p v=true then some (.int v) else none)->(ns.map V.int).filterMap f=(ns.filter p).map V.int
 | [],_=>rfl
 | v::r,h=>by
  have ih:=a7Z (f:=f) (p:=p) (ns:=r) λ y hy=>h y (List.mem_cons_of_mem _ hy)
  have hv:=h v List.mem_cons_self
  rw [List.map_cons,List.filter_cons]
  by_cases c:p v=true
  ·rw [if_pos c] at hv ⊢
   rw [List.filterMap_cons_some hv,ih]; rfl
  ·rw [if_neg c] at hv ⊢
   rw [List.filterMap_cons_none hv,ih]
theorem b0H {ns:List Int} {k:Int} (h0:0<=k) (h:k < (ns.length:Int)):atI (ns.map V.int) k=some (.int (ns.getD k.toNat 0)):=by
 have hk:k.toNat < ns.length:=by omega
 have ek:k=((k.toNat:Nat):Int):=by omega
 have q:atI (ns.map V.int) ((k.toNat:Nat):Int)=some (.int (ns.getD k.toNat 0)):=a1M (by
  rw [List.getElem?_map,List.getElem?_eq_getElem hk,τα,List.getElem?_eq_getElem hk]; rfl)
 rw [<- ek] at q
 exact q
def Scr (K:Φρ) (H:Hp) (a:Addr) (ns:List Int):Prop:=(∃ o,H a=some (.frz o (.lst (ns.map V.int)))) \/
 ∃ (o:Obj) (its:Array Value) (n:Nat),K.lookup a=some o/\o.cls = .type "list" /\ o.dict=none/\o.data = .seq its n/\its.size<=sizeLine/\Vals (ns.map V.int) its.toList
theorem Scr.seq {K:Φρ} {H:Hp} {a:Addr} {ns:List Int} (h:Scr K H a ns):SqL K H a (ns.map V.int):=by
 rcases h with ⟨o,h⟩ | h
 ·exact .inl (.inr ⟨o,h⟩)
 ·exact .inr h
theorem Scr.of {K:Φρ} {H:Hp} {a:Addr} {ns:List Int} (hO:Only H) (h:SqL K H a (ns.map V.int)):Scr K H a ns:=by
 rcases h with (h | ⟨o,h⟩) | h
 ·rcases hO a with z | ⟨ob,xs,z⟩
  ·rw [z] at h; cases h
  ·rw [z] at h; cases h
 ·exact .inl ⟨o,h⟩
 ·exact .inr h
theorem Scr.same {K:Φρ} {H H':Hp} {a:Addr} {ns:List Int} (e:Same H H') (h:Scr K H a ns):Scr K H' a ns:=by
 rcases h with ⟨o,h⟩ | h
 ·exact .inl ⟨o,e _ _ h⟩
 ·exact .inr h
def spLaw (K:Φρ):Sp:=λ vs H Q _=>∃ (a:Addr) (ns:List Int),vs=[.ref a]/\Scr K H a ns/\ns.length<=63/\∀ H',Q (.bl true) H'
end Lw
namespace L2
open PySem PySem.Spec PyProof.Rows
theorem c1T {K:Φρ} {h:Heap} {mg:Str->Option Value} {x:Str} {st:Stmt} {ps:List Str} {f:Addr} {oc:Value} {od an:Option Addr} {osl:Array (Option Value)} {kV doc pm cdv ct:Value} (X:K.In h) (G:h.Ns mainGlobals mg)
  (a:PySem.W.nsIn K mainGlobals x=some (some (.ref f))) (l:K.lookup f=some ⟨oc,od,.func (PySem.W.fnOf x x (a2D st) (a1U st) (a0F st) .none kV doc pm an cdv ct),osl⟩) (c:PySem.W.codeIn K cdv x=true) (k:PySem.W.keepIn K (.ref f)=true)
  (hb:∀ (kV doc pm:Value) (an:Option Addr) (cdv ct:Value) (us:List Value),us.length=ps.length->bindArgs (PySem.W.fnOf x x (a2D st) (a1U st) (a0F st) .none kV doc pm an cdv ct) ⟨us,[]⟩=pure (ps.zip us)) :
  Nonempty (Dn K mg x st ps) :=
 have F:=c8Q (st:=st) l c k
 ⟨⟨f,_,F,F.binds hb,PySem.W.mg_of X G a,λ s us hl=>.of_eq (hb _ _ _ _ _ _ us hl)⟩⟩
theorem bl_mk {K:Φρ} {h:Heap} {mg:Str->Option Value} (X:K.In h) (G:h.Ns mainGlobals mg)
  (z1:PySem.W.nsIn K mainGlobals "len" = some none) (z2:PySem.W.nsIn K mainGlobals "range" = some none) (z3:PySem.W.nsIn K mainGlobals "list" = some none) (z4:PySem.W.nsIn K mainGlobals "isinstance" = some none) (z5:PySem.W.nsIn K mainGlobals "int" = some none)
  (z6:PySem.W.nsIn K mainGlobals "bool" = some none) (z7:PySem.W.nsIn K mainGlobals "str" = some none) (z8:PySem.W.nsIn K mainGlobals "all" = some none) (z9:PySem.W.nsIn K mainGlobals "any" = some none) (z10:PySem.W.nsIn K mainGlobals "sorted" = some none)
  (z11:PySem.W.nsIn K mainGlobals "set" = some none) (z12:PySem.W.nsIn K mainGlobals "min" = some none) (z13:PySem.W.nsIn K mainGlobals "max" = some none) (z14:PySem.W.nsIn K mainGlobals "tuple" = some none) (z15:PySem.W.nsIn K mainGlobals "enumerate" = some none)
  (z16:PySem.W.nsIn K mainGlobals "dict" = some none) (z17:PySem.W.nsIn K mainGlobals "ValueError" = some none):Bl mg:=by
 refine ⟨λ x hx=>?_⟩
 simp only [List.mem_cons,List.not_mem_nil,or_false] at hx
 rcases hx with rfl | rfl | rfl | rfl | rfl | rfl | rfl | rfl | rfl | rfl | rfl | rfl | rfl | rfl | rfl | rfl | rfl
 ·exact PySem.W.mg_none_of X G z1
 ·exact PySem.W.mg_none_of X G z2
 ·exact PySem.W.mg_none_of X G z3
 ·exact PySem.W.mg_none_of X G z4
 ·exact PySem.W.mg_none_of X G z5
 ·exact PySem.W.mg_none_of X G z6
 ·exact PySem.W.mg_none_of X G z7
 ·exact PySem.W.mg_none_of X G z8
 ·exact PySem.W.mg_none_of X G z9
 ·exact PySem.W.mg_none_of X G z10
 ·exact PySem.W.mg_none_of X G z11
 ·exact PySem.W.mg_none_of X G z12
 ·exact PySem.W.mg_none_of X G z13
 ·exact PySem.W.mg_none_of X G z14
 ·exact PySem.W.mg_none_of X G z15
 ·exact PySem.W.mg_none_of X G z16
 ·exact PySem.W.mg_none_of X G z17
theorem law_at {P:Program} {w:World} {K:Φρ} {mg:Str->Option Value} {fa:Addr} {st:Stmt} {k:Nat} {sp:Sp} {x:Str} (hfa:mg "law" = some (.ref fa)) (d:Dn K mg "law" st [x]) (F:∀ base:Heap,FnOk P w K mg base CX0 k d.f d.fd [x] sp) :
  ∃ fd:FuncData,(∀ (s:Shared) (u:Value),BindsTo s fd ⟨[u],[]⟩ [(x,u)])/\∀ base:Heap,K.In base->base.Ns mainGlobals mg->FnOk P w K mg base CX0 k fa fd [x] sp:=by
 have e:fa=d.f:=by
  have:=hfa.symm.trans d.m
  have:=Option.some.inj this
  cases this
  rfl
 subst e
 exact ⟨d.fd,λ s u=>d.bd s [u] rfl,λ base _ _=>F base⟩
end L2
namespace L2
open PySem PySem.Spec PyProof.Rows
def Ite (K:Φρ) (a:Addr):It :=
 ⟨λ i H=>∃ xs x,SqL K H a xs/\xs[i]?=some x,λ i H x H'=>∃ p y,x = .ref p/\New H p (.tup [.int i,y]) H'/\∀ xs,SqL K H a xs->xs[i]?=some y,λ i H=>∃ xs,SqL K H a xs/\xs.length<=i⟩
theorem b8B {P:Program} {w:World} {K:Φρ} {elts:List Expr} {k:Nat} {pos:Pos} (a it e:Addr) (hei:e≠it):Turn P w K (.Tuple elts k pos) (Ite K a) [e,it] e (λ i h=>(∃ old,IsEnum h e it i old)/\h.IsListIter it a i) where
 mem:=by simp
 obj:=λ i h st b hb=>by
  obtain ⟨⟨old,he⟩,hit⟩:=st
  rcases List.mem_cons.mp hb with rfl | hb
  ·exact ⟨_,he,λ v z=>by
    have z':Data.fields _=Data.cell v:=z
    cases z'⟩
  ·rw [List.mem_singleton.mp hb]
   obtain ⟨o,e1,c,d⟩:=hit
   exact ⟨o,e1,λ v z=>by rw [d] at z; cases z⟩
 keep:=λ i h h' st kk=>by
  obtain ⟨⟨old,he⟩,hit⟩:=st
  exact ⟨⟨old,kk e (by simp) _ he⟩,hit.at λ o q=>kk it (by simp) o q⟩
 item:=by
  intro X hP hw hK hc i pins s σ H E I hf st hg
  subst hP hw hK
  obtain ⟨xs,x,hq,hx⟩:=hg
  obtain ⟨its,rv,pl,hz⟩:=I.list hq
  obtain ⟨u,hu,ru⟩:=rv.get hx
  obtain ⟨⟨old,he⟩,hit⟩:=st
  obtain ⟨f0,f1,f2,f3,f4,f5⟩:=hf e (by simp)
  obtain ⟨g0,g1,g2,g3,g4,g5⟩:=hf it (by simp)
  refine wpAny_pyNext_enum_item he hit pl.isList (x:=u) (by simpa using hu) hei λ h' ho hit' hT hsz hk=>?_
  refine ⟨_,rfl,wpAny_letOwnedTupleGo_enum ho λ h2 he2 hs2=>?_⟩
  have eT:s.heap.objs.size≠e:=Nat.ne_of_gt (Heap.lt_size he)
  have iT:s.heap.objs.size≠it:=by
   obtain ⟨o,e1,_⟩:=hit
   exact Nat.ne_of_gt (Heap.lt_size e1)
  have hT2:h2.get? s.heap.objs.size=some { cls:=.type "tuple", data:=.seq #[.int i s.toks,u] }:=(hs2.2 _ eT).trans hT
  have kp:∀ b o,b≠e->b≠it->s.heap.get? b=some o->h2.get? b=some o:=λ b o h1 h2' q=>(hs2.2 b h1).trans (hk b o h1 h2' q)
  have I1:Inv X pins σ H { s with heap:=h2,toks:=s.toks+1 }:=by
   refine I.step (g':=s.gens) (d':=s.drawn) (H':=H) (ch:=[e,it]) (λ b hb=>?_) (λ b o _ _ hc q _=>kp b o (λ z=>hc (by simp [z])) (λ z=>hc (by simp [z])) q) (λ b o _ _ hc q _=>⟨o.slots,kp b o (λ z=>hc (by simp [z])) (λ z=>hc (by simp [z])) q⟩) (λ _ _ _ _ n=>n)
    (λ b o hc q=>⟨o,kp b o (λ z=>hc (by simp [z])) (λ z=>hc (by simp [z])) q⟩) (λ _ _ q=>q) (λ _ _ _ q=>q) (λ b ps q=>⟨#[],by rw [q]; simp⟩) (λ m hm=>?_) (λ b o q=>?_) I.bare
   ·rcases List.mem_cons.mp hb with rfl | hb
    ·exact ⟨f3,f1,f4,f5⟩
    ·rw [List.mem_singleton.mp hb]; exact ⟨g3,g1,g4,g5⟩
   ·obtain ⟨o,es,ep,q,r⟩:=hm
    exact ⟨o,es,ep,kp _ o (Ne.symm f1) (Ne.symm g1) q,r⟩
   ·have nb:∀ c v,H c=some v->c≠e/\c≠it:=λ c v q=>⟨a1C q f0,a1C q g0⟩
    refine (I.hok b o q).stay (λ c v hcc r=>kp c v ?_ ?_ r) (λ _ q=>q) λ _ _ q=>q
    ·rcases hcc with z | z
     ·rw [z]; exact (nb b o q).1
     ·exact (nb c _ z).1
    ·rcases hcc with z | z
     ·rw [z]; exact (nb b o q).2
     ·exact (nb c _ z).2
  have hfree:H s.heap.objs.size=none:=I.hok.fresh (Nat.le_refl _)
  have I2:Inv X pins σ (upd H s.heap.objs.size (.tup [.int i,x])) { s with heap:=h2,toks:=s.toks+1 }:=by
   refine Inv.track I1 hfree I.sz (Nat.ne_of_gt I.lt) (λ y c q=>?_) (λ p hp=>Nat.ne_of_lt (Heap.lt_size (I.pin p hp).1)) ?_
   ·obtain ⟨v,oc,q1,_⟩:=I.cell y c q
    exact Nat.ne_of_lt (Heap.lt_size q1)
   ·exact ⟨(by show 2<=sizeLine; decide),[.int i s.toks,u],.cons ⟨_,rfl⟩ (.cons ru .nil),⟨_,hT2,rfl,_,rfl⟩⟩
  refine ⟨.ref s.heap.objs.size,_,I2,rfl,⟨_,x,rfl,New.mk0 hfree,λ ys hy=>by rw [I.list_inj hy hq]; exact hx⟩,⟨⟨u,?_⟩,hit'.at λ o q=>(hs2.2 it (Ne.symm hei)).trans q⟩,λ b hb=>?_⟩
  ·have e1:((i+1:Nat):Int)=(i:Int)+1:=by omega
   show IsEnum h2 e it ((i+1:Nat):Int) u
   rw [e1]; exact he2
  ·rcases List.mem_cons.mp hb with rfl | hb
   ·rw [a1K (Ne.symm eT)]; exact f0
   ·rw [List.mem_singleton.mp hb,a1K (Ne.symm iT)]; exact g0
 done:=by
  intro X hP hw hK hc i pins s σ H E I hf st hg
  subst hP hw hK
  obtain ⟨xs,hq,hx⟩:=hg
  obtain ⟨its,rv,pl,hz⟩:=I.list hq
  obtain ⟨⟨old,he⟩,hit⟩:=st
  obtain ⟨g0,g1,g2,g3,g4,g5⟩:=hf it (by simp)
  have hl:=rv.length
  exact wpAny_pyNext_enum_end (I.ok.hd hc) he hit pl.isList (by simp; omega) λ h' eb=>⟨rfl,I.turned (t':=s.toks) (λ b o hb q=>eb b o hb q) g0 g1 g3 g4 g5⟩
 self:=λ _ _ _ _ _ st h=>by
  obtain ⟨⟨old,he⟩,_⟩:=st
  exact wpAny_pyIter_enum he h
section
variable {X:Cx} {K:Φρ}
def d1T (K:Φρ) (ta:TA):TI:=λ σ H R=>ta σ H λ vs H1=>∃ a,vs=[.ref a]/\(∃ xs,SqL K H1 a xs)/\R (Ite K a) H1
theorem a8A {elts:List Expr} {k:Nat} {tpos:Pos} {l:Expr} {ta:TA} {p pos:Pos} (e0:X.K=K) (hg:Gl X "enumerate") (hm:X.mg "enumerate" = none) (ha:PA X [l] ta) (hs:starEach [l] X.env=[(false,eval l X.env)]:=by rfl) :
  PI X (.Tuple elts k tpos) (.Call (.Name "enumerate" p) [l] [] pos) (d1T K ta):=by
 subst e0
 intro pins s σ H R I h
 refine wpAny_Call_Name_kw (a5N I hg hm boot_enumerate ?_)
 refine PyProof.Rows.callWith_type1 (thn (ha pos pins s σ H _ I h) λ us s1 ⟨vs,H1,I1,r1,q1⟩=>?_) hs (by rfl)
 obtain ⟨a,e,⟨xs,hq⟩,q⟩:=q1
 subst e
 obtain ⟨u,rfl,ru⟩:=a7F r1
 cases ru
 obtain ⟨its,rv,pl,hz⟩:=I1.list hq
 refine call_enumerate_list pl.isList λ h' he hit hsz hk=>?_
 refine wpAny_pyIter_enum he ?_
 have I2:Inv X pins σ H1 { s1 with heap:=h' }:=I1.kept (t':=s1.toks) hk
 refine ⟨s1.heap.objs.size+1,[s1.heap.objs.size+1,s1.heap.objs.size],_,_,H1,rfl,I2,b8B a s1.heap.objs.size (s1.heap.objs.size+1) (Nat.ne_of_gt (Nat.lt_succ_self _)),⟨⟨_,he⟩,hit⟩,λ b hb=>?_,q⟩
 have hb':s1.heap.objs.size<=b:=by
  rcases List.mem_cons.mp hb with rfl | hb
  ·exact Nat.le_succ _
  ·rw [List.mem_singleton.mp hb]; exact Nat.le_refl _
 exact I1.fpOk hb' (I1.hok.fresh hb')
end
theorem a7M {K:Φρ} {a:Addr} {xs:List V} {g:TG} {tb:TS} {D:Ends} {σ:St} {H:Hp} (Pv:Nat->St->Hp->Prop) (h0:Pv 0 σ H) (hl:∀ i σ H,i<=xs.length->Pv i σ H->SqL K H a xs)
  (hs:∀ (i:Nat) x σ H p H',xs[i]?=some x->Pv i σ H->New H p (.tup [.int i,x]) H'->g (.ref p) σ H' λ σ2 H2=>tb { D with nx:=Pv (i+1),ct:=Pv (i+1),bk:=D.nx } σ2 H2) (hd:∀ σ H,Pv xs.length σ H->D.nx σ H) :
  ∃ W:Nat->Nat->St->Hp->Prop,(∃ m,W 0 m σ H)/\∀ i m σ H,W i m σ H ->
   ((Ite K a).stop i H/\D.nx σ H)\/((Ite K a).go i H/\∃ N:St->Hp->Prop,(∀ σ' H',N σ' H'->∃ m',m' < m/\W (i+1) m' σ' H')/\∀ x H',(Ite K a).yld i H x H'->g x σ H' λ σ2 H2=>tb { D with nx:=N,ct:=N,bk:=D.nx } σ2 H2):=by
 refine ⟨λ i m σ H=>m=xs.length - i/\i<=xs.length/\Pv i σ H,⟨xs.length,by simp,Nat.zero_le _,h0⟩,?_⟩
 rintro i m σ H ⟨rfl,hi,p⟩
 have q:=hl i σ H hi p
 by_cases hlt:i < xs.length
 ·refine .inr ⟨⟨xs,xs[i],q,by simp [hlt]⟩,Pv (i+1),λ σ' H' p'=>⟨xs.length - (i+1),by omega,rfl,hlt,p'⟩,λ x H' y=>?_⟩
  obtain ⟨pp,y0,rfl,nw,ex⟩:=y
  exact hs i y0 σ H pp H' (ex xs q) p nw
 ·have e:i=xs.length:=by omega
  subst e
  exact .inl ⟨⟨xs,q,Nat.le_refl _⟩,hd σ H p⟩
theorem c5N {K:Φρ} {a:Addr} {xs:List V} {ix:List (Option Nat)} {g:TG} {tt:TT} {te:TE} {σ:St} {H1:Hp} {Q:VK} (f:Nat->V->Option V) (hx:SqL K H1 a xs) (hz:xs.length<=1000)
  (hs:∀ (i:Nat) x H p H0 (N:Option V->Hp->Prop),xs[i]?=some x->Same H1 H->New H p (.tup [.int i,x]) H0->(∀ H',Same H1 H'->N (f i x) H')->g (.ref p) (capt ix σ) H0 λ σ2 H2=>tt σ2 H2 λ b H3=>if b=true then te σ2 H3 λ v H4=>N (some v) H4 else N none H3)
  (hd:∀ H p H',Same H1 H->New H p (.lst ((List.range xs.length).filterMap λ i=>(xs[i]?).bind (f i))) H'->Q (.ref p) H'):a3J ix g tt te σ H1 Q (Ite K a):=by
 refine ⟨λ i m ys H=>m=xs.length - i/\i<=xs.length/\ys=(List.range i).filterMap (λ i=>(xs[i]?).bind (f i))/\Same H1 H,⟨xs.length,by simp,Nat.zero_le _,rfl,Same.refl _⟩,?_⟩
 rintro i m ys H ⟨rfl,hi,e,s⟩
 have zy:ys.length<=sizeLine:=by
  rw [e]
  refine Nat.le_trans (List.length_filterMap_le _ _) ?_
  rw [List.length_range]; exact Nat.le_trans hi (Nat.le_of_lt (a0W hz))
 have q:=s.seq hx
 by_cases hlt:i < xs.length
 ·refine .inr ⟨⟨xs,xs[i],q,by simp [hlt]⟩,zy,λ ys' H'=>ys'=(List.range (i+1)).filterMap (λ i=>(xs[i]?).bind (f i))/\Same H1 H',λ ys' H' ⟨e',s'⟩=>⟨xs.length - (i+1),by omega,rfl,hlt,e',s'⟩,λ x H' y=>?_⟩
  obtain ⟨pp,y0,rfl,nw,ex⟩:=y
  have ey:=ex xs q
  refine hs i y0 H pp H' (λ o H'=>match o with | some v=>(ys++[v]=(List.range (i+1)).filterMap (λ i=>(xs[i]?).bind (f i))/\Same H1 H') | none=>(ys=(List.range (i+1)).filterMap (λ i=>(xs[i]?).bind (f i))/\Same H1 H')) ey s nw λ H' s'=>?_
  cases ef:f i y0 with
  | some v =>
   refine ⟨?_,s'⟩
   rw [e,List.range_succ,List.filterMap_append]
   simp [ey,ef]
  | none =>
   refine ⟨?_,s'⟩
   rw [e,List.range_succ,List.filterMap_append]
   simp [ey,ef]
 ·have e':i=xs.length:=by omega
  subst e'
  refine .inl ⟨⟨xs,q,Nat.le_refl _⟩,zy,λ p hp=>?_⟩
  subst e
  exact hd H p _ s (New.mk0 hp)
theorem a9O {K:Φρ} {a:Addr} {xs:List V} {ix:List (Option Nat)} {g:TG} {tt:TT} {te:TE} {σ:St} {H1:Hp} {Q:VK} (f:Nat->Option V) (hx:SqL K H1 a xs) (hz:xs.length<=1000)
  (hs:∀ (i:Nat) x H (N:Option V->Hp->Prop),xs[i]?=some x->Same H1 H->(∀ H',Same H1 H'->N (f i) H')->g x (capt ix σ) H λ σ2 H2=>tt σ2 H2 λ b H3=>if b=true then te σ2 H3 λ v H4=>N (some v) H4 else N none H3)
  (hd:∀ H p H',Same H1 H->New H p (.lst ((List.range xs.length).filterMap f)) H'->Q (.ref p) H'):a3J ix g tt te σ H1 Q (Itl K a):=by
 refine a3T (K:=K) (a:=a) (xs:=xs) (λ i ys H=>ys=(List.range i).filterMap f/\Same H1 H) ⟨rfl,Same.refl _⟩ (λ i ys H hi ⟨e,s⟩=>⟨s.seq hx,?_⟩) (λ i x ys H hi ⟨e,s⟩=>?_) λ ys H ⟨e,s⟩ p hp=>?_
 ·subst e
  refine Nat.le_trans (List.length_filterMap_le _ _) ?_
  rw [List.length_range]; exact Nat.le_trans hi (Nat.le_of_lt (a0W hz))
 ·refine hs i x H (λ o H'=>match o with | some v=>(ys++[v]=(List.range (i+1)).filterMap f/\Same H1 H') | none=>(ys=(List.range (i+1)).filterMap f/\Same H1 H')) hi s λ H' s'=>?_
  cases ef:f i with
  | some v =>
   refine ⟨?_,s'⟩
   rw [e,List.range_succ,List.filterMap_append]
   simp [ef]
  | none =>
   refine ⟨?_,s'⟩
   rw [e,List.range_succ,List.filterMap_append]
   simp [ef]
 ·subst e
  exact hd H p _ s (New.mk0 hp)
end L2
namespace Bg
open PySem L2 Lw
abbrev Row:=Option Int × List Int
def b1S (ns:List Int):Bool:=(List.range (ns.length - 1)).all λ i=>decide (ns.getD i 0 < ns.getD (i+1) 0)
def setF (n:Int) (ns:List Int):Bool:=(ns.all λ v=>decide (0<=v/\v < n)) && b1S ns
def a5W (n:Int):Option Int->Bool
 | none=>false
 | some i=>decide (0<=i/\i < n)
def upOk (k:Nat) (u:Option Int):Bool:=if k=0 then u.isNone else a5W k u
def a0I (rs:List Row) (k:Nat):Row:=rs.getD k (none,[])
def a2Q (n:Int) (rs:List Row) (k:Nat):Bool:=upOk k (a0I rs k).1 && setF n (a0I rs k).2
def a1G (n:Int) (rs:List Row):Option Nat:=if rs.isEmpty then some 0 else (List.range rs.length).find? λ k=>!a2Q n rs k
def has (v:Int) (r:Row):Bool:=decide (v∈r.2)
def a1J (n:Nat) (rs:List Row):Option Nat:=(List.range n).find? λ v=>!(rs.any (has v))
def a2C (ts:List ζζ) (rs:List Row):Option ζζ:=ts.find? λ t=>!(rs.any λ r=>has t.1 r && has t.2 r)
def a6M (rs:List Row) (u:Option Int) (v:Int):Bool:=match u with
 | none=>false
 | some i=>has v (a0I rs i.toNat)
def a3G (rs:List Row) (v:Int) (k:Nat):Bool:=has v (a0I rs k) && !a6M rs (a0I rs k).1 v
def a3D (rs:List Row) (v:Int):List Nat:=(List.range rs.length).filter (a3G rs v)
def a4O (rs:List Row) (v:Int):Option (Nat × Nat):=match a3D rs v with
 | j::k::_=>some (j,k)
 | _=>none
def a2B (n:Nat) (rs:List Row):Option (Nat × Nat × Nat):=(List.range n).findSome? λ (v:Nat)=>(a4O rs (v:Int)).map λ p=>(v,p.1,p.2)
inductive Flt where
 | ok | row (k:Nat) | place (v:Nat) | tie (a b:Int) | apart (v j k:Nat)
 deriving DecidableEq
def a2T (n:Nat) (ts:List ζζ) (rs:List Row):Flt:=match a1G n rs with
 | some k=>.row k
 | none=>match a1J n rs with
  | some v=>.place v
  | none=>match a2C ts rs with
   | some t=>.tie t.1 t.2
   | none=>match a2B n rs with
    | some p=>.apart p.1 p.2.1 p.2.2
    | none=>.ok
def upV:Option Int->V
 | none=>.non
 | some i=>.int i
def RowV (K:Φρ) (H:Hp) (v:V) (r:Row):Prop:=∃ p b,v = .ref p/\SqT K H p [upV r.1,.ref b]/\SqL K H b (r.2.map V.int)/\r.2.length<=1000
def RowsAt (K:Φρ) (H:Hp) (a:Addr) (rs:List Row):Prop:=∃ xs,SqL K H a xs/\Paired (RowV K H) xs rs/\rs.length<=1000
def TieV (K:Φρ) (H:Hp) (v:V) (t:Int × Int):Prop:=∃ p,v = .ref p/\SqT K H p [.int t.1,.int t.2]
def TiesAt (K:Φρ) (H:Hp) (a:Addr) (ts:List ζζ):Prop:=∃ xs,SqL K H a xs/\Paired (TieV K H) xs ts/\ts.length<=1000
def GraphV (K:Φρ) (H:Hp) (v:V) (n:Int) (ts:List ζζ):Prop:=∃ p a,v = .ref p/\SqT K H p [.int n,.ref a]/\TiesAt K H a ts
def FltV (H:Hp) (v:V):Flt->Prop
 | .ok=>v = .non
 | .row k=>∃ p,v = .ref p/\H p=some (.tup [.str "row", .int k])
 | .place x=>∃ p,v = .ref p/\H p=some (.tup [.str "place", .int x])
 | .tie a b=>∃ p,v = .ref p/\H p=some (.tup [.str "tie", .int a,.int b])
 | .apart x j k=>∃ p,v = .ref p/\H p=some (.tup [.str "apart", .int x,.int j,.int k])
theorem RowV.same {K:Φρ} {H H':Hp} {v:V} {r:Row} (e:Same H H') (h:RowV K H v r):RowV K H' v r:=by
 obtain ⟨p,b,h1,h2,h3,h4⟩:=h
 exact ⟨p,b,h1,e.tupq h2,e.seq h3,h4⟩
theorem RowsAt.same {K:Φρ} {H H':Hp} {a:Addr} {rs:List Row} (e:Same H H') (h:RowsAt K H a rs):RowsAt K H' a rs:=by
 obtain ⟨xs,h1,h2,h3⟩:=h
 exact ⟨xs,e.seq h1,Paired.mapP h2 λ _ _ q=>q.same e,h3⟩
theorem TiesAt.same {K:Φρ} {H H':Hp} {a:Addr} {ts:List ζζ} (e:Same H H') (h:TiesAt K H a ts):TiesAt K H' a ts:=by
 obtain ⟨xs,h1,h2,h3⟩:=h
 exact ⟨xs,e.seq h1,Paired.mapP h2 λ _ _ ⟨p,q1,q2⟩=>⟨p,q1,e.tupq q2⟩,h3⟩
theorem GraphV.same {K:Φρ} {H H':Hp} {v:V} {n:Int} {ts:List ζζ} (e:Same H H') (h:GraphV K H v n ts):GraphV K H' v n ts:=by
 obtain ⟨p,a,h1,h2,h3⟩:=h
 exact ⟨p,a,h1,e.tupq h2,h3.same e⟩
theorem a0U {α β:Type} {F:α->β->Prop}:∀ {xs:List α} {ys:List β} {i:Nat} {x:α},Paired F xs ys->xs[i]?=some x->∃ y,ys[i]?=some y/\F x y
 | _,_,_,_,.nil,h=>by simp at h
 | _,_,0,_,.cons h r,e=>by
  simp at e; subst e
  exact ⟨_,rfl,h⟩
 | _,_,i+1,_,.cons h r,e=>by
  obtain ⟨d,e1,q⟩:=a0U (i:=i) r (by simpa using e)
  exact ⟨d,by simpa using e1,q⟩
theorem a0Y {α β:Type} {F:α->β->Prop}:∀ {xs:List α} {ys:List β} {i:Nat} {y:β},Paired F xs ys->ys[i]?=some y->∃ x,xs[i]?=some x/\F x y
 | _,_,_,_,.nil,h=>by simp at h
 | _,_,0,_,.cons h r,e=>by
  simp at e; subst e
  exact ⟨_,rfl,h⟩
 | _,_,i+1,_,.cons h r,e=>by
  obtain ⟨d,e1,q⟩:=a0Y (i:=i) r (by simpa using e)
  exact ⟨d,by simpa using e1,q⟩
theorem a3L {rs:List Row} {i:Nat} {r:Row} (h:rs[i]?=some r):a0I rs i=r:=by
 unfold a0I; rw [τα,h]; rfl
theorem a1W {rs:List Row} {i:Nat} (h:i < rs.length):rs[i]?=some (a0I rs i):=by
 unfold a0I; rw [τα,List.getElem?_eq_getElem h]; rfl
theorem b1T (rs:List Row) (p:Row->Bool):((List.range rs.length).map λ i=>p (a0I rs i)).any id=rs.any p:=by
 rw [List.any_map,Bool.eq_iff_iff]
 simp only [List.any_eq_true,List.mem_range,Function.comp,id]
 constructor
 ·rintro ⟨i,hi,h⟩
  exact ⟨a0I rs i,List.mem_of_getElem? (a1W hi),h⟩
 ·rintro ⟨r,hr,h⟩
  obtain ⟨i,hi,rfl⟩:=List.getElem_of_mem hr
  exact ⟨i,hi,by rw [a3L (List.getElem?_eq_getElem hi)]; exact h⟩
theorem b0I {α:Type} {p:α->Bool}:∀ {l:List α} {i:Nat} {x:α},l[i]?=some x->p x=true->(∀ j z,j < i->l[j]?=some z->p z=false)->l.find? p=some x
 | [],_,_,h,_,_=>by simp at h
 | y::r,0,x,h,hp,_=>by
  simp at h; subst h
  rw [List.find?_cons,hp]
 | y::r,i+1,x,h,hp,hn=>by
  have h0:=hn 0 y (Nat.succ_pos _) rfl
  rw [List.find?_cons,h0]
  exact b0I (i:=i) (by simpa using h) hp λ j z hj hz=>hn (j+1) z (Nat.succ_lt_succ hj) (by simpa using hz)
theorem a5X {α β:Type} {f g:α->Option β}:∀ {l:List α},(∀ x∈l,f x=g x)->l.filterMap f=l.filterMap g
 | [],_=>rfl
 | x::r,h=>by
  have ih:=a5X (f:=f) (g:=g) (l:=r) λ y hy=>h y (List.mem_cons_of_mem _ hy)
  rw [List.filterMap_cons,List.filterMap_cons,h x List.mem_cons_self,ih]
theorem a4D {α β:Type} {f:α->Option β}:∀ {l:List α},(∀ x∈l,f x=none)->l.findSome? f=none
 | [],_=>rfl
 | x::r,h=>by
  rw [List.findSome?_cons,h x List.mem_cons_self]
  exact a4D λ y hy=>h y (List.mem_cons_of_mem _ hy)
theorem a4P {α β:Type} {f:α->Option β}:∀ {l m:List α},(∀ x∈l,f x=none)->(l++m).findSome? f=m.findSome? f
 | [],_,_=>rfl
 | x::r,m,h=>by
  rw [List.cons_append,List.findSome?_cons,h x List.mem_cons_self]
  exact a4P λ y hy=>h y (List.mem_cons_of_mem _ hy)
theorem a8Y {β:Type} {f:Nat->Option β} {n i:Nat} {b:β} (hi:i < n) (h:f i=some b) (hn:∀ j < i,f j=none):(List.range n).findSome? f=some b:=by
 have e:n=i+(n - i):=by omega
 rw [e,List.range_add]
 rw [a4P λ x hx=>hn x (List.mem_range.mp hx)]
 obtain ⟨k,hk⟩:∃ k,n - i=k+1:=⟨n - i - 1,by omega⟩
 rw [hk,List.range_succ_eq_map,List.map_cons,List.findSome?_cons,Nat.add_zero,h]
theorem a5J {β:Type} {f:Nat->Option β} {n:Nat} (hn:∀ j < n,f j=none):(List.range n).findSome? f=none:=a4D λ x hx=>hn x (List.mem_range.mp hx)
theorem b8C (ns:List Int) (v:Int):(ns.map PyData.int).any (λ e=>PyData.eqv e (.int v))=decide (v∈ns):=by
 induction ns with
 | nil=>rfl
 | cons a r ih =>
  rw [List.map_cons,List.any_cons,ih,PyData.eqv]
  by_cases h:a=v
  ·subst h; simp
  ·have h':¬ v=a:=λ z=>h z.symm
   simp [h,h']
theorem b6K (ns:List Int):PyData.depthAll (ns.map PyData.int)=0:=by
 induction ns with
 | nil=>rfl
 | cons a r ih=>rw [List.map_cons,PyData.depthAll,ih]; rfl
theorem c1U (ns:List Int):PyData.canLayAll0 (ns.map PyData.int)=true:=by
 induction ns with
 | nil=>rfl
 | cons a r ih=>rw [List.map_cons,PyData.canLayAll0,ih]; rfl
theorem a3M (ns:List Int):SeqAt.shaped (.list (ns.map PyData.int))=true:=by
 unfold SeqAt.shaped
 rw [PyData.canLay0,c1U,PyData.depth,b6K]
 decide
theorem b4S (ns ms:List Int):PyData.eqv (.list (ns.map PyData.int)) (.list (ms.map PyData.int))=decide (ns=ms):=by
 rw [PyData.eqv]
 exact PySem.W.ked_eqvAll ns ms
theorem a4I {K:Φρ} {H:Hp} {b:Addr} {ns:List Int} {v:Int} {Q:VK} (hS:SqL K H b (ns.map V.int)) (q:Q (.bl (decide (v∈ns))) H):rInD K false (.int v) (.ref b) H Q :=
 ⟨_,_,.int v,.lst hS (IsDs.ints ns),rfl,a3M ns,by rw [b8C]; exact q⟩
theorem a5Y {K:Φρ} {H:Hp} {b:Addr} {ns:List Int} {v:Int} {Q:VK} (hS:SqL K H b (ns.map V.int)) (q:Q (.bl (!decide (v∈ns))) H):rInD K true (.int v) (.ref b) H Q :=
 ⟨_,_,.int v,.lst hS (IsDs.ints ns),rfl,a3M ns,by rw [b8C]; exact q⟩
end Bg
namespace L2
open PySem PySem.Spec PyProof.Rows
def d1U:V->V->V->Hp->(Hp->Prop)->Prop:=λ o i v H Q=>∃ p xs k j,o = .ref p/\i = .int k/\H p=some (.lst xs)/\ixN xs.length k=some j/\∀ H',Chg H p (.lst (xs.set j v)) H'->Q H'
theorem b1U {X:Cx}:PSet X d1U:=λ pins s σ H o i v ov iv u Q I ro ri rv ⟨p,xs,k,j,e1,e2,h1,h2,q⟩=>c1N pins s σ H o i v ov iv u Q I ro ri rv ⟨p,xs,k,j,e1,e2,h1,h2,q _ Chg.mk0⟩
theorem b8D {n j:Nat} (h:j < n):ixN n (j:Int)=some j:=by
 unfold ixN
 rw [if_pos (by omega),if_pos (by omega)]; simp
theorem Same.chg {H H':Hp} {l:Addr} {o:HO} {H0:Hp} (s:Same H0 H) (h0:H0 l=none) (c:Chg H l o H'):Same H0 H':=λ b u e=>(c.rest b (a1C e h0)).trans (s b u e)
end L2
namespace Bg
open PySem L2 Lw
theorem b8E (a b:Int) (r:List Int):b1S (a::b::r)=(decide (a < b) && b1S (b::r)):=by
 unfold b1S
 have e:(a::b::r).length - 1=(b::r).length - 1+1:=by simp
 rw [e,List.range_succ_eq_map,List.all_cons,List.all_map]
 rfl
theorem b4T:∀ ls:List Int,b1S ls=true↔ls.Pairwise (· < ·)
 | []=>by simp [b1S]
 | [a]=>by simp [b1S]
 | a::b::r=>by
  rw [b8E,Bool.and_eq_true,b4T (b::r),decide_eq_true_iff,List.pairwise_cons (a:=a)]
  constructor
  ·rintro ⟨h1,h2⟩
   refine ⟨λ c hc=>?_,h2⟩
   rcases List.mem_cons.mp hc with rfl | hc
   ·exact h1
   ·exact Int.lt_trans h1 ((List.pairwise_cons.mp h2).1 c hc)
  ·rintro ⟨h1,h2⟩
   exact ⟨h1 b List.mem_cons_self,h2⟩
theorem a3U (n:Int) (ls:List Int):setF n ls=true↔(∀ v∈ls,0<=v/\v < n)/\ls.Pairwise (· < ·):=by
 unfold setF
 rw [Bool.and_eq_true,b4T,List.all_eq_true]
 constructor
 ·rintro ⟨h1,h2⟩
  exact ⟨λ v hv=>of_decide_eq_true (h1 v hv),h2⟩
 ·rintro ⟨h1,h2⟩
  exact ⟨λ v hv=>decide_eq_true (h1 v hv),h2⟩
def TieL (H:Hp) (v:V) (t:Int × Int):Prop:=∃ p,v = .ref p/\H p=some (.tup [.int t.1,.int t.2])
def RowL (l:Addr) (H:Hp) (v:V) (r:Row):Prop:=∃ p b,v = .ref p/\H p=some (.tup [upV r.1,.ref b])/\H b=some (.lst (r.2.map V.int))/\b≠l/\r.2.length<=1000
theorem TieL.v {K:Φρ} {H:Hp} {v:V} {t:Int × Int} (h:TieL H v t):TieV K H v t:=by
 obtain ⟨p,e,q⟩:=h
 exact ⟨p,e,SqT.of q⟩
theorem TieL.same {H H':Hp} {v:V} {t:Int × Int} (s:Same H H') (h:TieL H v t):TieL H' v t:=by
 obtain ⟨p,e,q⟩:=h
 exact ⟨p,e,s _ _ q⟩
theorem TieL.chg {H H':Hp} {l:Addr} {xs ys:List V} {v:V} {t:Int × Int} (hl:H l=some (.lst xs)) (c:Chg H l (.lst ys) H') (h:TieL H v t):TieL H' v t:=by
 obtain ⟨p,e,q⟩:=h
 exact ⟨p,e,(c.rest p (c8A q hl (by intro z; cases z))).trans q⟩
theorem a0Z {α β:Type} {F:α->β->Prop}:∀ {xs:List α} {ys:List β} {x:α} {y:β},Paired F xs ys->F x y->Paired F (xs++[x]) (ys++[y])
 | _,_,_,_,.nil,h=>.cons h .nil
 | _,_,_,_,.cons h r,q=>.cons h (a0Z r q)
def tieD (t:Int × Int):PyData:=.tuple [.int t.1,.int t.2]
theorem TieV.isD {K:Φρ} {H:Hp} {v:V} {t:Int × Int} (h:TieV K H v t):IsD K H v (tieD t):=by
 obtain ⟨p,rfl,q1⟩:=h
 exact .tup q1 (.cons (.int _) (.cons (.int _) .nil))
theorem b0J {K:Φρ} {H:Hp} {α:Type} {F:V->α->Prop} {f:α->PyData} (hf:∀ v x,F v x->IsD K H v (f x)):∀ {xs:List V} {ys:List α},Paired F xs ys->IsDs K H xs (ys.map f)
 | _,_,.nil=>.nil
 | _,_,.cons h r=>.cons (hf _ _ h) (b0J hf r)
def c5O (ts:List ζζ):PyData:=.list (ts.map tieD)
theorem TiesAt.isD {K:Φρ} {H:Hp} {a:Addr} {ts:List ζζ} (h:TiesAt K H a ts):IsD K H (.ref a) (c5O ts):=by
 obtain ⟨xs,h1,h2,_⟩:=h
 exact .lst h1 (b0J (λ v x q=>q.isD) h2)
theorem b0K {α:Type} {f:α->PyData} (h:∀ x,(f x).canLay0=true):∀ l:List α,PyData.canLayAll0 (l.map f)=true
 | []=>rfl
 | x::r=>by rw [List.map_cons,PyData.canLayAll0,h x,b0K h r]; rfl
theorem a4Q {α:Type} {f:α->PyData} {k:Nat} (h:∀ x,(f x).depth<=k):∀ l:List α,PyData.depthAll (l.map f)<=k
 | []=>Nat.zero_le _
 | x::r=>by
  rw [List.map_cons,PyData.depthAll]
  exact Nat.max_le.mpr ⟨h x,a4Q h r⟩
theorem b8F (t:Int × Int):(tieD t).canLay0=true:=rfl
theorem b1V (t:Int × Int):(tieD t).depth<=1:=by
 unfold tieD
 simp [PyData.depth,PyData.depthAll]
theorem b3L (ts:List ζζ):SeqAt.shaped (c5O ts)=true:=by
 unfold SeqAt.shaped c5O
 rw [PyData.canLay0,b0K b8F,PyData.depth,Bool.true_and]
 exact decide_eq_true (by have:=a4Q b1V ts; omega)
end Bg
set_option maxHeartbeats 4100000
namespace L2
open PySem PySem.Spec PyProof.Rows
section
variable {X:Cx} {K:Φρ} {a b:Expr} {rest:List Expr} {pos:Pos} {ta tb:TE}
def c8X (K:Φρ):List V->Hp->VK->Prop:=λ xs H Q=>∃ p ys,xs=[.ref p]/\SqL K H p ys/\Q (.bl (!ys.isEmpty)) H
theorem a8Z (x:Value):Meets (Builtin.«bool.__new__» ⟨[.type "bool", x],[]⟩) (λ _ R s=>∃ (c:Bool) (tk:Nat),(∀ (prog:Program) (w:World) (A':Around) (E':Value->Shared->Prop) (Q':Bool->Shared->Prop),Q' c { s with toks:=tk }->wpAny (model prog w) A' (truthy x) Q' E' s)/\R (.ok (.ret (.bool c))) { s with toks:=tk }) :=
 Meets.of_wp λ prog w A R s hs=>by
  obtain ⟨c,tk,ht,hr⟩:=hs
  have f1:=F.conv_sub_bool
  obtain ⟨hp,g,d,tk0,os⟩:=s
  repeat (any_goals (first | assumption | (with_reducible refine ht _ _ _ _ _ ?_) | wp_step))
  all_goals first | exact ⟨_,rfl,hr⟩ | exact hr | skip
theorem b6L (e:X.K=K):CallR X (.type "bool") (c8X K):=by
 subst e
 intro pins s σ H xs us Q I r h
 obtain ⟨p,ys,rfl,hL,q⟩:=h
 obtain ⟨u,rfl,rx⟩:=a7F r
 cases rx
 obtain ⟨its,r',pl,hz⟩:=I.list hL
 have hlen:=r'.length
 have hl:=a9L
 refine call_bool_1 (a8Z (.ref p)) ⟨!its.toArray.isEmpty,s.toks+1+1,λ prog w A' E' Q' q'=>wpAny_truthy_list pl.isList (by simp only [List.size_toArray]; omega) q',?_⟩
 refine (show wants (λ obj s₁=>s₁.TypeIs obj "bool" /\ EP X pins σ Q obj s₁) _ _ _ from ⟨rfl,.bl (!its.toArray.isEmpty),H,I.tok _,rfl,?_⟩)
 rw [a6I r']
 exact q
end
end L2
set_option maxHeartbeats 4100000
namespace L2
open PySem PySem.Spec PyProof.Rows
section
variable {X:Cx} {K:Φρ} {a b:Expr} {rest:List Expr} {pos:Pos} {ta tb:TE}
def d1V (K:Φρ) (ta tb:TE):TE:=λ σ H Q=>ta σ H λ x H1=>∃ k,TruV K x H1 k/\if k=true then tb σ H1 Q else Q x H1
theorem c5P (e:X.K=K) (ha:PE X a ta) (hb:PE X (.BoolOp .And (b::rest) pos) tb):PE X (.BoolOp .And (a::b::rest) pos) (d1V K ta tb):=by
 subst e
 intro pins s σ H Q I h
 refine BoolOp_and (thn (ha pins s σ H _ I h) λ v s1 ⟨x,H1,I1,r1,q1⟩=>?_)
 obtain ⟨k,tk,q1⟩:=q1
 refine thn (b4O pins s1 σ H1 x v (λ c H2=>c=k/\H2=H1) I1 r1 ⟨k,tk,rfl,rfl⟩) λ c s2 ⟨H2,I2,q2⟩=>?_
 obtain ⟨rfl,rfl⟩:=q2
 cases c with
 | true=>exact hb pins s2 σ H2 Q I2 q1
 | false=>exact ⟨x,H2,I2,r1,q1⟩
end
end L2
set_option maxHeartbeats 4100000
namespace L2
open PySem PySem.Spec PyProof.Rows
section
variable {K:Φρ} {a:Addr} {xs:List V} {ix:List (Option Nat)} {g:TG} {tt:TT} {te:TE} {σ:St} {H1:Hp} {Q:VK}
theorem c5Q (f:V->Option V) (hx:SqT K H1 a xs) (hz:xs.length<=1000)
  (hs:∀ x H (N:Option V->Hp->Prop),x∈xs->Same H1 H->(∀ H',Same H1 H'->N (f x) H')->g x (capt ix σ) H λ σ2 H2=>tt σ2 H2 λ b H3=>if b=true then te σ2 H3 λ v H4=>N (some v) H4 else N none H3)
  (hd:∀ H p H',Same H1 H->New H p (.lst (xs.filterMap f)) H'->Q (.ref p) H'):a3J ix g tt te σ H1 Q (Itt K a):=by
 refine ⟨λ i m ys H=>m=xs.length - i/\i<=xs.length/\ys=(xs.take i).filterMap f/\Same H1 H,⟨xs.length,by simp,Nat.zero_le _,rfl,Same.refl _⟩,?_⟩
 rintro i m ys H ⟨rfl,hi,e,s⟩
 have q:=s.tupq hx
 have z:ys.length<=sizeLine:=by
  subst e
  refine Nat.le_trans (List.length_filterMap_le _ _) (Nat.le_trans ?_ (Nat.le_of_lt (a0W hz)))
  rw [List.length_take]; exact Nat.min_le_right _ _
 by_cases hlt:i < xs.length
 ·refine .inr ⟨⟨xs,xs[i],q,by simp [hlt]⟩,z,λ ys' H'=>ys'=(xs.take (i+1)).filterMap f/\Same H1 H',λ ys' H' p'=>⟨xs.length - (i+1),by omega,rfl,hlt,p'⟩,λ x H' y=>?_⟩
  obtain ⟨e',y⟩:=y
  subst e'
  have hx':=y xs q
  have hm:x∈xs:=List.mem_of_getElem? hx'
  obtain ⟨hil,hix⟩:=List.getElem?_eq_some_iff.mp hx'
  have et:xs.take (i+1)=xs.take i++[x]:=by rw [List.take_succ_eq_append_getElem hil,hix]
  refine hs x _ (λ o H'=>match o with | some v=>(ys++[v]=(xs.take (i+1)).filterMap f/\Same H1 H') | none=>(ys=(xs.take (i+1)).filterMap f/\Same H1 H')) hm s λ H' s'=>?_
  cases ef:f x with
  | some v=>exact ⟨by rw [e,et,List.filterMap_append]; simp [ef],s'⟩
  | none=>exact ⟨by rw [e,et,List.filterMap_append]; simp [ef],s'⟩
 ·have ei:i=xs.length:=by omega
  subst ei
  refine .inl ⟨⟨xs,q,Nat.le_refl _⟩,z,λ p hp=>?_⟩
  subst e
  rw [List.take_length]
  exact hd H p _ s (New.mk0 hp)
end
section
variable {X:Cx} {K:Φρ}
def d1W (K:Φρ):V->Option Int->Option Int->Hp->VK->Prop:=λ x lo hi H Q=>∃ a xs,x = .ref a/\SqT K H a xs /\
 ¬ (HT.sIx xs.length 0 lo=0/\HT.sIx xs.length xs.length hi=xs.length)/\∀ p H',New H p (.tup (cutV xs lo hi)) H'->Q (.ref p) H'
theorem b3M (e:X.K=K):SlR X (d1W K):=by
 subst e
 exact λ pins s σ H x v vl vu lo hi sl Q I rx hs pl pu ⟨a,xs,e,h,hw,q⟩=>c8M pins s σ H x v vl vu lo hi sl Q I rx hs pl pu ⟨a,xs,e,h,hw,λ p hp=>q p _ (New.mk0 hp)⟩
end
end L2
namespace Srt
open PySem PySem.W PyProof.Rows
def Ok (n:Nat) (key:Nat->Int) {α:Type}:KasT α->(α->Prop)->Prop
 | .ret a,Q=>Q a
 | .ask i j k,Q=>i < n/\j < n/\Ok n key (k (decide (key i < key j))) Q
section
variable {n:Nat} {key:Nat->Int} {α β:Type}
theorem Ok.mono {Q Q':α->Prop} (h:∀ a,Q a->Q' a):∀ {t:KasT α},Ok n key t Q->Ok n key t Q'
 | .ret _,x=>h _ x
 | .ask _ _ _,⟨a,b,x⟩=>⟨a,b,Ok.mono h x⟩
theorem Ok.bind {f:α->KasT β} {Q:β->Prop}:∀ {t:KasT α},Ok n key t (λ a=>Ok n key (f a) Q)->Ok n key (t.bind f) Q
 | .ret _,x=>x
 | .ask _ _ _,⟨a,b,x⟩=>⟨a,b,Ok.bind x⟩
theorem Ok.wp {cmp:Nat->Nat->(Bool->Shared->Prop)->Shared->Prop} {s:Shared} {Q:α->Prop} {R:α->Shared->Prop} (hc:∀ i j (C:Bool->Shared->Prop),i < n->j < n->C (decide (key i < key j)) s->cmp i j C s) (hq:∀ a,Q a->R a s) :
  ∀ {t:KasT α},Ok n key t Q->t.kasWp cmp R s
 | .ret _,x=>hq _ x
 | .ask i j k,⟨a,b,x⟩=>hc i j _ a b (Ok.wp hc hq x)
structure Pm (n:Nat) (p:Array Nat):Prop where
 perm:p.Perm (List.range n).toArray
theorem Pm.size {p:Array Nat} (h:Pm n p):p.size=n:=by
 have:=h.perm.size_eq
 simpa using this
theorem Pm.lt {p:Array Nat} (h:Pm n p) {i:Nat} (hi:i < n):p.getD i 0 < n:=by
 have hs:=h.size
 have hi':i < p.size:=by omega
 have hm:p[i]∈(List.range n):=by
  have:=(Array.perm_iff_toList_perm.mp h.perm).mem_iff (a:=p[i])
  simpa using this
 have:p.getD i 0=p[i]:=by simp [Array.getD,hi']
 rw [this]; exact List.mem_range.mp hm
theorem Pm.of {p q:Array Nat} (h:Pm n p) (e:q.Perm p):Pm n q:=⟨e.trans h.perm⟩
def KK (key:Nat->Int) (p:Array Nat) (i:Nat):Int:=key (p.getD i 0)
theorem a9P (p:Array Nat) (i:Nat):p.getD i 0=(p[i]?).getD 0:=by simp [Array.getD_eq_getD_getElem?]
theorem b1W {p:Array Nat} {i j:Nat} (hj:j<=p.size) (k:Nat):KK key (kas_rev p i j) k=if i<=k/\k < j then KK key p (i+j - 1 - k) else KK key p k:=by
 unfold KK kas_rev
 rw [a9P,getElem?_mirror_all hj]
 split <;> rw [a9P]
theorem c4F {p:Array Nat} {k d:Nat} (hk:k < p.size) (hd:d<=k) (i:Nat):KK key (bubble p k d) i=if i=k - d then KK key p k else if k - d < i/\i<=k then KK key p (i - 1) else KK key p i:=by
 unfold KK
 rw [a9P,a9P p k,a9P p (i - 1),a9P p i,getElem?_bubble hk d hd]
 split
 ·rfl
 ·split <;> rfl
def Srtd (key:Nat->Int) (p:Array Nat) (m:Nat):Prop:=∀ i j,i<=j->j < m->KK key p i<=KK key p j
def Down (key:Nat->Int) (p:Array Nat) (m:Nat):Prop:=∀ i j,i<=j->j < m->KK key p j<=KK key p i
theorem Pm.rev {p:Array Nat} (h:Pm n p) (i j:Nat):Pm n (kas_rev p i j):=h.of (mirror_perm _ _ _ _)
theorem b8G {p:Array Nat} (hp:Pm n p):∀ (f m:Nat),1<=m->m+f<=n->Srtd key p m->Ok n key (kas_asc p f m) (λ r=>m<=r/\r<=m+f/\Srtd key p r/\(r=m+f\/KK key p r < KK key p (r - 1)))
 | 0,m,_,_,hs=>⟨Nat.le_refl _,Nat.le_refl _,hs,.inl rfl⟩
 | f+1,m,h1,hm,hs=>by
  refine ⟨hp.lt (by omega),hp.lt (by omega),?_⟩
  by_cases c:key (p.getD m 0) < key (p.getD (m - 1) 0)
  ·rw [decide_eq_true c]; dsimp only; rw [if_pos rfl]
   exact ⟨Nat.le_refl _,by omega,hs,.inr c⟩
  ·rw [decide_eq_false c]; dsimp only; rw [if_neg Bool.false_ne_true]
   refine Ok.mono (λ r ⟨a,b,d,e⟩=>⟨by omega,by omega,d,?_⟩) (b8G hp f (m+1) (by omega) (by omega) ?_)
   ·intro i j hij hj
    by_cases hjm:j < m
    ·exact hs i j hij hjm
    ·have:j=m:=by omega
     subst this
     by_cases hi:i=j
     ·subst hi; exact Int.le_refl _
     ·have q:=hs i (j - 1) (by omega) (by omega)
      have c':KK key p (j - 1)<=KK key p j:=by unfold KK; omega
      omega
   ·rcases e with e | e
    ·exact .inl (by omega)
    ·exact .inr e
theorem b4U {p:Array Nat} (hp:Pm n p) {m:Nat} (h1:1<=m) (hm:m<=n) (hd:Down key p m):Ok n key (kas_tail3 m n p) (λ r=>Pm n r.2/\1<=r.1/\r.1<=n/\Srtd key r.2 r.1):=by
 refine Ok.bind (Ok.mono (λ r ⟨a,b,c,_⟩=>?_) (b8G (hp.rev 0 m) (n - m) m h1 (by omega) ?_))
 ·intro i j hij hj
  have hs:=hp.size
  rw [b1W (by omega),b1W (by omega),if_pos (by omega),if_pos (by omega)]
  exact hd _ _ (by omega) (by omega)
 ·exact ⟨hp.rev 0 m,by show 1<=r; omega,by show r<=n; omega,c⟩
theorem a8B {p:Array Nat} {m q:Nat} (hm:m<=p.size) (he:∀ i,m - (q+1)<=i->i < m->KK key p i=KK key p (m - 1)) (k:Nat):KK key (kas_rev p (m - (q+1)) m) k=KK key p k:=by
 rw [b1W hm]
 by_cases c:m - (q+1)<=k/\k < m
 ·rw [if_pos c,he k c.1 c.2,he _ (by omega) (by omega)]
 ·rw [if_neg c]
theorem b0L:∀ (f:Nat) {p:Array Nat} (m q:Nat),Pm n p->1<=m->m+f<=n->Down key p m->q+1<=m->(∀ i,m - (q+1)<=i->i < m->KK key p i=KK key p (m - 1)) ->
  Ok n key (kas_desc f p m q) (λ r=>Pm n r.1/\1<=r.2.1/\r.2.1<=n/\Down key r.1 r.2.1/\r.2.2+1<=r.2.1/\∀ i,r.2.1 - (r.2.2+1)<=i->i < r.2.1->KK key r.1 i=KK key r.1 (r.2.1 - 1))
 | 0,p,m,q,hp,h1,hm,hd,hq,he=>⟨hp,h1,by show m<=n; omega,hd,hq,he⟩
 | f+1,p,m,q,hp,h1,hm,hd,hq,he=>by
  refine ⟨hp.lt (by omega),hp.lt (by omega),?_⟩
  have hs:=hp.size
  have one:∀ (p':Array Nat),(∀ k,KK key p' k=KK key p k)->KK key p m<=KK key p (m - 1)->Down key p' (m+1):=λ p' hk c i j hij hj=>by
   rw [hk,hk]
   by_cases hjm:j < m
   ·exact hd i j hij hjm
   ·have:j=m:=by omega
    subst this
    by_cases hi:i=j
    ·subst hi; exact Int.le_refl _
    ·have:=hd i (j - 1) (by omega) (by omega); omega
  by_cases c:key (p.getD m 0) < key (p.getD (m - 1) 0)
  ·rw [decide_eq_true c]; dsimp only; rw [if_pos rfl]
   have c1:KK key p m<=KK key p (m - 1):=by unfold KK; omega
   by_cases hq0:q > 0
   ·rw [if_pos hq0]
    exact b0L f (m+1) 0 (hp.rev _ _) (by omega) (by omega) (one _ (a8B (by omega) he) c1) (by omega) λ i a b=>by congr 1; omega
   ·rw [if_neg hq0]
    exact b0L f (m+1) 0 hp (by omega) (by omega) (one _ (λ _=>rfl) c1) (by omega) λ i a b=>by congr 1; omega
  ·rw [decide_eq_false c]; dsimp only; rw [if_neg Bool.false_ne_true]
   refine ⟨hp.lt (by omega),hp.lt (by omega),?_⟩
   by_cases d:key (p.getD (m - 1) 0) < key (p.getD m 0)
   ·rw [decide_eq_true d]; dsimp only; rw [if_pos rfl]
    exact ⟨hp,h1,by show m<=n; omega,hd,hq,he⟩
   ·rw [decide_eq_false d]; dsimp only; rw [if_neg Bool.false_ne_true]
    have e:KK key p m=KK key p (m - 1):=by unfold KK; omega
    refine b0L f (m+1) (q+1) hp (by omega) (by omega) (one _ (λ _=>rfl) (by omega)) (by omega) λ i a b=>?_
    rw [show m+1 - 1=m by omega]
    by_cases hi:i=m
    ·subst hi; rfl
    ·rw [e]; exact he i (by omega) (by omega)
theorem a8C {p:Array Nat} (hp:Pm n p) {m:Nat} (hm:m+1<=n) (hd:Down key p (m+1)):Ok n key (kas_descPart m n p) (λ r=>Pm n r.2/\1<=r.1/\r.1<=n/\Srtd key r.2 r.1):=by
 refine Ok.bind (Ok.mono (λ r ⟨a,b,c,d,e,g⟩=>?_) (b0L (n - (m+1)) (m+1) 0 hp (by omega) (by omega) hd (by omega) λ i x y=>by congr 1; omega))
 have hs:=a.size
 by_cases q:r.2.2 > 0
 ·rw [if_pos q]
  exact b4U (a.rev _ _) b c λ i j x y=>by rw [a8B (by omega) g,a8B (by omega) g]; exact d i j x y
 ·rw [if_neg q]
  exact b4U a b c d
theorem c1V {p:Array Nat} (hp:Pm n p) (h1:1<=n):Ok n key (kas_count n p) (λ r=>Pm n r.2/\1<=r.1/\r.1<=n/\Srtd key r.2 r.1):=by
 refine Ok.bind (Ok.mono (λ m ⟨a,b,c,d⟩=>?_) (b8G hp (n - 1) 1 (Nat.le_refl _) (by omega) λ i j x y=>by have:i=j:=(by omega); subst this; exact Int.le_refl _))
 by_cases e:m=n
 ·rw [if_pos (by simpa using e)]
  exact ⟨hp,a,by omega,c⟩
 ·rw [if_neg (by simpa using e)]
  have lt:KK key p m < KK key p (m - 1):=by
   rcases d with d | d
   ·omega
   ·exact d
  have hs:=hp.size
  by_cases g:m > 1
  ·rw [if_pos g]
   refine ⟨hp.lt (by omega),hp.lt (by omega),?_⟩
   by_cases z:key (p.getD 0 0) < key (p.getD (m - 1) 0)
   ·rw [decide_eq_true z]; dsimp only; rw [if_pos rfl]
    exact ⟨hp,a,by show m<=n; omega,c⟩
   ·rw [decide_eq_false z]; dsimp only; rw [if_neg Bool.false_ne_true]
    refine a8C (hp.rev _ _) (by omega) ?_
    have z':KK key p (m - 1)<=KK key p 0:=by unfold KK; omega
    have all:∀ i,i < m->KK key p i=KK key p 0:=λ i hi=>by
     have q1:=c 0 i (by omega) hi
     have q2:=c i (m - 1) (by omega) (by omega)
     omega
    intro i j hij hj
    rw [b1W (by omega),b1W (by omega)]
    by_cases hjm:j < m
    ·rw [if_pos (by omega),if_pos (by omega)]
     have u1:=all (0+m - 1 - j) (by omega)
     have u2:=all (0+m - 1 - i) (by omega)
     omega
    ·have:j=m:=by omega
     subst this
     rw [if_neg (by omega)]
     by_cases hi:i < j
     ·rw [if_pos (by omega)]
      have u1:=all (j - 1) (by omega)
      have u2:=all (0+j - 1 - i) (by omega)
      omega
     ·rw [if_neg (by omega)]
      have:i=j:=by omega
      subst this; exact Int.le_refl _
  ·rw [if_neg g]
   have m1:m=1:=by omega
   subst m1
   refine a8C hp (by omega) λ i j hij hj=>?_
   by_cases hi:i=j
   ·subst hi; exact Int.le_refl _
   ·have i0:i=0:=by omega
    have j1:j=1:=by omega
    subst i0; subst j1
    exact Int.le_of_lt lt
theorem b0M {p:Array Nat} (hp:Pm n p) {k:Nat} (hk:k < n) (hs:Srtd key p k):∀ (f l r:Nat),l<=r->r<=k->r - l<=f->(∀ i,i < l->KK key p i<=KK key p k)->(∀ i,r<=i->i < k->KK key p k < KK key p i) ->
  Ok n key (kas_place p k f l r) (λ l=>l<=k/\(∀ i,i < l->KK key p i<=KK key p k)/\∀ i,l<=i->i < k->KK key p k < KK key p i)
 | 0,l,r,h1,h2,h3,lo,hi=>⟨by omega,lo,λ i a b=>hi i (by omega) b⟩
 | f+1,l,r,h1,h2,h3,lo,hi=>by
  unfold kas_place
  by_cases c:l ≥ r
  ·rw [if_pos c]
   exact ⟨by omega,lo,λ i a b=>hi i (by omega) b⟩
  ·rw [if_neg c]
   refine ⟨hp.lt hk,hp.lt (by omega),?_⟩
   by_cases d:key (p.getD k 0) < key (p.getD ((l+r) / 2) 0)
   ·rw [decide_eq_true d]; dsimp only; rw [if_pos rfl]
    refine b0M hp hk hs f l ((l+r) / 2) (by omega) (by omega) (by omega) lo λ i a b=>?_
    have:=hs ((l+r) / 2) i a b
    have d':KK key p k < KK key p ((l+r) / 2):=d
    omega
   ·rw [decide_eq_false d]; dsimp only; rw [if_neg Bool.false_ne_true]
    refine b0M hp hk hs f ((l+r) / 2+1) r (by omega) h2 (by omega) (λ i a=>?_) hi
    have:=hs i ((l+r) / 2) (by omega) (by omega)
    have d':KK key p ((l+r) / 2)<=KK key p k:=by unfold KK; omega
    omega
theorem c4G:∀ (f:Nat) {p:Array Nat} (k:Nat),Pm n p->k+f=n->Srtd key p k->Ok n key (kas_bin f p k) (λ p=>Pm n p/\Srtd key p n)
 | 0,p,k,hp,hk,hs=>⟨hp,by have:k=n:=(by omega); rw [<- this]; exact hs⟩
 | f+1,p,k,hp,hk,hs=>by
  refine Ok.bind (Ok.mono (λ l ⟨a,lo,hi⟩=>?_) (b0M hp (by omega) hs k 0 k (by omega) (Nat.le_refl _) (by omega) (λ i h=>by omega) λ i h1 h2=>by omega))
  have hz:=hp.size
  refine c4G f (k+1) (hp.of (bubble_perm _ _ _)) (by omega) λ i j hij hj=>?_
  rw [c4F (by omega) (by omega),c4F (by omega) (by omega)]
  rw [show k - (k - l)=l by omega]
  by_cases i1:i=l
  ·rw [if_pos i1]
   by_cases j1:j=l
   ·rw [if_pos j1]; exact Int.le_refl _
   ·rw [if_neg j1,if_pos (by omega)]
    exact Int.le_of_lt (hi (j - 1) (by omega) (by omega))
  ·rw [if_neg i1]
   by_cases i2:l < i/\i<=k
   ·rw [if_pos i2,if_neg (by omega),if_pos (by omega)]
    exact hs (i - 1) (j - 1) (by omega) (by omega)
   ·rw [if_neg i2]
    by_cases j1:j=l
    ·rw [if_pos j1]; exact lo i (by omega)
    ·rw [if_neg j1]
     by_cases j2:l < j/\j<=k
     ·rw [if_pos j2]; exact hs i (j - 1) (by omega) (by omega)
     ·rw [if_neg j2]; exact hs i j hij (by omega)
theorem c5R (h1:1<=n):Ok n key (kas_sort n) (λ p=>Pm n p/\Srtd key p n):=by
 refine Ok.bind (Ok.mono (λ r ⟨a,b,c,d⟩=>?_) (c1V ⟨Array.Perm.refl _⟩ h1))
 by_cases e:r.1 < n
 ·rw [if_pos e]
  refine c4G _ _ a (by omega) ?_
  rw [show max r.1 1=r.1 by omega]
  exact d
 ·rw [if_neg e]
  exact ⟨a,by have:r.1=n:=(by omega); rw [<- this]; exact d⟩
end
end Srt
set_option maxHeartbeats 4100000
namespace Srt
open PySem PyProof.Rows PySem.Calls PySem.W
section
variable {prog:Program} {wo:World} {A:Around} {E:Value->Shared->Prop} {s:Shared}
def Asks (prog:Program) (wo:World) (A:Around) (κ:SortKind) (zs:List Value) (key:Nat->Int) (s:Shared):Prop :=
 (∀ (E:Value->Shared->Prop) (R:SortKind->Shared->Prop),R κ s->wpAny (model prog wo) A (keyKind' zs.toArray) R E s) /\
 ∀ (i j:Nat) (C:Bool->Shared->Prop),i < zs.length->j < zs.length->C (decide (key i < key j)) s->kas_ask prog wo A κ zs i j C s
abbrev b3N (zs:List Value) (p:Array Nat):Array Value:=List.toArray (p.toList.map λ i=>zs.getD i Value.none)
theorem c8Y (zs:List Value):b3N zs (List.range zs.length).toArray=zs.toArray:=by
 unfold b3N
 congr 1
 apply List.ext_getElem?
 intro i
 by_cases h:i < zs.length
 ·simp [h]
 ·simp [h]
theorem b1X {a:Addr} {zs:List Value} {n:Nat} {κ:SortKind} {key:Nat->Int} {P:PySem.Fin->Shared->Prop} (oa:s.heap.get? a=some (seqObj "list" zs.toArray n)) (h64:zs.length < 64)
  (hk:2<=zs.length->∀ h',(∀ b o,b≠a->s.heap.get? b=some o->h'.get? b=some o)->Asks prog wo A κ zs key { s with heap:=h' })
  (h:∀ p,Pm zs.length p->Srtd key p zs.length->P (.done (.ret .none)) { s with heap:=sortedHeap s.heap a zs (b3N zs p) }) :
  wpAny (model prog wo) A (Builtin.«list.sort» ⟨[.ref a],[]⟩) P E s:=by
 rw [list_sort_plain]
 have la:a < s.heap.objs.size:=Heap.lt_size oa
 refine wpAny_bind (listItems_at oa rfl ?_)
 refine wpAny_bind (listUpdate_at oa rfl ?_ (by rw [List.size_toArray,sizeLine_eq]; omega) (Nat.zero_le _))
 obtain ⟨ep,oa1⟩:∃ ep,(s.heap.update a (Obj.mapSeq λ _=>#[])).get? a=some (seqObj "list" #[] ep):=⟨_,get?_update_seq oa (λ _=>#[])⟩
 refine wpAny_bind (seqEpoch_at oa1 rfl ?_)
 refine wpAny_bind (wpAny_newTuple ?_ (by show zs.length<=_; rw [sizeLine_eq]; omega))
 refine wpAny_bind (wpAny_newList (wpAny_holding ?_) (Nat.zero_le _))
 have oa6:(((s.heap.update a (Obj.mapSeq λ _=>#[])).push (seqObj "tuple" zs.toArray 0)).push (seqObj "list" #[] 0)).get? a=some (seqObj "list" #[] ep):=by
  rw [Heap.get?_push_ne _ _ _ (by rw [size_push',Heap.size_update]; exact Nat.ne_of_lt (Nat.lt_succ_of_lt la)),Heap.get?_push_ne _ _ _ (by rw [Heap.size_update]; exact Nat.ne_of_lt la)]
  exact oa1
 show wpAny (model prog wo) A _ P E { s with heap:=((s.heap.update a (Obj.mapSeq λ _=>#[])).push (seqObj "tuple" zs.toArray 0)).push (seqObj "list" #[] 0) }
 dsimp only
 have lz:zs.toArray.size=zs.length:=by simp
 by_cases g2:zs.toArray.size < 2
 ·rw [if_pos g2,if_pos g2]
  refine wpAny_bind (wpAny_pure ?_); rw [StateT.run_pure]; refine wpAny_bind (wpAny_pure ?_); dsimp only
  refine wpAny_bind (seqEpoch_at oa6 rfl ?_)
  refine wpAny_bind (listUpdate_at oa6 rfl ?_ (Nat.zero_le _) (by rw [Array.size_map]; show (pairsOf zs).size<=_; rw [pairsOf_size,sizeLine_eq]; omega))
  simp only [if_false,Bool.false_eq_true,bne_self_eq_false]
  have q:=h (List.range zs.length).toArray ⟨Array.Perm.refl _⟩ (λ i j hij hj=>by have:i=j:=(by omega); subst this; exact Int.le_refl _)
  rw [c8Y] at q
  refine wpAny_pure ?_
  have e:(arrOf (SortSt.mk' general' (zs.toArray.zip zs.toArray) #[] 7 none)).map (·.2)=zs.toArray:=by
   show (zs.toArray.zip zs.toArray).map (·.2)=zs.toArray
   rw [Array.map_snd_zip]
   exact Nat.le_refl _
  rw [e]
  exact q
 ·rw [if_neg g2,if_neg g2]
  have h2':2<=zs.length:=by omega
  obtain ⟨ak,ac⟩:=hk h2' (((s.heap.update a (Obj.mapSeq λ _=>#[])).push (seqObj "tuple" zs.toArray 0)).push (seqObj "list" #[] 0)) λ b o hb e=>Heap.get?_push_of_some _ (Heap.get?_push_of_some _ (by rw [Heap.get?_update_ne _ _ _ _ hb]; exact e))
  refine wpAny_bind (ak _ _ ?_)
  have ask:(kas_sort zs.length).kasWp (kas_ask prog wo A κ zs) (λ p s'=>s'={ s with heap:=((s.heap.update a (Obj.mapSeq λ _=>#[])).push (seqObj "tuple" zs.toArray 0)).push (seqObj "list" #[] 0) }/\Pm zs.length p/\Srtd key p zs.length)
    { s with heap:=((s.heap.update a (Obj.mapSeq λ _=>#[])).push (seqObj "tuple" zs.toArray 0)).push (seqObj "list" #[] 0) } :=
   Ok.wp (n:=zs.length) (key:=key) ac (λ p hp=>⟨rfl,hp⟩) (c5R (by omega))
  rw [kas_ask_eq] at ask
  have est:SortSt.mk' κ (zs.toArray.zip zs.toArray) #[] 7 none=kas_st κ (pairsOf zs) (List.toArray (List.range zs.length)):=by
   have e:=kas_range (pairsOf zs)
   rw [pairsOf_size] at e
   show SortSt.mk' κ (pairsOf zs) #[] 7 none=SortSt.mk' κ ((List.toArray (List.range zs.length)).map (kas_item (pairsOf zs))) #[] 7 none
   rw [e]
  have rn:=kas_runs (E:=E) (Q:=λ _ st' s'=>∃ p:Array Nat,p.size=zs.length/\arrOf st'=p.map (kas_item (pairsOf zs))/\failedOf st'=none/\(s'={ s with heap:=((s.heap.update a (Obj.mapSeq λ _=>#[])).push (seqObj "tuple" zs.toArray 0)).push (seqObj "list" #[] 0) }/\Pm zs.length p/\Srtd key p zs.length))
   h2' h64 (λ p' st' s' a1 a2 a3 a4=>⟨p',a1,a2,a3,a4⟩) ask
  rw [<- est] at rn
  refine wpAny_bind (wpAny_mono rn ?_ λ _ _ e=>e)
  rintro ⟨⟨⟩,st'⟩ s' ⟨p,hp,ra,hf,rfl,pm,sr⟩
  dsimp only
  have hout:(arrOf st').map (·.2)=b3N zs p:=by
   apply Array.toList_inj.mp
   rw [ra,Array.map_map,Array.toList_map]
   exact List.map_congr_left λ i _=>by show (kas_item (pairsOf zs) i).2=_; rw [kas_item_eq]
  have hso:(b3N zs p).size=zs.length:=by rw [List.size_toArray,List.length_map,Array.length_toList,hp]
  rw [hout]
  refine wpAny_bind (seqEpoch_at oa6 rfl ?_)
  refine wpAny_bind (listUpdate_at oa6 rfl ?_ (Nat.zero_le _) (Nat.le_trans (Nat.le_of_eq hso) (by rw [sizeLine_eq]; omega)))
  rw [hf]
  simp only [if_false,Bool.false_eq_true,bne_self_eq_false]
  exact wpAny_pure (h p pm sr)
theorem b8H {l:Addr} {zs:List Value} {κ:SortKind} {key:Nat->Int} {R:Value->Shared->Prop} (il:s.heap.IsList l zs.toArray) (h64:zs.length < 64)
  (hk:2<=zs.length->∀ (A':Around) (h':Heap),(∀ b o,s.heap.get? b=some o->h'.get? b=some o)->Asks prog wo A' κ zs key { s with heap:=h' })
  (h:∀ p,Pm zs.length p->Srtd key p zs.length->R (.ref (s.heap.objs.size+1)) { s with heap:=sortedAll s.heap zs (b3N zs p) }) :
  wpAny (model prog wo) A (call (.builtin "sorted") [.ref l]) R E s:=by
 apply Calls.call_function_entry kind_sorted plain_sorted entry_sorted (args_sorted1 _)
 unfold Builtin.«sorted»
 refine wpAny_bind (m:=checkCount "sorted" 1 1 _) (wpAny_pure ?_); refine wpAny_bind (collect_list il ?_ (by rw [sizeLine_eq]; omega))
 refine wpAny_bind (wpAny_newList ?_ (by rw [sizeLine_eq]; omega))
 have lz:((s.heap.push (seqObj "list" #[] 0)).update s.heap.objs.size (Obj.mapSeq (· ++ zs.toArray))).objs.size=s.heap.objs.size+1:=by
  rw [Heap.size_update]; exact size_push' _ _
 have oL:(((s.heap.push (seqObj "list" #[] 0)).update s.heap.objs.size (Obj.mapSeq (· ++ zs.toArray))).push (seqObj "list" zs.toArray 0)).get? (s.heap.objs.size+1)=some (seqObj "list" zs.toArray 0):=by
  rw [<- lz]; exact Heap.get?_push_size _ rfl
 show wpAny _ _ _ _ _ { s with heap:=((s.heap.push (seqObj "list" #[] 0)).update s.heap.objs.size (Obj.mapSeq (· ++ zs.toArray))).push (seqObj "list" zs.toArray 0) }
 rw [lz]
 refine wpAny_bind (wpAny_holding (wpAny_call_entry slot_list_sort ⟨_,oL,rfl⟩ entry_list_sort (b1X (κ:=κ) (key:=key) oL h64 (λ g2 h' kp=>hk g2 _ h' λ b o e=>?_) λ p a1 a2=>⟨_,rfl,?_⟩) (args_list_sort _)))
 ·have lb:b < s.heap.objs.size:=Heap.lt_size e
  refine kp b o (Nat.ne_of_lt (Nat.lt_succ_of_lt lb)) ?_
  rw [Heap.get?_push_ne _ _ _ (by rw [lz]; exact Nat.ne_of_lt (Nat.lt_succ_of_lt lb)),Heap.get?_update_ne _ _ _ _ (Nat.ne_of_lt lb),Heap.get?_push_ne _ _ _ (Nat.ne_of_lt lb)]
  exact e
 ·exact wpAny_pure ⟨_,rfl,h p a1 a2⟩
end
end Srt
set_option maxHeartbeats 4100000
namespace Srt
open PySem PyProof.Rows PySem.Calls PySem.W
theorem b1Y {α:Type} {p q:α->Bool} (h:∀ x,p x=true->q x=true) (l:List α):l.countP p<=l.countP q:=by
 induction l with
 | nil=>exact Nat.le_refl _
 | cons a r ih =>
  rw [List.countP_cons,List.countP_cons]
  by_cases c:p a=true
  ·rw [if_pos c,if_pos (h a c)]; omega
  ·rw [if_neg c]; omega
theorem b1Z {α:Type} {p q:α->Bool} (h:∀ x,p x=true->q x=true) {x:α}:∀ {l:List α},x∈l->p x=false->q x=true->l.countP p < l.countP q
 | a::r,hx,h1,h2=>by
  rw [List.countP_cons,List.countP_cons]
  have le:=b1Y h r
  rcases List.mem_cons.mp hx with rfl | hx
  ·rw [if_neg (by rw [h1]; exact Bool.false_ne_true),if_pos h2]; omega
  ·have ih:=b1Z h hx h1 h2
   by_cases c:p a=true
   ·rw [if_pos c,if_pos (h a c)]; omega
   ·rw [if_neg c]; omega
def rank (ls:List (List Int)) (i:Nat):Int:=(ls.countP λ z=>decide (z < ls.getD i []):Nat)
theorem d1X {x y z:List Int} (h:z < y) (h2:¬ x < y):z < x:=by
 by_cases c:z < x
 ·exact c
 ·exact absurd (List.lt_of_le_of_lt (List.not_lt.mp c) h) h2
theorem b8I {ls:List (List Int)} {i j:Nat} (hi:i < ls.length):decide (rank ls i < rank ls j)=decide (ls.getD i [] < ls.getD j []):=by
 have hm:ls.getD i []∈ls:=by
  rw [τα,List.getElem?_eq_getElem hi]; exact List.getElem_mem hi
 unfold rank
 by_cases c:ls.getD i [] < ls.getD j []
 ·rw [decide_eq_true c]
  refine decide_eq_true (Int.ofNat_lt.mpr (b1Z (λ z hz=>?_) hm ?_ ?_))
  ·exact decide_eq_true (List.lt_trans (of_decide_eq_true hz) c)
  ·exact decide_eq_false (List.lt_irrefl _)
  ·exact decide_eq_true c
 ·rw [decide_eq_false c]
  refine decide_eq_false λ z=>?_
  have:=b1Y (p:=λ z=>decide (z < ls.getD j [])) (q:=λ z=>decide (z < ls.getD i [])) (λ z hz=>decide_eq_true (d1X (of_decide_eq_true hz) c)) ls
  omega
section
variable {prog:Program} {w:World} {A:Around} {E:Value->Shared->Prop} {s:Shared} {Q:Bool->Shared->Prop}
theorem b4V:∀ {xs ys:List Value} {ns ms:List Int} (i:Nat),IntsAre xs ns->IntsAre ys ms->Q (decide (ns < ms)) s->KatLex prog w A true (decide (xs.length < ys.length)) Q (xs.zip ys) i s
 | _,_,_,_,i,.nil,.nil,h=>by
  refine kat_nil ?_
  exact h
 | _,_,_,_,i,.nil,.cons (vs:=ys) (ns:=ms) m u y,h=>by
  refine kat_nil ?_
  have e:decide (([]:List Int) < m::ms)=true:=decide_eq_true (List.Lex.nil)
  rw [e] at h
  have e2:decide (([]:List Value).length < (Value.int m u::ys).length)=true:=by simp
  rw [e2]; exact h
 | _,_,_,_,i,.cons (vs:=xs) (ns:=ns) n t x,.nil,h=>by
  refine kat_nil ?_
  have e:decide (n::ns < ([]:List Int))=false:=decide_eq_false (List.not_lt_nil _)
  rw [e] at h
  have e2:decide ((Value.int n t::xs).length < ([]:List Value).length)=false:=by simp
  rw [e2]; exact h
 | _,_,_,_,i,.cons (vs:=xs) (ns:=ns) n t x,.cons (vs:=ys) (ns:=ms) m u y,h=>by
  have ef:decide ((Value.int n t::xs).length < (Value.int m u::ys).length)=decide (xs.length < ys.length):=by
   simp only [List.length_cons,Nat.add_lt_add_iff_right]
  rw [ef]
  refine kat_cons (wpAny_eqBool_int ?_)
  by_cases c:n=m
  ·subst c
   rw [beq_self_eq_true]
   refine kat_yes (b4V (i+1) x y ?_)
   have e:decide (n::ns < n::ms)=decide (ns < ms):=by
    have:(n::ns < n::ms)↔ns < ms:=by rw [List.cons_lt_cons_iff]; simp
    simp only [this]
   rw [e] at h; exact h
  ·rw [beq_eq_false_iff_ne.mpr c]
   refine kat_no ?_
   have e:decide (n::ns < m::ms)=decide (n < m):=by
    have:(n::ns < m::ms)↔n < m:=by rw [List.cons_lt_cons_iff]; simp [c]
    simp only [this]
   rw [e] at h
   cases z:(true && i == 0) with
   | true=>exact oneLt_int h
   | false=>exact kat_one _ _ (lt_int h)
structure TupI (h:Heap) (v:Value) (ns:List Int):Prop where
 at':∃ a o xs n,v = .ref a/\h.get? a=some o/\o.cls = .type "tuple" /\ o.data = .seq xs n/\IntsAre xs.toList ns
 ne:ns≠[]
inductive TupsI (h:Heap):List Value->List (List Int)->Prop
 | nil:TupsI h [] []
 | cons {v ns vs ls}:TupI h v ns->TupsI h vs ls->TupsI h (v::vs) (ns::ls)
theorem TupsI.keep {h h':Heap} (k:∀ b o,h.get? b=some o->h'.get? b=some o):∀ {vs ls},TupsI h vs ls->TupsI h' vs ls
 | _,_,.nil=>.nil
 | _,_,.cons ⟨⟨a,o,xs,n,e,ho,r⟩,ne⟩ t=>.cons ⟨⟨a,o,xs,n,e,k _ _ ho,r⟩,ne⟩ (TupsI.keep k t)
theorem TupsI.len {h:Heap}:∀ {vs ls},TupsI h vs ls->vs.length=ls.length
 | _,_,.nil=>rfl
 | _,_,.cons _ t=>by rw [List.length_cons,List.length_cons,t.len]
theorem TupsI.get {h:Heap}:∀ {vs ls},TupsI h vs ls->∀ {i},i < vs.length->TupI h (vs.getD i .none) (ls.getD i [])
 | _,_,.cons a t,0,_=>a
 | _,_,.cons a t,i+1,hi=>by
  have:=t.get (i:=i) (by simpa using hi)
  simpa using this
theorem TupsI.kat {h:Heap}:∀ {vs ls},TupsI h vs ls->∃ fs,KatTups h vs fs/\fs.length=vs.length/\∀ v∈fs,∃ n t,v=Value.int n t
 | _,_,.nil=>⟨[],KatTups.nil,rfl,λ v hv=>absurd hv List.not_mem_nil⟩
 | _,_,.cons (ns:=ns) ⟨⟨a,o,xs,n,e,ho,hc,hd,hi⟩,ne⟩ t=>by
  obtain ⟨fs,k,l,q⟩:=t.kat
  subst e
  obtain ⟨xl⟩:=xs
  have hi:IntsAre xl ns:=hi
  cases hi with
  | nil=>exact absurd rfl ne
  | cons m u r =>
   refine ⟨.int m u::fs,KatTups.cons ho hc hd rfl k,by rw [List.length_cons,List.length_cons,l],λ v hv=>?_⟩
   rcases List.mem_cons.mp hv with rfl | hv
   ·exact ⟨m,u,rfl⟩
   ·exact q v hv
theorem b8J {vs:List Value} {ls:List (List Int)} (h:TupsI s.heap vs ls) (h2:2<=vs.length):Asks prog w A (tuples' true) vs (rank ls) s:=by
 refine ⟨λ E Q q=>?_,λ i j C hi hj q=>?_⟩
 ·obtain ⟨fs,k,l,ty⟩:=h.kat
  refine kat_kind (T:=.type "int") k (by omega) (λ v hv=>?_) rfl q
  obtain ⟨n,t,rfl⟩:=ty v hv
  exact Looks.of_pure rfl
 ·obtain ⟨⟨a,o,xs,n,e1,ho,hc,hd,hx⟩,_⟩:=h.get hi
  obtain ⟨⟨a',o',ys,n',e2,ho',hc',hd',hy⟩,_⟩:=h.get hj
  unfold kas_ask
  rw [e1,e2]
  refine kat_lt ho hd ho' hd' ?_
  rw [b8I (by rw [<- h.len]; exact hi)] at q
  exact b4V 0 hx hy q
end
end Srt
set_option maxHeartbeats 4100000
namespace L2
open PySem PySem.Spec PyProof.Rows Bg Srt
def TupV (K:Φρ) (H:Hp) (v:V) (ns:List Int):Prop:=∃ p,v = .ref p/\SqT K H p (ns.map V.int)
def c8Z (K:Φρ):List V->Hp->VK->Prop:=λ xs H Q=>∃ l vs,∃ ls:List (List Int),xs=[.ref l]/\SqL K H l vs/\Paired (TupV K H) vs ls/\(∀ ns∈ls,ns≠[])/\vs.length < 64 /\
 ∀ (q:List Nat) p H',q.Perm (List.range vs.length)->(q.map λ i=>ls.getD i []).Pairwise (λ a b=>¬ b < a)->New H p (.lst (q.map λ i=>vs.getD i .non)) H'->Q (.ref p) H'
theorem a8D:∀ {ns:List Int} {us:List Value},Vals (ns.map V.int) us->IntsAre us ns
 | [],_,.nil=>.nil
 | n::ns,_,.cons r t=>by
  obtain ⟨k,rfl⟩:=r
  exact .cons n k (a8D t)
section
variable {X:Cx} {K:Φρ}
theorem b8K {pins:List (Addr × Obj)} {σ:St} {H:Hp} {s:Shared} (I:Inv X pins σ H s):∀ {vs:List V} {us:List Value} {ls:List (List Int)},Vals vs us->Paired (TupV X.K H) vs ls->(∀ ns∈ls,ns≠[])->TupsI s.heap us ls
 | _,_,_,.nil,p,_=>by
  cases p
  exact .nil
 | _,_,_,.cons r t,p,ne=>by
  cases p with
  | cons a b =>
   obtain ⟨pt,rfl,hT⟩:=a
   obtain ⟨its,ri,⟨o,ho,hc,n,hd⟩,_⟩:=I.tuple hT
   cases r
   exact .cons ⟨⟨pt,o,its.toArray,n,rfl,ho,hc,hd,by simpa using a8D ri⟩,ne _ List.mem_cons_self⟩ (b8K I t b λ ns h=>ne ns (List.mem_cons_of_mem _ h))
theorem b2A:∀ {vs:List V} {us:List Value},Vals vs us->∀ i,i < vs.length->RelV (vs.getD i .non) (us.getD i .none)
 | _,_,.cons r t,0,_=>r
 | _,_,.cons r t,i+1,hi=>by
  have:=b2A t i (by simpa using hi)
  simpa using this
theorem b4W {vs:List V} {us:List Value} (r:Vals vs us):∀ (q:List Nat),(∀ i∈q,i < vs.length)->Vals (q.map λ i=>vs.getD i .non) (q.map λ i=>us.getD i .none)
 | [],_=>.nil
 | i::q,h=>.cons (b2A r i (h i List.mem_cons_self)) (b4W r q λ j hj=>h j (List.mem_cons_of_mem _ hj))
theorem b2B (e:X.K=K):CallR X (.builtin "sorted") (c8Z K):=by
 subst e
 intro pins s σ H xs us Q I r h
 obtain ⟨l,vs,ls,rfl,hL,hP,ne,h64,q⟩:=h
 obtain ⟨u,rfl,rx⟩:=a7F r
 cases rx
 obtain ⟨its,r',pl,hz⟩:=I.list hL
 have hlen:=r'.length
 have ht:=b8K I r' hP ne
 have hl2:=ht.len
 refine b8H (κ:=tuples' true) (key:=rank ls) pl.isList (by omega) (λ h2 A' h' kp=>b8J (ht.keep kp) h2) λ p pm sr=>?_
 obtain ⟨c,hc⟩:=sortedAll_at s.heap its (b3N its p)
 have hs:=pm.size
 have mem:∀ i∈p.toList,i < its.length:=λ i hi=>by
  have:=(Array.perm_iff_toList_perm.mp pm.perm).mem_iff (a:=i)
  have h1:=this.mp hi
  simpa using h1
 have z:(p.toList.map λ i=>vs.getD i V.non).length=its.length:=by rw [List.length_map,Array.length_toList]; exact hs
 refine ⟨.ref (s.heap.objs.size+1),_,I.laid (t':=s.toks) (o:=.lst (p.toList.map λ i=>vs.getD i V.non)) (λ b o eo=>sortedAll_old eo) (Nat.le_succ _) ?_,rfl,?_⟩
 ·exact ⟨by rw [z,<- hlen]; exact hz,_,c,b4W r' p.toList (λ i hi=>by rw [hlen]; exact mem i hi),hc⟩
 ·refine q p.toList _ _ ?_ ?_ (New.mk0 (I.hok.fresh (Nat.le_succ _)))
  ·have:=Array.perm_iff_toList_perm.mp pm.perm
   rw [hlen]; exact this
  ·rw [List.pairwise_iff_getElem]
   intro i j hi hj hij
   rw [List.length_map,Array.length_toList,hs] at hi hj
   have q1:=sr i j (Nat.le_of_lt hij) hj
   unfold Srt.KK at q1
   have li:=pm.lt hi
   have lj:=pm.lt hj
   rw [List.getElem_map,List.getElem_map]
   have e1:p.getD i 0=p.toList[i]'(by rw [Array.length_toList,hs]; exact hi):=by simp [Array.getD,hs,hi]
   have e2:p.getD j 0=p.toList[j]'(by rw [Array.length_toList,hs]; exact hj):=by simp [Array.getD,hs,hj]
   rw [<- e1,<- e2]
   intro c
   have z1:=b8I (ls:=ls) (i:=p.getD j 0) (j:=p.getD i 0) (by omega)
   rw [decide_eq_true c] at z1
   have:=of_decide_eq_true z1
   omega
end
end L2
set_option maxHeartbeats 4100000
namespace Srt
open PySem PySem.W PySem.Calls PySem.Spec PyProof.Rows PySem.MeetsSeq
abbrev lsO (z:Array Value) (n:Nat):Obj:={ cls:=.type "list", dict:=none,data:=.seq z n,slots:=#[] }
def c9A (z:Array Value) (x:Value) (eq:Nat->Bool) (A:Around) (h:Heap):Prop:=∀ s':Shared,s'.heap=h->∀ m (hm:m < z.size),SeqAt.EqAt A s' z[m] x (eq m)
end Srt
namespace L2
open PySem PySem.Spec PyProof.Rows Srt
section
variable {X:Cx} {K:Φρ}
theorem b4X {pins:List (Addr × Obj)} {σ:St} {H:Hp} {s:Shared} (I:Inv X pins σ H s):∀ {xs:List V} {us:List Value} {ds:List PyData},Vals xs us->IsDs X.K H xs ds->ds.length=us.length/\∀ i,i < us.length->∃ as,Reads s.heap (us.getD i .none) (ds.getD i .none) as
 | _,_,_,.nil,.nil=>⟨rfl,λ i h=>absurd h (Nat.not_lt_zero _)⟩
 | _,_,_,.cons r t,.cons a b=>by
  obtain ⟨e,q⟩:=b4X I t b
  refine ⟨by rw [List.length_cons,List.length_cons,e],λ i h=>?_⟩
  cases i with
  | zero=>exact a.reads I r
  | succ i =>
   have:=q i (by simpa using h)
   simpa using this
end
end L2
set_option maxHeartbeats 4100000
namespace L2
open PySem PySem.Spec PyProof.Rows
section
variable {X:Cx} {K:Φρ}
def d1Y (K:Φρ):List V->Hp->VK->Prop:=λ xs H Q=>∃ p ns,xs=[.ref p]/\SqL K H p (List.map V.int ns)/\0 < ns.length/\∀ M,M∈ns->(∀ a∈ns,a<=M)->Q (.int M) H
theorem b8L (e:X.K=K) (cm:X.calm=true):CallR X (.builtin "max") (d1Y K):=by
 subst e
 intro pins s σ H xs us Q I r h
 obtain ⟨p,ns,rfl,hL,hne,q⟩:=h
 obtain ⟨u,rfl,rx⟩:=a7F r
 cases rx
 obtain ⟨its,r',pl,hz⟩:=I.list hL
 have hi:=a8D r'
 have hlen:=hi.length
 obtain ⟨zs,ez⟩:=hi.allInts.items
 have hsz:0 < zs.size:=by
  have:=congrArg Array.size ez
  rw [List.size_toArray] at this
  have e2:(intItems zs).size=zs.size:=by simp [intItems]
  omega
 have en:zs.toList.map (·.1)=ns:=by
  rw [<- nums_intItems,<- ez]
  exact hi.numsOf
 refine max_intList (xs:=zs) (I.ok.hd cm) (by rw [<- ez]; exact pl.isList) hsz λ v h' tk hv hk=>?_
 obtain ⟨t,rfl⟩:=intItems_at hv
 obtain ⟨h1,h2⟩:=argBest_gt (numAt zs) (zs.size - 1)
 refine ⟨.int _,H,I.kept hk,⟨t,rfl⟩,q _ ?_ λ a ha=>?_⟩
 ·rw [numAt_eq,<- en]; exact getD_mem (by rw [List.length_map,Array.length_toList]; omega)
 ·rw [<- en] at ha
  obtain ⟨j,hj,rfl⟩:=mem_getD ha
  rw [List.length_map,Array.length_toList] at hj
  rw [<- numAt_eq]; exact h2 j (by omega)
end
end L2
set_option maxHeartbeats 4100000
namespace L2
open PySem PySem.Spec PyProof.Rows
section
variable {prog:Program} {w:World} {A:Around} {R:Result->Shared->Prop} {I:Addr} {fp wr:List Addr} {n:Nat} {P:Nat->Value->Prop} {St:Nat->Heap->Prop} {kw:List (Str × Value)}
end
section
variable {prog:Program} {w:World} {A:Around} {E:Value->Shared->Prop} {s:Shared} {xs:Array (Int × Tok)} {l:Addr}
end
section
variable {X:Cx} {K:Φρ}
end
end L2
namespace L2
open PySem PySem.Spec PyProof.Rows
section
variable {X:Cx}
end
end L2
set_option maxHeartbeats 1000000
namespace Sm
open PySem
def b8M (xs:Array Nat) (j k:Nat):Prop:=k<=xs.size/\∀ i (h:i < xs.size),xs[i] < j↔i < k
theorem c1W {xs:Array Nat} (h:xs.toList.Pairwise (· < ·)) {i k:Nat} (hi:i < xs.size) (hk:k < xs.size) (ik:i < k):xs[i] < xs[k]:=by
 have:=List.pairwise_iff_getElem.mp h i k (by simpa using hi) (by simpa using hk) ik
 simpa using this
theorem d1Z {xs:Array Nat} {j:Nat} (h:xs.toList.Pairwise (· < ·)):∀ (fuel lo hi:Nat),hi - lo<=fuel->lo<=hi->hi<=xs.size ->
  (∀ i (z:i < xs.size),i < lo->xs[i] < j)->(∀ i (z:i < xs.size),hi<=i->j<=xs[i])->b8M xs j (SetTable.below.go xs j fuel lo hi):=by
 intro fuel
 induction fuel with
 | zero =>
  intro lo hi a b c d e
  unfold SetTable.below.go
  have:lo=hi:=by omega
  subst this
  exact ⟨c,λ i z=>⟨λ q=>by
   rcases Nat.lt_or_ge i lo with g | g
   ·exact g
   ·have:=e i z g
    omega,λ q=>d i z q⟩⟩
 | succ f ih =>
  intro lo hi a b c d e
  unfold SetTable.below.go
  by_cases q:lo < hi
  ·rw [if_pos q]
   dsimp only
   have m1:lo<=(lo+hi) / 2:=by omega
   have m2:(lo+hi) / 2 < hi:=by omega
   have m3:(lo+hi) / 2 < xs.size:=by omega
   have ge:xs.getD ((lo+hi) / 2) j=xs[(lo+hi) / 2]:=by simp [Array.getD,m3]
   rw [ge]
   by_cases r:xs[(lo+hi) / 2] < j
   ·rw [if_pos r]
    refine ih _ _ (by omega) (by omega) c (λ i z hi'=>?_) e
    rcases Nat.lt_or_ge i ((lo+hi) / 2) with g | g
    ·have:=c1W h z m3 g
     omega
    ·have:i=(lo+hi) / 2:=by omega
     subst this
     exact r
   ·rw [if_neg r]
    refine ih _ _ (by omega) (by omega) (by omega) d (λ i z hi'=>?_)
    rcases Nat.lt_or_ge ((lo+hi) / 2) i with g | g
    ·have:=c1W h m3 z g
     omega
    ·have:i=(lo+hi) / 2:=by omega
     subst this
     omega
  ·rw [if_neg q]
   have:lo=hi:=by omega
   subst this
   exact ⟨c,λ i z=>⟨λ q=>by
    rcases Nat.lt_or_ge i lo with g | g
    ·exact g
    ·have:=e i z g
     omega,λ q=>d i z q⟩⟩
theorem a7N {xs:Array Nat} (h:xs.toList.Pairwise (· < ·)) (j:Nat):b8M xs j (SetTable.below xs j) :=
 d1Z h _ _ _ (by omega) (Nat.zero_le _) (Nat.le_refl _) (λ i z q=>absurd q (Nat.not_lt_zero _)) (λ i z q=>absurd z (by omega))
theorem c1X {xs:Array Nat} (h:xs.toList.Pairwise (· < ·)) {k:Nat} (hk:k < xs.size):SetTable.below xs (xs[k])=k:=by
 obtain ⟨a,b⟩:=a7N h xs[k]
 rcases Nat.lt_trichotomy (SetTable.below xs xs[k]) k with g | g | g
 ·have c:=(b (SetTable.below xs xs[k]) (by omega)).mp (c1W h (by omega) hk g)
  omega
 ·exact g
 ·have c:=(b k hk).mpr g
  omega
theorem b6M {xs:Array Nat} (h:xs.toList.Pairwise (· < ·)):SetTable.below xs 0=0:=by
 obtain ⟨a,b⟩:=a7N h 0
 rcases Nat.eq_zero_or_pos (SetTable.below xs 0) with g | g
 ·exact g
 ·have:=(b 0 (by omega)).mpr g
  omega
theorem b6N {xs:Array Nat} (h:xs.toList.Pairwise (· < ·)) {k:Nat} (hk:k < xs.size):SetTable.below xs (xs[k]+1)=k+1:=by
 obtain ⟨a,b⟩:=a7N h (xs[k]+1)
 have c:=(b k hk).mp (by omega)
 rcases Nat.lt_or_ge (k+1) (SetTable.below xs (xs[k]+1)) with g | g
 ·have e:=(b (k+1) (by omega)).mpr g
  have:=c1W h hk (show k+1 < xs.size by omega) (Nat.lt_succ_self _)
  omega
 ·omega
theorem b8N (j:Nat):SetTable.has #[] j=false:=by
 unfold SetTable.has
 simp
theorem a6N {t:SetTable} (dm:t.dummies = #[]) {j:Nat} (h:j ∉ t.place.toList):t.slot j = .empty:=by
 unfold SetTable.slot
 have e:(t.place[SetTable.below t.place j]? == some j)=false:=by
  rw [beq_eq_false_iff_ne]
  intro c
  exact h (by simpa using Array.mem_of_getElem? c)
 dsimp only
 rw [e,dm,b8N]
 rfl
theorem b8O {t:SetTable} (up:t.place.toList.Pairwise (· < ·)) {j:Nat} (h:j∈t.place.toList):∃ i,t.slot j = .live i:=by
 obtain ⟨k,hk,e⟩:=List.getElem_of_mem h
 have hk':k < t.place.size:=by simpa using hk
 have e':t.place[k]=j:=by simpa using e
 unfold SetTable.slot
 have q:SetTable.below t.place j=k:=by rw [<- e']; exact c1X up hk'
 dsimp only
 rw [q]
 have:(t.place[k]? == some j)=true:=by simp [hk',e']
 rw [this]
 exact ⟨k,rfl⟩
def adv (mask:Nat) (p:SetTable.Probe):SetTable.Probe :=
 if 0 < p.more then { p with more:=p.more - 1,j:=p.j+1 } else
 { p with j:=(SetTable.leap mask p.i p.perturb).1,more:=SetTable.runEnd mask (SetTable.leap mask p.i p.perturb).1 - (SetTable.leap mask p.i p.perturb).1,i:=(SetTable.leap mask p.i p.perturb).1,perturb:=(SetTable.leap mask p.i p.perturb).2 }
theorem c9B (t:SetTable) (p:SetTable.Probe):t.advance p=adv t.mask p:=by
 unfold SetTable.advance adv
 rfl
def nth (mask:Nat) (p:SetTable.Probe):Nat->SetTable.Probe
 | 0=>p
 | k+1=>nth mask (adv mask p) k
theorem b8P (m:Nat) (p:SetTable.Probe):(adv m p).dummy=p.dummy:=by
 unfold adv
 split <;> rfl
theorem c1Y {t:SetTable} (dm:t.dummies = #[]) (up:t.place.toList.Pairwise (· < ·)) (h:Int):∀ (k fuel:Nat) (p:SetTable.Probe),k < fuel->p.dummy=none->(nth t.mask p k).j ∉ t.place.toList ->
  ∃ j,j ∉ t.place.toList/\SetTable.probe.go t (λ _=>h+1) h fuel p=some (.empty j none):=by
 intro k
 induction k with
 | zero =>
  intro fuel p hf hd hn
  obtain ⟨f,rfl⟩:∃ f,fuel=f+1:=⟨fuel - 1,by omega⟩
  unfold SetTable.probe.go
  have hn':p.j ∉ t.place.toList:=hn
  refine ⟨p.j,hn',?_⟩
  rw [a6N dm hn',hd]
 | succ k ih =>
  intro fuel p hf hd hn
  obtain ⟨f,rfl⟩:∃ f,fuel=f+1:=⟨fuel - 1,by omega⟩
  unfold SetTable.probe.go
  by_cases c:p.j∈t.place.toList
  ·obtain ⟨i,e⟩:=b8O up c
   rw [e]
   dsimp only
   have:(h+1 == h)=false:=by rw [beq_eq_false_iff_ne]; omega
   rw [this]
   rw [c9B]
   exact ih f (adv t.mask p) (by omega) (by rw [b8P]; exact hd) hn
  ·rw [a6N dm c,hd]
   exact ⟨p.j,c,rfl⟩
def b8Q (v:Nat):SetTable.Probe:={ j:=v % 8,more:=0,i:=v % 8,perturb:=v,dummy:=none }
theorem d2A:∀ v,v < 16->∀ j,j < 8->∃ k,k < 16/\(nth 7 (b8Q v) k).j=j:=by decide +kernel
theorem b3O {v:Nat} (h:v < 16):SetTable.bits (v:Int)=v:=by
 unfold SetTable.bits
 omega
theorem c5S {t:SetTable} (dm:t.dummies = #[]) (up:t.place.toList.Pairwise (· < ·)) {v k:Nat} (hk:k < 10*SetTable.turns t.mask) (hn:(nth t.mask (t.probeStart (v:Int)) k).j ∉ t.place.toList) :
  ∃ j,j ∉ t.place.toList/\t.freeSlot (v:Int)=some (j,false):=by
 obtain ⟨j,hj,e⟩:=c1Y dm up (v:Int) k (10*SetTable.turns t.mask) (t.probeStart (v:Int)) hk rfl hn
 refine ⟨j,hj,?_⟩
 unfold SetTable.freeSlot SetTable.probe
 rw [e]
 rfl
theorem b8R:∀ (l m:List Nat),l.Nodup->(∀ x∈l,x∈m)->l.length<=m.length
 | [],_,_,_=>Nat.zero_le _
 | a::r,m,nd,h=>by
  have am:a∈m:=h a List.mem_cons_self
  obtain ⟨n1,n2⟩:=List.nodup_cons.mp nd
  have q:=b8R r (m.erase a) n2 λ x hx=>(List.mem_erase_of_ne (λ e=>n1 (by rw [<- e]; exact hx))).mpr (h x (List.mem_cons_of_mem _ hx))
  rw [List.length_erase_of_mem am] at q
  have:=List.length_pos_of_mem am
  rw [List.length_cons]
  omega
theorem c9C {l:List Nat} (h:l.length<=4):∃ j,j < 8/\j ∉ l:=by
 apply Classical.byContradiction
 intro c
 have q:∀ j,j < 8->j∈l:=λ j hj=>Classical.byContradiction λ d=>c ⟨j,hj,d⟩
 have:=b8R (List.range 8) l List.nodup_range (λ j hj=>q j (List.mem_range.mp hj))
 rw [List.length_range] at this
 omega
theorem c1Z {t:SetTable} (dm:t.dummies = #[]) {v:Nat} (hv:v < 16) (hm:15<=t.mask) (hn:v ∉ t.place.toList):t.freeSlot (v:Int)=some (v,false):=by
 unfold SetTable.freeSlot SetTable.probe
 have e:(t.probeStart (v:Int)).j=v:=by
  unfold SetTable.probeStart
  dsimp only
  rw [b3O hv]
  exact Nat.mod_eq_of_lt (by omega)
 obtain ⟨f,hf⟩:∃ f,10*SetTable.turns t.mask=f+1:=⟨10*SetTable.turns t.mask - 1,by unfold SetTable.turns; omega⟩
 rw [hf]
 unfold SetTable.probe.go
 rw [e,a6N dm hn]
 rfl
def Es (es:Array (Int × Value)) (L:List Nat):Prop:=Paired (λ e v=>e.1=((v:Nat):Int)/\∃ tk,e.2=Value.int ((v:Nat):Int) tk) es.toList L
structure Tb (B:Bool) (t:SetTable) (L:List Nat):Prop where
 dm:t.dummies = #[]
 pl:t.plain=true
 led:t.led = !B
 up:t.place.toList.Pairwise (· < ·)
 sz:t.place.size=L.length
 nd:L.Nodup
 lt:∀ v∈L,v < 16
 sh:(t.mask=7/\L.length<=4)\/(15<=t.mask/\t.place.toList=L/\L.length*5 < t.mask*3)
theorem c9D {xs:Array Nat} (up:xs.toList.Pairwise (· < ·)) {j:Nat} (h:j ∉ xs.toList):(SetTable.insertAt xs (SetTable.below xs j) j).toList.Pairwise (· < ·):=by
 obtain ⟨a,b⟩:=a7N up j
 rw [SetTable.toList_insertAt]
 have z:∀ i (hi:i < xs.toList.length),xs.toList[i] < j↔i < SetTable.below xs j:=λ i hi=>by
  have:=b i (by simpa using hi)
  simpa using this
 rw [List.pairwise_append]
 refine ⟨up.sublist (List.take_sublist _ _),?_,?_⟩
 ·rw [List.pairwise_cons]
  refine ⟨λ y hy=>?_,up.sublist (List.drop_sublist _ _)⟩
  obtain ⟨i,hi,e⟩:=List.getElem_of_mem hy
  rw [List.getElem_drop] at e
  have hl:SetTable.below xs j+i < xs.toList.length:=by rw [List.length_drop] at hi; omega
  have q:=z _ hl
  rw [e] at q
  have ne:y≠j:=λ c=>h (by rw [<- c,<- e]; exact List.getElem_mem hl)
  rcases Nat.lt_or_ge y j with g | g
  ·have:=q.mp g
   omega
  ·omega
 ·intro x hx y hy
  obtain ⟨i,hi,e⟩:=List.getElem_of_mem hx
  rw [List.getElem_take] at e
  have hl:i < xs.toList.length:=by rw [List.length_take] at hi; omega
  have hb:i < SetTable.below xs j:=by rw [List.length_take] at hi; omega
  have x1:x < j:=by rw [<- e]; exact (z i hl).mpr hb
  rcases List.mem_cons.mp hy with rfl | hy
  ·exact x1
  ·obtain ⟨k,hk,e2⟩:=List.getElem_of_mem hy
   rw [List.getElem_drop] at e2
   have hl2:SetTable.below xs j+k < xs.toList.length:=by rw [List.length_drop] at hk; omega
   have q:=z _ hl2
   rw [e2] at q
   rcases Nat.lt_or_ge y j with g | g
   ·have:=q.mp g
    omega
   ·omega
theorem Es.len {es:Array (Int × Value)} {L:List Nat} (h:Es es L):es.size=L.length:=by
 have:=Paired.length h
 simpa using this
theorem paired_take {α β:Type} {R:α->β->Prop}:∀ {xs:List α} {ys:List β} (n:Nat),Paired R xs ys->Paired R (xs.take n) (ys.take n)
 | _,_,0,_=>.nil
 | _,_,_+1,.nil=>.nil
 | _,_,n+1,.cons r t=>.cons r (paired_take n t)
theorem paired_drop {α β:Type} {R:α->β->Prop}:∀ {xs:List α} {ys:List β} (n:Nat),Paired R xs ys->Paired R (xs.drop n) (ys.drop n)
 | _,_,0,r=>r
 | _,_,_+1,.nil=>.nil
 | _,_,n+1,.cons _ t=>paired_drop n t
theorem paired_app {α β:Type} {R:α->β->Prop}:∀ {xs xs':List α} {ys ys':List β},Paired R xs ys->Paired R xs' ys'->Paired R (xs++xs') (ys++ys')
 | _,_,_,_,.nil,s=>s
 | _,_,_,_,.cons r t,s=>.cons r (paired_app t s)
theorem a0U {α β:Type} {R:α->β->Prop}:∀ {xs:List α} {ys:List β},Paired R xs ys->∀ (i:Nat) (h:i < ys.length),∃ x,xs[i]?=some x/\R x ys[i]
 | _,_,.nil,i,h=>by simp at h
 | _,_,.cons r t,0,h=>⟨_,rfl,r⟩
 | _,_,.cons r t,i+1,h=>by
  obtain ⟨x,e,q⟩:=a0U t i (by simpa using h)
  exact ⟨x,by simpa using e,by simpa using q⟩
theorem c9E {B:Bool} {t:SetTable} {L:List Nat} {es:Array (Int × Value)} {v:Nat} {x:Value} (T:Tb B t L) (hE:Es es L) (hv:v < 16) (hn:v ∉ L) (hx:∃ tk,x=Value.int ((v:Nat):Int) tk) :
  ∃ t1 es1 p,layNew t es ((v:Nat):Int) x=(es1,t1,false,false)/\Es es1 (L.take p++v::L.drop p)/\t1.dummies = #[]/\t1.plain=true/\(t1.led = !B)/\t1.mask=t.mask/\t1.finger=t.finger/\t1.moves=t.moves /\
   t1.place.toList.Pairwise (· < ·)/\t1.place.size=L.length+1/\(15<=t.mask->t1.place.toList=L.take p++v::L.drop p):=by
 have main:∃ j,j ∉ t.place.toList/\t.freeSlot ((v:Nat):Int)=some (j,false)/\(15<=t.mask->j=v):=by
  rcases T.sh with ⟨m7,l4⟩ | ⟨m15,pe,fl⟩
  ·have lp:t.place.toList.length<=4:=by rw [Array.length_toList,T.sz]; exact l4
   obtain ⟨j,hj,nj⟩:=c9C lp
   obtain ⟨k,hk,e⟩:=d2A v hv j hj
   have st:t.probeStart ((v:Nat):Int)=b8Q v:=by
    unfold SetTable.probeStart b8Q
    rw [b3O hv,m7]
    unfold SetTable.runEnd
    have:¬ v % (7+1)+9<=7:=by omega
    simp only [if_neg this]
    simp
   obtain ⟨j',hj',e'⟩:=c5S (v:=v) (k:=k) T.dm T.up (by unfold SetTable.turns; omega) (by rw [st,m7,e]; exact nj)
   exact ⟨j',hj',e',λ c=>by omega⟩
  ·have nv:v ∉ t.place.toList:=by rw [pe]; exact hn
   exact ⟨v,nv,c1Z T.dm hv m15 nv,λ _=>rfl⟩
 obtain ⟨j,nj,ef,ej⟩:=main
 have sz1:(SetTable.insertAt t.place (SetTable.below t.place j) j).size=L.length+1:=by
  have:=congrArg List.length (SetTable.toList_insertAt t.place (SetTable.below t.place j) j)
  rw [Array.length_toList] at this
  rw [this,List.length_append,List.length_cons,List.length_take,List.length_drop,Array.length_toList,T.sz]
  omega
 have es1:(SetTable.insertAt es (SetTable.below t.place j) (((v:Nat):Int),x)).size=L.length+1:=by
  have:=congrArg List.length (SetTable.toList_insertAt es (SetTable.below t.place j) (((v:Nat):Int),x))
  rw [Array.length_toList] at this
  rw [this,List.length_append,List.length_cons,List.length_take,List.length_drop,Array.length_toList,hE.len]
  omega
 have mk:L.length+1<=t.mask:=by
  rcases T.sh with ⟨m7,l4⟩ | ⟨m15,pe,fl⟩ <;> omega
 refine ⟨{ t with place:=SetTable.insertAt t.place (SetTable.below t.place j) j },SetTable.insertAt es (SetTable.below t.place j) (((v:Nat):Int),x),SetTable.below t.place j,?_,?_,T.dm,T.pl,T.led,rfl,rfl,rfl,c9D T.up nj,sz1,?_⟩
 ·unfold layNew
  rw [ef]
  dsimp only
  unfold SetTable.put
  have hd:SetTable.has t.dummies j=false:=by rw [T.dm]; exact b8N j
  dsimp only
  rw [hd]
  have ft:SetTable.fits { t with place:=SetTable.insertAt t.place (SetTable.below t.place j) j } (SetTable.insertAt es (SetTable.below t.place j) (((v:Nat):Int),x)).size=true:=by
   unfold SetTable.fits SetTable.fill
   dsimp only
   rw [sz1,es1,T.dm]
   simp
   omega
  unfold SetTable.orStandIn
  simp only [if_false,Bool.false_eq_true]
  rw [if_pos ft,ft]
  rfl
 ·unfold Es
  rw [SetTable.toList_insertAt]
  exact paired_app (paired_take _ hE) (.cons ⟨rfl,hx⟩ (paired_drop _ hE))
 ·intro hm
  dsimp only
  have:=ej hm
  subst this
  rcases T.sh with ⟨m7,l4⟩ | ⟨m15,pe,fl⟩
  ·omega
  ·rw [SetTable.toList_insertAt,pe]
end Sm
set_option maxHeartbeats 1000000
namespace Sm
open PySem
def Owns (m:Nat) (owner:Array (Option Nat)) (L:List Nat):Prop:=owner.size=m+1/\∀ j,j<=m->owner.getD j none=if j∈L then some (L.idxOf j) else none
theorem c2A {m:Nat} {owner:Array (Option Nat)} {L:List Nat} (O:Owns m owner L) {v f:Nat} (hv:v<=m) (hn:v ∉ L):SetTable.layClean.free m owner (f+1) v v=some v:=by
 unfold SetTable.layClean.free
 obtain ⟨k,hk⟩:∃ k,SetTable.runEnd m v+1 - v=k+1:=⟨SetTable.runEnd m v - v,by unfold SetTable.runEnd; split <;> omega⟩
 rw [hk,List.range_succ_eq_map]
 have g:owner.getD (v+0) (some 0)=none:=by
  have a:=O.2 v hv
  rw [if_neg hn] at a
  have hs:v < owner.size:=by rw [O.1]; omega
  simp [Array.getD,hs] at a ⊢
  exact a
 rw [List.find?_cons_of_pos (by rw [g]; rfl)]
 rfl
theorem c2B {m:Nat} (hm:15<=m):∀ (R L:List Nat) (owner:Array (Option Nat)),Owns m owner L->(L++R).Nodup->(∀ v∈R,v < 16) ->
  ∃ owner',Owns m owner' (L++R)/\(R.map λ v=>((v:Nat):Int)).foldl (λ (acc:Option (Array (Option Nat) × Nat)) h=>do
   let (owner,k) <- acc
   let j <- SetTable.layClean.free m owner (SetTable.turns m) (SetTable.bits h % (m+1)) (SetTable.bits h)
   pure (owner.setIfInBounds j (some k),k+1)) (some (owner,L.length))=some (owner',(L++R).length):=by
 intro R
 induction R with
 | nil=>intro L owner O _ _; exact ⟨owner,by simpa using O,by simp⟩
 | cons v R ih =>
  intro L owner O nd hlt
  have hv:v < 16:=hlt v List.mem_cons_self
  have hn:v ∉ L:=λ c=>by
   have:=List.nodup_append.mp nd
   exact this.2.2 v c v List.mem_cons_self rfl
  have O':Owns m (owner.setIfInBounds v (some L.length)) (L++[v]):=by
   refine ⟨by rw [Array.size_setIfInBounds]; exact O.1,λ j hj=>?_⟩
   have hs:v < owner.size:=by rw [O.1]; omega
   have hs':j < owner.size:=by rw [O.1]; omega
   have a:=O.2 j hj
   by_cases e:j=v
   ·subst e
    rw [if_pos (List.mem_append_right _ (List.mem_singleton.mpr rfl)),List.idxOf_append,if_neg hn]
    simp [Array.getD,hs]
   ·have e1:(owner.setIfInBounds v (some L.length)).getD j none=owner.getD j none:=by
     simp only [Array.getD,Array.size_setIfInBounds,hs']
     simp [Array.getElem_setIfInBounds,hs',Ne.symm e]
    rw [e1,a]
    by_cases c:j∈L
    ·rw [if_pos c,if_pos (List.mem_append_left _ c),List.idxOf_append,if_pos c]
    ·rw [if_neg c,if_neg]
     intro d
     rcases List.mem_append.mp d with d | d
     ·exact c d
     ·exact e (List.mem_singleton.mp d)
  obtain ⟨o2,O2,e2⟩:=ih (L++[v]) _ O' (by simpa using nd) (λ u hu=>hlt u (List.mem_cons_of_mem _ hu))
  refine ⟨o2,by simpa using O2,?_⟩
  rw [List.map_cons,List.foldl_cons]
  have st:(do
   let (owner,k) <- some (owner,L.length)
   let j <- SetTable.layClean.free m owner (SetTable.turns m) (SetTable.bits ((v:Nat):Int) % (m+1)) (SetTable.bits ((v:Nat):Int))
   pure (owner.setIfInBounds j (some k),k+1):Option (Array (Option Nat) × Nat))=some (owner.setIfInBounds v (some L.length),(L++[v]).length):=by
   rw [b3O hv,Nat.mod_eq_of_lt (by omega)]
   have:SetTable.turns m=(m+14)+1:=rfl
   rw [this]
   show (SetTable.layClean.free m owner (m+14+1) v v).bind _=_
   rw [c2A O (by omega) hn]
   simp
  rw [st]
  have e3:(L++v::R)=L++[v]++R:=by simp
  rw [e3]
  exact e2
def upTo (m:Nat) (L:List Nat):List Nat:=(List.range (m+1)).filter λ j=>decide (j∈L)
theorem b3P (m:Nat) (L:List Nat):(upTo m L).Pairwise (· < ·):=List.Pairwise.filter _ List.pairwise_lt_range
theorem a7O {m:Nat} {L:List Nat} (h:∀ v∈L,v<=m) {j:Nat}:j∈upTo m L↔j∈L:=by
 unfold upTo
 rw [List.mem_filter,List.mem_range]
 constructor
 ·rintro ⟨_,b⟩; exact of_decide_eq_true b
 ·intro b; exact ⟨Nat.lt_succ_of_le (h j b),decide_eq_true b⟩
theorem a8E {L:List Nat} (h:L.Pairwise (· < ·)):L.Nodup:=h.imp λ h=>Nat.ne_of_lt h
theorem a5Z {m:Nat} {L:List Nat} (h:∀ v∈L,v<=m) (nd:L.Nodup):(upTo m L).Perm L :=
 (List.perm_ext_iff_of_nodup (a8E (b3P m L)) nd).mpr λ j=>a7O h
theorem c5T {L:List Nat} (nd:L.Nodup):L.map (λ v=>L.idxOf v)=List.range L.length:=by
 apply List.ext_getElem
 ·simp
 ·intro i h1 h2
  rw [List.getElem_map,List.getElem_range]
  exact List.Nodup.idxOf_getElem nd i _
theorem c5U {α β:Type} (p:α->Bool) (f:α->β):∀ l:List α,l.filterMap (λ a=>if p a=true then some (f a) else none)=(l.filter p).map f
 | []=>rfl
 | a::r=>by
  rw [List.filter_cons]
  cases e:p a with
  | true=>rw [List.filterMap_cons_some (b:=f a) (by rw [e]; rfl),c5U p f r]; simp
  | false=>rw [List.filterMap_cons_none (by rw [e]; rfl),c5U p f r]; simp
theorem a5X {α β:Type} {f g:α->Option β}:∀ {l:List α},(∀ a∈l,f a=g a)->l.filterMap f=l.filterMap g
 | [],_=>rfl
 | a::r,h=>by
  have e:=h a List.mem_cons_self
  have q:=a5X (l:=r) λ b hb=>h b (List.mem_cons_of_mem _ hb)
  cases c:f a with
  | none=>rw [List.filterMap_cons_none c,List.filterMap_cons_none (by rw [<- e]; exact c),q]
  | some b=>rw [List.filterMap_cons_some c,List.filterMap_cons_some (by rw [<- e]; exact c),q]
theorem Es.hashes {es:Array (Int × Value)} {L:List Nat} (h:Es es L):(es.map (·.1)).toList=L.map λ v=>((v:Nat):Int):=by
 rw [Array.toList_map]
 unfold Es at h
 generalize es.toList=l at h
 induction h with
 | nil=>rfl
 | cons r _ ih=>rw [List.map_cons,List.map_cons,ih,r.1]
theorem Es.at {es:Array (Int × Value)} {L:List Nat} (h:Es es L) {v:Nat} (hv:v∈L):∃ e,es[L.idxOf v]?=some e/\e.1=((v:Nat):Int)/\∃ tk,e.2=Value.int ((v:Nat):Int) tk:=by
 have hi:=List.idxOf_lt_length_of_mem hv
 obtain ⟨x,e,q⟩:=a0U h (L.idxOf v) hi
 rw [List.getElem_idxOf hi] at q
 exact ⟨x,by simpa using e,q⟩
theorem c9F {es:Array (Int × Value)} {L:List Nat} (h:Es es L):∀ S:List Nat,(∀ v∈S,v∈L)->Paired (λ e v=>e.1=((v:Nat):Int)/\∃ tk,e.2=Value.int ((v:Nat):Int) tk) ((S.map λ v=>L.idxOf v).filterMap λ i=>es[i]?) S
 | [],_=>.nil
 | v::S,hs=>by
  obtain ⟨e,a,b⟩:=h.at (hs v List.mem_cons_self)
  rw [List.map_cons,List.filterMap_cons_some a]
  exact .cons b (c9F h S λ u hu=>hs u (List.mem_cons_of_mem _ hu))
theorem b3Q {es:Array (Int × Value)} {L:List Nat} {m f mv:Nat} {led plain:Bool} (hm:15<=m) (hE:Es es L) (nd:L.Nodup) (hlt:∀ v∈L,v < 16) :
  ∃ order:Array Nat,SetTable.laid m f mv led plain (es.map (·.1))=some ({ mask:=m,place:=(upTo m L).toArray,dummies:=#[],finger:=f,led:=led,moves:=mv,plain:=plain },order) /\
   Es (order.filterMap (es[·]?)) (upTo m L)/\coversAll order es.size=true:=by
 have hle:∀ v∈L,v<=m:=λ v hv=>by have:=hlt v hv; omega
 have O0:Owns m (Array.replicate (m+1) none) []:=⟨by simp,λ j hj=>by simp [Array.getD]⟩
 obtain ⟨ow,O,e⟩:=c2B hm L [] _ O0 (by simpa using nd) hlt
 rw [List.nil_append] at O e
 have ec:SetTable.layClean m (es.map (·.1))=some ow:=by
  unfold SetTable.layClean
  rw [<- Array.foldl_toList,hE.hashes]
  have e':=e
  rw [List.length_nil] at e'
  show Option.map _ (List.foldl _ _ _)=_
  refine Eq.trans (congrArg (Option.map (·.1)) (Eq.trans ?_ e')) rfl
  rfl
 have lv:(List.range (m+1)).filterMap (λ j=>(ow.getD j none).map (λ k=>(j,k)))=(upTo m L).map λ j=>(j,L.idxOf j):=by
  unfold upTo
  rw [<- c5U]
  apply a5X
  intro j hj
  rw [O.2 j (by have:=List.mem_range.mp hj; omega)]
  by_cases c:j∈L
  ·simp [c]
  ·simp [c]
 refine ⟨((upTo m L).map λ j=>L.idxOf j).toArray,?_,?_,?_⟩
 ·unfold SetTable.laid
  rw [ec]
  show some _=some _
  have:(List.range (m+1)).filterMap (λ j=>(ow.getD j none).map (j,·))=(upTo m L).map λ j=>(j,L.idxOf j):=lv
  rw [this,List.map_map,List.map_map]
  have i1:((λ (x:Nat × Nat)=>x.1) ∘ λ j=>(j,L.idxOf j))=λ j=>j:=rfl
  have i2:((λ (x:Nat × Nat)=>x.2) ∘ λ j=>(j,L.idxOf j))=λ j=>L.idxOf j:=rfl
  rw [i1,i2,List.map_id']
 ·unfold Es
  rw [Array.toList_filterMap]
  exact c9F hE (upTo m L) λ v hv=>(a7O hle).mp hv
 ·unfold coversAll
  rw [List.isPerm_iff,hE.len]
  have p:=(a5Z hle nd).map λ v=>L.idxOf v
  rw [c5T nd] at p
  exact p
theorem b8S {m:Nat} {L:List Nat} (h:∀ v∈L,v < 16) (hm:15<=m) (nd:L.Nodup):(upTo m L).length=L.length:=(a5Z (λ v hv=>by have:=h v hv; omega) nd).length_eq
theorem a6Y {n:Nat} (h:n < 2 ^ 40):n < SetTable.sizeAbove n:=by
 have go:∀ fuel size,n < size*2 ^ fuel->n < SetTable.sizeAbove.go n fuel size:=by
  intro fuel
  induction fuel with
  | zero=>intro size h; unfold SetTable.sizeAbove.go; simpa using h
  | succ f ih =>
   intro size h
   unfold SetTable.sizeAbove.go
   split
   ·exact ih _ (by rw [Nat.pow_succ] at h; rw [Nat.mul_assoc,Nat.mul_comm 2]; exact h)
   ·omega
 exact go 64 8 (by omega)
theorem a6Z {n:Nat} (h:8<=n):16<=SetTable.sizeAbove n:=by
 have go:∀ fuel size,16<=size->16<=SetTable.sizeAbove.go n fuel size:=by
  intro fuel
  induction fuel with
  | zero=>intro size h; unfold SetTable.sizeAbove.go; exact h
  | succ f ih =>
   intro size h
   unfold SetTable.sizeAbove.go
   split
   ·exact ih _ (by omega)
   ·exact h
 unfold SetTable.sizeAbove
 unfold SetTable.sizeAbove.go
 rw [if_pos h]
 exact go 63 _ (by omega)
theorem Tb.fits {B:Bool} {t:SetTable} {L:List Nat} (T:Tb B t L):t.fits L.length=true:=by
 unfold SetTable.fits SetTable.fill
 have:=T.sz
 rw [T.dm]
 rcases T.sh with ⟨a,b⟩ | ⟨a,b,c⟩ <;> simp [this] <;> omega
theorem b3R {B:Bool} {L:List Nat} {m f mv:Nat} (hm:15<=m) (nd:L.Nodup) (hlt:∀ v∈L,v < 16) (hr:L.length*5 < m*3) :
  Tb B { mask:=m,place:=(upTo m L).toArray,dummies:=#[],finger:=f,led:=!B,moves:=mv,plain:=true } (upTo m L) where
 dm:=rfl
 pl:=rfl
 led:=rfl
 up:=by simpa using b3P m L
 sz:=by simp
 nd:=a8E (b3P m L)
 lt:=λ v hv=>hlt v ((a7O (λ v hv=>by have:=hlt v hv; omega)).mp hv)
 sh:=.inr ⟨hm,by simp,by rw [b8S hlt hm nd]; exact hr⟩
theorem c2C {B:Bool} {t:SetTable} {es:Array (Int × Value)} {L:List Nat} {n:Nat} (hp:t.plain=true) (hl:t.led = !B) (hE:Es es L) (nd:L.Nodup) (hlt:∀ v∈L,v < 16) (hn:8<=n) (h2:2*L.length<=n) (hb:n < 2 ^ 40) :
  ∃ es' t' L',relayAll t es n=(es',t',false)/\Es es' L'/\Tb B t' L'/\L'.Perm L:=by
 have a1:=a6Y hb
 have a2:=a6Z hn
 have hm:15<=SetTable.sizeAbove n - 1:=by omega
 obtain ⟨order,e,hE',hc⟩:=b3Q (f:=t.finger) (mv:=t.movedTo (SetTable.sizeAbove n - 1)) (led:=!B) (plain:=true) hm hE nd hlt
 have T:=b3R (B:=B) (f:=t.finger) (mv:=t.movedTo (SetTable.sizeAbove n - 1)) hm nd hlt (by omega)
 refine ⟨_,_,_,?_,hE',T,a5Z (λ v hv=>by have:=hlt v hv; omega) nd⟩
 unfold relayAll SetTable.relaid
 rw [hp,hl,e]
 dsimp only
 have z:=hE'.len
 rw [hc,z,T.fits]
 rfl
end Sm
set_option maxHeartbeats 1000000
namespace Sm
open PySem
abbrev setO (es:Array (Int × Value)) (ep:Nat) (t:SetTable):Obj:={ cls:=.type "set", dict:=none,data:=.set es ep t,slots:=#[] }
def SetAt (B:Bool) (h:Heap) (a:Addr) (L:List Nat):Prop:=∃ es ep t,h.get? a=some (setO es ep t)/\Es es L/\Tb B t L
def Dense (h:Heap) (a:Addr):Prop:=∃ es ep t,h.get? a=some (setO es ep t)/\(t.mask=7\/5<=es.size)
theorem Dense.keep {h h':Heap} {a:Addr} (S:Dense h a) (k:∀ o,h.get? a=some o->h'.get? a=some o):Dense h' a :=
 let ⟨es,ep,t,ho,r⟩:=S; ⟨es,ep,t,k _ ho,r⟩
theorem SetAt.keep {B:Bool} {h h':Heap} {a:Addr} {L:List Nat} (S:SetAt B h a L) (k:∀ o,h.get? a=some o->h'.get? a=some o):SetAt B h' a L :=
 let ⟨es,ep,t,ho,r⟩:=S; ⟨es,ep,t,k _ ho,r⟩
theorem Tb.len {B:Bool} {t:SetTable} {L:List Nat} (T:Tb B t L):L.length<=16:=by
 have:=b8R L (List.range 16) T.nd λ x hx=>List.mem_range.mpr (T.lt x hx)
 simpa using this
theorem b8T:∀ v:Nat,v < 16->hashInt ((v:Nat):Int)=((v:Nat):Int):=by decide +kernel
theorem Es.elems {prog:Program} {w:World} {es:Array (Int × Value)} {L:List Nat} (h:Es es L) (lt:∀ v∈L,v < 16):ElemsOf (intKind prog w) es.toList:=by
 unfold Es at h
 generalize es.toList=l at h
 induction h with
 | nil=>intro e he; simp at he
 | @cons x y xs ys r _ ih =>
  intro e he
  rcases List.mem_cons.mp he with rfl | he
  ·obtain ⟨tk,e2⟩:=r.2
   refine ⟨⟨((y:Nat):Int),?_,?_⟩,?_⟩
   ·show Value.isInt _ _=true
    rw [e2]; simp [Value.isInt]
   ·rw [r.1]; exact (b8T y (lt y List.mem_cons_self)).symm
   ·rw [e2]; rfl
  ·exact ih (λ v hv=>lt v (List.mem_cons_of_mem _ hv)) e he
theorem Es.find {es:Array (Int × Value)} {L:List Nat} (h:Es es L) (v:Nat):(es.toList.findIdx? λ e=>Value.isInt ((v:Nat):Int) e.2).isSome=decide (v∈L):=by
 unfold Es at h
 generalize es.toList=l at h
 induction h with
 | nil=>simp
 | @cons x y xs ys r _ ih =>
  obtain ⟨tk,e2⟩:=r.2
  rw [List.findIdx?_cons,e2]
  by_cases c:v=y
  ·subst c; simp [Value.isInt]
  ·have:Value.isInt ((v:Nat):Int) (.int ((y:Nat):Int) tk)=false:=by simp [Value.isInt]; omega
   rw [this]
   simp only [Bool.false_eq_true,if_false,Option.isSome_map]
   rw [ih]
   simp [c]
section
variable {prog:Program} {w:World} {A:Around} {E:Value->Shared->Prop} {s:Shared} {B:Bool} {a:Addr} {L:List Nat}
theorem c5V {es:Array (Int × Value)} {ep:Nat} {t:SetTable} {v tk:Nat} {ad:Bool} {Q:ScanMet->Shared->Prop} (ho:s.heap.get? a=some (setO es ep t)) (hE:Es es L) (T:Tb B t L) (hv:v < 16)
  (h1:v∈L->∀ j,Q (.found j) s) (h2:v ∉ L->Q .absent s):wpAny (model prog w) A (setScan a (.int ((v:Nat):Int) tk) ((v:Nat):Int) ad es) Q E s:=by
 have hf:t.fits es.size=true:=by rw [hE.len]; exact T.fits
 have sc:=wpAny_setScan_of (prog:=prog) (w:=w) (A:=A) (E:=E) (s:=s) (knd:=intKind prog w) (k:=((v:Nat):Int)) (x:=.int ((v:Nat):Int) tk) (adding:=ad) (Q:=Q) (by simp [intKind,Value.isInt]) ho rfl hf (hE.elems T.lt) (by
  have q:=hE.find v
  have e:(λ e:Int × Value=>(intKind prog w).is ((v:Nat):Int) e.2)=λ e=>Value.isInt ((v:Nat):Int) e.2:=rfl
  rw [e]
  cases c:es.toList.findIdx? (λ e=>Value.isInt ((v:Nat):Int) e.2) with
  | none=>rw [c] at q; exact h2 (of_decide_eq_false q.symm)
  | some j=>rw [c] at q; exact h1 (of_decide_eq_true q.symm) _)
 have e:(intKind prog w).hash ((v:Nat):Int)=((v:Nat):Int):=b8T v hv
 rw [e] at sc
 exact sc
theorem a6O {h:Heap} {es es':Array (Int × Value)} {ep:Nat} {t t':SetTable} (ho:h.get? a=some (setO es ep t)):(h.update a (Obj.putSet es' t')).get? a=some (setO es' (ep+1) t'):=by
 have:=Heap.get?_update_self (Obj.putSet es' t') ho (by rw [putSet_of es' t' rfl]; rfl)
 rw [putSet_of es' t' rfl] at this
 exact this
theorem c5W (prog:Program) (w:World) {es:Array (Int × Value)} {t:SetTable} {v tk:Nat} (hE:Es es L) (T:Tb B t L):byScan (.int ((v:Nat):Int) tk) es=true :=
 byScan_of (knd:=intKind prog w) rfl (by rw [hE.len]; have:=T.len; unfold scanBound; omega) (hE.elems T.lt)
theorem c4H {v tk:Nat} {Q:Bool->Shared->Prop} (S:SetAt B s.heap a L) (hv:v < 16)
  (h:∀ b h' L',Heap.SameBut a s.heap h'->SetAt B h' a L'->(∀ u,u∈L'↔u=v\/u∈L)->(Dense s.heap a->Dense h' a)->Q b { s with heap:=h' }) :
  wpAny (model prog w) A (setAddHashed a (.int ((v:Nat):Int) tk) ((v:Nat):Int)) Q E s:=by
 obtain ⟨es,ep,t,ho,hE,T⟩:=S
 have hf:t.fits es.size=true:=by rw [hE.len]; exact T.fits
 unfold setAddHashed setAddHashedIn
 refine wpAny_holding (wpAny_bind (wpAny_setState_of ho rfl hf ?_))
 dsimp only
 rw [c5W prog w hE T]
 simp only [↓reduceIte]
 unfold setAddByScan
 refine wpAny_bind ?_
 refine wpAny_bind (wpAny_rule ?_)
 refine wpAny_bind (c5V ho hE T hv (λ hm j=>?_) λ hm=>?_)
 ·dsimp only
  refine wpAny_pure (wpAny_pure ?_)
  have q:=h false s.heap L (Heap.SameBut.refl a s.heap) ⟨es,ep,t,ho,hE,T⟩ (λ u=>⟨.inr,λ c=>c.elim (λ e=>e ▸ hm) id⟩) id
  exact q
 ·dsimp only
  obtain ⟨t1,es1,p,e1,hE1,dm,pl,ld,mk,_,_,up,sz,own⟩:=c9E (x:=.int ((v:Nat):Int) tk) T hE hv hm ⟨tk,rfl⟩
  rw [e1]
  dsimp only
  refine wpAny_bind (wpAny_pure ?_)
  rw [pl]
  refine wpAny_bind (wpAny_pure ?_)
  simp only [↓reduceIte]
  have mem:∀ u,u∈L.take p++v::L.drop p↔u=v\/u∈L:=λ u=>by
   rw [List.mem_append,List.mem_cons]
   have e:u∈L↔u∈L.take p\/u∈L.drop p:=by rw [<- List.mem_append,List.take_append_drop]
   rw [e]
   constructor
   ·rintro (c | c | c)
    ·exact .inr (.inl c)
    ·exact .inl c
    ·exact .inr (.inr c)
   ·rintro (c | c | c)
    ·exact .inr (.inl c)
    ·exact .inl c
    ·exact .inr (.inr c)
  have nd1:(L.take p++v::L.drop p).Nodup:=by
   have pm:(L.take p++v::L.drop p).Perm (v::L):=by
    have:L.take p++L.drop p=L:=List.take_append_drop p L
    exact List.perm_middle.trans (by rw [this])
   exact pm.nodup_iff.mpr (List.nodup_cons.mpr ⟨hm,T.nd⟩)
  have lt1:∀ u∈L.take p++v::L.drop p,u < 16:=λ u hu=>((mem u).mp hu).elim (λ e=>e ▸ hv) (T.lt u)
  have ln1:(L.take p++v::L.drop p).length=L.length+1:=by
   rw [List.length_append,List.length_cons,List.length_take,List.length_drop]; omega
  have fl:t1.fill=L.length+1:=by unfold SetTable.fill; rw [dm,sz]; rfl
  have l16:=T.len
  have z1:es1.size=L.length+1:=by rw [hE1.len,ln1]
  refine wpAny_bind (wpAny_storeSet_of ho rfl ?_ (by rw [z1,sizeLine_eq]; omega))
  have ho1:=a6O (es':=es1) (t':=t1) ho
  cases tf:t1.tooFull with
  | false =>
   simp only [Bool.not_false,Bool.and_false,Bool.false_eq_true,if_false]
   refine wpAny_pure (wpAny_pure ?_)
   refine h true _ _ (Heap.SameBut.update ..) ⟨es1,ep+1,t1,ho1,hE1,⟨dm,pl,ld,up,by rw [ln1,sz],nd1,lt1,?_⟩⟩ mem (λ ⟨es0,ep0,t0,ho0,d⟩=>⟨es1,ep+1,t1,ho1,by
    rw [ho] at ho0; cases ho0
    rw [mk,z1]; have:=hE.len; omega⟩)
   unfold SetTable.tooFull at tf
   have tf':=of_decide_eq_false tf
   rw [fl,mk] at tf'
   rw [ln1,mk]
   rcases T.sh with ⟨m7,l4⟩ | ⟨m15,pe,_⟩
   ·refine .inl ⟨m7,by omega⟩
   ·exact .inr ⟨m15,own m15,by omega⟩
  | true =>
   simp only [Bool.not_false,Bool.and_self,if_true]
   unfold SetTable.tooFull at tf
   have tf':=of_decide_eq_true tf
   rw [fl,mk] at tf'
   have five:5<=L.length+1:=by
    rcases T.sh with ⟨m7,l4⟩ | ⟨m15,pe,_⟩ <;> omega
   have gr:SetTable.grown es1.size=(L.length+1)*4:=by
    unfold SetTable.grown
    rw [z1,if_neg (by omega)]
   obtain ⟨es2,t2,L2,e2,hE2,T2,pm⟩:=c2C (t:=t1) (n:=SetTable.grown es1.size) pl ld hE1 nd1 lt1 (by rw [gr]; omega) (by rw [gr,ln1]; omega) (by rw [gr]; omega)
   rw [e2]
   dsimp only
   refine wpAny_bind (wpAny_pure ?_)
   refine wpAny_bind (wpAny_storeSet_of ho1 rfl ?_ (by rw [hE2.len,pm.length_eq,ln1,sizeLine_eq]; omega))
   refine wpAny_pure (wpAny_pure ?_)
   exact h true _ L2 ((Heap.SameBut.update ..).trans (Heap.SameBut.update ..)) ⟨es2,_,t2,a6O ho1,hE2,T2⟩ (λ u=>(pm.mem_iff).trans (mem u)) λ _=>⟨es2,_,t2,a6O ho1,.inr (by rw [hE2.len,pm.length_eq,ln1]; exact five)⟩
end
end Sm
set_option maxHeartbeats 2000000
namespace Sm
open PySem
abbrev byT (w:World):Bool:=w.params.followText "set-order"
theorem a9Q {α:Type}:∀ (l:List α) (i:Nat) (h:i < l.length),(l[i]::l.eraseIdx i).Perm l
 | _::r,0,_=>.refl _
 | x::r,i+1,h=>by
  have q:=a9Q r i (by simpa using h)
  rw [List.getElem_cons_succ,List.eraseIdx_cons_succ]
  exact (List.Perm.swap x (r[i]'(by simpa using h)) (r.eraseIdx i)).trans (q.cons x)
theorem c5X {α:Type} (nx:Nat->Nat):∀ (fuel k:Nat) (left:List α) (out:Array α),left.length<=fuel->(pickOrder.go nx fuel k left out).toList.Perm (out.toList++left):=by
 intro fuel
 induction fuel with
 | zero =>
  intro k left out h
  have:left=[]:=List.length_eq_zero_iff.mp (by omega)
  subst this
  unfold pickOrder.go
  simp
 | succ f ih =>
  intro k left out h
  unfold pickOrder.go
  by_cases c:left=[]
  ·subst c; simp
  ·have pos:0 < left.length:=List.length_pos_iff.mpr c
   have lt:=Nat.mod_lt (nx k) pos
   rw [List.getElem?_eq_getElem lt]
   dsimp only
   refine (ih (k+1) _ _ (by rw [List.length_eraseIdx]; split <;> omega)).trans ?_
   rw [Array.toList_push,List.append_assoc]
   exact List.Perm.append_left _ (a9Q left _ lt)
theorem b2C {α:Type} (nx:Nat->Nat) (xs:Array α):(pickOrder nx xs).toList.Perm xs.toList:=by
 have:=c5X nx xs.size 0 xs.toList #[] (by simp)
 unfold pickOrder
 simpa using this
theorem b8U (a:Addr):setWalk a=(do
 let (xs,c,tb) <- setState a
 if <- setsByText then
  let q <- ask
  return pickOrder (q.params.setOrder a c) xs
 if !tb.plain && xs.size > 1 then return (<- drawOrder xs.size xs.toList).toArray
 (do if !tb.led && xs.size > 1 then unsupported "set:maker-not-led" : Sem Unit)
 return xs):=rfl
theorem Es.perm {es:Array (Int × Value)} {L:List Nat} (h:Es es L) {es':List (Int × Value)} (p:es'.Perm es.toList):∃ L',Paired (λ e v=>e.1=((v:Nat):Int)/\∃ tk,e.2=Value.int ((v:Nat):Int) tk) es' L'/\L'.Perm L:=by
 refine ⟨es'.map λ e=>e.1.toNat,?_,?_⟩
 ·have all:∀ e∈es.toList,∃ v:Nat,e.1=((v:Nat):Int)/\∃ tk,e.2=Value.int ((v:Nat):Int) tk:=by
   unfold Es at h
   generalize es.toList=l at h
   clear p
   induction h with
   | nil=>intro e he; simp at he
   | cons r _ ih =>
    intro e he
    rcases List.mem_cons.mp he with rfl | he
    ·exact ⟨_,r⟩
    ·exact ih e he
  have all':∀ e∈es',∃ v:Nat,e.1=((v:Nat):Int)/\∃ tk,e.2=Value.int ((v:Nat):Int) tk:=λ e he=>all e (p.mem_iff.mp he)
  clear p
  induction es' with
  | nil=>exact .nil
  | cons e r ih =>
   obtain ⟨v,e1,e2⟩:=all' e List.mem_cons_self
   rw [List.map_cons]
   refine .cons ?_ (ih λ x hx=>all' x (List.mem_cons_of_mem _ hx))
   rw [e1]
   exact ⟨rfl,e2⟩
 ·refine (p.map λ e=>e.1.toNat).trans ?_
  unfold Es at h
  generalize es.toList=l at h
  have:l.map (λ e=>e.1.toNat)=L:=by
   induction h with
   | nil=>rfl
   | cons r _ ih=>rw [List.map_cons,ih,r.1]; rfl
  rw [this]
section
variable {prog:Program} {w:World} {A:Around} {E:Value->Shared->Prop} {s:Shared} {a:Addr} {L:List Nat}
theorem a2H {es:Array (Int × Value)} {ep:Nat} {t:SetTable} {B:Bool} {Q:(Array (Int × Value) × Nat × SetTable)->Shared->Prop} (ho:s.heap.get? a=some (setO es ep t)) (hE:Es es L) (T:Tb B t L) (h:Q (es,ep,t) s) :
  wpAny (model prog w) A (setState a) Q E s:=wpAny_setState_of ho rfl (by rw [hE.len]; exact T.fits) h
theorem a3Z {Q:Bool->Shared->Prop} (h:Q (byT w) s):wpAny (model prog w) A setsByText Q E s:=by
 unfold setsByText
 exact wpAny_bind (wpAny_askSetting (wpAny_pure h))
theorem c5Y {es:Array (Int × Value)} {ep:Nat} {t:SetTable} {Q:Array (Int × Value)->Shared->Prop} (ho:s.heap.get? a=some (setO es ep t)) (hE:Es es L) (T:Tb (byT w) t L)
  (h:∀ es',es'.toList.Perm es.toList->Q es' s):wpAny (model prog w) A (setWalk a) Q E s:=by
 rw [b8U]
 refine wpAny_bind (a2H ho hE T ?_)
 refine wpAny_bind (a3Z ?_)
 have pl:=T.pl
 have ld:=T.led
 cases c:byT w with
 | true =>
  simp only [if_true]
  exact wpAny_bind (wpAny_askSetting (wpAny_pure (h _ (b2C _ _))))
 | false =>
  rw [c] at ld
  simp only [pl,ld,Bool.not_true,Bool.not_false,Bool.false_and,Bool.false_eq_true,if_false]
  first | exact wpAny_bind (wpAny_pure (wpAny_pure (h _ .rfl))) | exact wpAny_pure (h _ .rfl)
theorem b8V {es:Array (Int × Value)} {ep:Nat} {t:SetTable} {others:List Addr} {f:Option Addr} {Q:Array (Int × Value)->Shared->Prop} (ho:s.heap.get? a=some (setO es ep t)) (hE:Es es L) (T:Tb (byT w) t L)
  (h:∀ es',es'.toList.Perm es.toList->Q es' s):wpAny (model prog w) A (setWalkUnseen a others f) Q E s:=by
 unfold setWalkUnseen
 refine wpAny_bind (a2H ho hE T ?_)
 refine wpAny_bind (a3Z ?_)
 have e:(byT w || (t.led && t.plain) || decide (es.size<=1))=true:=by rw [T.led,T.pl]; cases byT w <;> rfl
 dsimp only
 rw [if_pos e]
 exact c5Y ho hE T h
def c2D (es:Array (Int × Value)) (laid:Option (SetTable × Array Nat)):Sem (Array (Int × Value) × SetTable):=do
 let some (t,order):=laid
  | unsupported "internal:set-table-without-room"
 if (order.filterMap (es[·]?)).size != es.size then unsupported "internal:set-table-lost-an-element"
 pure (order.filterMap (es[·]?),t)
theorem c2E (a:Addr) (n:Nat):setRelay a n=(do
 let (es,_,t) <- setState a
 if SetTable.sizeAbove n > sizeLine then unsupported "set:memory"
 let (es,t) <- c2D es (t.relaid (es.map (·.1)) n)
 storeSet a es t):=rfl
theorem b4Y {es:Array (Int × Value)} {t:SetTable} {order:Array Nat} {S:List Nat} {Q:Array (Int × Value) × SetTable->Shared->Prop} (hE':Es (order.filterMap (es[·]?)) S) (hz:es.size=S.length) (h:Q (order.filterMap (es[·]?),t) s) :
  wpAny (model prog w) A (c2D es (some (t,order))) Q E s:=by
 unfold c2D
 dsimp only
 have e:((order.filterMap (es[·]?)).size != es.size)=false:=by rw [hE'.len,hz]; simp
 simp only [e,Bool.false_eq_true,if_false]
 first | exact wpAny_bind (wpAny_pure (wpAny_pure h)) | exact wpAny_pure h
theorem c2F {n:Nat} (h:n<=64):SetTable.sizeAbove n<=128:=by
 have:∀ n,n<=64->SetTable.sizeAbove n<=128:=by decide +kernel
 exact this n h
theorem c5Z {more:Nat} {Q:Unit->Shared->Prop} {B:Bool} (S:SetAt B s.heap a L) (hm:more<=16)
  (h:∀ h' es ep t L',Heap.SameBut a s.heap h'->h'.get? a=some (setO es ep t)->Es es L'->Tb B t L'->L'.Perm L->(L.length+more)*5 < t.mask*3->Q () { s with heap:=h' }):wpAny (model prog w) A (setRoomFor a more) Q E s:=by
 obtain ⟨es,ep,t,ho,hE,T⟩:=S
 unfold setRoomFor
 refine wpAny_bind (a2H ho hE T ?_)
 have fl:t.fill=L.length:=by unfold SetTable.fill; rw [T.dm,T.sz]; rfl
 have l16:=T.len
 unfold SetTable.roomFor
 dsimp only
 rw [fl,T.sz]
 by_cases c:(L.length+more)*5 ≥ t.mask*3
 ·rw [if_pos c]
  dsimp only
  rw [c2E]
  refine wpAny_bind (a2H ho hE T ?_)
  have five:5<=L.length+more:=by
   rcases T.sh with ⟨m7,_⟩ | ⟨m15,_,_⟩ <;> omega
  have b1:=a6Y (n:=(L.length+more)*2) (by omega)
  have b2:=a6Z (n:=(L.length+more)*2) (by omega)
  have b3:=c2F (n:=(L.length+more)*2) (by omega)
  dsimp only
  rw [if_neg (by rw [sizeLine_eq]; omega)]
  have hm':15<=SetTable.sizeAbove ((L.length+more)*2) - 1:=by omega
  obtain ⟨order,e,hE',hc⟩:=b3Q (f:=t.finger) (mv:=t.movedTo (SetTable.sizeAbove ((L.length+more)*2) - 1)) (led:=t.led) (plain:=t.plain) hm' hE T.nd T.lt
  unfold SetTable.relaid
  rw [e]
  have lz:=b8S T.lt hm' T.nd
  refine wpAny_bind (b4Y hE' (by rw [hE.len,lz]) ?_)
  refine wpAny_storeSet_of ho rfl ?_ (by rw [hE'.len,lz,sizeLine_eq]; omega)
  have T':=b3R (B:=B) (f:=t.finger) (mv:=t.movedTo (SetTable.sizeAbove ((L.length+more)*2) - 1)) hm' T.nd T.lt (by omega)
  rw [<- T.led,<- T.pl] at T'
  exact h _ _ _ _ _ (Heap.SameBut.update ..) (a6O ho) hE' T' (a5Z (λ v hv=>by have:=T.lt v hv; omega) T.nd) (by show _ < (SetTable.sizeAbove ((L.length+more)*2) - 1)*3; omega)
 ·rw [if_neg c]
  refine wpAny_pure ?_
  exact h s.heap es ep t L (Heap.SameBut.refl a s.heap) ho hE T .rfl (by omega)
end
end Sm
set_option maxHeartbeats 2000000
namespace Sm
open PySem
theorem c2G (sA oA:Addr) (each:Sem Unit):setMerge sA oA each=(do
 if sA == oA then return
 let (eo,epoch,to) <- setState oA
 if eo.isEmpty then return
 setRoomFor sA eo.size
 let (_,_,ts) <- setState sA
 match ts.road to with
 | .slotForSlot =>
  storeSet sA eo { to with finger:=ts.finger,led:=ts.led && to.led,moves:=ts.moves,plain:=ts.plain && to.plain }
 | .clean =>
  let (es,t) <- c2D eo (SetTable.laid ts.mask ts.finger ts.moves (ts.led && to.led) (ts.plain && to.plain) (eo.map (·.1)))
  storeSet sA es t
 | .oneByOne =>
  for (h,x) in <- setWalkUnseen oA [sA] (some sA) do
   let _ <- holding [x] (setAddHashed sA x h)
   each
   if (<- setState oA).2.1 != epoch then unsupported "set.changed-during-merge"):=rfl
section
variable {prog:Program} {w:World} {A:Around} {E:Value->Shared->Prop} {s:Shared} {sA oA:Addr} {L1 L2:List Nat}
theorem b4Z {each:Sem Unit} {Q:Unit->Shared->Prop} (ne:sA≠oA) (S1:SetAt (byT w) s.heap sA L1) (S2:SetAt (byT w) s.heap oA L2) (D:Dense s.heap oA)
  (he:∀ (s':Shared) (Q':Unit->Shared->Prop),(∀ o,s.heap.get? oA=some o->s'.heap.get? oA=some o)->Q' () s'->wpAny (model prog w) A each Q' E s')
  (h:∀ h' L,Heap.SameBut sA s.heap h'->SetAt (byT w) h' sA L->(∀ u,u∈L↔u∈L1\/u∈L2)->Q () { s with heap:=h' }):wpAny (model prog w) A (setMerge sA oA each) Q E s:=by
 obtain ⟨eo,ep,to,ho,hE,T⟩:=S2
 rw [c2G]
 have nb:(sA == oA)=false:=beq_eq_false_iff_ne.mpr ne
 rw [nb]
 simp only [Bool.false_eq_true,if_false]
 refine wpAny_bind (a2H ho hE T ?_)
 dsimp only
 have hz:=hE.len
 have l16:=T.len
 by_cases c:eo.isEmpty=true
 ·rw [if_pos c]
  have l0:L2.length=0:=by rw [<- hz]; simpa using c
  have:L2=[]:=List.length_eq_zero_iff.mp l0
  subst this
  exact wpAny_pure (h s.heap L1 (Heap.SameBut.refl _ _) S1 λ u=>by simp)
 rw [if_neg c]
 refine wpAny_bind (c5Z S1 (by omega) λ h1 es1 ep1 t1 L1' sb1 ho1 hE1 T1 pm hr=>?_)
 have ho':h1.get? oA=some (setO eo ep to):=by rw [sb1.2 oA (Ne.symm ne)]; exact ho
 refine wpAny_bind (a2H (s:={ s with heap:=h1 }) ho1 hE1 T1 ?_)
 dsimp only
 have fl:t1.fill=L1'.length:=by unfold SetTable.fill; rw [T1.dm,T1.sz]; rfl
 unfold SetTable.road
 rw [fl,pm.length_eq]
 have ld:(t1.led && to.led) = !byT w:=by rw [T1.led,T.led]; simp
 have pl:(t1.plain && to.plain)=true:=by rw [T1.pl,T.pl]; rfl
 by_cases e0:L1.length=0
 ·have n1:L1=[]:=List.length_eq_zero_iff.mp e0
  have nb:(L1.length != 0)=false:=by rw [e0]; rfl
  rw [nb]
  simp only [Bool.false_eq_true,if_false]
  have dmt:to.dummies.isEmpty=true:=by rw [T.dm]; rfl
  by_cases em:t1.mask=to.mask
  ·have:(t1.mask == to.mask && to.dummies.isEmpty)=true:=by rw [em,dmt]; simp
   rw [this]
   simp only [if_true]
   refine wpAny_storeSet_of (s:={ s with heap:=h1 }) ho1 rfl ?_ (by rw [hz,sizeLine_eq]; omega)
   refine h _ L2 (sb1.trans (Heap.SameBut.update ..)) ⟨eo,_,_,a6O ho1,hE,⟨T.dm,pl,ld,T.up,T.sz,T.nd,T.lt,T.sh⟩⟩ λ u=>by rw [n1]; simp
  ·have:(t1.mask == to.mask && to.dummies.isEmpty)=false:=by rw [beq_eq_false_iff_ne.mpr em]; rfl
   rw [this]
   simp only [Bool.false_eq_true,if_false]
   have m15:15<=t1.mask:=by
    obtain ⟨es0,ep0,t0,ho0,d⟩:=D
    rw [ho] at ho0
    cases ho0
    rcases T1.sh with ⟨m7,_⟩ | ⟨m15,_⟩
    ·rw [m7] at hr
     rcases d with d | d
     ·exact absurd (m7.trans d.symm) em
     ·rw [hz] at hr; omega
    ·exact m15
   obtain ⟨order,e,hE',hc⟩:=b3Q (f:=t1.finger) (mv:=t1.moves) (led:=t1.led && to.led) (plain:=t1.plain && to.plain) m15 hE T.nd T.lt
   rw [e]
   have lz:=b8S T.lt m15 T.nd
   refine wpAny_bind (b4Y hE' (by rw [hz,lz]) ?_)
   refine wpAny_storeSet_of (s:={ s with heap:=h1 }) ho1 rfl ?_ (by rw [hE'.len,lz,sizeLine_eq]; omega)
   have T':=b3R (B:=byT w) (f:=t1.finger) (mv:=t1.moves) m15 T.nd T.lt (by rw [hz] at hr; omega)
   rw [<- ld,<- pl] at T'
   refine h _ _ (sb1.trans (Heap.SameBut.update ..)) ⟨_,_,_,a6O ho1,hE',?_⟩ λ u=>?_
   ·rw [ld] at T' ⊢
    exact T'
   ·rw [n1,a7O (λ v hv=>by have:=T.lt v hv; omega)]; simp
 ·have nb:(L1.length != 0)=true:=by simp [e0]
  rw [nb]
  simp only [if_true]
  refine wpAny_bind (b8V (s:={ s with heap:=h1 }) ho' hE T λ es' pe=>?_)
  obtain ⟨R,hR,pR⟩:=hE.perm pe
  refine wpAny_bind ?_
  rw [<- Array.forIn_toList]
  refine wpAny_forIn_list _ (λ rest _ s'=>∃ h' L R,s'={ s with heap:=h' }/\Heap.SameBut sA s.heap h'/\SetAt (byT w) h' sA L/\Paired (λ (e:Int × Value) (v:Nat)=>e.1=((v:Nat):Int)/\∃ tk,e.2=Value.int ((v:Nat):Int) tk) rest R /\
   (∀ v∈R,v < 16)/\∀ u,(u∈L\/u∈R)↔(u∈L1\/u∈L2)) _ ?_ ?_ _ _ ⟨h1,L1',R,rfl,sb1,⟨es1,ep1,t1,ho1,hE1,T1⟩,hR,λ v hv=>T.lt v (pR.mem_iff.mp hv),λ u=>by rw [pm.mem_iff,pR.mem_iff]⟩
  ·rintro ⟨hh,x⟩ rest b s' ⟨h',L,R',rfl,sb,S,hP,lt,mem⟩
   cases hP with
   | @cons _ v _ R'' r t =>
    obtain ⟨e1,tk,e2⟩:=r
    dsimp only at e1 e2
    subst e1; subst e2
    dsimp only
    refine wpAny_bind (wpAny_holding (c4H (s:={ s with heap:=h' }) S (lt v List.mem_cons_self) λ b2 h2 L' sb2 S' mem' _=>?_))
    have sb3:=sb.trans sb2
    have oo:h2.get? oA=some (setO eo ep to):=by rw [sb3.2 oA (Ne.symm ne)]; exact ho
    refine wpAny_bind (he _ _ (λ o q=>by rw [ho] at q; cases q; exact oo) ?_)
    refine wpAny_bind (a2H (s:={ s with heap:=h2 }) oo hE T ?_)
    simp only [bne_self_eq_false,Bool.false_eq_true,if_false]
    refine wpAny_pure ⟨h2,L',R'',rfl,sb3,S',t,λ u hu=>lt u (List.mem_cons_of_mem _ hu),λ u=>?_⟩
    rw [mem' u,<- mem u,List.mem_cons]
    constructor
    ·rintro ((q | q) | q)
     ·exact .inr (.inl q)
     ·exact .inl q
     ·exact .inr (.inr q)
    ·rintro (q | q | q)
     ·exact .inl (.inr q)
     ·exact .inl (.inl q)
     ·exact .inr q
  ·rintro b s' ⟨h',L,R',rfl,sb,S,hP,lt,mem⟩
   cases hP
   exact wpAny_pure (h h' L sb S λ u=>by rw [<- mem u]; simp)
end
end Sm
set_option maxHeartbeats 2000000
namespace Sm
open PySem PySem.Builtin.Frozenset
theorem b8W:isSubtype (.type "set") (.type "set")=pure true:=by rw [isSubtype_type]; kernel_rfl
theorem c2H:entryFor table "set.__or__" = some Builtin.«frozenset.__or__» := entryFor_alias (id':="frozenset.__or__") (by kernel_rfl) rfl (by decide +kernel) (by kernel_rfl)
theorem b6O:entryFor table "set.__iter__" = some Builtin.«frozenset.__iter__» := entryFor_alias (id':="frozenset.__iter__") (by kernel_rfl) rfl (by decide +kernel) (by kernel_rfl)
def b5A (id:String) (l:Addr) (r:Value):Sem Value:=do
 let result <- copyOf l
 if r != .ref l then
  let q <- addrOf result
  holding [result] (updateFrom id q r)
 return result
theorem d2B (x y:Value):Builtin.«frozenset.__or__» ⟨[x,y],[]⟩=(do
 let (self,other) <- slot1 "__or__" ⟨[x,y],[]⟩
 if !(<- isAnySet self <&&> isAnySet other) then
  rule s!"frozenset.{"__or__"}.declined"
  return <- ret .notImplemented
 ret (<- b5A s!"frozenset.{"__or__"}" (<- addrOf self) other)):=rfl
section
variable {prog:Program} {w:World} {A:Around} {E:Value->Shared->Prop} {s:Shared} {a b:Addr} {L1 L2:List Nat}
theorem b5B (B:Bool):Tb B (.fresh 0 0 (!B)) []:=⟨rfl,rfl,rfl,.nil,rfl,.nil,λ v h=>by simp at h,.inl ⟨rfl,by simp⟩⟩
theorem c9G {Q:Value->Shared->Prop} (h:Q (.ref s.heap.objs.size) { s with heap:=s.heap.push (setO #[] 0 (.fresh 0 0 (!byT w))) }):wpAny (model prog w) A (newSet (.type "set")) Q E s:=by
 unfold newSet
 refine wpAny_bind (a3Z ?_)
 dsimp only
 simp only [newObj]
 exact wpAny_bind (wpAny_alloc (wpAny_pure h))
theorem SetAt.type {B:Bool} (S:SetAt B s.heap a L1):s.TypeIs (.ref a) "set" := let ⟨_,_,_,ho,_⟩:=S; ⟨_,ho,rfl⟩
theorem b8X {B:Bool} {Q:Bool->Shared->Prop} (S:SetAt B s.heap a L1) (h:Q true s):wpAny (model prog w) A (isAnySet (.ref a)) Q E s:=by
 unfold isAnySet orM
 refine wpAny_bind (wpAny_isInstance S.type b8W ?_)
 exact wpAny_pure h
theorem c6A {Q:Value->Shared->Prop} (S:SetAt (byT w) s.heap a L1) (D:Dense s.heap a)
  (h:∀ h' L,(∀ b o,s.heap.get? b=some o->h'.get? b=some o)->SetAt (byT w) h' s.heap.objs.size L->(∀ u,u∈L↔u∈L1)->Q (.ref s.heap.objs.size) { s with heap:=h' }):wpAny (model prog w) A (copyOf a) Q E s:=by
 unfold copyOf baseOf
 refine wpAny_bind (wpAny_bind (wpAny_isInstance S.type b8W (wpAny_pure ?_)))
 simp only [if_true]
 refine wpAny_bind (c9G ?_)
 show wpAny _ _ (do setMerge s.heap.objs.size a; pure (Value.ref s.heap.objs.size)) _ _ _
 have lt:a < s.heap.objs.size:=by
  obtain ⟨_,_,_,ho,_⟩:=S
  exact Heap.lt_size ho
 have k:∀ b o,s.heap.get? b=some o->(s.heap.push (setO #[] 0 (.fresh 0 0 (!byT w)))).get? b=some o:=λ b o e=>Heap.get?_push_of_some _ e
 refine wpAny_bind (b4Z (s:={ s with heap:=s.heap.push (setO #[] 0 (.fresh 0 0 (!byT w))) }) (L1:=[]) (Nat.ne_of_gt lt) ⟨#[],0,_,Heap.get?_push_size _ rfl,.nil,b5B _⟩ (S.keep (k a)) (D.keep (k a)) (λ s' Q' _ q=>wpAny_pure q) λ h' L sb S' mem=>?_)
 refine wpAny_pure (h h' L (λ b o e=>?_) S' λ u=>by rw [mem u]; simp)
 have lb:=Heap.lt_size e
 rw [sb.2 b (Nat.ne_of_lt lb)]
 exact k b o e
theorem b0N {es:Array (Int × Value)} {ep:Nat} {t:SetTable} {B:Bool} {Q:Nat->Shared->Prop} (ho:s.heap.get? a=some (setO es ep t)) (hE:Es es L1) (T:Tb B t L1) (h:Q ep s):wpAny (model prog w) A (setEpoch a) Q E s :=
 wpAny_setEpoch_of ho rfl (by rw [hE.len]; exact T.fits) h
theorem c2I {id:String} {Q:Value->Shared->Prop} (ne:a≠b) (S1:SetAt (byT w) s.heap a L1) (D1:Dense s.heap a) (S2:SetAt (byT w) s.heap b L2) (D2:Dense s.heap b)
  (h:∀ h' L,(∀ b o,s.heap.get? b=some o->h'.get? b=some o)->SetAt (byT w) h' s.heap.objs.size L->(∀ u,u∈L↔u∈L1\/u∈L2)->Q (.ref s.heap.objs.size) { s with heap:=h' }) :
  wpAny (model prog w) A (b5A id a (.ref b)) Q E s:=by
 unfold b5A
 refine wpAny_bind (c6A S1 D1 λ h1 L k S mem=>?_)
 have nb:(Value.ref b != Value.ref a)=true:=by simp [Ne.symm ne]
 rw [nb]
 simp only [if_true]
 have S2':=S2.keep (k b)
 have D2':=D2.keep (k b)
 have lt:b < s.heap.objs.size:=by
  obtain ⟨_,_,_,ho,_⟩:=S2
  exact Heap.lt_size ho
 have S2c:=S2'
 obtain ⟨es,ep,t,ho,hE,T⟩:=S2c
 show wpAny _ _ (holding [Value.ref s.heap.objs.size] (updateFrom id s.heap.objs.size (.ref b)) >>= λ _=>pure (Value.ref s.heap.objs.size)) _ _ _
 refine wpAny_bind (wpAny_holding ?_)
 unfold updateFrom
 refine wpAny_bind (b8X (s:={ s with heap:=h1 }) S2' ?_)
 simp only [if_true]
 show wpAny _ _ (merge id s.heap.objs.size b) _ _ _
 unfold merge
 refine wpAny_bind (b0N (s:={ s with heap:=h1 }) ho hE T ?_)
 refine b4Z (s:={ s with heap:=h1 }) (Nat.ne_of_gt lt) S S2' D2' (λ s' Q' ks q=>?_) λ h' L' sb S' mem'=>?_
 ·unfold unchanged
  refine wpAny_bind (b0N (s:=s') (ks _ ho) hE T ?_)
  simp only [bne_self_eq_false,Bool.false_eq_true,if_false]
  exact wpAny_pure q
 ·refine wpAny_pure (h h' L' (λ c o e=>?_) S' λ u=>by rw [mem' u,mem u])
  rw [sb.2 c (Nat.ne_of_lt (Heap.lt_size e))]
  exact k c o e
theorem d2C {Q:Value->Shared->Prop} (ne:a≠b) (S1:SetAt (byT w) s.heap a L1) (D1:Dense s.heap a) (S2:SetAt (byT w) s.heap b L2) (D2:Dense s.heap b)
  (h:∀ h' L,(∀ b o,s.heap.get? b=some o->h'.get? b=some o)->SetAt (byT w) h' s.heap.objs.size L->(∀ u,u∈L↔u∈L1\/u∈L2)->Q (.ref s.heap.objs.size) { s with heap:=h' }) :
  wpAny (model prog w) A (binaryOp .BitOr (.ref a) (.ref b)) Q E s:=by
 refine wpAny_binaryOp_same S1.type S2.type F.fills_set_or F.slot_set_or (wpAny_call_entry F.slot_set_or S1.type c2H ?_ (F.args_set_or_2 _ _))
 rw [d2B]
 refine wpAny_bind (m:=slot1 "__or__" _) (wpAny_pure ?_)
 dsimp only
 unfold andM
 refine wpAny_bind (wpAny_bind (b8X S1 ?_))
 refine b8X S2 ?_
 simp only [Bool.not_true,Bool.false_eq_true,if_false]
 show wpAny _ _ (b5A _ a (.ref b) >>= λ v=>ret v) _ _ _
 refine wpAny_bind (c2I ne S1 D1 S2 D2 λ h' L k S mem=>?_)
 exact wpAny_pure ⟨_,rfl,by simp,h h' L k S mem⟩
end
end Sm
set_option maxHeartbeats 4000000
namespace Sm
open PySem
theorem slot_si_next:Slot "set_iterator" "__next__" "set_iterator.__next__" := .of (owner:="set_iterator") (n:="__next__") (by rw [typeLookup_type,builtinLookup_eq_fast]; kernel_rfl) (by decide +kernel) (by decide +kernel) (by decide +kernel) (by first | exact .inl (by decide +kernel) | exact .inr (by decide +kernel)) (by rw [isSubtype_type]; kernel_rfl)
theorem a6A:entryFor table "set_iterator.__next__" = some Builtin.«set_iterator.__next__» := entryFor_of_fast (by kernel_rfl)
theorem a7A (a:Value):argsOk "set_iterator.__next__" ⟨[a],[]⟩:=by unfold argsOk; kernel_rfl
theorem a7B:Slot "set_iterator" "__iter__" "set_iterator.__iter__" := .of (owner:="set_iterator") (n:="__iter__") (by rw [typeLookup_type,builtinLookup_eq_fast]; kernel_rfl) (by decide +kernel) (by decide +kernel) (by decide +kernel) (by first | exact .inl (by decide +kernel) | exact .inr (by decide +kernel)) (by rw [isSubtype_type]; kernel_rfl)
theorem b2D (a:Value):argsOk "set_iterator.__iter__" ⟨[a],[]⟩:=by unfold argsOk; kernel_rfl
end Sm
set_option maxHeartbeats 4000000
namespace Sm
open PySem
theorem b0O:entryFor table "set_iterator.__iter__" = some Builtin.«dict_keyiterator.__iter__» := entryFor_alias (id':="dict_keyiterator.__iter__") (by kernel_rfl) rfl (by decide +kernel) (by kernel_rfl)
def a2N (w:World) (a:Addr) (ep:Nat) (es:Array (Int × Value)):Array (Int × Value):=if byT w=true then pickOrder (w.params.setOrder a ep) es else es
theorem a8F (w:World) (a:Addr) (ep:Nat) (es:Array (Int × Value)):(a2N w a ep es).toList.Perm es.toList:=by
 unfold a2N
 split
 ·exact b2C _ _
 ·exact .rfl
theorem a3N (w:World) (a:Addr) (ep:Nat) (es:Array (Int × Value)):(a2N w a ep es).size=es.size:=by
 have:=(a8F w a ep es).length_eq
 simpa using this
theorem c6B (a:Addr) (slot given epochThen:Nat):setNext a slot given epochThen=(do
 let (xs,c,tb) <- setState a
 if <- setsByText then
  if c != epochThen then
   unsupported "set_iterator.__next__:elements-changed"
  let zs <- setWalk a
  return (zs[given]?).map λ z=>(z.2,slot)
 if !tb.plain && xs.size > 1 then
  unsupported "set_iterator.__next__:the-table-is-plain-no-more"
 (do if !tb.led && !xs.isEmpty then unsupported "set:maker-not-led" : Sem Unit)
 return match xs[SetTable.below tb.place slot]?,tb.place[SetTable.below tb.place slot]? with
  | some (_,z),some m=>some (z,m+1)
  | _,_=>none):=rfl
def a3Q (B:Bool) (t:SetTable) (i:Nat):Nat:=if B=true then 0 else if i=0 then 0 else t.place.getD (i - 1) 0+1
theorem b6P {B:Bool} {t:SetTable} {L:List Nat} (T:Tb B t L) (hB:B=false):∀ i,i<=L.length->SetTable.below t.place (a3Q B t i)=i
 | 0,_=>by
  unfold a3Q
  rw [hB]
  exact b6M T.up
 | k+1,h=>by
  unfold a3Q
  rw [hB]
  have hk:k < t.place.size:=by rw [T.sz]; omega
  simp only [Bool.false_eq_true,if_false,Nat.add_sub_cancel]
  rw [if_neg (by omega)]
  have:t.place.getD k 0=t.place[k]:=by simp [Array.getD,hk]
  rw [this]
  exact b6N T.up hk
section
variable {prog:Program} {w:World} {A:Around} {E:Value->Shared->Prop} {s:Shared} {a:Addr} {L:List Nat}
theorem c6C {es:Array (Int × Value)} {ep:Nat} {t:SetTable} {Q:Array (Int × Value)->Shared->Prop} (ho:s.heap.get? a=some (setO es ep t)) (hE:Es es L) (T:Tb (byT w) t L)
  (h:Q (a2N w a ep es) s):wpAny (model prog w) A (setWalk a) Q E s:=by
 rw [b8U]
 refine wpAny_bind (a2H ho hE T ?_)
 refine wpAny_bind (a3Z ?_)
 have pl:=T.pl
 have ld:=T.led
 unfold a2N at h
 cases c:byT w with
 | true =>
  rw [c] at h
  simp only [if_true] at h ⊢
  exact wpAny_bind (wpAny_askSetting (wpAny_pure h))
 | false =>
  rw [c] at ld h
  simp only [pl,ld,Bool.not_true,Bool.not_false,Bool.false_and,Bool.false_eq_true,if_false] at h ⊢
  first | exact wpAny_bind (wpAny_pure (wpAny_pure h)) | exact wpAny_pure h
theorem b5C {es:Array (Int × Value)} {ep i:Nat} {t:SetTable} {Q:Option (Value × Nat)->Shared->Prop} (ho:s.heap.get? a=some (setO es ep t)) (hE:Es es L) (T:Tb (byT w) t L) (hi:i<=L.length)
  (h:Q (((a2N w a ep es)[i]?).map λ e=>(e.2,a3Q (byT w) t (i+1))) s):wpAny (model prog w) A (setNext a (a3Q (byT w) t i) i ep) Q E s:=by
 rw [c6B]
 refine wpAny_bind (a2H ho hE T ?_)
 refine wpAny_bind (a3Z ?_)
 have pl:=T.pl
 have ld:=T.led
 cases c:byT w with
 | true =>
  simp only [if_true,bne_self_eq_false,Bool.false_eq_true,if_false]
  refine wpAny_bind (c6C ho hE T (wpAny_pure ?_))
  rw [c] at h
  unfold a3Q at h ⊢
  simp only [if_true] at h ⊢
  exact h
 | false =>
  rw [c] at ld h
  simp only [pl,ld,Bool.not_true,Bool.not_false,Bool.false_and,Bool.false_eq_true,if_false]
  have bs:=b6P T c i hi
  rw [c] at bs
  rw [bs]
  have wk:a2N w a ep es=es:=by unfold a2N; rw [c]; rfl
  rw [wk] at h
  have e:(match es[i]?,t.place[i]? with
   | some (_,z),some m=>some (z,m+1)
   | _,_=>none)=(es[i]?).map λ e=>(e.2,a3Q false t (i+1)):=by
   by_cases q:i < L.length
   ·have h1:i < es.size:=by rw [hE.len]; exact q
    have h2:i < t.place.size:=by rw [T.sz]; exact q
    rw [Array.getElem?_eq_getElem h1,Array.getElem?_eq_getElem h2]
    unfold a3Q
    simp [Array.getD,h2]
   ·have h1:es[i]?=none:=Array.getElem?_eq_none (by rw [hE.len]; omega)
    rw [h1]
    rfl
  first
  | exact wpAny_bind (wpAny_pure (wpAny_pure (by rw [e]; exact h)))
  | exact wpAny_pure (by rw [e]; exact h)
abbrev itO (sl i:Nat) (a:Addr) (n ep:Nat):Obj:={ cls:=.type "set_iterator", dict:=none,data:=.fields #[.int (sl:Nat) 0,.int (i:Nat) 0,.ref a,.int (n:Nat) 0,.int (ep:Nat) 0],slots:=#[] }
theorem c6D {I:Addr} {es:Array (Int × Value)} {ep i:Nat} {t:SetTable} {e:Int × Value} {Q:Option Value->Shared->Prop} (ne:a≠I) (ho:s.heap.get? a=some (setO es ep t)) (hE:Es es L) (T:Tb (byT w) t L)
  (hI:s.heap.get? I=some (itO (a3Q (byT w) t i) i a L.length ep)) (hw:(a2N w a ep es)[i]?=some e)
  (h:∀ h',h'.get? I=some (itO (a3Q (byT w) t (i+1)) (i+1) a L.length ep)->Heap.SameBut I s.heap h'->Q (some e.2) { s with heap:=h' }):wpAny (model prog w) A (pyNext (.ref I)) Q E s:=by
 have hi:i < L.length:=by
  rcases Nat.lt_or_ge i (a2N w a ep es).size with q | q
  ·rw [a3N,hE.len] at q; exact q
  ·rw [Array.getElem?_eq_none q] at hw; cases hw
 have hT:s.TypeIs (.ref I) "set_iterator" := ⟨_,hI,rfl⟩
 unfold pyNext
 refine wpAny_bind (wpAny_attempt (wpAny_callSpecial?_slot (name:=Str.ofString "__next__") hT slot_si_next (wpAny_call_entry slot_si_next hT a6A ?_ (a7A _))))
 unfold Builtin.«set_iterator.__next__»
 refine wpAny_bind (m:=slotArgs "__next__" 0 _) (wpAny_pure ?_)
 dsimp only
 refine wpAny_bind (wpAny_fieldsOf hI rfl ?_)
 dsimp only
 unfold setEntries
 refine wpAny_bind (wpAny_bind (a2H ho hE T (wpAny_pure ?_)))
 have z:(((es.size:Nat):Int) != ((L.length:Nat):Int))=false:=by rw [hE.len]; simp
 dsimp only
 rw [z]
 simp only [Bool.false_eq_true,if_false,Int.toNat_natCast]
 refine wpAny_bind (b5C ho hE T (by omega) ?_)
 rw [hw]
 dsimp only [Option.map]
 refine wpAny_bind (wpAny_setField_rec hI (by simp) λ h1 hI1 sb1=>?_)
 refine wpAny_bind (wpAny_setField_rec (s:={ s with heap:=h1 }) hI1 (by simp) λ h2 hI2 sb2=>?_)
 refine wpAny_pure ⟨_,rfl,wpAny_pure (h h2 ?_ (sb1.trans sb2))⟩
 rw [hI2]
 simp [rawInt]
theorem c9H {I:Addr} {es:Array (Int × Value)} {ep:Nat} {t:SetTable} {Q:Option Value->Shared->Prop} (hh:A.handled=none) (ne:a≠I) (ho:s.heap.get? a=some (setO es ep t)) (hE:Es es L) (T:Tb (byT w) t L)
  (hI:s.heap.get? I=some (itO (a3Q (byT w) t L.length) L.length a L.length ep))
  (h:∀ h',Heap.ExtBut I s.heap h'->Q none { s with heap:=h' }):wpAny (model prog w) A (pyNext (.ref I)) Q E s:=by
 have hT:s.TypeIs (.ref I) "set_iterator" := ⟨_,hI,rfl⟩
 unfold pyNext
 refine wpAny_bind (wpAny_attempt (wpAny_callSpecial?_slot (name:=Str.ofString "__next__") hT slot_si_next (wpAny_call_entry slot_si_next hT a6A ?_ (a7A _))))
 unfold Builtin.«set_iterator.__next__»
 refine wpAny_bind (m:=slotArgs "__next__" 0 _) (wpAny_pure ?_)
 dsimp only
 refine wpAny_bind (wpAny_fieldsOf hI rfl ?_)
 dsimp only
 unfold setEntries
 refine wpAny_bind (wpAny_bind (a2H ho hE T (wpAny_pure ?_)))
 have z:(((es.size:Nat):Int) != ((L.length:Nat):Int))=false:=by rw [hE.len]; simp
 dsimp only
 rw [z]
 simp only [Bool.false_eq_true,if_false,Int.toNat_natCast]
 refine wpAny_bind (b5C ho hE T (by omega) ?_)
 rw [Array.getElem?_eq_none (by rw [a3N,hE.len]; exact Nat.le_refl _)]
 dsimp only [Option.map]
 refine wpAny_bind (wpAny_setField_rec hI (by simp) λ h1 hI1 sb1=>?_)
 refine wpAny_bind ?_
 simp only [newExc,newTuple]
 refine wpAny_bind (wpAny_newObj_type ?_ (by size_fits))
 refine wpAny_bind (m:=firstArgMember _ _) (wpAny_of_eq (a:=Value.none) (by first | rfl | (simp only [firstArgMember]; rfl)) ?_); refine wpAny_newObj_type ?_ (by size_fits)
 simp only [raiseNew]
 refine wpAny_bind (wpAny_handled ?_)
 rw [show A.in1.handled=none from hh]; refine wpAny_bind (wpAny_pure (wpAny_throw ?_))
 refine wpAny_bind (wpAny_isInstance (U:="StopIteration") (T:="StopIteration") (b:=true) ⟨_,Heap.get?_push_size _ rfl,rfl⟩ isSubtype_stop ?_)
 exact wpAny_pure (h _ ((sb1.extBut.push _).push _))
end
end Sm
set_option maxHeartbeats 4000000
namespace Sm
open PySem PyProof.Rows
section
variable {prog:Program} {w:World} {A:Around} {E:Value->Shared->Prop} {s:Shared} {a:Addr} {L:List Nat}
theorem c9I {I:Addr} {es:Array (Int × Value)} {ep:Nat} {t:SetTable} (hh:A.handled=none) (ne:a≠I) (hE:Es es L) (T:Tb (byT w) t L) :
  Walks prog w A I [I,a] [I] L.length (λ i v=>∃ e,(a2N w a ep es)[i]?=some e/\v=e.2)
   (λ i h=>h.get? I=some (itO (a3Q (byT w) t i) i a L.length ep)/\h.get? a=some (setO es ep t)) where
 sub:=λ b hb=>by simp at hb; simp [hb]
 frame:=λ _ _ _ st hk=>⟨hk I (by simp) _ st.1,hk a (by simp) _ st.2⟩
 item:=λ i s Q E hi st hQ=>by
  obtain ⟨e,he⟩:∃ e,(a2N w a ep es)[i]?=some e:=⟨_,Array.getElem?_eq_getElem (by rw [a3N,hE.len]; exact hi)⟩
  refine c6D ne st.2 hE T st.1 he λ h' hI sb=>?_
  exact hQ _ h' s.toks ⟨e,he,rfl⟩ ⟨hI,by rw [sb.2 a ne]; exact st.2⟩ λ b o hb q=>by rw [sb.2 b (λ c=>hb (by simp [c]))]; exact q
 done:=λ s Q E st hQ=>c9H hh ne st.2 hE T st.1 λ h' xb=>hQ h' s.toks λ b o hb q=>xb b o (λ c=>hb (by simp [c])) q
 self:=λ i s Q E st hQ=>by
  have hT:s.TypeIs (.ref I) "set_iterator" := ⟨_,st.1,rfl⟩
  refine wpAny_pyIter_slot hT a7B (wpAny_call_entry a7B hT b0O ?_ (b2D _))
  show wpAny _ _ (ret (Value.ref I)) _ _ s; exact wpAny_pure ⟨_,rfl, "set_iterator", _,hT,slot_si_next.lookup,hQ⟩
theorem c2J (a:Addr):setDrawn a=(do
 let (es,_,t) <- setState a
 let byText <- setsByText
 return !byText && (!t.plain && es.size > 1)):=rfl
theorem c6E {es:Array (Int × Value)} {ep:Nat} {t:SetTable} {Q:Value->Shared->Prop} (ho:s.heap.get? a=some (setO es ep t)) (hE:Es es L) (T:Tb (byT w) t L)
  (h:Q (.ref s.heap.objs.size) { s with heap:=s.heap.push (itO 0 0 a L.length ep) }):wpAny (model prog w) A (pyIter (.ref a)) Q E s:=by
 have hT:s.TypeIs (.ref a) "set" := ⟨_,ho,rfl⟩
 refine wpAny_pyIter_slot hT F.slot_set_iter (wpAny_call_entry F.slot_set_iter hT b6O ?_ (F.args_set_iter_1 _))
 unfold Builtin.«frozenset.__iter__»
 refine wpAny_bind (m:=Builtin.Frozenset.slot0 _ _) (wpAny_pure ?_)
 unfold Builtin.Frozenset.sizeOf setEntries
 refine wpAny_bind (wpAny_bind (wpAny_bind (a2H ho hE T (wpAny_pure (wpAny_pure ?_)))))
 rw [c2J]
 refine wpAny_bind (wpAny_bind (a2H ho hE T ?_))
 refine wpAny_bind (a3Z (wpAny_pure ?_))
 rw [T.pl]
 simp only [Bool.not_true,Bool.false_and,Bool.and_false,Bool.false_eq_true,if_false]
 refine wpAny_bind (wpAny_pure ?_)
 refine wpAny_bind (b0N ho hE T ?_)
 refine wpAny_bind ?_
 unfold newFields
 refine wpAny_newObj_type ?_
 refine wpAny_pure ⟨_,rfl, "set_iterator", _,⟨_,Heap.get?_push_size _ rfl,rfl⟩,slot_si_next.lookup,?_⟩
 rw [hE.len]
 exact h
theorem c6F:(Value.type "set" == Value.type "list")=false:=by decide
theorem c9J:(Value.type "set" == Value.type "tuple")=false:=by decide
theorem c2K:typeLookup (.type "set") "__len__" = pure (some (.builtin "set.__len__")):=F.slot_set_len.lookup
theorem b8Y:splitId "set.__len__" = some ("set", "__len__"):=by decide +kernel
theorem b3S {es:Array (Int × Value)} {ep:Nat} {t:SetTable} {Q:List Value->Shared->Prop} (hh:A.handled=none) (ho:s.heap.get? a=some (setO es ep t)) (hE:Es es L) (T:Tb (byT w) t L)
  (h:∀ (h':Heap) (tk:Nat),(∀ b o,s.heap.get? b=some o->h'.get? b=some o)->s.heap.objs.size < h'.objs.size->Q ((a2N w a ep es).toList.map (·.2)) { s with heap:=h',toks:=tk }):wpAny (model prog w) A (collect (.ref a)) Q E s:=by
 have lt:a < s.heap.objs.size:=Heap.lt_size ho
 unfold collect
 refine wpAny_bind (wpAny_runValue (codeAny_builtin F.entry_proto_collect ?_))
 rw [Around.under_plainId F.plain_proto_collect _]
 show wpAny _ A.in1 (newList [] >>= λ l=>again (.builtin "list.__iadd__" ⟨[l,.ref a],[]⟩)) _ _ s
 refine wpAny_bind (wpAny_newObj_type (wpAny_pure ⟨plainId_quiet F.plain_list_iadd _,codeAny_builtin F.entry_list_iadd ?_⟩))
 rw [Around.under_plainId F.plain_list_iadd _]
 have S0:(s.heap.push { cls:=.type "list", data:=.seq ([]:List Value).toArray }).get? s.heap.objs.size=some { cls:=.type "list", data:=.seq ([]:List Value).toArray }:=Heap.get?_push_size _ rfl
 have ho1:(s.heap.push { cls:=.type "list", data:=.seq ([]:List Value).toArray }).get? a=some (setO es ep t):=Heap.get?_push_of_some _ ho
 have hT1:Shared.TypeIs { s with heap:=s.heap.push { cls:=.type "list", data:=.seq ([]:List Value).toArray } } (.ref a) "set" := ⟨_,ho1,rfl⟩
 show wpAny _ A.in1 (Builtin.List.listExtendWith (.ref s.heap.objs.size) (.ref a) (.ref s.heap.objs.size)) _ _ { s with heap:=s.heap.push { cls:=.type "list", data:=.seq ([]:List Value).toArray } }
 unfold Builtin.List.listExtendWith
 refine wpAny_bind (wpAny_typeOf hT1 ?_)
 have n1:Builtin.List.listSameRef (.ref s.heap.objs.size) (.ref a)=false:=by simp [Builtin.List.listSameRef,Nat.ne_of_gt lt]
 simp only [n1,c6F,c9J,Bool.or_false,Bool.false_eq_true,if_false]
 refine wpAny_bind (c6E ho1 hE T ?_)
 refine wpAny_bind (wpAny_holding ?_)
 have ho2:((s.heap.push { cls:=.type "list", data:=.seq ([]:List Value).toArray }).push (itO 0 0 a L.length ep)).get? a=some (setO es ep t):=Heap.get?_push_of_some _ ho1
 have hT2:Shared.TypeIs { s with heap:=(s.heap.push { cls:=.type "list", data:=.seq ([]:List Value).toArray }).push (itO 0 0 a L.length ep) } (.ref a) "set" := ⟨_,ho2,rfl⟩
 unfold Builtin.List.listLengthHint
 refine wpAny_bind (wpAny_specialOf hT2 c2K ?_)
 dsimp only
 rw [b8Y]
 dsimp only
 refine wpAny_bind (wpAny_isInstance hT2 b8W ?_)
 rw [if_neg (by decide)]
 rw [if_pos (by decide +kernel)]
 refine wpAny_bind (wpAny_typeOf hT2 ?_)
 dsimp only
 refine wpAny_pure ?_
 rw [if_pos (by decide +kernel)]
 refine wpAny_bind (wpAny_rule ?_)
 have lsz:(s.heap.push { cls:=.type "list", data:=.seq ([]:List Value).toArray }).objs.size=s.heap.objs.size+1:=size_push' _ _
 have S1:((s.heap.push { cls:=.type "list", data:=.seq ([]:List Value).toArray }).push (itO 0 0 a L.length ep)).get? s.heap.objs.size=some { cls:=.type "list", data:=.seq ([]:List Value).toArray }:=Heap.get?_push_of_some _ S0
 refine wpAny_bind ?_
 show wpAny _ A.in1 (updateSeq s.heap.objs.size (·.push .none) >>= λ _=>updateSeq s.heap.objs.size (·.pop)) _ _ _
 refine wpAny_bind (wpAny_updateSeq S1 rfl ?_)
 have S2:=Heap.get?_update_self (Obj.mapSeq (·.push Value.none)) S1 rfl
 refine wpAny_updateSeq S2 rfl ?_
 have S3:=Heap.get?_update_self (Obj.mapSeq (·.pop)) S2 rfl
 have oth:∀ b o,b≠s.heap.objs.size->((s.heap.push { cls:=.type "list", data:=.seq ([]:List Value).toArray }).push (itO 0 0 a L.length ep)).get? b=some o ->
   ((((s.heap.push { cls:=.type "list", data:=.seq ([]:List Value).toArray }).push (itO 0 0 a L.length ep)).update s.heap.objs.size (Obj.mapSeq (·.push Value.none))).update s.heap.objs.size (Obj.mapSeq (·.pop))).get? b=some o :=
  λ b o hb e=>(Heap.get?_update_other _ _ (Ne.symm hb)).trans ((Heap.get?_update_other _ _ (Ne.symm hb)).trans e)
 have neI:a≠(s.heap.push { cls:=.type "list", data:=.seq ([]:List Value).toArray }).objs.size:=by rw [lsz]; exact Nat.ne_of_lt (Nat.lt_succ_of_lt lt)
 have W:=(c9I (prog:=prog) (w:=w) (A:=A.in1) (I:=(s.heap.push { cls:=.type "list", data:=.seq ([]:List Value).toArray }).objs.size) (ep:=ep) (by simpa using hh) neI hE T).toS
 have l16:=T.len
 have sl0:a3Q (byT w) t 0=0:=by unfold a3Q; split <;> rfl
 refine wpAny_pure ⟨plainId_quiet F.plain_extend_loop _,codeAny_extend_loopS W (by rw [sizeLine_eq]; omega) _ (by
   rw [lsz]; simp only [List.mem_cons,List.not_mem_nil,or_false,not_or]; exact ⟨Nat.ne_of_lt (Nat.lt_succ_self _),Nat.ne_of_gt lt⟩) _ _ 0 _ #[] _ rfl (Nat.zero_le _) ⟨?_,?_⟩ S3 (ItemsOf.nil _) λ s' acc' c' hm hS' hacc=>?_⟩
 ·refine oth _ _ (by rw [lsz]; exact Nat.ne_of_gt (Nat.lt_succ_self _)) ?_
  rw [sl0]
  exact Heap.get?_push_size _ rfl
 ·exact oth _ _ (Nat.ne_of_lt lt) ho2
 ·obtain ⟨h',g',d',tk',os'⟩:=s'
  have eg:g'=s.gens:=hm.gens
  have ed:d'=s.drawn:=hm.drawn
  have eo:os'=s.os:=hm.os
  subst eg; subst ed; subst eo
  show wpAny _ A (load s.heap.objs.size >>= _) _ _ _
  refine wpAny_bind (wpAny_load hS' ?_)
  dsimp only
  have el:acc'.toList=(a2N w a ep es).toList.map (·.2):=by
   apply List.ext_getElem?
   intro i
   rw [Array.getElem?_toList,List.getElem?_map,Array.getElem?_toList]
   rcases Nat.lt_or_ge i acc'.size with q | q
   ·obtain ⟨e,he,hv⟩:=hacc.2 i acc'[i] (Array.getElem?_eq_getElem q)
    rw [Array.getElem?_eq_getElem q,he,hv]
    rfl
   ·rw [Array.getElem?_eq_none q,Array.getElem?_eq_none (by rw [a3N,hE.len,<- hacc.1]; exact q)]
    rfl
  rw [el]
  refine wpAny_pure (h h' tk' (λ b o e=>?_) (Heap.lt_size hS'))
  have lb:b < s.heap.objs.size:=Heap.lt_size e
  refine hm.heap b o (by rw [lsz]; simp only [List.mem_cons,List.not_mem_nil,or_false,not_or]; exact ⟨Nat.ne_of_lt lb,Nat.ne_of_lt (Nat.lt_succ_of_lt lb)⟩) (oth b o (Nat.ne_of_lt lb) (Heap.get?_push_of_some _ (Heap.get?_push_of_some _ e)))
theorem c9K {h:Heap} {a b:Addr} {vs:List Value} {out:Array Value} {o:Obj} (lb:b < h.objs.size) (ne:b≠a) (e:h.get? b=some o):(sortedHeap h a vs out).get? b=some o:=by
 unfold sortedHeap
 rw [Heap.get?_update_ne _ _ _ _ ne]
 exact Heap.get?_push_of_some _ (Heap.get?_push_of_some _ (by rw [Heap.get?_update_ne _ _ _ _ ne]; exact e))
theorem d2D {h:Heap} {a:Addr} {vs:List Value} {xs out:Array Value} {n:Nat} (e:h.get? a=some (seqObj "list" xs n)):∃ n',(sortedHeap h a vs out).get? a=some (seqObj "list" out n'):=by
 unfold sortedHeap
 exact ⟨_,get?_update_seq (Heap.get?_push_of_some _ (Heap.get?_push_of_some _ (get?_update_seq e λ _=>#[]))) λ _=>out⟩
theorem b6Q {Q:Value->Shared->Prop} (hh:A.handled=none) (S:SetAt (byT w) s.heap a L)
  (h:∀ (h':Heap) (tk:Nat) (p:Addr) (vs:List Value) (n:Nat) (ns:List Int),(∀ b o,s.heap.get? b=some o->h'.get? b=some o)->s.heap.objs.size<=p->h'.get? p=some (seqObj "list" vs.toArray n)->IntsAre vs ns ->
   ns.Perm (L.map λ v=>((v:Nat):Int))->ns.Pairwise (· <= ·)->Q (.ref p) { s with heap:=h',toks:=tk }):wpAny (model prog w) A (call (.builtin "sorted") [.ref a]) Q E s:=by
 obtain ⟨es,ep,t,ho,hE,T⟩:=S
 have l16:=T.len
 apply Calls.call_function_entry kind_sorted plain_sorted entry_sorted (args_sorted1 _)
 unfold Builtin.«sorted»
 refine wpAny_bind (m:=checkCount "sorted" 1 1 _) (wpAny_pure ?_); refine wpAny_bind (b3S (by simpa using hh) ho hE T λ h1 tk k lz=>?_)
 obtain ⟨L',hP,pm⟩:=hE.perm (a8F w a ep es)
 have hl:L'.length=L.length:=pm.length_eq
 have hI:IntsAre ((a2N w a ep es).toList.map (·.2)) (L'.map λ v=>((v:Nat):Int)):=by
  generalize (a2N w a ep es).toList=l at hP
  clear pm hl
  induction hP with
  | nil=>exact .nil
  | cons r _ ih =>
   obtain ⟨q,e⟩:=r.2
   rw [List.map_cons,List.map_cons,e]
   exact .cons _ q ih
 have hn:((a2N w a ep es).toList.map (·.2)).length=L.length:=by rw [List.length_map,Array.length_toList,a3N,hE.len]
 refine wpAny_bind (wpAny_newList ?_ (by rw [hn,sizeLine_eq]; omega))
 have o1:(h1.push (seqObj "list" ((a2N w a ep es).toList.map (·.2)).toArray 0)).get? h1.objs.size=some (seqObj "list" ((a2N w a ep es).toList.map (·.2)).toArray 0):=Heap.get?_push_size _ rfl
 refine wpAny_bind (wpAny_holding (wpAny_call_entry slot_list_sort ⟨_,o1,rfl⟩ entry_list_sort (list_sort_tree o1 hI (by rw [hn]; omega) λ out ns a1 a2 a3=>⟨_,rfl,?_⟩) (args_list_sort _)))
 obtain ⟨n',o2⟩:=d2D (vs:=(a2N w a ep es).toList.map (·.2)) (out:=out) o1
 refine wpAny_pure ⟨_,rfl,h _ _ _ out.toList n' ns (λ b o e=>?_) (Nat.le_of_lt lz) (by simpa using o2) a1 (a2.trans (pm.map _)) a3⟩
 have lb:b < h1.objs.size:=Nat.lt_trans (Heap.lt_size e) lz
 exact c9K (by rw [size_push']; exact Nat.lt_succ_of_lt lb) (Nat.ne_of_lt lb) (Heap.get?_push_of_some _ (k b o e))
end
end Sm
set_option maxHeartbeats 4000000
namespace Sm
open PySem PyProof.Rows
section
variable {prog:Program} {w:World} {A:Around} {R:Result->Shared->Prop} {I:Addr} {fp wr:List Addr} {G:Array GenState->Array GenState->Prop} {n:Nat} {P:Nat->Value->Prop} {St:Nat->Shared->Prop}
theorem c6G (W:WalksS prog w A.in1 I fp wr G n P St) (S:Addr) (nf:S ∉ fp) (val:Nat->Nat) (hv:∀ i v,i < n->P i v->∃ t,v = .int ((val i:Nat):Int) t) (lt:∀ i,i < n->val i < 16) :
  ∀ (k i:Nat) (s:Shared) (L:List Nat),n - i=k->i<=n->St i s->SetAt (byT w) s.heap S L->Dense s.heap S->(∀ u,u∈L↔∃ j,j < i/\val j=u) ->
   (∀ s' L',Moved (S::wr) G s s'->SetAt (byT w) s'.heap S L'->Dense s'.heap S->(∀ u,u∈L'↔∃ j,j < n/\val j=u)->R (.ok (.ret .none)) s') ->
   codeAny (model prog w) A (.builtin "set.update.loop" ⟨[.ref S,.ref I],[]⟩) R s:=by
 have nw:S ∉ wr:=λ h=>nf (W.sub _ h)
 have up:∀ b∈wr,b∈S::wr:=λ b hb=>List.mem_cons_of_mem _ hb
 intro k
 induction k with
 | zero =>
  intro i s L hk hi st hS hD mem hR
  obtain rfl:i=n:=by omega
  refine codeAny_builtin F.entry_set_update_loop ?_
  rw [Around.under_plainId F.plain_set_update_loop _]; show wpAny _ A.in1 (pyNext (.ref I) >>= _) _ _ s; refine wpAny_bind (W.done s _ _ st λ s' hm=>?_)
  exact wpAny_pure (hR s' L (hm.mono up) (hS.keep λ o e=>hm.heap S o nw e) (hD.keep λ o e=>hm.heap S o nw e) mem)
 | succ k ih =>
  intro i s L hk hi st hS hD mem hR
  have li:i < n:=by omega
  refine codeAny_builtin F.entry_set_update_loop ?_
  rw [Around.under_plainId F.plain_set_update_loop _]; show wpAny _ A.in1 (pyNext (.ref I) >>= _) _ _ s; refine wpAny_bind (W.item i s _ _ li st λ v s' hP st' hm=>?_)
  obtain ⟨t,rfl⟩:=hv i v li hP
  have hS':=hS.keep λ o e=>hm.heap S o nw e
  have hD':=hD.keep λ o e=>hm.heap S o nw e
  show wpAny _ A.in1 (holding [Value.int ((val i:Nat):Int) t] (setAdd S (.int ((val i:Nat):Int) t)) >>= _) _ _ s'
  refine wpAny_bind (wpAny_holding ?_)
  unfold setAdd
  refine wpAny_holding (wpAny_bind ((intKind prog w).pyHash (k:=((val i:Nat):Int)) (intKind_is _ _ _ _) ?_))
  have eh:(intKind prog w).hash ((val i:Nat):Int)=((val i:Nat):Int):=b8T _ (lt i li)
  rw [eh]
  refine c4H (s:={ s' with toks:=s'.toks+1 }) hS' (lt i li) λ b h' L' sb S2 mem2 dn=>?_
  refine wpAny_pure ⟨plainId_quiet F.plain_set_update_loop _,ih (i+1) _ L' (by omega) li (W.frame _ s' _ _ st' (Nat.le_succ _) λ c hc o e=>?_) S2 (dn hD') (λ u=>?_) λ s2 L2 hm2 h2 h3 h4=>hR s2 L2 (Moved.trans W.gtrans ((hm.mono up).then_heap (Nat.le_succ _) λ c o hc e=>?_) hm2) h2 h3 h4⟩
  ·rw [sb.2 c (λ q:c=S=>nf (by rw [<- q]; exact hc))]; exact e
  ·rw [mem2 u,mem u]
   constructor
   ·rintro (rfl | ⟨j,hj,e⟩)
    ·exact ⟨i,Nat.lt_succ_self _,rfl⟩
    ·exact ⟨j,Nat.lt_succ_of_lt hj,e⟩
   ·rintro ⟨j,hj,e⟩
    rcases Nat.lt_or_ge j i with q | q
    ·exact .inr ⟨j,q,e⟩
    ·obtain rfl:j=i:=by omega
     exact .inl e.symm
  ·rw [sb.2 c (λ q:c=S=>hc (by rw [q]; exact List.mem_cons_self))]; exact e
end
section
variable {prog:Program} {w:World} {A:Around} {E:Value->Shared->Prop} {s:Shared}
theorem c6H (a:Value) {Q:Value->Shared->Prop} (h:Q (.ref s.heap.objs.size) { s with heap:=s.heap.push (setO #[] 0 (.fresh 0 0 (!byT w))) }) :
  codeAny (model prog w) A (.call (.builtin "set.__new__") ⟨[.type "set", a],[]⟩) (wants Q E) s:=by
 refine codeAny_of_tree ?_
 show wpAny _ A.in1 (do checkBuiltinCall "set.__new__" ⟨[.type "set", a],[]⟩; again (.builtin "set.__new__" ⟨[.type "set", a],[]⟩)) _ _ s; refine wpAny_bind (wpAny_of_eq (F.newCall_set_1 a) (wpAny_pure ⟨plainId_quiet F.plain_set_new _,codeAny_builtin F.entry_set_new ?_⟩))
 rw [Around.under_plainId F.plain_set_new _]
 unfold Builtin.«set.__new__» Builtin.Frozenset.newClass
 have hsub:=sub_set_self
 obtain ⟨hp,g,d,tk,os⟩:=s
 dsimp only at h ⊢
 wp_walk
 refine wpAny_askSetting (wpAny_pure ?_)
 dsimp only
 simp only [newObj]
 exact wpAny_bind (wpAny_alloc (wpAny_pure (wpAny_pure h)))
set_option maxHeartbeats 8000000 in
theorem c9L {l:Addr} {items:Array Value} {vals:List Nat} {Q:Value->Shared->Prop} (hh:A.handled=none) (hl:s.heap.IsList l items) (hi:IntsAre items.toList (vals.map λ v=>((v:Nat):Int))) (lt:∀ v∈vals,v < 16)
  (h:∀ (h':Heap) (tk:Nat) (L:List Nat),SetAt (byT w) h' s.heap.objs.size L->Dense h' s.heap.objs.size->(∀ u,u∈L↔u∈vals)->(∀ b o,b < s.heap.objs.size->s.heap.get? b=some o->h'.get? b=some o)->Q (.ref s.heap.objs.size) { s with heap:=h',toks:=tk }) :
  wpAny (model prog w) A (call (.type "set") [.ref l]) Q E s:=by
 obtain ⟨c,tl,hmro⟩:=F.called_set.mro
 have hmade:=F.called_set.made
 have hsub:=F.called_set.sub
 have hlen:items.size=vals.length:=by
  have:=hi.length
  simpa using this
 refine wpAny_call (codeAny_of_tree ?_)
 show wpAny _ _ (callAny (.type "set") _) _ _ _; refine wpAny_pure ⟨Code.quiet_builtin _ (by decide +kernel),codeAny_builtin F.entry_type_call ?_⟩
 rw [Around.under_plain (weight_type_call_type "set" [.ref l] []) rfl]; have h1:=F.called_set.notType
 have h2:=F.called_set.canCreate
 have hct:=F.typeCall_set_1 (.ref l)
 repeat (any_goals (first | assumption | wp_step))
 refine codeAny_mono (c6H (.ref l) (E:=E) (Q:=λ obj s₁=>obj = .ref s.heap.objs.size/\s₁={ s with heap:=s.heap.push (setO #[] 0 (.fresh 0 0 (!byT w))) }) ⟨rfl,rfl⟩) λ r s₁ hr=>?_
 cases r with
 | error e=>exact hr
 | ok fl =>
  cases fl with
  | ret obj =>
   obtain ⟨rfl,rfl⟩:=hr
   have gS:(s.heap.push (setO #[] 0 (.fresh 0 0 (!byT w)))).get? s.heap.objs.size=some (setO #[] 0 (.fresh 0 0 (!byT w))):=Heap.get?_push_size _ rfl
   have hT:Shared.TypeIs { s with heap:=s.heap.push (setO #[] 0 (.fresh 0 0 (!byT w))) } (.ref s.heap.objs.size) "set" := ⟨_,gS,rfl⟩
   have hli:=F.called_set.init.lookup
   have hbi:=F.called_set.init.bind (.ref s.heap.objs.size)
   repeat (any_goals (first | assumption | wp_step))
   refine codeAny_mono (codeAny_call_builtin (R:=wants (λ r s₂=>r = .none/\∃ h' tk L,s₂={ s with heap:=h',toks:=tk }/\SetAt (byT w) h' s.heap.objs.size L/\Dense h' s.heap.objs.size/\(∀ u,u∈L↔u∈vals) /\
     (∀ b o,b < s.heap.objs.size->s.heap.get? b=some o->h'.get? b=some o)) E) F.called_set.init.plain F.entry_set_init (check_set_init_1 hT ?_)) λ r₂ s₂ hr₂=>?_
   ·obtain ⟨ol,hol,hcl,nl,hdl⟩:=hl
    obtain ⟨ocls,odict,odata,oslots⟩:=ol
    simp only at hcl hdl
    subst hcl; subst hdl
    have hol':(s.heap.push (setO #[] 0 (.fresh 0 0 (!byT w)))).get? l=some { cls:=.type "list", dict:=odict,data:=.seq items nl,slots:=oslots }:=Heap.get?_push_of_some _ hol
    have hsls:=F.sub_list_set
    have hslf:=F.sub_list_frozenset
    have hne:(Value.type "list" == Value.type "dict")=false:=by decide
    have hl1:(s.heap.push (setO #[] 0 (.fresh 0 0 (!byT w)))).IsList l items:=⟨_,hol',rfl,nl,rfl⟩
    unfold Builtin.«set.__init__» noKeywords Builtin.Frozenset.updateFrom
    generalize hPI:pyIter=PI
    wp_walk
    subst hPI
    refine wpAny_pyIter_list hl1 (wpAny_bind (wpAny_runValue ?_))
    have ll:l < s.heap.objs.size:=Heap.lt_size hol
    have hh3:A.in1.in1.in1.handled=none:=by simp [hh]
    have ni:l≠(s.heap.push (setO #[] 0 (.fresh 0 0 (!byT w)))).objs.size:=by rw [Heap.size_push]; exact Nat.ne_of_lt (Nat.lt_succ_of_lt ll)
    have nf:s.heap.objs.size ∉ [(s.heap.push (setO #[] 0 (.fresh 0 0 (!byT w)))).objs.size,l]:=by
     rw [Heap.size_push]; simp only [List.mem_cons,List.not_mem_nil,or_false,not_or]
     exact ⟨Nat.ne_of_lt (Nat.lt_succ_self _),Nat.ne_of_gt ll⟩
    have hval:∀ (i:Nat) (v:Value),i < items.size->items[i]?=some v->∃ t,v = .int (((λ i=>vals.getD i 0) i:Nat):Int) t:=λ i v li hv=>by
     obtain ⟨t,e⟩:=PyProof.Rows.IntsAre.int_at hi i v (by rw [Array.getElem?_toList]; exact hv)
     have lv:i < vals.length:=by omega
     refine ⟨t,?_⟩
     rw [e]
     simp [List.getD,lv]
    refine c6G ((Walks.list hh3 _ l ni items).toS) s.heap.objs.size nf (λ i=>vals.getD i 0) hval (λ i li=>?_) (items.size - 0) 0 _ [] (by omega) (Nat.zero_le _) ⟨⟨_,Heap.get?_push_size _ rfl,rfl,rfl⟩,(hl1.push _)⟩ ?hS0 ?hD0 (λ u=>by simp) ?hR
    ·have lv:i < vals.length:=by omega
     refine lt _ ?_
     simp [List.getD,lv]
    case hS0=>exact ⟨#[],0,_,Heap.get?_push_of_some _ gS,.nil,b5B _⟩
    case hD0=>exact ⟨#[],0,_,Heap.get?_push_of_some _ gS,.inl rfl⟩
    case hR =>
     intro s' L' hm hS' hD' mem
     obtain ⟨h',g',d',tk',os'⟩:=s'
     have eg:g'=s.gens:=hm.gens
     have ed:d'=s.drawn:=hm.drawn
     have eo:os'=s.os:=hm.os
     subst eg; subst ed; subst eo
     show wpAny _ _ _ _ _ _
     refine wpAny_pure ?_
     show wpAny _ _ (ret Value.none) _ _ _; refine wpAny_pure ⟨rfl,h',tk',L',rfl,hS',hD',λ u=>?_,λ b o hb e=>?_⟩
     ·rw [mem u]
      constructor
      ·rintro ⟨j,hj,rfl⟩
       have lv:j < vals.length:=by omega
       simp [List.getD,lv]
      ·intro hu
       obtain ⟨j,hj,e⟩:=List.getElem_of_mem hu
       exact ⟨j,by omega,by simp [List.getD,hj,e]⟩
     ·have b1:b≠s.heap.objs.size:=Nat.ne_of_lt hb
      have b2:b≠(s.heap.push (setO #[] 0 (.fresh 0 0 (!byT w)))).objs.size:=by rw [Heap.size_push]; exact Nat.ne_of_lt (Nat.lt_succ_of_lt hb)
      exact hm.heap b o (by simp only [List.mem_cons,List.not_mem_nil,or_false,not_or]; exact ⟨b1,b2⟩) (Heap.get?_push_of_some _ (Heap.get?_push_of_some _ e))
   ·cases r₂ with
    | error e=>exact hr₂
    | ok fl₂ =>
     cases fl₂ with
     | ret r =>
      obtain ⟨rfl,h',tk,L,rfl,q1,q2,q3,q4⟩:=hr₂
      repeat (any_goals (first | assumption | wp_step))
      exact h _ _ L q1 q2 q3 q4
     | _=>exact hr₂.elim
  | _=>exact hr.elim
end
end Sm
set_option maxHeartbeats 4100000
namespace L2
open PySem PySem.Spec PyProof.Rows Sm
def SetV (w:World) (a:Addr) (d:Bool) (L:List Nat):HO:=.ext λ h=>SetAt (byT w) h a L/\(d=true->Dense h a)
def b2E (ns:List Int):Prop:=∀ n∈ns,0<=n/\n < 16
def upF (p:Int->Bool):List Int:=((List.range 16).map λ i=>((i:Nat):Int)).filter p
theorem c9M (p:Int->Bool):(upF p).Pairwise (· < ·):=by
 unfold upF
 refine List.Pairwise.filter _ ?_
 rw [List.pairwise_map]
 exact List.pairwise_lt_range.imp λ h=>by omega
theorem mem_upF {p:Int->Bool} {v:Int}:v∈upF p↔0<=v/\v < 16/\p v=true:=by
 unfold upF
 rw [List.mem_filter,List.mem_map]
 constructor
 ·rintro ⟨⟨i,hi,rfl⟩,h⟩
  have:=List.mem_range.mp hi
  exact ⟨by omega,by omega,h⟩
 ·rintro ⟨h0,h1,h⟩
  exact ⟨⟨v.toNat,List.mem_range.mpr (by omega),by omega⟩,h⟩
theorem c6I:∀ {xs ys:List Int},xs.Pairwise (· < ·)->ys.Pairwise (· < ·)->(∀ v,v∈xs↔v∈ys)->xs=ys
 | [],[],_,_,_=>rfl
 | [],y::ys,_,_,h=>absurd ((h y).mpr List.mem_cons_self) List.not_mem_nil
 | x::xs,[],_,_,h=>absurd ((h x).mp List.mem_cons_self) List.not_mem_nil
 | x::xs,y::ys,hx,hy,h=>by
  obtain ⟨x1,x2⟩:=List.pairwise_cons.mp hx
  obtain ⟨y1,y2⟩:=List.pairwise_cons.mp hy
  have e:x=y:=by
   rcases List.mem_cons.mp ((h x).mp List.mem_cons_self) with e | e
   ·exact e
   ·rcases List.mem_cons.mp ((h y).mpr List.mem_cons_self) with f | f
    ·exact f.symm
    ·have a:=y1 x e
     have b:=x1 y f
     omega
  subst e
  congr 1
  refine c6I x2 y2 λ v=>?_
  constructor
  ·intro q
   rcases List.mem_cons.mp ((h v).mp (List.mem_cons_of_mem _ q)) with e | e
   ·subst e; have:=x1 v q; omega
   ·exact e
  ·intro q
   rcases List.mem_cons.mp ((h v).mpr (List.mem_cons_of_mem _ q)) with e | e
   ·subst e; have:=y1 v q; omega
   ·exact e
def d2E (w:World) (K:Φρ):List V->Hp->VK->Prop:=λ xs H Q=>∃ l ns,xs=[.ref l]/\SqL K H l (List.map V.int ns)/\b2E ns/\∀ p L H',New H p (SetV w p true L) H'->(∀ u:Nat,u∈L↔(u:Int)∈ns)->Q (.ref p) H'
def rOrS (w:World):R2:=λ x y H Q=>∃ a b L1 L2,x = .ref a/\y = .ref b/\a≠b/\H a=some (SetV w a true L1)/\H b=some (SetV w b true L2)/\∀ p L H',New H p (SetV w p false L) H'->(∀ u:Nat,u∈L↔u∈L1\/u∈L2)->Q (.ref p) H'
def c9N (w:World):List V->Hp->VK->Prop:=λ xs H Q=>∃ a d L,xs=[.ref a]/\H a=some (SetV w a d L)/\∀ p H',New H p (.lst ((upF λ v=>decide (v.toNat∈L)).map V.int)) H'->Q (.ref p) H'
def c9O (K:Φρ):List V->Hp->VK->Prop:=λ xs H Q=>∃ l ns,xs=[.ref l]/\SqL K H l (List.map V.int ns)/\ns.length < 64/\∀ p H' zs,New H p (.lst (List.map V.int zs)) H'->zs.Perm ns->zs.Pairwise (· <= ·)->Q (.ref p) H'
theorem a8G:∀ {vs:List Value} {ns:List Int},IntsAre vs ns->Vals (ns.map V.int) vs
 | _,_,.nil=>.nil
 | _,_,.cons n t r=>.cons ⟨t,rfl⟩ (a8G r)
theorem c2L {xs:List Int} {L:List Nat} (pm:xs.Perm (L.map λ v=>((v:Nat):Int))) (nd:L.Nodup) (lt:∀ v∈L,v < 16) (le:xs.Pairwise (· <= ·)):xs=upF λ v=>decide (v.toNat∈L):=by
 have nd2:xs.Nodup:=pm.nodup_iff.mpr (by
  unfold List.Nodup
  rw [List.pairwise_map]
  exact nd.imp λ h e=>h (by omega))
 have lt2:xs.Pairwise (· < ·):=by
  unfold List.Nodup at nd2
  exact (le.and nd2).imp λ h=>by omega
 refine c6I lt2 (c9M _) λ v=>?_
 rw [pm.mem_iff,mem_upF,List.mem_map]
 constructor
 ·rintro ⟨u,hu,rfl⟩
  have:=lt u hu
  exact ⟨by omega,by omega,decide_eq_true (by rw [Int.toNat_natCast]; exact hu)⟩
 ·rintro ⟨h0,h1,h⟩
  exact ⟨v.toNat,of_decide_eq_true h,by omega⟩
section
variable {X:Cx} {K:Φρ} {w:World}
theorem b8Z {H:Hp} {h:Heap} {a:Addr} {d:Bool} {L:List Nat} {P:Program} {w':World} (S:SetAt (byT w) h a L) (D:d=true->Dense h a):ObjOk P w' H h a (SetV w a d L):=by
 refine ⟨⟨S,D⟩,?_,?_⟩
 ·obtain ⟨_,_,_,ho,_⟩:=S
  exact ⟨_,ho⟩
 ·rintro h1 h2 ⟨s1,d1⟩ k
  exact ⟨s1.keep k,λ e=>(d1 e).keep k⟩
theorem b2F (ek:X.K=K) (ew:X.w=w) (cm:X.calm=true):CallR X (.type "set") (d2E w K):=by
 subst ek; subst ew
 intro pins s σ H xs us Q I r h
 obtain ⟨l,ns,rfl,hL,sm,q⟩:=h
 obtain ⟨u,rfl,rx⟩:=a7F r
 cases rx
 obtain ⟨its,r',pl,hz⟩:=I.list hL
 have hi:=a8D r'
 have e:(ns.map Int.toNat).map (λ v=>((v:Nat):Int))=ns:=by
  rw [List.map_map]
  have:∀ n∈ns,((λ v=>((v:Nat):Int)) ∘ Int.toNat) n=id n:=λ n hn=>by
   have:=(sm n hn).1
   show ((n.toNat:Nat):Int)=n
   omega
  rw [List.map_congr_left this,List.map_id]
 refine c9L (vals:=ns.map Int.toNat) (I.ok.hd cm) pl.isList (by rw [e]; simpa using hi) (λ v hv=>?_) λ h' tk L S D mem k=>?_
 ·obtain ⟨n,hn,rfl⟩:=List.mem_map.mp hv
  have:=sm n hn
  omega
 ·have hf:H s.heap.objs.size=none:=I.hok.fresh (Nat.le_refl _)
  refine ⟨.ref s.heap.objs.size,_,I.laid (t':=tk) (o:=SetV X.w s.heap.objs.size true L) (λ b o eo=>k b o (Heap.lt_size eo) eo) (Nat.le_refl _) (b8Z S λ _=>D),rfl,q _ L _ (New.mk0 hf) λ u=>?_⟩
  rw [mem u,List.mem_map]
  constructor
  ·rintro ⟨n,hn,rfl⟩
   have:=(sm n hn).1
   have e2:((n.toNat:Nat):Int)=n:=by omega
   rw [e2]; exact hn
  ·intro hn
   exact ⟨_,hn,by omega⟩
theorem c9P (ew:X.w=w):OpR X (binaryOp .BitOr) (rOrS w):=by
 subst ew
 intro pins s σ H x y v u Q I rx ry h
 obtain ⟨a,b,L1,L2,rfl,rfl,ne,hA,hB,q⟩:=h
 cases rx
 cases ry
 obtain ⟨⟨S1,D1⟩,_⟩:=I.hok a _ hA
 obtain ⟨⟨S2,D2⟩,_⟩:=I.hok b _ hB
 refine d2C ne S1 (D1 rfl) S2 (D2 rfl) λ h' L k S mem=>?_
 have hf:H s.heap.objs.size=none:=I.hok.fresh (Nat.le_refl _)
 exact ⟨.ref s.heap.objs.size,_,I.laid (t':=s.toks) (o:=SetV X.w s.heap.objs.size false L) (λ b o eo=>k b o eo) (Nat.le_refl _) (b8Z S λ e=>by cases e),rfl,q _ L _ (New.mk0 hf) mem⟩
theorem b2G (ew:X.w=w) (cm:X.calm=true):CallR X (.builtin "sorted") (c9N w):=by
 subst ew
 intro pins s σ H xs us Q I r h
 obtain ⟨a,d,L,rfl,hA,q⟩:=h
 obtain ⟨u,rfl,rx⟩:=a7F r
 cases rx
 obtain ⟨⟨S,_⟩,_⟩:=I.hok a _ hA
 obtain ⟨_,_,t,_,_,T⟩:=id S
 refine b6Q (I.ok.hd cm) S λ h' tk p vs n ns k hp ho hi pm le=>?_
 have e:=c2L pm T.nd T.lt le
 subst e
 have l16:(upF λ v=>decide (v.toNat∈L)).length<=16:=by rw [pm.length_eq,List.length_map]; exact T.len
 have hf:H p=none:=I.hok.fresh hp
 refine ⟨.ref p,_,I.laid (t':=tk) (o:=.lst ((upF λ v=>decide (v.toNat∈L)).map V.int)) k hp ⟨?_,vs,n,a8G hi,ho⟩,rfl,q p _ (New.mk0 hf)⟩
 rw [List.length_map,sizeLine_eq]
 omega
theorem a7C (e:X.K=K):CallR X (.builtin "sorted") (c9O K):=by
 subst e
 intro pins s σ H xs us Q I r h
 obtain ⟨l,ns,rfl,hL,h64,q⟩:=h
 obtain ⟨u,rfl,rx⟩:=a7F r
 cases rx
 obtain ⟨its,r',pl,hz⟩:=I.list hL
 have hlen:=r'.length
 rw [List.length_map] at hlen
 refine sorted_ints (ns:=ns) pl.isList (a8D r') (by omega) λ out zs hi pm le=>?_
 obtain ⟨c,hc⟩:=sortedAll_at s.heap its out
 refine ⟨.ref (s.heap.objs.size+1),_,I.laid (t':=s.toks) (o:=.lst (zs.map V.int)) (λ b o eo=>sortedAll_old eo) (Nat.le_succ _) ⟨?_,out.toList,c,a8G hi,by simpa using hc⟩,rfl,q _ _ zs (New.mk0 (I.hok.fresh (Nat.le_succ _))) pm le⟩
 rw [List.length_map,pm.length_eq,sizeLine_eq]
 omega
end
end L2
namespace L2
open PySem PySem.Spec PySem.Calls PyProof.Rows
section
variable {X:Cx}
theorem a9R:∀ (n:Nat) (acc:List Value),(∀ i:Nat,i < n->∃ t,acc[i]?=some (Value.int ((i:Nat):Int) t))->acc.length=n->Vals ((List.range n).map λ i=>V.int ((i:Nat):Int)) acc
 | 0,acc,_,hl=>by rw [List.eq_nil_of_length_eq_zero hl]; exact .nil
 | n+1,acc,h,hl=>by
  have hne:acc≠[]:=λ z=>by rw [z] at hl; cases hl
  have e:=(List.dropLast_concat_getLast hne).symm
  have ld:acc.dropLast.length=n:=by rw [List.length_dropLast]; omega
  rw [List.range_succ,List.map_append,e]
  refine Vals.append (a9R n acc.dropLast (λ i hi=>?_) ld) ?_
  ·obtain ⟨t,et⟩:=h i (by omega)
   rw [e,List.getElem?_append_left (by omega)] at et
   exact ⟨t,et⟩
  ·obtain ⟨t,et⟩:=h n (by omega)
   rw [e,List.getElem?_append_right (by omega),ld] at et
   simp at et
   rw [et]
   exact .cons ⟨t,rfl⟩ .nil
theorem b6R {pins:List (Addr × Obj)} {σ:St} {H:Hp} {s:Shared} {Q:VK} {E:Value->Shared->Prop} {n:Nat} {t u v:Tok} {tk:Nat} (I:Inv X pins σ H s) (cm:X.calm=true) (hn:n<=1000)
  (q:∀ p H',New H p (.lst ((List.range n).map λ i=>V.int ((i:Nat):Int))) H'->Q (.ref p) H') :
  wpAny (model X.prog X.w) X.A (call (.type "list") [.ref s.heap.objs.size]) (EP X pins σ Q) E { s with heap:=s.heap.push { cls:=.type "range", data:=.fields #[.int 0 t,.int n u,.int 1 v] },toks:=tk }:=by
 have I2:Inv X pins σ H { s with heap:=s.heap.push { cls:=.type "range", data:=.fields #[.int 0 t,.int n u,.int 1 v] },toks:=tk }:=I.kept λ b o e=>Heap.get?_push_of_some _ e
 refine call_list_range (I2.ok.hd cm) (IsRange.new ..) (small_one (by omega) (by omega) (by omega) (by omega)) (n:=n) (by rw [rangeSize_one]; split <;> omega) (by omega) λ h' tk' acc' c' hk hS hacc=>?_
 refine ⟨.ref _,_,I2.laid (t':=tk') hk (Nat.le_refl _) (show ObjOk X.prog X.w _ h' _ (.lst ((List.range n).map λ i=>V.int ((i:Nat):Int))) from ⟨?_,acc'.toList,c',?_,?_⟩),rfl,q _ _ (New.mk0 (I2.hok.fresh (Nat.le_refl _)))⟩
 ·rw [List.length_map,List.length_range]; exact Nat.le_of_lt (a0W hn)
 ·refine a9R n _ (λ i hi=>?_) ?_
  ·have hlt:i < acc'.size:=by have:=hacc.1; omega
   obtain ⟨t,e⟩:=hacc.2 i acc'[i] (Array.getElem?_eq_getElem hlt)
   refine ⟨t,?_⟩
   rw [Array.getElem?_toList,Array.getElem?_eq_getElem hlt,e]
   congr 2
   omega
  ·rw [Array.length_toList]; exact hacc.1
 ·simpa using hS
def c9Q (ta:TA):TE:=λ σ H Q=>ta σ H λ vs H1=>∃ n:Nat,vs=[.int (n:Int)]/\n<=1000/\∀ p H',New H1 p (.lst ((List.range n).map λ i=>V.int ((i:Nat):Int))) H'->Q (.ref p) H'
theorem c2M {a:Expr} {ta:TA} {p p2 pos pos2:Pos} (cm:X.calm=true) (hm:X.mg "list" = none) (hm2:X.mg "range" = none) (ha:PA X [a] ta) (hg:Gl X "list" := by rfl) (hg2:Gl X "range" := by rfl)
  (hs:starEach [a] X.env=[(false,eval a X.env)]:=by rfl)
  (he:starEach [Expr.Call (.Name "range" p2) [a] [] pos2] X.env=[(false,eval (Expr.Call (.Name "range" p2) [a] [] pos2) X.env)]:=by rfl) :
  PE X (.Call (.Name "list" p) [.Call (.Name "range" p2) [a] [] pos2] [] pos) (c9Q ta):=by
 intro pins s σ H Q I h
 refine wpAny_Call_Name_kw (a5N I hg hm (show bootBuiltins "list" = some (.type "list") by decide +kernel) ?_)
 refine PyProof.Rows.callWith_type1 ?_ he rfl
 rw [he]
 refine Calls.spliced_cons ?_
 refine Call_ (a5N I hg2 hm2 boot_range (PyProof.Rows.callWith_type1 (thn (ha pos2 pins s σ H _ I h) λ us s1 ⟨vs,H1,I1,r1,q1⟩=>?_) hs rfl))
 obtain ⟨n,e,hn,q⟩:=q1
 subst e
 cases r1 with
 | cons r rr =>
  cases rr
  obtain ⟨t,rfl⟩:=r
  refine call_range_1 ?_
  refine Calls.spliced_nil ?_
  exact b6R I1 cm hn q
end
end L2
namespace L2
open PySem PySem.Spec PyProof.Rows
theorem us1 {A:Type} {us:List A} {P:List A->Prop} (h:us.length=1) (f:∀ a,P [a]):P us:=by
 match us,h with
 | [a],_=>exact f a
theorem us2 {A:Type} {us:List A} {P:List A->Prop} (h:us.length=2) (f:∀ a b,P [a,b]):P us:=by
 match us,h with
 | [a,b],_=>exact f a b
theorem us3 {A:Type} {us:List A} {P:List A->Prop} (h:us.length=3) (f:∀ a b c,P [a,b,c]):P us:=by
 match us,h with
 | [a,b,c],_=>exact f a b c
theorem us4 {A:Type} {us:List A} {P:List A->Prop} (h:us.length=4) (f:∀ a b c d,P [a,b,c,d]):P us:=by
 match us,h with
 | [a,b,c,d],_=>exact f a b c d
theorem dn_mk1 {K:Φρ} {h:Heap} {mg:Str->Option Value} {x:Str} {st:Stmt} {ps:List Str} {f:Addr} {oc:Value} {od an:Option Addr} {osl:Array (Option Value)} {kV doc pm cdv ct:Value} (X:K.In h) (G:h.Ns mainGlobals mg)
  (a:PySem.W.nsIn K mainGlobals x=some (some (.ref f))) (l:K.lookup f=some ⟨oc,od,.func (PySem.W.fnOf x x (a2D st) (a1U st) (a0F st) .none kV doc pm an cdv ct),osl⟩) (c:PySem.W.codeIn K cdv x=true) (k:PySem.W.keepIn K (.ref f)=true)
  (hp:ps.length=1)
  (hb:∀ (kV doc pm:Value) (an:Option Addr) (cdv ct:Value) (u0:Value),bindArgs (PySem.W.fnOf x x (a2D st) (a1U st) (a0F st) .none kV doc pm an cdv ct) ⟨[u0],[]⟩=pure (ps.zip [u0])) :
  Nonempty (Dn K mg x st ps) :=
 c1T X G a l c k λ kV doc pm an cdv ct us hl=>us1 (P:=λ us=>bindArgs (PySem.W.fnOf x x (a2D st) (a1U st) (a0F st) .none kV doc pm an cdv ct) ⟨us,[]⟩=pure (ps.zip us)) (hl.trans hp) λ u0=>hb kV doc pm an cdv ct u0
theorem dn_mk2 {K:Φρ} {h:Heap} {mg:Str->Option Value} {x:Str} {st:Stmt} {ps:List Str} {f:Addr} {oc:Value} {od an:Option Addr} {osl:Array (Option Value)} {kV doc pm cdv ct:Value} (X:K.In h) (G:h.Ns mainGlobals mg)
  (a:PySem.W.nsIn K mainGlobals x=some (some (.ref f))) (l:K.lookup f=some ⟨oc,od,.func (PySem.W.fnOf x x (a2D st) (a1U st) (a0F st) .none kV doc pm an cdv ct),osl⟩) (c:PySem.W.codeIn K cdv x=true) (k:PySem.W.keepIn K (.ref f)=true)
  (hp:ps.length=2)
  (hb:∀ (kV doc pm:Value) (an:Option Addr) (cdv ct:Value) (u0 u1:Value),bindArgs (PySem.W.fnOf x x (a2D st) (a1U st) (a0F st) .none kV doc pm an cdv ct) ⟨[u0,u1],[]⟩=pure (ps.zip [u0,u1])) :
  Nonempty (Dn K mg x st ps) :=
 c1T X G a l c k λ kV doc pm an cdv ct us hl=>us2 (P:=λ us=>bindArgs (PySem.W.fnOf x x (a2D st) (a1U st) (a0F st) .none kV doc pm an cdv ct) ⟨us,[]⟩=pure (ps.zip us)) (hl.trans hp) λ u0 u1=>hb kV doc pm an cdv ct u0 u1
theorem dn_mk3 {K:Φρ} {h:Heap} {mg:Str->Option Value} {x:Str} {st:Stmt} {ps:List Str} {f:Addr} {oc:Value} {od an:Option Addr} {osl:Array (Option Value)} {kV doc pm cdv ct:Value} (X:K.In h) (G:h.Ns mainGlobals mg)
  (a:PySem.W.nsIn K mainGlobals x=some (some (.ref f))) (l:K.lookup f=some ⟨oc,od,.func (PySem.W.fnOf x x (a2D st) (a1U st) (a0F st) .none kV doc pm an cdv ct),osl⟩) (c:PySem.W.codeIn K cdv x=true) (k:PySem.W.keepIn K (.ref f)=true)
  (hp:ps.length=3)
  (hb:∀ (kV doc pm:Value) (an:Option Addr) (cdv ct:Value) (u0 u1 u2:Value),bindArgs (PySem.W.fnOf x x (a2D st) (a1U st) (a0F st) .none kV doc pm an cdv ct) ⟨[u0,u1,u2],[]⟩=pure (ps.zip [u0,u1,u2])) :
  Nonempty (Dn K mg x st ps) :=
 c1T X G a l c k λ kV doc pm an cdv ct us hl=>us3 (P:=λ us=>bindArgs (PySem.W.fnOf x x (a2D st) (a1U st) (a0F st) .none kV doc pm an cdv ct) ⟨us,[]⟩=pure (ps.zip us)) (hl.trans hp) λ u0 u1 u2=>hb kV doc pm an cdv ct u0 u1 u2
theorem dn_mk4 {K:Φρ} {h:Heap} {mg:Str->Option Value} {x:Str} {st:Stmt} {ps:List Str} {f:Addr} {oc:Value} {od an:Option Addr} {osl:Array (Option Value)} {kV doc pm cdv ct:Value} (X:K.In h) (G:h.Ns mainGlobals mg)
  (a:PySem.W.nsIn K mainGlobals x=some (some (.ref f))) (l:K.lookup f=some ⟨oc,od,.func (PySem.W.fnOf x x (a2D st) (a1U st) (a0F st) .none kV doc pm an cdv ct),osl⟩) (c:PySem.W.codeIn K cdv x=true) (k:PySem.W.keepIn K (.ref f)=true)
  (hp:ps.length=4)
  (hb:∀ (kV doc pm:Value) (an:Option Addr) (cdv ct:Value) (u0 u1 u2 u3:Value),bindArgs (PySem.W.fnOf x x (a2D st) (a1U st) (a0F st) .none kV doc pm an cdv ct) ⟨[u0,u1,u2,u3],[]⟩=pure (ps.zip [u0,u1,u2,u3])) :
  Nonempty (Dn K mg x st ps) :=
 c1T X G a l c k λ kV doc pm an cdv ct us hl=>us4 (P:=λ us=>bindArgs (PySem.W.fnOf x x (a2D st) (a1U st) (a0F st) .none kV doc pm an cdv ct) ⟨us,[]⟩=pure (ps.zip us)) (hl.trans hp) λ u0 u1 u2 u3=>hb kV doc pm an cdv ct u0 u1 u2 u3
end L2
namespace L2
open PySem PySem.Spec PyProof.Rows
section
variable {κ:Type} [DecidableEq κ]
def valV (kvs:List (κ × V)) (k:κ):Option V:=(kvs.find? λ kv=>decide (kv.1=k)).map (·.2)
theorem c2N {p:κ × V} {r:List (κ × V)} {k:κ} (e:p.1=k):valV (p::r) k=some p.2:=by simp [valV,List.find?_cons,e]
theorem c2O {p:κ × V} {r:List (κ × V)} {k:κ} (e:¬ p.1=k):valV (p::r) k=valV r k:=by simp [valV,List.find?_cons,e]
theorem KV.val {kvs:List (κ × V)} {vs:List (κ × Value)} (r:KV kvs vs) (k:κ):RelO (valV kvs k) (valueAt vs k):=by
 unfold KV at r
 induction r with
 | nil=>exact True.intro
 | @cons p q ps qs h t ih =>
  obtain ⟨h1,h2⟩:=h
  by_cases e:p.1=k
  ·have e':q.1=k:=h1.symm.trans e
   have b:valueAt (q::qs) k=some q.2:=by simp [valueAt,List.find?_cons,e']
   rw [c2N e,b]; exact h2
  ·have e':¬ q.1=k:=λ z=>e (h1.trans z)
   have b:valueAt (q::qs) k=valueAt qs k:=by simp [valueAt,List.find?_cons,e']
   rw [c2O e,b]; exact ih
end
theorem d2F {P:Program} {w:World} {k:Key} {u:Value} (r:RelV (kV k) u):(a5G P w).is k u=true:=by
 cases k with
 | inl i=>obtain ⟨t,e⟩:=(show ∃ t,u=Value.int i t from r); subst e; exact b3D P w i t
 | inr x=>obtain ⟨t,e⟩:=(show ∃ t,u=Value.str x t from r); subst e; exact a1Q P w x t
section
variable {P:Program} {w:World} {H:Hp} {h:Heap} {a:Addr}
end
section
variable {X:Cx} {pins:List (Addr × Obj)} {σ:St} {H:Hp} {s:Shared} {a:Addr} {y v:V} {u r:Value} {o:Option V} {A:Around} {E:Value->Shared->Prop}
end
section
variable {X:Cx} {pins:List (Addr × Obj)} {σ:St} {H:Hp} {s:Shared} {a:Addr} {kvs:List (Key × V)} {k:Key} {u:Value} {A:Around} {E:Value->Shared->Prop}
end
def NoSl (i:Expr):Prop:=∀ ov iv,subscripted i false ov iv=operate [ov,iv] (getItem ov iv)
theorem c6J {prog:Program} {w:World} {A:Around} {E:Value->Shared->Prop} {s:Shared} {env:Env} {value slice:Expr} {pos:Pos} {T id:String} {Q:Value->Shared->Prop}
  (hl:typeLookup (.type T) "__getitem__" = pure (some (.builtin id))) (hs:NoSl slice)
  (h:wpAny (model prog w) A (eval value env) (λ o s₁=>wpAny (model prog w) A (eval slice env) (λ i s₂=>s₂.TypeIs o T/\wpAny (model prog w) A (getItem o i) Q E s₂) E s₁) E s) :
  wpAny (model prog w) A (eval (.Subscript value slice pos) env) Q E s:=by
 refine Subscript_ (wpAny_mono h (λ o s₁ h₁=>wpAny_mono h₁ (λ i s₂ h₂=>?_) λ _ _ x=>x) λ _ _ x=>x)
 obtain ⟨hT,h₂⟩:=h₂
 unfold subscriptTail
 refine wpAny_bind ?_
 rw [getitemInPython_of_ne hT.not_modules]
 refine wpAny_bind (wpAny_specialOf hT hl ?_)
 have fin:wpAny (model prog w) A (subscripted slice false o i) (λ r s₃=>wpAny (model prog w) A (letTemporaryGo value o r >>= λ _=>pure r) Q E s₃) E s₂:=by
  rw [hs o i]
  exact wpAny_operating (wpAny_mono h₂ (λ r s₃ h₃=>wpAny_bind (wpAny_letTemporaryGo (wpAny_pure h₃))) λ _ _ x=>x)
 first
  | exact wpAny_pure (wpAny_bind fin)
  | exact wpAny_bind (wpAny_pure (wpAny_bind fin))
  | exact wpAny_bind fin
section
variable {X:Cx} {o i e value:Expr} {pos pos' tpos:Pos} {td ty tv:TE}
end
section
variable {X:Cx} {pos:Pos}
end
end L2
namespace L2
open PySem PySem.Spec PyProof.Rows
section
variable {X:Cx}
def d2G:V->List V->Hp->VK->Prop:=λ x vs H Q=>∃ l xs y,x = .ref l/\vs=[]/\H l=some (.lst (xs++[y]))/\∀ H',Chg H l (.lst xs) H'->Q y H'
theorem b9A:MtM X "list.pop" d2G:=mt_pop.weak λ x vs H Q ⟨l,xs,y,e1,e2,h,q⟩=>⟨l,xs++[y],y,e1,e2,h,(by simp),(by
 have:=q _ (Chg.mk0 (H:=H) (l:=l) (o:=.lst xs))
 rw [List.dropLast_concat]
 exact this)⟩
end
end L2
set_option maxHeartbeats 4100000
namespace Ls
open PySem PyProof.Rows PySem.Calls PySem.W PySem.SeqAt
open AutoSeq1 (wpAny_loadPart')
open MeetsSeq MeetsSeq2 MeetsSeq3
section
variable {prog:Program} {w:World} {A:Around} {E:Value->Shared->Prop} {s:Shared}
end
end Ls
set_option maxHeartbeats 4100000
namespace Srt
open PySem PySem.W PySem.Calls PySem.Spec PyProof.Rows PySem.MeetsSeq
theorem c6K {l:Addr} {z:Array Value} {n:Nat} {x:Value} {eq:Nat->Bool} {j:Nat} {tp:Int} (hj:j < z.size) (hit:eq j=true) (ju:(j:Int) < tp) (k:Nat) :
  ∀ i:Nat,j - i=k->i<=j->(∀ m (hm:m < z.size),i<=m->m < j->eq m=false)->Meets (Builtin.«list.index.loop» ⟨[.ref l,x,rawInt i,rawInt tp],[]⟩)
   (λ A R s=>s.heap.get? l=some (lsO z n)/\c9A z x eq A.in1 s.heap/\R (.ok (.ret (.int j s.toks))) { s with toks:=s.toks+1 }):=by
 induction k with
 | zero =>
  intro i hk ij hn prog w A R s h
  obtain ⟨hp,g,d,tq,os⟩:=s
  obtain ⟨ol,he,h⟩:=h
  obtain rfl:i=j:=by omega
  wp_walk using wpAny_loadPart' ol
  rw [show (if (i:Int) < tp then z[((i:Nat):Int).toNat]? else none)=some z[i] by simp [ju,hj]]
  refine wpAny_bind (he _ rfl i hj prog w _ _ ?_)
  rw [hit]
  wp_walk
  exact h
 | succ k ih =>
  intro i hk ij hn prog w A R s h
  obtain ⟨hp,g,d,tq,os⟩:=s
  obtain ⟨ol,he,h⟩:=h
  have lb:i < z.size:=by omega
  have lt:(i:Int) < tp:=by omega
  wp_walk using wpAny_loadPart' ol
  rw [show (if (i:Int) < tp then z[((i:Nat):Int).toNat]? else none)=some z[i] by simp [lt,lb]]
  refine wpAny_bind (he _ rfl i lb prog w _ _ ?_)
  rw [hn i lb (Nat.le_refl _) (by omega)]
  wp_walk
  rw [show ((i:Int)+1)=((i+1:Nat):Int) by push_cast; rfl]
  refine ⟨plainId_quiet plain_index_loop _,codeAny_builtin entry_index_loop ?_⟩
  rw [Around.under_plainId plain_index_loop _]; exact ih (i+1) (by omega) (by omega) (λ m hm h1 h2=>hn m hm (by omega) h2) prog w A R _ ⟨ol,he,h⟩
theorem b0I {l:Addr} {z:Array Value} {n:Nat} {x:Value} {eq:Nat->Bool} {j:Nat} (hj:j < z.size) (hit:eq j=true) (small:(j:Int) < 2 ^ 63 - 1) (hn:∀ m (hm:m < z.size),m < j->eq m=false) :
  Meets (Builtin.«list.index» ⟨[.ref l,x],[]⟩) (λ A R s=>s.heap.get? l=some (lsO z n)/\c9A z x eq A.in1 s.heap/\R (.ok (.ret (.int j s.toks))) { s with toks:=s.toks+1 }):=by
 intro prog w A R s h
 obtain ⟨hp,g,d,tq,os⟩:=s
 obtain ⟨ol,he,h⟩:=h
 wp_walk using wpAny_loadPart' ol
 rw [show ((λ i:Int=>if i < 0 then max 0 (i+(z.size:Int)) else i) ((none:Option Int).getD 0))=((0:Nat):Int) by simp,show ((λ i:Int=>if i < 0 then max 0 (i+(z.size:Int)) else i) ((none:Option Int).getD (2 ^ 63 - 1)))=2 ^ 63 - 1 by simp]
 refine ⟨plainId_quiet plain_index_loop _,codeAny_builtin entry_index_loop ?_⟩
 rw [Around.under_plainId plain_index_loop _]; exact c6K (tp:=2 ^ 63 - 1) hj hit small _ 0 rfl (Nat.zero_le _) (λ m hm _ h2=>hn m hm h2) prog w A R _ ⟨ol,he,h⟩
end Srt
namespace L2
open PySem PySem.Spec PyProof.Rows Srt
section
variable {X:Cx} {K:Φρ}
def d2H (K:Φρ):V->List V->Hp->VK->Prop:=λ x vs H Q=>∃ l xs y d ds j,x = .ref l/\vs=[y]/\H l=some (.lst xs)/\IsD K H y d/\IsDs K H xs ds/\SeqAt.shaped d=true/\(∀ e∈ds,SeqAt.shaped e=true)/\xs.length<=1000 /\
 j < xs.length/\PyData.eqv (ds.getD j .none) d=true/\(∀ m < j,PyData.eqv (ds.getD m .none) d=false)/\Q (.int (j:Int)) H
theorem c6L (e:X.K=K) (hv:X.A.units+65 < cLine):MtM X "list.index" (d2H K):=by
 subst e
 intro pins s σ H x vs v us Q I rx rv h
 obtain ⟨l,xs,y,d,ds,j,rfl,rfl,hH,hd,hds,sd,sds,h1000,hj,hit,hn,q⟩:=h
 cases rx
 obtain ⟨u,rfl,ru⟩:=a7F rv
 obtain ⟨z,its,n,r,ol,e⟩:=I.lstM hH
 have hlen:=r.length
 obtain ⟨as,ra⟩:=hd.reads I ru
 obtain ⟨el,rs⟩:=b4X I r hds
 have hjz:j < its.toArray.size:=by rw [List.size_toArray]; omega
 refine call_meets F.slot_list_index ⟨_,e,rfl⟩ F.entry_list_index (F.args_list_index_2 _ _) (b0I (z:=its.toArray) (eq:=λ m=>PyData.eqv (ds.getD m .none) d) hjz hit (by omega) (λ m _ hm=>hn m hm)) ⟨e,λ s' es m hm=>?_,?_⟩
 ·have hm':m < its.length:=by simpa using hm
  obtain ⟨bs,rb⟩:=rs m hm'
  have eg:its.getD m .none=its.toArray[m]:=by simp [hm']
  rw [eg] at rb
  have sm:SeqAt.shaped (ds.getD m .none)=true:=sds _ (by rw [τα,List.getElem?_eq_getElem (by omega)]; exact List.getElem_mem _)
  rw [<- es] at rb ra
  refine SeqAt.eqAt_reads _ _ _ _ _ _ _ _ rb ra (SeqAt.canLay_of_shaped sm) (SeqAt.canLay_of_shaped sd) (SeqAt.room_of_shaped sm ?_)
  exact hv
 ·exact ⟨.int j,H,I.tok _,⟨_,rfl⟩,q⟩
end
end L2
namespace L2
open PySem PySem.Spec PySem.Calls PyProof.Rows PySem.Builtin
def Ctx0 (h:Heap) (e:Addr):Prop:=∃ o vs,h.get? e=some o/\o.data = .fields vs/\vs[2]?=some .none
theorem Ctx0.keep {h g:Heap} {e:Addr} (c:Ctx0 h e) (k:∀ o,h.get? e=some o->g.get? e=some o):Ctx0 g e:=by
 obtain ⟨o,vs,a,b,d⟩:=c
 exact ⟨o,vs,k o a,b,d⟩
theorem Ctx0.at {h:Heap} {e:Addr} (c:Ctx0 h e) {o:Obj} {vs:Array Value} (a:h.get? e=some o) (b:o.data = .fields vs):vs[2]?=some .none:=by
 obtain ⟨o',vs',a',b',d⟩:=c
 rw [a] at a'
 cases a'
 rw [b] at b'
 cases b'
 exact d
section
variable {M:Model} {A:Around} {E:Value->Shared->Prop} {s:Shared} {base:Heap} {env:Env} {outer:List Env} {L e:Addr} {cls a0:Value}
theorem c4I {ob : Obj} {fs : Array Value} {first : Value} {nx : Bool} {Q : Unit -> Shared -> Prop} (fr : A.frames = some (env :: outer)) (ff : s.heap.FunFrames base (env :: outer)) (ef : env.frame = some L)
    (ge : s.heap.get? e = some ob) (st : base.StaysIn s.heap) (nb : base.get? e = none) (dv : ob.data = .fields fs) (big : 1 < fs.size) (arg : fs[0]? = some a0) (cx : fs[2]? = some .none)
    (k : ∀ g, Heap.NotedW base (env :: outer) e ob.cls a0 (rawInt L) s.heap g -> Ctx0 g e -> Q () { s with heap := g }) :
    wpAny M A (do let fo <- frameOf env; let pl <- entryPlaceOf L nx; let tb <- EntryCells.newEntry first fo .none (rawInt L) .none pl; setField (.ref e) 1 tb) Q E s := by
  have far : e ∉ (env :: outer).filterMap (·.frame) := fun z => by
    obtain ⟨_, o, ho, nf⟩ := ff.mem z
    rw [ge] at ho
    cases ho
    exact nf fs dv
  refine wpAny_bind (wpAny_frameOf_fun fr ff ef fun g1 so => ?_)
  refine wpAny_bind (wpAny_entryPlaceOf fun pl hp => ?_)
  unfold EntryCells.newEntry newFields
  refine wpAny_bind (wpAny_newObj_type ?_ (hp.sizeOk5 _ _ _ _ _))
  generalize hN : ({ cls := .type "traceback", dict := none, data := .fields ([first, .ref L, .none, rawInt L, .none] ++ (if pl.isEmpty then List.replicate 6 Value.none else pl)).toArray } : Obj) = nw
  have ge1 : g1.get? e = some ob := (so.2.1 e far).trans ge
  have st1 : base.StaysIn g1 := fun b o q => (so.2.1 b fun z => by rw [(ff.mem z).1] at q; cases q).trans (st b o q)
  have ge2 : (g1.push nw).get? e = some ob := Heap.get?_push_of_some nw ge1
  refine wpAny_setField ge2 dv big ?_
  have ne : g1.objs.size ≠ e := Nat.ne_of_gt (Heap.lt_size ge1)
  have d3 := Obj.data_mapFields dv (·.setIfInBounds 1 (Value.ref g1.objs.size))
  have g3 := Heap.get?_update_self (Obj.mapFields (·.setIfInBounds 1 (Value.ref g1.objs.size))) ge2 (Obj.isFreed_of_fields d3)
  have fresh : nw.isFreed = false := by rw [<- hN]; rfl
  have t3 : ((g1.push nw).update e (Obj.mapFields (·.setIfInBounds 1 (Value.ref g1.objs.size)))).get? g1.objs.size = some nw := (Heap.get?_update_other _ _ (Ne.symm ne)).trans (Heap.get?_push_size g1 fresh)
  have stay : ∀ b o, b ≠ e -> g1.get? b = some o -> ((g1.push nw).update e (Obj.mapFields (·.setIfInBounds 1 (Value.ref g1.objs.size)))).get? b = some o := fun b o z q => by
    rw [Heap.get?_update_other _ _ (Ne.symm z)]
    exact Heap.get?_push_of_some nw q
  have other : ∀ b o, s.heap.get? b = some o -> (∀ vs, o.data ≠ .fields vs) -> b ≠ e := fun b o q nf z => by
    rw [z, ge] at q
    cases q
    exact nf fs dv
  refine k _ ⟨fun b o q => stay b o (fun z => by rw [z, nb] at q; cases q) (st1 b o q), ff.of_keeps fun b o q nf => ?_, ?_, fun b o q nf => ?_⟩ ⟨_, _, g3, d3, ?_⟩
  · obtain ⟨sl, q1⟩ := so.2.2 b o q
    exact ⟨_, stay b _ (other b o q nf) q1, rfl⟩
  · refine ⟨_, _, g1.objs.size, nw, ([first, .ref L, .none, rawInt L, .none] ++ (if pl.isEmpty then List.replicate 6 Value.none else pl)).toArray, g3, ⟨Obj.cls_mapFields _ _, ?_⟩, d3, ?_, st1.fresh, ne, t3, ?_, ?_⟩
    · rw [Array.getElem?_setIfInBounds_ne (by decide)]
      exact arg
    · simp [big]
    · rw [<- hN]
    · first | (simp; done) | (rcases hp with rfl | ⟨_, _, _, _, _, _, _, rfl⟩ <;> simp)
  · obtain ⟨sl, q1⟩ := so.2.2 b o q
    exact ⟨sl, stay b _ (other b o q nf) q1⟩
  · rw [Array.getElem?_setIfInBounds_ne (by decide)]
    exact cx
theorem b3T {l:List Env} {fl:Value} {Q:Unit->Shared->Prop} (st:base.StaysIn s.heap) (ff:s.heap.FunFrames base l) (tr:s.heap.TracedAtW base e cls a0 fl) (c:Ctx0 s.heap e)
  (k:∀ g,base.StaysIn g->g.FunFrames base l->g.TracedW base e cls a0->s.heap.UpToSlots g->Ctx0 g e->Q () { s with heap:=g }):wpAny M A (setFlight (.ref e) none) Q E s:=by
 obtain ⟨ob,fs,T,oT,ts,x1,x2,x3,x4,x5,x6,x7,x8,x9⟩:=tr
 have big:3 < ts.size:=(Array.getElem?_eq_some_iff.mp x9).1
 have far:∀ b o,s.heap.get? b=some o->(∀ vs,o.data ≠ .fields vs)->b≠T:=λ b o q nf z=>by
  rw [z,x7] at q
  cases q
  exact nf ts x8
 unfold setFlight
 refine wpAny_bind (wpAny_field x1 x3 x4 ?_)
 rw [if_pos (by simp)]
 refine wpAny_setField x7 x8 big (k _ (λ b o q=>?_) (ff.of_keeps λ b o q nf=>⟨o,?_,rfl⟩) ?_ (λ b o q nf=>⟨o.slots,?_⟩) (c.keep λ o q=>?_))
 ·exact (Heap.get?_update_other _ _ λ z=>by rw [<- z,x5] at q; cases q).trans (st b o q)
 ·exact (Heap.get?_update_other _ _ (Ne.symm (far b o q nf))).trans q
 ·exact ⟨ob,fs,T,_,_,(Heap.get?_update_other _ _ x6).trans x1,x2,x3,x4,x5,x6,Heap.get?_update_self _ x7 (Obj.isFreed_of_fields (Obj.data_mapFields x8 _)),Obj.data_mapFields x8 _,by simp [big]⟩
 ·exact (Heap.get?_update_other _ _ (Ne.symm (far b o q nf))).trans q
 ·exact (Heap.get?_update_other _ _ x6).trans q
theorem c9R {Q:Unit->Shared->Prop} (fr:A.frames=some (env::outer)) (ef:env.frame=some L) (fly:Heap.FlyingW base (env::outer) e cls a0 s.heap) (c:Ctx0 s.heap e)
  (k:∀ g,Heap.HeldW base (env::outer) e cls a0 L g->s.heap.UpToSlots g->Ctx0 g e->Q () { s with heap:=g }):wpAny M A (noteFrame (.ref e) env) Q E s:=by
 obtain ⟨st,nb,ff,ob,fs,T,oT,ts,x1,⟨x2,x2'⟩,x3,x4,x5,x6,x7,x8,x9⟩:=fly
 subst x2
 have far:∀ b o,s.heap.get? b=some o->(∀ vs,o.data ≠ .fields vs)->b≠T:=λ b o q nf z=>by
  rw [z,x7] at q
  cases q
  exact nf ts x8
 unfold noteFrame
 simp only [ef]
 refine wpAny_bind (wpAny_field x1 x3 x4 ?_)
 rw [if_pos (by simp)]
 refine wpAny_bind (wpAny_field x7 x8 x9 ?_)
 rw [if_neg (by simp [rawInt])]
 refine wpAny_bind (wpAny_setField x7 x8 (Array.getElem?_eq_some_iff.mp x9).1 ?_)
 refine c4I fr (ff.of_keeps λ b o q nf=>⟨o,(Heap.get?_update_other _ _ (Ne.symm (far b o q nf))).trans q,rfl⟩) ef ((Heap.get?_update_other _ _ x6).trans x1) (λ b o q=>(Heap.get?_update_other _ _ λ z=>by rw [<- z,x5] at q; cases q).trans (st b o q)) nb x3 (Array.getElem?_eq_some_iff.mp x4).1 x2' (c.at x1 x3) λ g ⟨y1,y2,y3,y4⟩ cg=>?_
 exact k g ⟨y1,nb,y2,y3⟩ (λ b o q nf=>y4 b o ((Heap.get?_update_other _ _ (Ne.symm (far b o q nf))).trans q) nf) cg
theorem c9S {l:List Env} {Q:Unit->Shared->Prop} (h:Heap.HeldW base l e cls a0 L s.heap) (c:Ctx0 s.heap e) (k:∀ g,Heap.FlyingW base l e cls a0 g->s.heap.UpToSlots g->Ctx0 g e->Q () { s with heap:=g }):wpAny M A (setFlight (.ref e) none) Q E s:=by
 obtain ⟨x1,x2,x3,x4⟩:=h
 exact b3T x1 x3 x4 c λ g y1 y2 y3 y4 y5=>k g ⟨y1,x2,y2,y3⟩ y4 y5
theorem c9T {Q:Unit->Shared->Prop} (fr:A.frames=some (env::outer)) (ef:env.frame=some L) (fly:Heap.FlyingW base (env::outer) e cls a0 s.heap) (c:Ctx0 s.heap e)
  (k:∀ g,Heap.FlyingW base outer e cls a0 g->s.heap.UpToSlots g->Ctx0 g e->Q () { s with heap:=g }):wpAny M A (leaving env (.ref e)) Q E s:=by
 unfold leaving
 refine wpAny_bind (c9R fr ef fly c λ g h u cg=>c9S h cg λ g2 f2 u2 c2=>?_)
 obtain ⟨y1,y2,⟨_,_,y3⟩,y4⟩:=f2
 exact k g2 ⟨y1,y2,y3,y4⟩ (u.trans u2) c2
theorem b6S {l:List Env} {Q:Unit->Shared->Prop} (fly:Heap.FlyingW base l e cls a0 s.heap) (c:Ctx0 s.heap e) (k:∀ g,Heap.FlyingW base l e cls a0 g->s.heap.UpToSlots g->Ctx0 g e->Q () { s with heap:=g }):wpAny M A (setFlight (.ref e) none) Q E s:=by
 obtain ⟨x1,x2,x3,x4⟩:=fly
 exact b3T x1 x3 x4.at c λ g y1 y2 y3 y4 y5=>k g ⟨y1,x2,y2,y3⟩ y4 y5
theorem d2I {h:Heap} {args:List Value} {Q:Unit->Shared->Prop} (fr:A.frames=some (env::outer)) (ef:env.frame=some L) (st:base.StaysIn h) (ff:h.FunFrames base (env::outer)) (m:Heap.MadeExcOf h s.heap e cls args)
  (k:∀ g t,Heap.FlyingW base outer e cls (.ref t) g->s.heap.UpToSlots g->Ctx0 g e->Q () { s with heap:=g }):wpAny M A (leaving env (.ref e)) Q E s:=by
 obtain ⟨t,x1,x2,x3⟩:=m.there
 have out:∀ b,h.get? b=none->base.get? b=none:=λ b q=>by
  cases z:base.get? b with
  | none=>rfl
  | some o =>
   have:=st b o z
   rw [q] at this
   cases this
 unfold leaving noteFrame
 simp only [ef]
 refine wpAny_bind (wpAny_bind (wpAny_field x1 rfl (x:=.none) rfl ?_))
 rw [if_neg (by decide)]
 refine wpAny_mono (c4I (a0:=.ref t) fr (ff.of_keeps λ b o q _=>⟨o,m.keeps b o q,rfl⟩) ef x1 (λ b o q=>m.keeps b o (st b o q)) (out e m.new) rfl (by simp) rfl rfl λ g ⟨y1,y2,y3,y4⟩ cg=>?_) (λ _ _ z=>z) (λ _ _ z=>z)
 refine b3T y1 y2 y3 cg λ g2 z1 z2 z3 z4 z5=>?_
 obtain ⟨_,_,z2'⟩:=z2
 exact k g2 t ⟨z1,out e m.new,z2',z3⟩ (Heap.UpToSlots.trans y4 z4) z5
end
end L2
namespace L2
open PySem PySem.Spec PySem.Calls PyProof.Rows PySem.Builtin PySem.Builtin.ObjectAttr
abbrev c6M:List Value:=[.type "ValueError", .type "Exception", .type "BaseException", .type "object"]
structure Xk (K:Φρ) (C:Addr):Prop where
 ga:PySem.W.findIn K (.ref C) "__getattribute__" = some (some (.builtin "BaseException.__getattribute__"))
 gh:PySem.W.findIn K (.ref C) "__getattr__" = some none
 ca:PySem.W.findIn K (.ref C) "__class__" = some (some (.builtin "object.__class__"))
 gt:PySem.W.specialIn K (.builtin "object.__class__") "__get__" = some (some (.builtin "getset_descriptor.__get__"))
 tk:PySem.W.takesIn K (.builtin "object.__class__")=some true
 mo:PySem.W.mroIn K C (.type "object")=some true
 mb:PySem.W.mroIn K C (.type "BaseException")=some true
 ex:PySem.W.excIn K C c6M "ValueError.__new__" = true
def AtC (x C:Addr) (h:Heap):Prop:=∃ o,h.get? x=some o/\o.cls = .ref C
section
variable {prog:Program} {w:World} {A:Around} {E:Value->Shared->Prop} {s:Shared} {K:Φρ} {x C:Addr}
theorem AtC.type {M:Model} {h:Heap} (I:AtC x C h):PySem.W.Looks M h (typeOf (.ref x)) (.ref C):=by
 obtain ⟨o,h1,h2⟩:=I
 exact h2 ▸ (PySem.W.Looks.ld h1).andThen .now
theorem d2J {M:Model} {h:Heap} (X:K.In h) (k:Xk K C):PySem.W.Looks M h (find (.ref x) (.ref C) "__class__") (.bind (.builtin "getset_descriptor.__get__") (.builtin "object.__class__")):=by
 have L3:=PySem.W.looks_takesIn (M:=M) X k.tk
 refine (PySem.W.looks_findIn X k.ca).andThen ((show PySem.W.Looks M h (getOf (some (.builtin "object.__class__"))) _ from PySem.W.looks_specialIn X k.gt).andThen ?_)
 have q:PySem.W.Looks M h (dataDescriptor? (some (.builtin "object.__class__")) (some (.builtin "getset_descriptor.__get__"))) (some (.builtin "getset_descriptor.__get__", .builtin "object.__class__")):=L3.andThen .now
 exact q.andThen (PySem.W.Looks.tag .now)
theorem b6T {R:Result->Shared->Prop} {tp:Value} (X:K.In s.heap) (I:AtC x C s.heap) (k:Xk K C)
  (h:R (.ok (.ret (.ref C))) s):codeAny (model prog w) A (.call (.builtin "getset_descriptor.__get__") ⟨[.builtin "object.__class__", .ref x,tp],[]⟩) R s:=by
 obtain ⟨hp,g,dr,t,os⟩:=s
 have L0:=I.type (M:=model prog w)
 have L1:=PySem.W.looks_mroIn (M:=model prog w) X k.mo
 have gs:=PySem.W.KF.slot_gs
 refine codeAny_call_builtin gs.plain PySem.W.KF.entry_gs (gs.check _ _ _ _ _ _ _ _ PySem.W.KF.type_class (PySem.W.KF.args_gs _ _ _) ?_)
 unfold Builtin.«getset_descriptor.__get__»; unfold Builtin.Getset_descriptor.descrGet
 rw [PySem.W.dga_obj]; refine wpAny_bind (wpAny_pure ?_)
 unfold Builtin.Getset_descriptor.descrGetter Builtin.Getset_descriptor.descrCheckInstance Builtin.Getset_descriptor.descrNameAndClass isInstance
 simp only [PySem.W.KF.owner_class]; repeat lk
 refine ⟨Code.quiet_builtin _ (by decide +kernel),codeAny_builtin PySem.W.KF.entry_class ?_⟩
 unfold Builtin.«object.__class__»; unfold shownTypeOf; repeat lk
 exact h
theorem c9U {Q:Option Value->Shared->Prop} (X:K.In s.heap) (I:AtC x C s.heap) (k:Xk K C) (h:Q (some (.ref C)) { s with toks:=s.toks+1 }) :
  wpAny (model prog w) A (getAttr? (.ref x) "__class__") Q E s:=by
 obtain ⟨hp,g,dr,t,os⟩:=s
 have L0:=I.type (M:=model prog w)
 have L1:=PySem.W.looks_findIn (M:=model prog w) X k.ga
 have L2:=PySem.W.looks_findIn (M:=model prog w) X k.gh
 have L3:=d2J (M:=model prog w) (x:=x) X k
 have L4:=PySem.W.looks_mroIn (M:=model prog w) X k.mb
 have ga:=PySem.F.attr_ValueError.ga
 unfold getAttr? getAttrBy? getAttrBy
 refine wpAny_bind (wpAny_mkText (wpAny_bind (wpAny_attempt (wpAny_holding (wpAny_bind (L0.at (wpAny_bind (L1.at ?_))))))))
 show wpAny _ _ (getAttrByItsOwn _ _ _ _ _ _) _ _ _
 unfold getAttrByItsOwn hookBefore
 refine wpAny_bind ?_
 show wpAny _ _ (typeLookup (.ref C) "__getattr__") _ _ _
 refine L2.at ?_
 refine wpAny_bind (wpAny_attempt (wpAny_holding ?_))
 show wpAny _ _ (boundAndCalled _ _ _) _ _ _
 unfold boundAndCalled
 rw [ga.bind]
 refine wpAny_bind (wpAny_pure ?_)
 refine wpAny_call (codeAny_call_builtin ga.plain PySem.F.entry_bexc_ga ?_)
 have hk:builtinKind "BaseException.__getattribute__" = some .slot:=by decide +kernel
 have hsp:splitId "BaseException.__getattribute__" = some ("BaseException", "__getattribute__"):=by decide +kernel
 have LI:PySem.W.Looks (model prog w) hp (isInstance (.ref x) (.type "BaseException")) true:=L0.andThen L4
 have ha:=PySem.F.args_bexc_ga (.ref x) (.str "__class__" t)
 simp only [checkBuiltinCall,hk,hsp]
 refine wpAny_bind (LI.at ?_)
 repeat lk
 refine wpAny_run (c:=.call _ _) (h:=none) (b6T (s:=⟨hp,g,dr,t+1,os⟩) X I k ?_)
 dsimp only
 refine wpAny_pure (wpAny_pure ?_)
 dsimp only
 exact wpAny_pure (wpAny_pure h)
theorem xkit (k:Xk K C):PySem.W.KitX K (.ref x) (.ref C) (AtC x C) where
 ty:=λ _ _ _ I=>I.type
 it:=λ M h X _=>by
  have q:=k.mo
  unfold PySem.W.mroIn at q
  obtain ⟨cd,hc,_⟩:=Option.bind_eq_some_iff.mp q
  unfold PySem.W.clsIn at hc
  split at hc
  ·rename_i c' d' cd' sl' ho
   intro A' Q' E' s' kk qq
   unfold isType; unfold loadHead
   exact wpAny_bind (wpAny_loadPart (kk _ _ (X _ _ ho)) (wpAny_pure qq))
  ·cases hc
 ne:=λ h tp dd its n sl X htp=>by
  have q:=k.mo
  unfold PySem.W.mroIn at q
  obtain ⟨cd,hc,_⟩:=Option.bind_eq_some_iff.mp q
  refine Bool.eq_false_iff.mpr λ z=>?_
  have e:C=tp:=Value.ref.inj (beq_iff_eq.mp z)
  subst e
  unfold PySem.W.clsIn at hc
  split at hc
  ·rename_i ho
   cases (X _ _ ho).symm.trans htp
  ·cases hc
 ca:=λ X I q=>c9U X I k q
end
def ExcO (p C:Addr):HO:=.ext (λ h=>AtC p C h/\Ctx0 h p)
theorem c6N {P:Program} {w:World} {H:Hp} {h:Heap} {p C:Addr} (a:AtC p C h) (x:Ctx0 h p):ObjOk P w H h p (ExcO p C) :=
 ⟨⟨a,x⟩,let ⟨o,e,_⟩:=a; ⟨o,e⟩,λ h1 h2 ⟨⟨o,e,c⟩,x⟩ k=>⟨⟨o,k o e,c⟩,x.keep k⟩⟩
section
variable {X:Cx}
def c9V (K:Φρ):List V->Hp->VK->Prop:=λ xs H Q=>∃ p C c cv b,xs=[.ref p,c]/\H p=some (ExcO p C)/\Xk K C/\clsV c=some cv/\PySem.W.kitOne K (.ref C) cv=some b/\Q (.bl b) H
theorem a1H {K:Φρ} (e:X.K=K):CallR X (.builtin "isinstance") (c9V K):=by
 subst e
 intro pins s σ H xs us Q I r h
 obtain ⟨p,C,c,cv,b,rfl,ep,k,hc,hk,q⟩:=h
 obtain ⟨u1,u2,rfl,r1,r2⟩:=c4Y r
 obtain rfl:=b4R hc r2
 cases (show u1=Value.ref p from r1)
 obtain ⟨⟨a,_⟩,_⟩:=(show ObjOk X.prog X.w H s.heap p (ExcO p C) from I.hok p _ ep)
 exact PySem.W.kia_one (xkit k) I.kIn a hk (λ z=>nomatch z) λ tk=>⟨.bl b,H,I.tok tk,rfl,q⟩
end
end L2
namespace L2
open PySem PySem.Spec PySem.Calls PyProof.Rows
structure UnB (fs:List Addr) (H H':Hp) (h B:Heap):Prop where
 keep:∀ b o,h.get? b=some o->H b=none->b ∉ fs->B.get? b=some o
 free:∀ b o,h.get? b=some o->H b=none->H' b=none
 there:∀ b o,h.get? b=some o->b ∉ fs->∃ o',B.get? b=some o'
 tups:∀ b xs,H b=some (.tup xs)->H' b=some (.tup xs)
 frzs:∀ b o u,H b=some (.frz o u)->H' b=some (.frz o u)
 tbls:∀ b ps,H b=some (.tbl ps)->∃ more,H' b=some (.tbl (ps++more))
def FlyX (B:Heap) (l:List Env) (e:Addr) (cls a0:Value) (h:Heap):Prop:=Heap.FlyingW B l e cls a0 h/\Ctx0 h e
def CXE (P:Program) (w:World):CXT:=λ outer H s E e s'=>∃ (p C:Addr) (a0:Value) (B:Heap) (H':Hp),
 e = .ref p/\s'.os=s.os/\AllBare s'.gens/\FlyX B outer p (.ref C) a0 s'.heap/\HOk P w H' B/\UnB (frs outer) H H' s.heap B /\
 (∀ b∈frs outer,∀ o,s.heap.get? b=some o->∃ sl,s'.heap.get? b=some { o with slots:=sl })/\H' p=none/\E (.ref p) (some C) H'
theorem UnB.un {fs:List Addr} {H H':Hp} {h B h':Heap} (u:UnB fs H H' h B) (st:B.StaysIn h') (fr:∀ b∈fs,∀ o,h.get? b=some o->∃ sl,h'.get? b=some { o with slots:=sl }) :
  Un fs [] H H' h h' where
 keep:=λ b o e n hb _=>st b o (u.keep b o e n hb)
 slot:=λ b o e n hb _=>fr b hb o e
 free:=λ b o e n _=>u.free b o e n
 there:=λ b o e _=>by
  by_cases hb:b∈fs
  ·obtain ⟨sl,q⟩:=fr b hb o e
   exact ⟨_,q⟩
  ·obtain ⟨o',q⟩:=u.there b o e hb
   exact ⟨o',st b o' q⟩
 tups:=u.tups
 frzs:=u.frzs
 tbls:=u.tbls
section
variable {X:Cx} {pins:List (Addr × Obj)} {σ:St} {H H':Hp} {s:Shared}
structure Own (X:Cx):Prop where
 stk:X.stack=X.env::X.outer
 fr:X.env.frame=some X.env.locals
 ex:X.ex=[]
theorem Own.frs (O:Own X):frs X.stack=X.env.locals::X.fs:=by
 rw [O.stk]; unfold L2.frs; rw [List.filterMap_cons,O.fr]; rfl
theorem Inv.unB {B:Heap} (I:Inv X pins σ H s) (O:Own X) (u:UnB (L2.frs X.stack) H H' s.heap B):UnB X.fs X.H₀ H' X.s₀.heap B where
 keep:=λ b o e n hb=>by
  have nx:b ∉ X.ex:=by rw [O.ex]; simp
  refine u.keep b o (I.base.keep b o e n hb nx) (I.base.free b o e n nx) ?_
  rw [O.frs]
  intro z
  rcases List.mem_cons.mp z with z | z
  ·exact absurd (Nat.lt_of_lt_of_le (Heap.lt_size e) I.ok.above) (by rw [z]; exact Nat.lt_irrefl _)
  ·exact hb z
 free:=λ b o e n=>by
  have nx:b ∉ X.ex:=by rw [O.ex]; simp
  obtain ⟨o',e'⟩:=I.base.there b o e nx
  exact u.free b o' e' (I.base.free b o e n nx)
 there:=λ b o e hb=>by
  have nx:b ∉ X.ex:=by rw [O.ex]; simp
  obtain ⟨o',e'⟩:=I.base.there b o e nx
  refine u.there b o' e' ?_
  rw [O.frs]
  intro z
  rcases List.mem_cons.mp z with z | z
  ·exact absurd (Nat.lt_of_lt_of_le (Heap.lt_size e) I.ok.above) (by rw [z]; exact Nat.lt_irrefl _)
  ·exact hb z
 tups:=λ b xs e=>u.tups b xs (I.base.tups b xs e)
 frzs:=λ b o xs e=>u.frzs b o xs (I.base.frzs b o xs e)
 tbls:=λ b ps e=>by
  obtain ⟨m1,e1⟩:=I.base.tbls b ps e
  obtain ⟨m2,e2⟩:=u.tbls b _ e1
  exact ⟨m1++m2,by rw [e2,Array.append_assoc]⟩
theorem Inv.slots {h2 h3:Heap} (I:Inv X pins σ H s) (O:Own X) (fr:∀ b∈L2.frs X.stack,∀ o,s.heap.get? b=some o->∃ sl,h2.get? b=some { o with slots:=sl }) (hs:h2.UpToSlots h3) :
  ∀ b∈X.fs,∀ o,X.s₀.heap.get? b=some o->∃ sl,h3.get? b=some { o with slots:=sl }:=λ b hb o e=>by
 have nx:b ∉ X.ex:=by rw [O.ex]; simp
 obtain ⟨sl,e1⟩:=I.base.slot b o e (I.ok.frf b hb) hb nx
 obtain ⟨sl2,e2⟩:=fr b (by rw [O.frs]; exact List.mem_cons_of_mem _ hb) _ e1
 obtain ⟨_,of,hof,hnf⟩:=I.ok.funs.mem hb
 rw [e] at hof
 cases hof
 obtain ⟨sl3,e3⟩:=hs b _ e2 hnf
 exact ⟨sl3,e3⟩
end
theorem c6O {P:Program} {w:World} {K:Φρ} {mg:Str->Option Value} {base:Heap} {N:List Str} {qual:Str} {scope:Scope} {f:Addr} {cd:Value} {A:Around} {outer:List Env} {s:Shared} {H:Hp} {E:XK} :
  b4P (CXE P w) (cxOf (CXE P w) P w K mg base N qual scope f cd A outer s H E) E:=by
 intro pins σ H1 s1 e s2 I h
 have O:Own (cxOf (CXE P w) P w K mg base N qual scope f cd A outer s H E):=⟨rfl,rfl,rfl⟩
 obtain ⟨p,C,a0,B,H',rfl,os,bare,fl,hok,u,fr,hp,hE⟩:=h
 refine c9T (env:=envOfC qual scope s.heap.objs.size f cd) (outer:=outer) I.ok.frames rfl fl.1 fl.2 λ h3 fl3 hs c3=>?_
 exact ⟨p,C,a0,B,H',rfl,os.trans I.os,bare,⟨fl3,c3⟩,hok,I.unB O u,I.slots O fr hs,hp,hE⟩
end L2
namespace L2
open PySem PySem.Spec PySem.Calls PyProof.Rows
theorem c2P {P:Program} {w:World} {H:Hp} {h:Heap} {a:Addr} {o:HO} (x:ObjOk P w H h a o):∃ ob,h.get? a=some ob:=by
 cases o with
 | lst xs=>obtain ⟨_,_,_,_,e⟩:=x; exact ⟨_,e⟩
 | tup xs=>obtain ⟨_,_,_,p⟩:=x; obtain ⟨ob,e,_⟩:=p; exact ⟨ob,e⟩
 | dK kvs=>obtain ⟨_,_,_,_,ob,_,_,e,_⟩:=x; exact ⟨ob,e⟩
 | dT kvs=>obtain ⟨_,_,_,_,ob,_,_,e,_⟩:=x; exact ⟨ob,e⟩
 | set S n=>obtain ⟨ob,_,_,_,e,_⟩:=x; exact ⟨ob,e⟩
 | ins C dx fs=>obtain ⟨_,_,_,e,_⟩:=x; exact ⟨_,e⟩
 | own y=>exact x
 | xd fs=>obtain ⟨_,⟨ob,_,_,e,_⟩,_⟩:=x; exact ⟨ob,e⟩
 | rng lo hi=>obtain ⟨_,_,_,e⟩:=x; exact ⟨_,e⟩
 | frz ob u=>obtain ⟨e,_⟩:=x; exact ⟨_,e⟩
 | tbl ps=>exact ⟨_,x⟩
 | met f y=>exact ⟨_,x⟩
 | ext φ=>obtain ⟨_,e,_⟩:=x; exact e
theorem xobj {K:Φρ} {h:Heap} {C:Addr} {bl:List Value} {ni:String} (X:K.In h) (q:PySem.W.excIn K C bl ni=true) :
  ∃ bm N nm qn bs hd sn sub ab col dd k0 k1 k2 k3 k5 mN,h.get? C=some (excClassObj nm qn C N bs bm hd sn sub ab col dd k0 k1 k2 k3 k5 ni)/\h.Ns N mN/\mN "__init__" = none/\OwnTail h bl bm:=by
 unfold PySem.W.excIn at q
 split at q
 ·rename_i du cu su hu
  split at q
  ·rename_i Cu bu l0 l1 l2 l3 nu l5 mu eu
   simp only [Bool.and_eq_true,beq_iff_eq,Bool.not_eq_true'] at q
   obtain ⟨⟨⟨⟨⟨rfl,rfl⟩,nodel⟩,tl⟩,good⟩,noin⟩:=q
   obtain ⟨c1,c2,c3,c4,c5,c6,c7,c8,c9,c10,c11⟩:=cu
   dsimp only at mu nodel good noin
   subst mu nodel
   obtain ⟨ls⟩:=su
   dsimp only at eu
   subst eu
   exact ⟨bu,c4,c1,c5,c2,c6,c7,c8,c9,c10,du,l0,l1,l2,l3,l5,_,X _ _ hu,.of_isNs (PySem.W.isNs_of_in X good),PySem.W.nsMap_none_of_in X good noin,PySem.W.tail_of_in X tl⟩
  ·cases q
 ·cases q
def c9W (E:XK) (C:Addr) (t:TA):TS:=λ _ σ H=>t σ H λ vs H1=>vs.length<=sizeLine/\∀ p,H1 p=none->E (.ref p) (some C) H1
section
variable {P:Program} {w:World} {K:Φρ} {mg:Str->Option Value} {base:Heap} {N:List Str} {qual:Str} {scope:Scope} {f:Addr} {cd:Value} {A:Around} {outer:List Env} {s₀:Shared} {H₀:Hp} {E:XK}
theorem b3U {pins:List (Addr × Obj)} {σ:St} {H:Hp} {s:Shared} {h':Heap} {p C:Addr} {us:List Value}
  (I:Inv (cxOf (CXE P w) P w K mg base N qual scope f cd A outer s₀ H₀ E) pins σ H s) (m:Heap.MadeExcOf s.heap h' p (.ref C) us) (hE:H p=none->E (.ref p) (some C) H) :
  (cxOf (CXE P w) P w K mg base N qual scope f cd A outer s₀ H₀ E).xe (.ref p) { s with heap:=h' }:=by
 have O:Own (cxOf (CXE P w) P w K mg base N qual scope f cd A outer s₀ H₀ E):=⟨rfl,rfl,rfl⟩
 have hin:∀ ev∈(envOfC qual scope s₀.heap.objs.size f cd::outer),∀ b,ev.frame=some b->b∈frs (envOfC qual scope s₀.heap.objs.size f cd::outer):=λ ev he b hb=>List.mem_filterMap.mpr ⟨ev,he,hb⟩
 have hst:s.heap.FunFrames base (envOfC qual scope s₀.heap.objs.size f cd::outer):=I.stack
 have hp:H p=none:=by
  cases q:H p with
  | none=>rfl
  | some u =>
   obtain ⟨ob,eo⟩:=c2P (I.hok p u q)
   have z:=m.new
   rw [z] at eo; cases eo
 refine d2I (base:=PySem.W.hideAll s.heap (frs (envOfC qual scope s₀.heap.objs.size f cd::outer))) (h:=s.heap) (env:=envOfC qual scope s₀.heap.objs.size f cd) (outer:=outer) I.ok.frames rfl
  (λ b o q=>PySem.W.of_hideAll _ q) (PySem.W.funFrames_hide hst hin) m λ h3 t fl up cg=>?_
 refine ⟨p,C,_,_,H,rfl,I.os,I.bare,⟨fl,cg⟩,?_,I.unB O ?_,I.slots O (h2:=h') ?_ up,hp,hE hp⟩
 ·intro a u e
  have nf:∀ b v,H b=some v->b ∉ frs (envOfC qual scope s₀.heap.objs.size f cd::outer):=λ b v q z=>by rw [I.stkFree b z] at q; cases q
  refine (I.hok a u e).stay (λ b v hb q=>PySem.W.hideAll_get _ q ?_) (λ _ q=>q) λ _ _ q=>q
  rcases hb with rfl | hb
  ·exact nf _ _ e
  ·exact nf _ _ hb
 ·exact ⟨λ b o e n hb=>PySem.W.hideAll_get _ e hb,λ b o e n=>n,λ b o e hb=>⟨o,PySem.W.hideAll_get _ e hb⟩,λ b xs e=>e,λ b o u e=>e,λ b ps e=>⟨#[],by rw [e]; simp⟩⟩
 ·exact λ b hb o e=>⟨o.slots,m.keeps b o e⟩
theorem a7P {x:Str} {C:Addr} {np cpos pos:Pos} {e:Expr} {es:List Expr} {t:TA} (hd:(A.deeper (envOfC qual scope s₀.heap.objs.size f cd)).handled=none)
  (hg:Gl (cxOf (CXE P w) P w K mg base N qual scope f cd A outer s₀ H₀ E) x) (hm:mg x=some (.ref C)) (k:Xk K C) (ha:PA (cxOf (CXE P w) P w K mg base N qual scope f cd A outer s₀ H₀ E) (e::es) t)
  (hdb:(x == ("__debug__" : Str))=false:=by decide)
  (he:starEach (e::es) (envOfC qual scope s₀.heap.objs.size f cd)=(false,eval e (envOfC qual scope s₀.heap.objs.size f cd))::starEach es (envOfC qual scope s₀.heap.objs.size f cd):=by rfl)
  (hpl:(backTo cpos (starEach es (envOfC qual scope s₀.heap.objs.size f cd))).any (·.1)=false:=by rfl) :
  PS (cxOf (CXE P w) P w K mg base N qual scope f cd A outer s₀ H₀ E) (.Raise (some (.Call (.Name x np) (e::es) [] cpos)) none pos) (c9W E C t):=by
 intro pins s σ H D I h
 obtain ⟨bm,M,nm,qn,bs,hdc,sn,sub,ab,col,dd,k0,k1,k2,k3,k5,mN,hC,hN,hni,T⟩:=xobj I.mod.kin k.ex
 have FB:=PySem.F.excBase_ValueError
 refine wpAny_Raise_call_subT (C:=C) (nm:=nm) (q:=qn) (N:=M) (bs:=bs) (bm:=bm) (hdct:=hdc) (sn:=sn) (sub:=sub) (ab:=ab) (col:=col) (dd:=dd) (k0:=k0) (k1:=k1) (k2:=k2) (k3:=k3) (k5:=k5) FB (mN:=mN)
  (T.hasType FB.hasBase) hd (by show (backTo cpos (starEach (e::es) (envOfC qual scope s₀.heap.objs.size f cd))).any (·.1)=false; rw [he]; show (false || (backTo cpos (starEach es (envOfC qual scope s₀.heap.objs.size f cd))).any (·.1))=false; rw [hpl]; rfl) hni (a5H I hg hm ⟨rfl,?_⟩ hdb)
 have z:=ha cpos pins s σ H _ I h
 have he':starEach (e::es) (cxOf (CXE P w) P w K mg base N qual scope f cd A outer s₀ H₀ E).env=(false,eval e (cxOf (CXE P w) P w K mg base N qual scope f cd A outer s₀ H₀ E).env)::starEach es (cxOf (CXE P w) P w K mg base N qual scope f cd A outer s₀ H₀ E).env:=he
 rw [he'] at z ⊢
 refine Calls.evalArgs_plain (wpAny_mono z (λ us s2 ⟨vs,H2,I2,r,hl,q⟩=>?_) λ _ _ y=>y)
 exact ⟨rfl,(by rw [<- r.length]; exact hl),I2.bk _ _ hC,hN.keeps I2.bk,T.keeps I2.bk,λ h' p m=>b3U I2 m (q p)⟩
end
end L2
namespace L2
open PySem PySem.Spec PySem.Calls PyProof.Rows
abbrev Cx.hand (X:Cx) (p:Addr):Cx:={ X with A:=X.A.mark (some (.ref p)),calm:=false,xe:=λ _ _=>False }
section
variable {X:Cx} {pins:List (Addr × Obj)} {σ:St} {H:Hp} {s:Shared} {p:Addr}
theorem Inv.hand (I:Inv X pins σ H s):Inv (X.hand p) pins σ H s :=
 ⟨⟨I.ok.mod,I.ok.kind,I.ok.glob,I.ok.blt,I.ok.above,I.ok.inj,I.ok.has,I.ok.cab,(λ z=>by cases z),I.ok.frames,I.ok.stk,I.ok.exf,I.ok.bs,I.ok.bsz,I.ok.noex,I.ok.exfs,I.ok.funs,I.ok.frf⟩,I.os,I.bare,I.base,I.loc,I.cell,I.free,I.freeC,I.pin,I.hok,I.len⟩
theorem Inv.unhand (I:Inv (X.hand p) pins σ H s) (ok:X.Ok):Inv X pins σ H s:=⟨ok,I.os,I.bare,I.base,I.loc,I.cell,I.free,I.freeC,I.pin,I.hok,I.len⟩
theorem Inv.gone {i:Nat} {n:Str} {v:Option Value} {m:Str->Option Value} {h':Heap} {t':Nat} (I:Inv X pins σ H s) (hN:X.N.Nodup) (hi:X.N[i]?=some n) (hk:X.env.scope.names.lookup n=some .local) (hm:s.heap.Ns X.env.locals m)
  (hl:∀ (j:Nat) (y:Str) (v:V),X.N[j]?=some y->σ[j]?=some (some v)->Vis X.env.scope y->∃ u,RelV v u/\Look X.env s.heap m y u)
  (hn:h'.Ns X.env.locals (λ y=>if y=n then v else m y)) (hs:Heap.SameBut X.env.locals s.heap h'):Inv X pins (σ.set i none) H { s with heap:=h',toks:=t' }:=by
 have ne0:∀ b o,X.s₀.heap.get? b=some o->b≠X.env.locals:=λ b o e=>Nat.ne_of_lt (Nat.lt_of_lt_of_le (Heap.lt_size e) I.ok.above)
 have ck:∀ y c,X.env.cells.lookup y=some c->∀ w,s.heap.IsCell c w->h'.IsCell c w:=λ y c e w z=>z.sameBut hs (I.cne y c e)
 refine ⟨I.ok,I.os,I.bare,⟨?_,?_,I.base.free,?_,I.base.tups,I.base.frzs,I.base.tbls⟩,⟨_,hn,?_⟩,?_,I.free,I.freeC,?_,?_,by rw [List.length_set]; exact I.len⟩
 ·intro b o e z hb hx
  exact (hs.2 b (ne0 b o e)).trans (I.base.keep b o e z hb hx)
 ·intro b o e z hb hx
  obtain ⟨sl,q⟩:=I.base.slot b o e z hb hx
  exact ⟨sl,(hs.2 b (ne0 b o e)).trans q⟩
 ·intro b o e hx
  obtain ⟨o',q⟩:=I.base.there b o e hx
  exact ⟨o',(hs.2 b (ne0 b o e)).trans q⟩
 ·intro j y v' e1 e2 e3
  have hj:j≠i:=by
   rintro rfl
   rw [List.getElem?_set] at e2
   split at e2
   ·split at e2 <;> cases e2
   ·rename_i z; exact z rfl
  rw [List.getElem?_set_ne (Ne.symm hj)] at e2
  obtain ⟨u,r,q⟩:=hl j y v' e1 e2 e3
  refine ⟨u,r,?_⟩
  rcases q with ⟨k,e⟩ | ⟨k,c,e,z⟩
  ·have hy:y≠n:=λ e'=>hj (a9Y hN e1 (e' ▸ hi))
   exact .inl ⟨k,by show (if y=n then v else m y)=some u; rw [if_neg hy]; exact e⟩
  ·exact .inr ⟨k,c,e,ck y c e _ z⟩
 ·intro y c e
  obtain ⟨w,z⟩:=I.cell y c e
  exact ⟨w,ck y c e w z⟩
 ·intro q hq
  obtain ⟨e,n',ne,nf,d⟩:=I.pin q hq
  exact ⟨(hs.2 q.1 ne).trans e,n',ne,nf,d⟩
 ·intro b u e
  have nl:∀ c w,H c=some w->c≠X.env.locals:=λ c w q z=>by rw [z,I.free] at q; cases q
  refine (I.hok b u e).stay (λ c w hc q=>(hs.2 c ?_).trans q) (λ _ q=>q) λ _ _ q=>q
  rcases hc with rfl | hc
  ·exact nl _ _ e
  ·exact nl _ _ hc
def Ld (X:Cx) (pins:List (Addr × Obj)) (σ:St) (H':Hp) (p C:Addr) (s:Shared):Prop:=∃ (H1:Hp) (s1:Shared) (a0:Value) (B:Heap),Inv X pins σ H1 s1/\s.os=s1.os/\AllBare s.gens/\FlyX B X.stack p (.ref C) a0 s.heap /\
 HOk X.prog X.w H' B/\UnB (frs X.stack) H1 H' s1.heap B/\(∀ b∈frs X.stack,∀ o,s1.heap.get? b=some o->∃ sl,s.heap.get? b=some { o with slots:=sl })/\H' p=none
variable {C:Addr} {H':Hp}
theorem b5D {l:List Env} {base g h h':Heap} (F:g.FunFrames base l) (a:∀ b∈frs l,∀ o,g.get? b=some o->∃ sl,h.get? b=some { o with slots:=sl }) (u:h.UpToSlots h'):∀ b∈frs l,∀ o,g.get? b=some o->∃ sl,h'.get? b=some { o with slots:=sl }:=λ b hb o e=>by
 obtain ⟨sl,q⟩:=a b hb o e
 obtain ⟨_,of,hof,hnf⟩:=F.mem hb
 rw [e] at hof; cases hof
 obtain ⟨sl2,q2⟩:=u b _ q hnf
 exact ⟨sl2,q2⟩
theorem c2Q {E:XK} {H1:Hp} {s1 s2:Shared} {e:Value} {M:Model} {A:Around} {XE:Value->Shared->Prop} {Q:Shared->Prop} (hA:A.frames=some X.stack) (O:Own X) (I:Inv X pins σ H1 s1) (h:CXE X.prog X.w X.stack H1 s1 E e s2)
  (hQ:∀ p C H' s',e = .ref p->Ld X pins σ H' p C s'->E (.ref p) (some C) H'->Q s') :
  wpAny M A (noteFrame e X.env) (λ _ s₂=>wpAny M A (setFlight e none) (λ _ s₃=>Q s₃) XE s₂) XE s2:=by
 obtain ⟨p,C,a0,B,H',rfl,os,bare,fl,hok,u,fr,hp,hE⟩:=h
 rw [O.stk] at fl
 refine c9R (by rw [hA,O.stk]) O.fr fl.1 fl.2 λ h3 held up3 c3=>?_
 refine c9S held c3 λ h4 fl4 up4 c4=>?_
 refine hQ p C H' _ rfl ⟨H1,s1,a0,B,I,os,bare,?_,hok,u,?_,hp⟩ hE
 ·rw [O.stk]; exact ⟨fl4,c4⟩
 ·exact b5D I.stack fr (up3.trans up4)
theorem b9B {M:Model} {A:Around} {XE:Value->Shared->Prop} {Q:Unit->Shared->Prop} (L:Ld X pins σ H' p C s) (hQ:∀ s',Ld X pins σ H' p C s'->Q () s'):wpAny M A (setFlight (.ref p) none) Q XE s:=by
 obtain ⟨H1,s1,a0,B,I,os,bare,fl,hok,u,fr,hp⟩:=L
 exact b6S fl.1 fl.2 λ h4 fl4 up4 c4=>hQ _ ⟨H1,s1,a0,B,I,os,bare,⟨fl4,c4⟩,hok,u,b5D I.stack fr up4,hp⟩
theorem Ld.inv (L:Ld X pins σ H' p C s):Inv X pins σ (upd H' p (ExcO p C)) s:=by
 obtain ⟨H1,s1,a0,B,I,os,bare,fl,hok,u,fr,hp⟩:=L
 obtain ⟨fl,cx⟩:=fl
 obtain ⟨oe,vs,he,hec,hed,_⟩:=fl.first
 have hat:AtC p C s.heap:=⟨oe,he,hec⟩
 have nB:∀ b o,s1.heap.get? b=some o->b≠p:=λ b o e z=>by
  by_cases hb:b∈frs X.stack
  ·obtain ⟨_,of,hof,hnf⟩:=I.stack.mem hb
   rw [e] at hof; cases hof
   obtain ⟨sl,q⟩:=fr b hb o e
   rw [z,he] at q; cases q
   exact hnf vs hed
  ·obtain ⟨o',q⟩:=u.there b o e hb
   rw [z,fl.2.1] at q; cases q
 have UN:=u.un fl.1 fr
 refine I.call' os ⟨UN.keep,UN.slot,λ b o e n hx=>?_,UN.there,λ b xs e=>?_,λ b o xs e=>?_,λ b ps e=>?_⟩ ?_ bare (λ b z=>absurd z (by simp))
 ·rw [a1K (nB b o e)]; exact UN.free b o e n hx
 ·have q:=UN.tups b xs e
  rw [a1K (a1C q hp)]; exact q
 ·have q:=UN.frzs b o xs e
  rw [a1K (a1C q hp)]; exact q
 ·obtain ⟨more,q⟩:=UN.tbls b ps e
  exact ⟨more,by rw [a1K (a1C q hp)]; exact q⟩
 ·intro b o e
  by_cases hb:b=p
  ·subst hb
   rw [a2X] at e; cases e
   exact c6N hat cx
  ·rw [a1K hb] at e
   exact (hok b o e).stay (λ c v _ q=>fl.1 c v q) (λ c q=>by rw [a1K (a1C q hp)]; exact q) λ c xs q=>by rw [a1K (a1C q hp)]; exact q
end
end L2
namespace L2
open PySem PySem.Spec PySem.Calls PyProof.Rows
abbrev TXS:=Ends->(St->XK)->St->Hp->Prop
abbrev TXE:=(St->XK)->St->Hp->VK->Prop
def XEnd (X:Cx) (pins:List (Addr × Obj)) (E:St->XK) (ev:Value) (s':Shared):Prop:=∃ σ1 H1 s1,Inv X pins σ1 H1 s1/\CXE X.prog X.w X.stack H1 s1 (E σ1) ev s'
def PXE (X:Cx) (e:Expr) (t:TXE):Prop :=
 ∀ (pins:List (Addr × Obj)) (s:Shared) (σ:St) (H:Hp) (Q:VK) (E:St->XK),Inv X pins σ H s->t E σ H Q->wpAny (model X.prog X.w) X.A (eval e X.env) (EP X pins σ Q) (XEnd X pins E) s
def PXS (X:Cx) (st:Stmt) (t:TXS):Prop :=
 ∀ (pins:List (Addr × Obj)) (s:Shared) (σ:St) (H:Hp) (D:Ends) (E:St->XK),Inv X pins σ H s->t D E σ H->wpAny (model X.prog X.w) X.A (exec st X.env) (SP X pins D) (XEnd X pins E) s
def PXSs (X:Cx) (sts:List Stmt) (t:TXS):Prop :=
 ∀ (pins:List (Addr × Obj)) (s:Shared) (σ:St) (H:Hp) (D:Ends) (E:St->XK),Inv X pins σ H s->t D E σ H->wpAny (model X.prog X.w) X.A (execs sts X.env) (SP X pins D) (XEnd X pins E) s
def NoX (X:Cx):Prop:=∀ e s,X.xe e s->False
section
variable {X:Cx} {st:Stmt} {rest:List Stmt} {e:Expr} {es:List Expr} {pos:Pos} {t u:TXS} {te:TXE}
theorem xthn {α:Type} {m:Sem α} {Q Q':α->Shared->Prop} {M:Model} {A:Around} {E E':Value->Shared->Prop} {s:Shared} (h:wpAny M A m Q E s) (hx:∀ e s,E e s->False) (hQ:∀ a s,Q a s->Q' a s):wpAny M A m Q' E' s:=wpAny_mono h hQ λ e s z=>(hx e s z).elim
theorem b5E (h1:PXS X st t):PXSs X [st] t:=by
 intro pins s σ H D E I h
 refine wpAny_execs_cons (thn (h1 pins s σ H D E I h) λ f s1 q=>?_)
 cases f with
 | next=>exact wpAny_execs_nil q
 | ret v=>exact q
 | brk=>exact q
 | cont=>exact q
theorem b5F (he:PXE X e te) (hs:swapsWith e none pos.line X.env=pure false:=by rfl):PXS X (.Expr e pos) (λ D E σ H=>te E σ H λ _ H1=>D.nx σ H1):=by
 intro pins s σ H D E I h
 exact wpAny_Expr_any (thn (he pins s σ H _ E I h) λ v s1 ⟨x,H1,I1,r1,q1⟩=>⟨σ,H1,I1,q1⟩) I.quiet hs
theorem b5G {k:Nat} {f:Addr} {fd:FuncData} {ps:List Str} {sp:Sp} {dvs:List V} {ds:List Value} {x:Str} {p:Pos} {t:TA} (hn:NoX X) (F:FnOk X.prog X.w X.K X.mg X.base (CXE X.prog X.w) k f fd ps sp) (hr:Room k X.A) (hg:Gl X x) (hm:X.mg x=some (.ref f))
  (hk:PySem.W.keepIn X.K (.ref f)=true) (hb:Binds X.K fd ps ds) (hd:Vals dvs ds) (ha:PA X (e::es) t) (hdb:(x == ("__debug__" : Str))=false:=by decide)
  (he:starEach (e::es) X.env=(false,eval e X.env)::starEach es X.env:=by rfl) (hpl:(backTo pos (starEach es X.env)).any (·.1)=false:=by rfl) :
  PXE X (.Call (.Name x p) (e::es) [] pos) (λ E σ H Q=>t σ H λ vs H1=>sp (vs++dvs) H1 Q (E σ)):=by
 intro pins s σ H Q E I h
 refine wpAny_Call_Name_kw (a5H I hg hm ?_ hdb)
 refine PySem.W.callWith_K (h₀:=X.base) I.ok.mod.kin hk (xthn (ha pos pins s σ H _ I h) hn λ us s1 ⟨vs,H1,I1,r,q⟩=>⟨I1.kIn,?_⟩) he hpl
 have r2:Vals (vs++dvs) (us++ds):=r.append hd
 have hl:(us++ds).length=ps.length:=by rw [<- r2.length]; exact F.len _ _ _ _ q
 refine wpAny_call (codeAny_mono (F.run X.A X.stack s1 H1 ⟨[]++us,[]⟩ (us++ds) (vs++dvs) Q (E σ) hr I1.env0 (hb s1 us I1.kIn hl) r2 q) λ r s' hq=>?_)
 cases r with
 | error ev=>exact ⟨σ,H1,s1,I1,hq⟩
 | ok fl =>
  cases fl with
  | ret v=>exact I1.after hq
  | next=>exact False.elim hq
  | brk=>exact False.elim hq
  | cont=>exact False.elim hq
end
def PH (X:Cx) (p C:Addr) (hs:List ExceptHandler) (t:TS):Prop :=
 ∀ (pins:List (Addr × Obj)) (s:Shared) (σ:St) (H':Hp) (D:Ends),Ld X pins σ H' p C s->t D σ (upd H' p (ExcO p C))->wpAny (model X.prog X.w) X.A (handleBy (.ref p) X.env hs) (SP X pins D) X.xe s
section
variable {X:Cx} {pos np:Pos} {t:TS} {tx:TXS} {p C:Addr}
def Ends.forget (D:Ends) (i:Nat):Ends:={ nx:=λ σ H=>D.nx (σ.set i none) H,rt:=D.rt,bk:=λ σ H=>D.bk (σ.set i none) H,ct:=λ σ H=>D.ct (σ.set i none) H }
theorem c9X {D:Addr} {x n:Str} {i:Nat} {b₀:Stmt} {suite:List Stmt} {rest:List ExceptHandler} (hg:Gl X x) (hm:X.mg x=some (.ref D)) (hx:PySem.W.exmOne X.K (.ref C) (.ref D)=some true) (hN:X.N.Nodup) (hi:X.N[i]?=some n)
  (hl:X.env.scope.names.lookup n=some .local) (hb:PSs (X.hand p) (b₀::suite) t) (hd:(x == ("__debug__" : Str))=false:=by decide) :
  PH X p C (.ExceptHandler (some (.Name x np)) (some n) (b₀::suite) pos::rest) (λ D' σ H=>t (D'.forget i) (σ.set i (some (.ref p))) H):=by
 intro pins s σ H' D' L h
 have I:=L.inv
 have J:=I.hand (p:=p)
 refine wpAny_handleBy_cons (codeAny_handlers_test (a5H (X:=X.hand p) J hg hm ?_ hd)) (by intro q; cases q)
 have hat:AtC p C s.heap:=(show ObjOk X.prog X.w _ s.heap p (ExcO p C) from I.hok p _ a2X).1.1
 refine (PySem.W.exm_one (M:=model X.prog X.w) I.kIn hat.type hx).here ?_
 refine codeAny_handlers_suite_as (b9B L λ s2 L2=>?_)
 have I2:=L2.inv
 refine a9Z (X:=X.hand p) (I2.hand (p:=p)) hN hi (.inl hl) (v:=.ref p) (u:=.ref p) rfl (λ s3 I3=>?_) (.inr hl)
 refine wpAny_mono (hb pins s3 _ _ (D'.forget i) I3 h) (λ fl s4 q=>?_) λ _ _ z=>False.elim z
 have fin:∀ {σ4:St} {H4:Hp} {fl:Flow},Inv (X.hand p) pins σ4 H4 s4->(∀ s5,Inv X pins (σ4.set i none) H4 s5->SP X pins D' fl s5) ->
   wpAny (model X.prog X.w) X.A (do bindName X.env n .none; unbindBehindTheSuite X.env n pos) (λ _ s5=>SP X pins D' fl s5) X.xe s4:=λ {σ4 H4 fl} J4 k=>by
  have I4:=J4.unhand I.ok
  obtain ⟨m,hn,hl'⟩:=id I4.loc
  exact wpAny_nameGoes_keeps hl hn (by rw [I.ok.kind]; rfl) λ h5 v hn5 hs5=>k _ (I4.gone hN hi hl hn hl' hn5 hs5)
 cases fl with
 | next=>obtain ⟨σ4,H4,J4,q⟩:=q; exact fin J4 λ s5 I5=>⟨_,H4,I5,q⟩
 | brk=>obtain ⟨σ4,H4,J4,q⟩:=q; exact fin J4 λ s5 I5=>⟨_,H4,I5,q⟩
 | cont=>obtain ⟨σ4,H4,J4,q⟩:=q; exact fin J4 λ s5 I5=>⟨_,H4,I5,q⟩
 | ret u=>obtain ⟨v,σ4,H4,J4,r,q⟩:=q; exact fin J4 λ s5 I5=>⟨v,_,H4,I5,r,q⟩
theorem c4J {body:List Stmt} {h₀:ExceptHandler} {hs:List ExceptHandler} {th:Addr->Addr->TS} {ok:Addr->Prop} (O:Own X) (hb:PXSs X body tx) (hp:∀ p C,ok C->PH X p C (h₀::hs) (th p C)) :
  PS X (.Try body (h₀::hs) [] [] pos) (λ D σ H=>tx D (λ σ1 v c H'=>∀ p C,v = .ref p->c=some C->ok C/\th p C D σ1 (upd H' p (ExcO p C))) σ H):=by
 intro pins s σ H D I h
 refine wpAny_Try_except (wpAny_mono (hb pins s σ H D _ I h) (λ fl s1 q=>?_) λ ev s1 q=>?_)
 ·cases fl with
  | next=>exact wpAny_execs_nil q
  | brk=>exact q
  | cont=>exact q
  | ret u=>exact q
 ·obtain ⟨σ1,H1,s0,I1,hc⟩:=q
  refine c2Q (XE:=X.xe) I1.ok.frames O I1 hc λ p C H' s' e L hE=>?_
  subst e
  obtain ⟨o,z⟩:=hE p C rfl rfl
  exact hp p C o pins s' σ1 H' D L z
end
end L2
namespace L2
open PySem PySem.Spec PySem.Calls PyProof.Rows
theorem Fun.okE {P:Program} {w:World} {K:Φρ} {mg:Str->Option Value} {base:Heap} {x qual:Str} {st:Stmt} {f:Addr} {fd:FuncData} {N ps:List Str} {k:Nat} {sp:Sp} (F:Fun K x qual st f fd) (S:FnScope N ps (a0F st)) (len:∀ vs H Q E,sp vs H Q E->vs.length=ps.length)
  (hbody:∀ (cdv:Value) (A:Around) (outer:List Env) (s:Shared) (H:Hp) (vs:List V) (Q:VK) (E:XK),Room k (A.deeper (envOfC qual (a0F st) s.heap.objs.size f cdv))->sp vs H Q E ->
   ∃ t,PSs (cxOf (CXE P w) P w K mg base N qual (a0F st) f cdv A outer s H E) (a1U st) t/\t { nx:=λ _ H'=>Q .non H',rt:=Q } (a6J N vs) H):FnOk P w K mg base (CXE P w) (k+1) f fd ps sp:=by
 obtain ⟨oc,od,kV,doc,pm,an,cdv,ct,osl,rfl,lk,hcd⟩:=F.ex
 exact c8K lk hcd S len λ A outer s H vs Q E hr hsp=>hbody cdv A outer s H vs Q E hr hsp
end L2
namespace L2
open PySem PySem.Spec PySem.Calls PyProof.Rows
structure RoomH (k:Nat) (A:Around):Prop where
 dp:A.depth+3*k+5 < recursionLimit
 un:A.units+16*k+200 < cLine
theorem Room.h {k:Nat} {A:Around} (r:Room k A):RoomH k A:=⟨r.dp,r.un⟩
theorem RoomH.mark {k:Nat} {A:Around} (r:RoomH k A) (e:Option Value):RoomH k (A.mark e):=⟨r.dp,r.un⟩
theorem RoomH.mono {j k:Nat} {A:Around} (r:RoomH k A) (h:j<=k):RoomH j A:=⟨by have:=r.dp; omega,by have:=r.un; omega⟩
theorem RoomH.deeper {k:Nat} {A:Around} (r:RoomH (k+1) A) (env:Env):RoomH k (A.deeper env) :=
 ⟨by have:=r.dp; show A.depth+1+3*k+5 < _; omega,by have:=r.un; show A.units+3+16*k+200 < _; omega⟩
abbrev Cx.stir (X:Cx):Cx:={ X with calm:=false }
section
variable {X:Cx} {k:Nat} {f:Addr} {fd:FuncData} {ps:List Str} {sp:Sp} {dvs:List V} {ds:List Value} {x:Str} {p pos:Pos} {e:Expr} {es:List Expr} {t:TA}
end
end L2
namespace L2
open PySem PySem.Spec PySem.Calls PyProof.Rows PySem.Builtin
theorem a9A:entryFor table "proto.unchain" = some Builtin.«proto.unchain» := entryFor_of_fast (by kernel_rfl)
section
variable {prog:Program} {w:World} {A:Around} {E:Value->Shared->Prop} {s:Shared}
theorem c9Y {α:Type} {a p:Addr} {o:Obj} {fs:Array Value} {Q:α->Shared->Prop} (hh:A.handled=some (.ref p)) (c:Ctx0 s.heap p) (ga:s.heap.get? a=some o) (da:o.data = .fields fs) (big:2 < fs.size) (ne:p≠a)
  (k:E (.ref a) { s with heap:=s.heap.update a (Obj.mapFields (·.setIfInBounds 2 (.ref p))) }):wpAny (model prog w) A (raiseNew (.ref a):Sem α) Q E s:=by
 obtain ⟨op,vs,g1,g2,g3⟩:=c
 unfold raiseNew
 refine wpAny_bind (wpAny_handled ?_)
 rw [hh]
 dsimp only
 rw [if_pos (by simpa using ne)]
 refine wpAny_bind (wpAny_holding (wpAny_runValue (codeAny_builtin a9A ?_)))
 show wpAny _ _ (field (.ref p) 2 >>= _) _ _ s
 refine wpAny_bind (wpAny_field g1 g2 g3 ?_)
 rw [if_pos (by rfl)]
 refine wpAny_pure ?_
 show wpAny (model prog w) A (updateField a 2 (Value.ref p) >>= λ _=>throw (Value.ref a)) Q E s
 refine wpAny_bind ?_
 show wpAny (model prog w) A (setField (.ref a) 2 (Value.ref p)) _ E s
 exact wpAny_setField ga da big (wpAny_throw k)
theorem b9C {wk ls p:Addr} {i:Nat} {its:Array Value} {Q:Option Value->Shared->Prop} (hh:A.handled=some (.ref p)) (c:Ctx0 s.heap p) (np:p≠wk)
  (hi:s.heap.IsListIter wk ls i) (hl:s.heap.IsList ls its) (no:its[i]?=none) (k:∀ g,Heap.ExtBut wk s.heap g->Q none { s with heap:=g }):wpAny (model prog w) A (pyNext (.ref wk)) Q E s:=by
 obtain ⟨o1,g1,c1,d1⟩:=id hi
 obtain ⟨o2,g2,_,n2,d2⟩:=hl
 unfold pyNext
 refine wpAny_bind (wpAny_attempt (wpAny_callSpecial?_slot (name:=Str.ofString "__next__") hi.typeIs slot_listiter_next (wpAny_call_entry slot_listiter_next hi.typeIs entry_listiter_next ?_ (args_listiter_next _))))
 show wpAny _ _ (field (.ref wk) 0 >>= _) _ _ s
 refine wpAny_bind (wpAny_field g1 d1 (x:=.ref ls) rfl ?_)
 show wpAny _ _ (if (Value.ref ls == Value.none)=true then _ else _) _ _ s
 rw [if_neg (show ¬ ((Value.ref ls == Value.none)=true) from λ z=>by cases z)]
 show wpAny _ _ (field (.ref wk) 1 >>= _) _ _ s
 refine wpAny_bind (wpAny_field g1 d1 (x:=.int i 0) rfl ?_)
 show wpAny _ _ (seqItems? (.ref ls) >>= _) _ _ s
 refine wpAny_bind (wpAny_seqItems g2 d2 ?_)
 simp only [Int.toNat_natCast,no]
 refine wpAny_bind (wpAny_rule (wpAny_bind (wpAny_setField g1 d1 (by simp) ?_)))
 show wpAny (model prog w) A.in1 (newExc (.type "StopIteration") [] >>= _) _ _ _
 refine wpAny_bind ?_
 simp only [newExc,newTuple]
 refine wpAny_bind (wpAny_newObj_type ?_ (by size_fits))
 refine wpAny_bind (m:=firstArgMember _ _) (wpAny_of_eq (a:=Value.none) (by first | (simp only [firstArgMember]; rfl) | rfl) ?_)
 refine wpAny_newObj_type ?_ (by size_fits)
 obtain ⟨op,vp,e1,e2,e3⟩:=id c
 have far:∀ o,s.heap.get? p=some o->((s.heap.update wk (Obj.mapFields λ x=>x.setIfInBounds 0 Value.none)).push { cls:=.type "tuple", data:=.seq #[] }).get? p=some o:=λ o q=>Heap.get?_push_of_some _ ((Heap.get?_update_other _ _ (Ne.symm np)).trans q)
 refine c9Y (p:=p) hh (c.keep λ o q=>Heap.get?_push_of_some _ (far o q)) (Heap.get?_push_size _ rfl) rfl (by rw [Array.size_append]; exact Nat.lt_of_lt_of_le (by decide:2 < 6) (Nat.le_add_right _ _)) (Nat.ne_of_lt (Heap.lt_size (far op e1))) ?_
 refine wpAny_bind (wpAny_isInstance (T:="StopIteration") (b:=true) ⟨_,Heap.get?_update_self _ (Heap.get?_push_size _ rfl) (Obj.isFreed_of_fields (Obj.data_mapFields rfl _)),Obj.cls_mapFields _ _⟩ isSubtype_stop ?_)
 refine wpAny_pure (k _ λ b o ne q=>?_)
 have q1:((s.heap.update wk (Obj.mapFields λ x=>x.setIfInBounds 0 Value.none)).push { cls:=.type "tuple", data:=.seq #[] }).get? b=some o:=Heap.get?_push_of_some _ ((Heap.get?_update_other _ _ (Ne.symm ne)).trans q)
 exact (Heap.get?_update_other _ _ (Nat.ne_of_gt (Heap.lt_size q1))).trans (Heap.get?_push_of_some _ q1)
end
structure TurnC (cond:Cx->Prop) (P:Program) (w:World) (K:Φρ) (tg:Expr) (J:It) (fp:List Addr) (it:Addr) (tn:Nat->Heap->Prop):Prop where
 mem:it∈fp
 obj:∀ i h,tn i h->∀ b∈fp,∃ o,h.get? b=some o/\∀ v,o.data ≠ .cell v
 keep:∀ i h g,tn i h->(∀ b∈fp,∀ o,h.get? b=some o->g.get? b=some o)->tn i g
 item:∀ (X:Cx),X.prog=P->X.w=w->X.K=K->cond X->∀ (i:Nat) (pins:List (Addr × Obj)) (s:Shared) (σ:St) (H:Hp) (E:Value->Shared->Prop),Inv X pins σ H s->(∀ b∈fp,FpOk X pins H b)->tn i s.heap->J.go i H ->
  wpAny (model P w) X.A (pyNext (.ref it)) (λ r s1=>∃ u,r=some u/\wpAny (model P w) X.A (letOwnedTupleGo tg (.ref it) u) (λ _ s2=>∃ x H',Inv X pins σ H' s2/\RelV x u/\J.yld i H x H'/\tn (i+1) s2.heap/\∀ b∈fp,H' b=none) E s1) E s
 done:∀ (X:Cx),X.prog=P->X.w=w->X.K=K->cond X->∀ (i:Nat) (pins:List (Addr × Obj)) (s:Shared) (σ:St) (H:Hp) (E:Value->Shared->Prop),Inv X pins σ H s->(∀ b∈fp,FpOk X pins H b)->tn i s.heap->J.stop i H ->
  wpAny (model P w) X.A (pyNext (.ref it)) (λ r s1=>r=none/\Inv X pins σ H s1) E s
 self:∀ (A:Around) (i:Nat) (s:Shared) (Q:Value->Shared->Prop) (E:Value->Shared->Prop),tn i s.heap->Q (.ref it) s->wpAny (model P w) A (pyIter (.ref it)) Q E s
abbrev b9D (p:Addr) (X:Cx):Prop:=X.A.handled=some (.ref p)
def ItlH (K:Φρ) (a p:Addr):It:={ Itl K a with stop:=λ i H=>(∃ xs,SqL K H a xs/\xs.length<=i)/\∃ C,H p=some (ExcO p C) }
theorem b6U {P:Program} {w:World} {K:Φρ} {tg:Expr} (a it p:Addr):TurnC (b9D p) P w K tg (ItlH K a p) [it] it (λ i h=>h.IsListIter it a i) where
 mem:=(a4L (P:=P) (w:=w) (K:=K) (tg:=tg) a it).mem
 obj:=(a4L (P:=P) (w:=w) (K:=K) (tg:=tg) a it).obj
 keep:=(a4L (P:=P) (w:=w) (K:=K) (tg:=tg) a it).keep
 item:=by
  rintro X rfl rfl rfl hc i pins s σ H E I hf st ⟨xs,x,hq,hx⟩
  obtain ⟨its,rv,q,hz⟩:=I.list hq
  obtain ⟨u,hu,ru⟩:=rv.get hx
  obtain ⟨f0,f1,f2,f3,f4,f5⟩:=hf it List.mem_cons_self
  refine wpAny_pyNext_list_item st q.isList (x:=u) (by simpa using hu) λ g st' sb=>?_
  have J:Inv X pins σ H { s with heap:=g }:=I.turned (t':=s.toks) (λ b o hb e=>(sb.2 b hb).trans e) f0 f1 f3 f4 f5
  obtain ⟨o,e,c,d⟩:=id st'
  exact ⟨u,rfl,b7J (s:={ s with heap:=g }) e c d (by decide) ⟨x,H,J,ru,⟨rfl,λ ys hy=>by rw [I.list_inj hy hq]; exact hx⟩,st',λ b hb=>(hf b hb).1⟩⟩
 done:=by
  rintro X rfl rfl rfl hc i pins s σ H E I hf st ⟨⟨xs,hq,hx⟩,C,hp⟩
  obtain ⟨its,rv,q,hz⟩:=I.list hq
  obtain ⟨f0,f1,f2,f3,f4,f5⟩:=hf it List.mem_cons_self
  have hl:=rv.length
  obtain ⟨⟨_,cx⟩,_⟩:=(show ObjOk X.prog X.w H s.heap p (ExcO p C) from I.hok p _ hp)
  exact b9C hc cx (λ z=>by rw [z,f0] at hp; cases hp) st q.isList (by simp; omega) λ g eb=>⟨rfl,I.turned (t':=s.toks) (λ b o hb e=>eb b o hb e) f0 f1 f3 f4 f5⟩
 self:=(a4L (P:=P) (w:=w) (K:=K) (tg:=tg) a it).self
def PIH (X:Cx) (p:Addr) (tg iter:Expr) (wi:TI):Prop :=
 ∀ (pins:List (Addr × Obj)) (s:Shared) (σ:St) (H:Hp) (R:It->Hp->Prop),Inv X pins σ H s->wi σ H R ->
  wpAny (model X.prog X.w) X.A (eval iter X.env) (λ v s1=>wpAny (model X.prog X.w) X.A (pyIter v) (λ itv s2=>∃ (it:Addr) (fp:List Addr) (tn:Nat->Heap->Prop) (J:It) (H':Hp),itv = .ref it/\Inv X pins σ H' s2/\TurnC (b9D p) X.prog X.w X.K tg J fp it tn/\tn 0 s2.heap/\(∀ b∈fp,FpOk X pins H' b)/\R J H') X.xe s1) X.xe s
def c9Z (K:Φρ) (p:Addr) (tl:TE):TI:=λ σ H R=>tl σ H λ v H1=>∃ a,v = .ref a/\(∃ xs,SqL K H1 a xs)/\R (ItlH K a p) H1
section
variable {X:Cx} {elt tg iter:Expr} {ifs:List Expr} {scope:Scope} {pos:Pos} {N':List Str} {ix:List (Option Nat)} {wi:TI} {g:TG} {tt:TT} {te:TE} {p:Addr}
theorem c2R {K:Φρ} {tl:TE} (e:X.K=K) (hl:PE X iter tl):PIH X p tg iter (c9Z K p tl):=by
 subst e
 intro pins s σ H R I h
 refine thn (hl pins s σ H _ I h) λ v s1 ⟨x,H1,I1,r1,a,e,⟨xs,hq⟩,q⟩=>?_
 subst e
 cases r1
 obtain ⟨its,rv,l,hz⟩:=I1.list hq
 refine wpAny_pyIter_list l.isList ⟨s1.heap.objs.size,[s1.heap.objs.size],_,_,H1,rfl,I1.kept (t':=s1.toks) λ b o e=>Heap.get?_push_of_some _ e,b6U a _ p,⟨_,Heap.get?_push_size _ rfl,rfl,rfl⟩,λ b hb=>?_,q⟩
 rw [List.mem_singleton.mp hb]
 exact I1.fpOk (Nat.le_refl _) (I1.hok.fresh (Nat.le_refl _))
theorem c6P {cond:Cx->Prop} (B:BlkOk X N' ix scope) (hc:∀ Y:Cx,Y.A=X.A->cond Y)
  (hg:∀ C s H fp xe,PG (a2S X N' scope C s H fp xe) tg g) (ht:∀ C s H fp xe,PTs (a2S X N' scope C s H fp xe) ifs tt) (he:∀ C s H fp xe,PE (a2S X N' scope C s H fp xe) elt te)
  {pins:List (Addr × Obj)} {s2:Shared} {σ:St} {H2:Hp} {Q:VK} {it:Addr} {fp:List Addr} {tn:Nat->Heap->Prop} {J:It} {RR:Value->Addr->Result->Shared->Prop} {E:Value->Shared->Prop}
  (I2:Inv X pins σ H2 s2) (T:TurnC cond X.prog X.w X.K tg J fp it tn) (st2:tn 0 s2.heap) (f2:∀ b∈fp,FpOk X pins H2 b)
  (q:∃ W:Nat->Nat->List V->Hp->Prop,(∃ m,W 0 m [] H2)/\∀ i m ys H,W i m ys H ->
   (J.stop i H/\ys.length<=sizeLine/\∀ p,H p=none->Q (.ref p) (upd H p (.lst ys))) \/
   (J.go i H/\ys.length<=sizeLine/\∃ N:List V->Hp->Prop,(∀ ys' H',N ys' H'->∃ m',m' < m/\W (i+1) m' ys' H')/\∀ x H',J.yld i H x H'->g x (capt ix σ) H' λ σ2 H2=>tt σ2 H2 λ b H3=>if b=true then te σ2 H3 λ v H4=>N (ys++[v]) H4 else N ys H3))
  (hRR:∀ D C s' H' ys,Inv X pins σ (upd H' D (.lst ys)) s'->H' D=none->Q (.ref D) (upd H' D (.lst ys))->(∃ m,s'.heap.Ns C m)->upd H' D (.lst ys) C=none->C≠X.env.locals->X.s₀.heap.objs.size<=C->(∀ x c,X.env.cells.lookup x=some c->c≠C)->(∀ p∈X.pn++pins,p.1≠C)->RR (.ref D) C (.ok .next) s') :
  wpAny (model X.prog X.w) X.A (newList []) (λ acc s₃=>wpAny (model X.prog X.w) X.A (newFunctionEnv scope X.env.globals (clOf X.env.cells scope.names []) [] X.env.qual none .none (some X.env)) (λ cenv s₄ =>
   codeAny (model X.prog X.w) X.A (.compStart (.ListComp elt [⟨tg,iter,ifs,0⟩] scope pos) 0 (.ref it) acc { cenv with scope:=relabel scope X.env }) (RR acc cenv.locals) s₄) E s₃) E s2:=by
 have hfs:∀ b∈fp,b < s2.heap.objs.size:=λ b hb=>by
  obtain ⟨o,e,_⟩:=T.obj _ _ st2 b hb
  exact Heap.lt_size e
 refine wpAny_newObj_type (wpAny_newFunctionEnv B.nocell (by intro y hy; simp at hy) (λ h₁ hns₁ hsb₁=>?_) B.kind)
 dsimp only at hns₁ hsb₁ ⊢
 generalize hH3:s2.heap.push { cls:=.type "list", dict:=none,data:=.seq ([]:List Value).toArray }=H3 at hns₁ hsb₁ ⊢
 have hC:H3.objs.size=s2.heap.objs.size+1:=by rw [<- hH3,Heap.size_push]
 have hDC:s2.heap.objs.size≠H3.objs.size:=by rw [hC]; exact Nat.ne_of_lt (Nat.lt_succ_self _)
 have below:∀ b,b < s2.heap.objs.size->b≠H3.objs.size/\b≠s2.heap.objs.size:=λ b hb=>⟨by rw [hC]; exact Nat.ne_of_lt (Nat.lt_succ_of_lt hb),Nat.ne_of_lt hb⟩
 have old:∀ b o,s2.heap.get? b=some o->h₁.get? b=some o:=λ b o e=>hsb₁.extBut b o (below b (Heap.lt_size e)).1 (Heap.get?_push_of_some _ (hH3 ▸ Heap.get?_push_of_some _ e))
 have hacc:h₁.get? s2.heap.objs.size=some { cls:=.type "list", data:=.seq ([]:List Value).toArray 0 }:=hsb₁.extBut _ _ hDC (Heap.get?_push_of_some _ (hH3 ▸ Heap.get?_push_size _ rfl))
 have hCle:s2.heap.objs.size<=H3.objs.size:=by rw [hC]; exact Nat.le_succ _
 generalize hD:s2.heap.objs.size=D at *
 generalize hCC:H3.objs.size=C at *
 obtain ⟨W,⟨m0,w0⟩,turn⟩:=q
 let xe:Value->Shared->Prop:=notedBy (model X.prog X.w) X.A (compEnvC scope (clOf X.env.cells scope.names []) C X.env) λ e s'=>RR (.ref D) C (.error e) s'
 let X':Cx:=a2S X N' scope C s2 H2 fp xe
 have DL:D ∉ frs X.stack:=λ z=>by
  rcases List.mem_cons.mp (I2.stkSub D z) with e | e
  ·exact absurd I2.lt (by rw [<- e,hD]; exact Nat.lt_irrefl _)
  ·exact I2.nofs (by rw [hD]; exact Nat.le_refl _) e
 have cellLt:∀ x c,X.env.cells.lookup x=some c->c < D:=λ x c e=>by
  obtain ⟨v,oc,h,_⟩:=I2.cell x c e
  rw [<- hD]; exact Heap.lt_size h
 have clB:∀ x c,(clOf X.env.cells scope.names []).lookup x=some c->X.env.cells.lookup x=some c:=λ x c h=>a5R scope.names [] (λ _ _ z=>by simp at z) h
 have pinLt:∀ p∈X.pn++pins,p.1 < D:=λ p hp=>by rw [<- hD]; exact Heap.lt_size (I2.pin p hp).1
 have fpX:∀ {pl:List (Addr × Obj)} {H':Hp},(∀ b∈fp,H' b=none)->(∀ p∈pl,p∈pins\/p.1=D)->∀ b∈fp,FpOk X' pl H' b:=λ {pl H'} hn hpl b hb=>by
  obtain ⟨_,q1,q2,q3,q4,q5⟩:=f2 b hb
  refine ⟨hn b hb,(below b (hfs b hb)).1,λ z=>?_,.inl hb,λ x c e=>q4 x c (clB x c e),λ p hp=>?_⟩
  ·rcases List.mem_cons.mp (I2.stkSub b z) with e | e
   ·exact q1 e
   ·exact q2 e
  ·rcases List.mem_append.mp hp with hp | hp
   ·exact q5 p (List.mem_append_left _ hp)
   ·rcases hpl p hp with z | z
    ·exact q5 p (List.mem_append_right _ z)
    ·rw [z]; exact Ne.symm (below b (hfs b hb)).2
 have loop:∀ s₃:Shared,s₃={ s2 with heap:=h₁,toks:=s2.toks+([]:List (Str × Value)).length } ->
   codeAny (model X.prog X.w) X.A (.compLoop (.ListComp elt [⟨tg,iter,ifs,0⟩] scope pos) 0 (.ref it) (.ref D) (compEnvC scope (clOf X.env.cells scope.names []) C X.env)) (RR (.ref D) C) s₃:=by
  rintro s₃ rfl
  refine a7X (λ n s'=>∃ i H' ys its k,Inv X' pins (capt ix σ) H' s'/\tn i s'.heap/\(∀ b∈fp,H' b=none)/\H' D=none/\s'.heap.get? D=some { cls:=.type "list", data:=.seq (List.toArray its) k }/\Vals ys its/\W i n ys H') ?_ m0
   ⟨0,H2,[],[],0,b1O B I2 f2 (by rw [hD]; exact hCle) (λ b hb=>by rw [hD]; exact hfs b hb) rfl rfl old hns₁,T.keep _ _ _ st2 λ b _ o e=>old b o e,λ b hb=>(f2 b hb).1,I2.hok.fresh (by rw [hD]; exact Nat.le_refl _),hacc,.nil,w0⟩
  rintro n s' ⟨i,H',ys,its,k,I',st',fr',hDn,hDo,rv,w'⟩
  have hDX:∀ v,({ cls:=.type "list", data:=.seq (List.toArray its) k }:Obj).data ≠ .cell v:=λ v z=>by
   have z':Data.seq (List.toArray its) k=Data.cell v:=z
   cases z'
  have pinD:∀ {σ':St} {H'':Hp} {s'':Shared} {its':List Value} {k':Nat},Inv X' pins σ' H'' s''->H'' D=none->s''.heap.get? D=some { cls:=.type "list", data:=.seq (List.toArray its') k' }->Inv X' (pins++[(D,{ cls:=.type "list", data:=.seq (List.toArray its') k' })]) σ' H'' s'':=λ {σ' H'' s'' its' k'} J hn ho =>
   J.pins_of λ p hp=>(List.mem_append.mp hp).elim (λ z=>J.pin p (List.mem_append_right _ z)) λ z=>by
    have e:p=(D,{ cls:=.type "list", data:=.seq (List.toArray its') k' }):=by simpa using z
    subst e
    exact ⟨ho,hn,hDC,DL,λ v z=>by
     have z':Data.seq (List.toArray its') k'=Data.cell v:=z
     cases z'⟩
  have plD:∀ {its':List Value} {k':Nat},∀ p∈pins++[(D,({ cls:=.type "list", data:=.seq (List.toArray its') k' }:Obj))],p∈pins\/p.1=D:=λ {its' k'} p hp=>(List.mem_append.mp hp).elim .inl λ z=>by
   have e:p=(D,{ cls:=.type "list", data:=.seq (List.toArray its') k' }):=by simpa using z
   subst e
   exact .inr rfl
  have unD:∀ {pl:List (Addr × Obj)} {σ':St} {H'':Hp} {s'':Shared},Inv X' (pins++pl) σ' H'' s''->Inv X' pins σ' H'' s'':=λ J=>J.pins_of λ p hp=>J.pin p (List.mem_append_right _ (List.mem_append_left _ hp))
  have I'p:=pinD I' hDn hDo
  rcases turn i n ys H' w' with ⟨stop,hsz,fin⟩ | ⟨go,hsz,N,hN,step⟩
  ·refine wpAny_mono (T.done X' rfl rfl rfl (hc X' rfl) i _ s' (capt ix σ) H' X'.xe I'p (fpX fr' plD) st' stop) (λ r s5 ⟨hr,I5⟩=>?_) λ _ _ z=>z
   subst hr
   have hDo5:s5.heap.get? D=some { cls:=.type "list", data:=.seq (List.toArray its) k }:=(I5.pin (D,_) (List.mem_append_right _ (List.mem_append_right _ (List.mem_singleton.mpr rfl)))).1
   have sz0:X.s₀.heap.objs.size<=D:=by rw [<- hD]; exact I2.sz
   have J:Inv X pins σ H' s5:=I2.call' (ch:=fp) I5.os I5.base I5.hok I5.bare λ b hb=>by
    obtain ⟨_,q1,_,q3,q4,q5⟩:=f2 b hb
    exact ⟨q3,q1,q4,q5⟩
   have nL:X.env.locals < D:=by rw [<- hD]; exact I2.lt
   have J2:Inv X pins σ (upd H' D (.lst ys)) s5:=Inv.track J hDn sz0 (Nat.ne_of_gt nL) (λ x c e=>Nat.ne_of_lt (cellLt x c e)) (λ p hp=>Nat.ne_of_lt (pinLt p hp)) ⟨hsz,its,k,rv,hDo5⟩
   obtain ⟨mC,hnC,_⟩:=I5.loc
   have DltC:D < C:=Nat.lt_of_le_of_ne hCle hDC
   refine hRR D C s5 H' ys J2 hDn (fin D hDn) ⟨mC,hnC⟩ ?_ (Nat.ne_of_gt (Nat.lt_trans nL DltC)) (Nat.le_trans sz0 hCle) (λ x c e=>Nat.ne_of_lt (Nat.lt_trans (cellLt x c e) DltC)) λ p hp=>Nat.ne_of_lt (Nat.lt_trans (pinLt p hp) DltC)
   rw [a1K (Ne.symm hDC)]
   exact I5.free
  ·refine wpAny_mono (T.item X' rfl rfl rfl (hc X' rfl) i _ s' (capt ix σ) H' X'.xe I'p (fpX fr' plD) st' go) (λ r s5 ⟨u,hr,h5⟩=>?_) λ _ _ z=>z
   subst hr
   refine wpAny_mono h5 (λ _ s6 ⟨x,H6,I6,r6,y6,st6,fr6⟩=>?_) λ _ _ z=>z
   have I6':=I6.pinned (fpX fr6 plD) (T.obj _ _ st6)
   refine wpAny_mono (hg C s2 H2 fp xe _ s6 (capt ix σ) H6 x u _ I6' r6 (step x H6 y6)) (λ _ s7 ⟨σ7,H7,I7,q7⟩=>?_) λ _ _ z=>z
   have after:∀ {σ8:St} {H8:Hp} {s8:Shared},Inv X' ((pins++[(D,{ cls:=.type "list", data:=.seq (List.toArray its) k })])++a5C fp s6.heap) σ8 H8 s8 ->
     Inv X' pins (capt ix σ) H8 s8/\tn (i+1) s8.heap/\(∀ b∈fp,H8 b=none)/\H8 D=none/\s8.heap.get? D=some { cls:=.type "list", data:=.seq (List.toArray its) k }:=λ {σ8 H8 s8} I8=>by
    have pD:=I8.pin (D,{ cls:=.type "list", data:=.seq (List.toArray its) k }) (List.mem_append_right _ (List.mem_append_left _ (List.mem_append_right _ (List.mem_singleton.mpr rfl))))
    have fpP:∀ b∈fp,∀ o,s6.heap.get? b=some o->s8.heap.get? b=some o/\H8 b=none:=λ b hb o e=>by
     have z:=I8.pin (b,o) (List.mem_append_right _ (List.mem_append_right _ (a3H hb e)))
     exact ⟨z.1,z.2.1⟩
    refine ⟨⟨I8.ok,I8.os,I8.bare,I8.base,?_,I8.cell,I8.free,I8.freeC,λ p hp=>?_,I8.hok,?_⟩,T.keep _ _ _ st6 λ b hb o e=>(fpP b hb o e).1,λ b hb=>?_,pD.2.1,pD.1⟩
    ·obtain ⟨m8,hn8,_⟩:=I8.loc
     refine ⟨m8,hn8,λ i x v h1 h2 h3=>?_⟩
     obtain ⟨u,c,r,hc1,hc2,⟨oc,z1,z2⟩,hk'⟩:=a7W B I2 h1 h2
     obtain ⟨sl,e8⟩:=I8.base.any z1 (I2.freeC x c hc2) λ z=>(f2 c z).2.2.2.2.1 x c hc2 rfl
     exact ⟨u,r,.inr ⟨hk',c,hc1,_,e8,z2⟩⟩
    ·rcases List.mem_append.mp hp with hp | hp
     ·exact I8.pin p (List.mem_append_left _ hp)
     ·exact I8.pin p (List.mem_append_right _ (List.mem_append_left _ (List.mem_append_left _ hp)))
    ·show (capt ix σ).length=N'.length
     unfold capt
     rw [List.length_map]; exact B.len
    ·obtain ⟨o,e,_⟩:=T.obj _ _ st6 b hb
     exact (fpP b hb o e).2
   refine wpAny_mono (ht C s2 H2 fp xe _ s7 σ7 H7 _ I7 q7) (λ b s8 ⟨H8,I8,q8⟩=>?_) λ _ _ z=>z
   cases b with
   | false =>
    rw [if_neg Bool.false_ne_true] at q8 ⊢
    obtain ⟨m',hm,w8⟩:=hN _ _ q8
    obtain ⟨J,tn8,f8,d8,o8⟩:=after I8
    exact ⟨m',hm,i+1,H8,ys,its,k,J,tn8,f8,d8,o8,rv,w8⟩
   | true =>
    rw [if_pos rfl] at q8 ⊢
    refine wpAny_mono (he C s2 H2 fp xe _ s8 σ7 H8 _ I8 q8) (λ v s9 ⟨y,H9,I9,r9,q9⟩=>?_) λ _ _ z=>z
    obtain ⟨J,tn9,f9,d9,o9⟩:=after I9
    obtain ⟨m',hm,w9⟩:=hN _ _ q9
    refine append_at (hsz:=by rw [List.size_toArray,<- rv.length]; exact hsz) o9 λ h10 hs10 hD10=>?_
    refine ⟨m',hm,i+1,H9,ys++[y],its++[v],k+1,?_,T.keep _ _ _ tn9 λ b hb o e=>hs10.extBut b o (λ z=>?_) e,f9,d9,by rw [List.push_toArray] at hD10; exact hD10,rv.append (.cons r9 .nil),w9⟩
    ·refine J.turned (t':=s9.toks) (it:=D) (λ b o hb e=>hs10.extBut b o hb e) d9 hDC (.inr (by show s2.heap.objs.size<=D; rw [hD]; exact Nat.le_refl _)) (λ x c e=>Nat.ne_of_lt (cellLt x c (clB x c e))) λ p hp=>Nat.ne_of_lt (pinLt p hp)
    ·exact (below b (hfs b hb)).2 z
 exact codeAny_compStart_list (loop _ rfl) (T.self X.A 0 _ _ _ (T.keep _ _ _ st2 λ b _ o e=>old b o e) (loop _ rfl))
theorem d0A (N':List Str) (ix:List (Option Nat)) (hB:a5S X.env.scope X.N N' ix scope=true) (hh:X.A.handled=some (.ref p)) (hi:PIH X p tg iter wi)
  (hg:∀ C s H fp xe,PG (a2S X N' scope C s H fp xe) tg g) (ht:∀ C s H fp xe,PTs (a2S X N' scope C s H fp xe) ifs tt) (he:∀ C s H fp xe,PE (a2S X N' scope C s H fp xe) elt te)
  (hs:∀ x,foldedSetIterable iter X.env x=pure x:=by intro _; rfl):PE X (.ListComp elt [⟨tg,iter,ifs,0⟩] scope pos) (tLC ix wi g tt te):=by
 intro pins s σ H Q I h
 have B:=b7X hB
 rw [eval_ListComp]
 refine wpAny_comprehension_free (use:=none) rfl hs (a6K λ y hy hf=>I.ok.has y.1 (B.free y hy hf)) B.kind B.locs (thn (hi pins s σ H _ I h) λ v s1 h1=>thn h1 λ itv s2 h2=>?_)
 obtain ⟨it,fp,tn,J,H2,e,I2,T,st2,f2,q⟩:=h2
 subst e
 refine c6P B (λ Y e=>by show Y.A.handled=_; rw [e]; exact hh) hg ht he I2 T st2 f2 q ?_
 intro D C s' H' ys J2 hDn hq ⟨m,hn⟩ hC1 hC2 hC3 hC4 hC5
 refine ⟨m,hn,λ h' hs'=>?_⟩
 exact ⟨.ref D,_,J2.turned (t':=s'.toks) (it:=C) (λ b o hb e=>hs'.extBut b o hb e) hC1 hC2 (.inr hC3) hC4 hC5,rfl,hq⟩
end
structure FnOkG (P:Program) (w:World) (K:Φρ) (mg:Str->Option Value) (base:Heap) (k:Nat) (f:Addr) (fd:FuncData) (ps:List Str) (sp:Sp):Prop where
 len:∀ vs H Q E,sp vs H Q E->vs.length=ps.length
 run:∀ (A:Around) (outer:List Env) (s:Shared) (H:Hp) (args:Args) (us:List Value) (vs:List V) (Q:VK) (E:XK) (p:Addr),RoomH k A->A.handled=some (.ref p)->(∃ C,H p=some (ExcO p C))->Env0 P w K mg base A outer s H->BindsTo s fd args (ps.zip us)->Vals vs us->sp vs H Q E ->
  codeAny (model P w) A (.call (.ref f) args) (CR CX0 outer P w H s Q E) s
theorem FnOkG.mono {P:Program} {w:World} {K:Φρ} {mg:Str->Option Value} {base:Heap} {j k:Nat} {f:Addr} {fd:FuncData} {ps:List Str} {sp:Sp} (F:FnOkG P w K mg base j f fd ps sp) (h:j<=k):FnOkG P w K mg base k f fd ps sp :=
 ⟨F.len,λ A outer s H args us vs Q E p hr=>F.run A outer s H args us vs Q E p (hr.mono h)⟩
theorem Fun.okG {P:Program} {w:World} {K:Φρ} {mg:Str->Option Value} {base:Heap} {x qual:Str} {st:Stmt} {f:Addr} {fd:FuncData} {N ps:List Str} {k:Nat} {sp:Sp} (F:Fun K x qual st f fd) (S:FnScope N ps (a0F st)) (len:∀ vs H Q E,sp vs H Q E->vs.length=ps.length)
  (hbody:∀ (cdv:Value) (A:Around) (outer:List Env) (s:Shared) (H:Hp) (vs:List V) (Q:VK) (E:XK) (p:Addr),(A.deeper (envOfC qual (a0F st) s.heap.objs.size f cdv)).handled=some (.ref p)->(∃ C,H p=some (ExcO p C))->RoomH k (A.deeper (envOfC qual (a0F st) s.heap.objs.size f cdv))->sp vs H Q E ->
   ∃ t,PSs ((cxOf CX0 P w K mg base N qual (a0F st) f cdv A outer s H E).nox.stir) (a1U st) t/\t { nx:=λ _ H'=>Q .non H',rt:=Q } (a6J N vs) H):FnOkG P w K mg base (k+1) f fd ps sp:=by
 obtain ⟨oc,od,kV,doc,pm,an,cdv,ct,osl,rfl,lk,hcd⟩:=F.ex
 refine ⟨len,λ A outer s H args us vs Q E p hr hh hp e0 hb r hsp=>?_⟩
 have hl:=len _ _ _ _ hsp
 have KX:K.In s.heap:=e0.mod.kin.keeps λ b o e=>(e0.bs b o e).1
 have lim:s.heap.NoLimit:=e0.mod.nolimit.keeps λ b o e=>(e0.bs b o e).1
 have hkind:∀ y∈ps.zip us,(a0F st).names.lookup y.1=some .local\/((a0F st).names.lookup y.1=some .cell/\((cellsFrom (s.heap.objs.size+1) (a0F st).names []).lookup y.1).isSome=true):=λ ⟨n,v⟩ hy=>by
  rcases S.par n (List.of_mem_zip hy).1 with q | q
  ·exact .inl q
  ·exact .inr ⟨q,PySem.W.cellsFrom_some _ _ _ (.inl q)⟩
 have hdep:A.depth < recursionLimit:=by have:=hr.dp; omega
 refine codeAny_call_function hdep (KX _ _ lk) rfl S.co S.gen rfl (PySem.W.codeRec_of KX hcd) (hb _ _ _ _ ?_)
 refine wpAny_newFunctionEnv_cells S.kind hkind λ env he s1 x=>?_
 subst he
 refine ⟨lim.keeps x.toInCall.keep,codeAny_func ?_⟩
 obtain ⟨t,ht,hq⟩:=hbody cdv A outer s H vs Q E p hh hp (hr.deeper _) hsp
 have e1:Env0 P w K mg base { A with handled:=none } outer s H:=⟨e0.frames,e0.mod,e0.bs,e0.bsz,e0.funs,e0.frf,e0.hok,e0.bare⟩
 have I0:Inv (cxOf CX0 P w K mg base N qual (a0F st) f cdv { A with handled:=none } outer s H E) [] (a6J N vs) H s1:=b1H S rfl e1 hl r x
 have I:Inv ((cxOf CX0 P w K mg base N qual (a0F st) f cdv A outer s H E).nox.stir) [] (a6J N vs) H s1 :=
  ⟨⟨I0.ok.mod,I0.ok.kind,I0.ok.glob,I0.ok.blt,I0.ok.above,I0.ok.inj,I0.ok.has,I0.ok.cab,(λ z=>by cases z),Around.frames_deeper e0.frames,I0.ok.stk,I0.ok.exf,I0.ok.bs,I0.ok.bsz,I0.ok.noex,I0.ok.exfs,I0.ok.funs,I0.ok.frf⟩,I0.os,I0.bare,I0.base,I0.loc,I0.cell,I0.free,I0.freeC,I0.pin,I0.hok,I0.len⟩
 refine wpAny_mono (ht [] s1 (a6J N vs) H _ I hq) (λ fl s' hs=>?_) λ e s' hs=>hs.elim
 cases fl with
 | ret u =>
  obtain ⟨v,σ',H',J,rv,q⟩:=hs
  exact ⟨v,H',J.os,J.bare,J.base,J.hok,rv,q⟩
 | next =>
  obtain ⟨σ',H',J,q⟩:=hs
  exact ⟨V.non,H',J.os,J.bare,J.base,J.hok,rfl,q⟩
 | brk =>
  obtain ⟨_,_,_,q⟩:=hs
  exact False.elim q
 | cont =>
  obtain ⟨_,_,_,q⟩:=hs
  exact False.elim q
section
variable {X:Cx} {k:Nat} {f:Addr} {fd:FuncData} {ps:List Str} {sp:Sp} {dvs:List V} {ds:List Value} {x:Str} {p:Addr} {np pos:Pos} {e:Expr} {es:List Expr} {t:TA}
def d0B (p:Addr) (sp:Sp) (dvs:List V) (t:TA):TE:=λ σ H Q=>t σ H λ vs H1=>(∃ C,H1 p=some (ExcO p C))/\sp (vs++dvs) H1 Q E0
theorem b5H (F:FnOkG X.prog X.w X.K X.mg X.base k f fd ps sp) (hr:RoomH k X.A) (hh:X.A.handled=some (.ref p)) (hg:Gl X x) (hm:X.mg x=some (.ref f)) (hk:PySem.W.keepIn X.K (.ref f)=true) (hb:Binds X.K fd ps ds) (hd:Vals dvs ds)
  (ha:PA X (e::es) t) (hdb:(x == ("__debug__" : Str))=false:=by decide) (he:starEach (e::es) X.env=(false,eval e X.env)::starEach es X.env:=by rfl) (hpl:(backTo pos (starEach es X.env)).any (·.1)=false:=by rfl) :
  PE X (.Call (.Name x np) (e::es) [] pos) (d0B p sp dvs t):=by
 intro pins s σ H Q I h
 refine wpAny_Call_Name_kw (a5H I hg hm ?_ hdb)
 refine PySem.W.callWith_K (h₀:=X.base) I.ok.mod.kin hk (thn (ha pos pins s σ H _ I h) λ us s1 ⟨vs,H1,I1,r,hp,q⟩=>⟨I1.kIn,?_⟩) he hpl
 have r2:Vals (vs++dvs) (us++ds):=r.append hd
 have hl:(us++ds).length=ps.length:=by rw [<- r2.length]; exact F.len _ _ _ _ q
 refine wpAny_call (codeAny_mono (F.run X.A X.stack s1 H1 ⟨[]++us,[]⟩ (us++ds) (vs++dvs) Q E0 p hr hh hp I1.env0 (hb s1 us I1.kIn hl) r2 q) λ r s' hq=>?_)
 cases r with
 | error ev=>exact hq.elim
 | ok fl =>
  cases fl with
  | ret v=>exact I1.after hq
  | next=>exact False.elim hq
  | brk=>exact False.elim hq
  | cont=>exact False.elim hq
end
end L2
set_option maxHeartbeats 4100000
namespace Srt
open PySem PyProof.Rows PySem.Calls PySem.W
section
variable {prog:Program} {wo:World} {A:Around} {E:Value->Shared->Prop} {s:Shared}
end
end Srt
namespace L2
open PySem PySem.Spec PyProof.Rows Bg Srt
def LstV (K:Φρ) (H:Hp) (v:V) (ns:List Int):Prop:=∃ p,v = .ref p/\SqL K H p (ns.map V.int)
section
variable {X:Cx} {K:Φρ}
theorem c2S (its:List Value):slicePick its.toArray none none (some (-1))=its.reverse.toArray:=by
 have h:sliceBounds none none (some (-1)) its.length=((its.length:Int) - 1,-1,-1):=rfl
 unfold slicePick
 rw [List.size_toArray,h]
 congr 1
 dsimp only
 unfold sliceRange
 have e:(if (-1:Int) > 0 then (if (its.length:Int) - 1 < -1 then (-1 - ((its.length:Int) - 1) + -1 - 1) / -1 else 0) else (if (its.length:Int) - 1 > -1 then ((its.length:Int) - 1 - -1 - -1 - 1) / (- -1) else 0)).toNat=its.length:=by
  rw [if_neg (by decide)]
  have:(- -1:Int)=1:=by decide
  rw [this,Int.ediv_one]
  split <;> omega
 dsimp only
 rw [e,List.filterMap_map]
 have f:((λ x=>its.toArray[x]?) ∘ λ (k:Nat)=>((its.length:Int) - 1 + -1*(k:Int)).toNat)=λ k=>its[its.length - 1 - k]?:=by
  funext k
  have:((its.length:Int) - 1 + -1*(k:Int)).toNat=its.length - 1 - k:=by omega
  show its.toArray[((its.length:Int) - 1 + -1*(k:Int)).toNat]?=_
  rw [this]
  simp
 rw [f]
 apply List.ext_getElem?
 intro i
 have g:(List.range its.length).filterMap (λ k=>its[its.length - 1 - k]?)=(List.range its.length).map (λ k=>its.getD (its.length - 1 - k) Value.none):=by
  have aux:∀ l:List Nat,(∀ k∈l,k < its.length)->l.filterMap (λ k=>its[its.length - 1 - k]?)=l.map (λ k=>its.getD (its.length - 1 - k) Value.none):=by
   intro l hl
   induction l with
   | nil=>rfl
   | cons k r ih =>
    have hk:=hl k List.mem_cons_self
    have lt:its.length - 1 - k < its.length:=by omega
    rw [List.filterMap_cons,List.map_cons,<- ih λ j hj=>hl j (List.mem_cons_of_mem _ hj),List.getElem?_eq_getElem lt]
    simp [List.getD_eq_getElem?_getD,List.getElem?_eq_getElem lt]
  exact aux _ λ k hk=>List.mem_range.mp hk
 rw [g]
 by_cases c:i < its.length
 ·have:its.length - 1 - i < its.length:=by omega
  simp [c,this]
 ·simp [c]
theorem Vals.rev:∀ {xs:List V} {us:List Value},Vals xs us->Vals xs.reverse us.reverse
 | _,_,.nil=>.nil
 | _,_,.cons r t=>by
  rw [List.reverse_cons,List.reverse_cons]
  exact (Vals.rev t).append (.cons r .nil)
def tRev (K:Φρ) (te:TE):TE:=λ σ H Q=>te σ H λ x H1=>∃ a xs,x = .ref a/\SqL K H1 a xs/\∀ p H',New H1 p (.lst xs.reverse) H'->Q (.ref p) H'
theorem d0C {e:Expr} {te:TE} {k1:Nat} {p1 p2 p3 pos:Pos} (eK:X.K=K) (he:PE X e te):PE X (.Subscript e (.Slice none none (some (.UnaryOp .USub (.Constant (.int 1) k1 p1) p3)) p2) pos) (tRev K te):=by
 subst eK
 intro pins s σ H Q I h
 refine Subscript_ (thn (he pins s σ H _ I h) λ v s1 ⟨x,H1,I1,r1,q1⟩=>?_)
 obtain ⟨a,xs,rfl,hx,q⟩:=q1
 cases r1
 refine wpAny_Slice ?_
 rw [evalPart_none]
 refine wpAny_pure ?_
 refine wpAny_pure ?_
 rw [evalPart_some]
 refine thn (c1J (b4N (X:=X)) a0D pins s1 σ H1 (λ v H'=>v = .int (-1)/\H'=H1) I1 ⟨_,rfl,rfl,rfl⟩) λ vu s2 ⟨y,H2,I2,r2,e1,e2⟩=>?_
 subst e1 e2
 obtain ⟨t,rfl⟩:=r2
 have I4:Inv X pins σ H2 { s2 with heap:=s2.heap.push { cls:=.type "slice", data:=.fields #[.none,.none,.int (-1) t] } }:=I2.kept (t':=s2.toks) λ b ob q=>Heap.get?_push_of_some _ q
 obtain ⟨its,r,ht,hz⟩:=I4.list hx
 have hlen:=r.length
 show wpAny (model X.prog X.w) X.A (subscriptTail e (.Slice none none (some (.UnaryOp .USub (.Constant (.int 1) k1 p1) p3)) p2) (.ref a) (.ref s2.heap.objs.size)) (EP X pins σ Q) X.xe { s2 with heap:=s2.heap.push { cls:=.type "slice", data:=.fields #[.none,.none,.int (-1) t] } }
 refine tail_any (ops:=[.ref a,.ref s2.heap.objs.size]) ht.isList.typeIs slot_list_getitem.lookup ?_ (by with_unfolding_all rfl)
 refine wpAny_getItem_list_slice ht.isList (Heap.IsSliceOf.new ..) .none .none (.int (-1) t) (by decide) ?_ (by rw [List.size_toArray]; omega)
 rw [c2S]
 refine ⟨.ref (s2.heap.push { cls:=.type "slice", data:=.fields #[.none,.none,.int (-1) t] }).objs.size,_,I4.laid (t':=s2.toks) (o:=.lst xs.reverse) (λ b ob q=>Heap.get?_push_of_some _ q) (Nat.le_refl _) ?_,rfl,q _ _ (New.mk0 (I4.hok.fresh (Nat.le_refl _)))⟩
 exact ⟨by rw [List.length_reverse]; exact hz,_,0,r.rev,Heap.get?_push_size _ rfl⟩
end
end L2
namespace L2
open PySem PySem.Spec PyProof.Rows
def b2H:List (Key × V):=[(.inr "leaf", .int 0),(.inr "in", .int 1),(.inr "tie", .int 1),(.inr "out", .int 1),(.inr "join", .int 2)]
structure Used (w:World) (K:Φρ) (mg:Str->Option Value) where
 d:Addr
 m:mg "USED" = some (.ref d)
 es:Array DictEntry
 ep:Nat
 l:K.lookup d=some ⟨.type "dict", none,.dict es ep,#[]⟩
 ks:∃ t0 t1 t2 t3 t4 t5 t6 t7 t8 t9:Tok,es = #[⟨PyData.keyHash w.params "leaf", .str "leaf" t0,.int 0 t1⟩,⟨PyData.keyHash w.params "in", .str "in" t2,.int 1 t3⟩,⟨PyData.keyHash w.params "tie", .str "tie" t4,.int 1 t5⟩,⟨PyData.keyHash w.params "out", .str "out" t6,.int 1 t7⟩,⟨PyData.keyHash w.params "join", .str "join" t8,.int 2 t9⟩]
theorem used_mk {w:World} {K:Φρ} {h:Heap} {mg:Str->Option Value} {d:Addr} {es:Array DictEntry} {ep:Nat} (X:K.In h) (G:h.Ns mainGlobals mg)
  (a:PySem.W.nsIn K mainGlobals "USED" = some (some (.ref d))) (l:K.lookup d=some ⟨.type "dict", none,.dict es ep,#[]⟩)
  (ks:∃ t0 t1 t2 t3 t4 t5 t6 t7 t8 t9:Tok,es = #[⟨PyData.keyHash w.params "leaf", .str "leaf" t0,.int 0 t1⟩,⟨PyData.keyHash w.params "in", .str "in" t2,.int 1 t3⟩,⟨PyData.keyHash w.params "tie", .str "tie" t4,.int 1 t5⟩,⟨PyData.keyHash w.params "out", .str "out" t6,.int 1 t7⟩,⟨PyData.keyHash w.params "join", .str "join" t8,.int 2 t9⟩]):Nonempty (Used w K mg) :=
 ⟨⟨d,PySem.W.mg_of X G a,es,ep,l,ks⟩⟩
theorem Used.dict {P:Program} {w:World} {K:Φρ} {mg:Str->Option Value} {h:Heap} (U:Used w K mg) (X:K.In h):∃ vs,KV b2H vs/\h.DictOf (a5G P w) U.d vs:=by
 obtain ⟨t0,t1,t2,t3,t4,t5,t6,t7,t8,t9,e⟩:=U.ks
 refine ⟨[(.inr "leaf", .int 0 t1),(.inr "in", .int 1 t3),(.inr "tie", .int 1 t5),(.inr "out", .int 1 t7),(.inr "join", .int 2 t9)],?_,_,U.es,U.ep,X _ _ U.l,⟨rfl,rfl,rfl⟩,rfl,?_,?_,?_⟩
 ·exact .cons ⟨rfl,t1,rfl⟩ (.cons ⟨rfl,t3,rfl⟩ (.cons ⟨rfl,t5,rfl⟩ (.cons ⟨rfl,t7,rfl⟩ (.cons ⟨rfl,t9,rfl⟩ .nil))))
 ·rw [e]
  intro x hx
  simp only [Array.mem_def,List.mem_cons,List.not_mem_nil,or_false] at hx
  rcases hx with rfl | rfl | rfl | rfl | rfl
  ·exact ⟨.inr "leaf", a1Q P w _ _,rfl⟩
  ·exact ⟨.inr "in", a1Q P w _ _,rfl⟩
  ·exact ⟨.inr "tie", a1Q P w _ _,rfl⟩
  ·exact ⟨.inr "out", a1Q P w _ _,rfl⟩
  ·exact ⟨.inr "join", a1Q P w _ _,rfl⟩
 ·rw [e]
  exact .cons (a1Q P w _ _) rfl (.cons (a1Q P w _ _) rfl (.cons (a1Q P w _ _) rfl (.cons (a1Q P w _ _) rfl (.cons (a1Q P w _ _) rfl .nil))))
 ·show ([.inr "leaf", .inr "in", .inr "tie", .inr "out", .inr "join"]:List Key).Nodup
  decide +kernel
def d2K (ty:TE):TE:=λ σ H Q=>ty σ H λ y H1=>∃ k v,y=kV k/\valV b2H k=some v/\Q v H1
section
variable {X:Cx} {i:Expr} {pos np:Pos} {ty:TE}
theorem c6Q (U:Used X.w X.K X.mg) (hg:Gl X "USED") (hi:PE X i ty) (hs:NoSl i):PE X (.Subscript (.Name "USED" np) i pos) (d2K ty):=by
 intro pins s σ H Q I h
 refine c6J PySem.F.slot_dict_getitem.lookup hs (a5H I hg U.m (thn (hi pins s σ H _ I h) λ iv s2 ⟨y,H2,I2,ry,k,v,ey,hv,q2⟩=>?_))
 subst ey
 obtain ⟨vs,rel,dd⟩:=U.dict (P:=X.prog) I2.kIn
 obtain ⟨w',hw,rw'⟩:=RelO.some_of (v:=v) (o:=valueAt vs k) (by rw [<- hv]; exact rel.val k)
 exact ⟨dd.typeIs,wpAny_getItem_of (d2F ry) dd.mapOf hw ⟨v,H2,I2.tok _,rw',q2⟩⟩
end
end L2
namespace L2
open PySem PySem.Spec PyProof.Rows
theorem it_T {c:Prop} [Decidable c] {a b:Prop} (hc:c) (h:a):if c then a else b:=by rw [if_pos hc]; exact h
theorem it_F {c:Prop} [Decidable c] {a b:Prop} (hc:¬ c) (h:b):if c then a else b:=by rw [if_neg hc]; exact h
theorem a7I {prog:Program} {w:World} {A:Around} {E:Value->Shared->Prop} {s:Shared} {l:Addr} {items:Array Value} {Q:List Value->Shared->Prop} (hd:A.handled=none) (hl:s.heap.IsList l items)
  (h:∀ h',(∀ b o,b≠s.heap.objs.size->s.heap.get? b=some o->h'.get? b=some o)->Q items.toList { s with heap:=h' }):wpAny (model prog w) A (unpackItems (.ref l) items.size none) Q E s:=by
 have hl0:=hl
 obtain ⟨o,e,c,d⟩:=hl
 unfold unpackItems notIterableAtAll
 refine wpAny_bind (wpAny_bind (wpAny_specialOf (T:="list") ⟨_,e,c⟩ F.slot_list_iter.lookup ?_))
 refine wpAny_ite (it_T rfl (wpAny_pure (wpAny_ite (it_F Bool.false_ne_true ?_))))
 refine wpAny_bind (wpAny_holding (wpAny_pyIter_list hl0 ?_))
 dsimp only
 refine wpAny_bind (wpAny_holding ?_)
 have hn:l≠s.heap.objs.size:=λ z=>by
  have hlt:=Heap.lt_size e
  exact absurd z (Nat.ne_of_lt hlt)
 have e1:∀ (h':Heap),(∀ b o,b≠s.heap.objs.size->s.heap.get? b=some o->h'.get? b=some o)->h'.IsList l items:=λ h' k=>⟨o,k _ _ hn e,c,d⟩
 refine PySem.W.kun_draw hn items.size 0 _ _ ⟨_,Heap.get?_push_size _ rfl,rfl,rfl⟩ (e1 _ λ b o _ z=>Heap.get?_push_of_some _ z) (by omega) λ h' st sb=>?_
 have k1:∀ b o,b≠s.heap.objs.size->s.heap.get? b=some o->h'.get? b=some o:=λ b o hb z=>(sb.2 b hb).trans (Heap.get?_push_of_some _ z)
 have et:List.take items.size (List.drop 0 items.toList)=items.toList:=by rw [List.drop_zero]; exact List.take_of_length_le (by simp)
 rw [et]
 refine wpAny_ite (it_F (by simp) ?_)
 refine wpAny_bind (wpAny_holding (wpAny_pyNext_list_end hd st (e1 _ k1) (by simp) λ h2 eb=>?_))
 refine wpAny_ite (it_F (by simp) (wpAny_pure ?_))
 exact h h2 λ b o hb z=>eb b o hb (k1 b o hb z)
section
variable {X:Cx} {pos:Pos}
def d0D (K:Φρ) (n:Nat) (t:TGs):TG:=λ v σ H Q=>∃ a xs,v = .ref a/\SqL K H a xs/\xs.length=n/\t xs σ H Q
theorem c6R {es:List Expr} {k:Nat} {t:TGs} {n:Nat} (hc:X.calm=true) (h:PGs X es t)
  (hn:(assignEach es X.env).length=n:=by rfl) (hst:(assignEach es X.env).findIdx? (·.1)=none:=by rfl):PG X (.Tuple es k pos) (d0D X.K n t):=by
 intro pins s σ H v u Q I r hw
 obtain ⟨a,xs,e1,hq,hl,hw⟩:=hw
 subst e1
 cases r
 obtain ⟨its,rv,p,hz⟩:=I.list hq
 rw [assign_Tuple]
 refine wpAny_bind (wpAny_standAt ?_)
 unfold unpack
 refine wpAny_bind (wpAny_holding ?_)
 have e2:(assignEach es X.env).length=its.toArray.size:=by simp [hn,<- hl,rv.length]
 rw [hst,e2]
 refine a7I (I.ok.hd hc) p.isList λ h' k=>?_
 have hi:=I.fpOk (Nat.le_refl s.heap.objs.size) (I.hok.fresh (Nat.le_refl _))
 obtain ⟨f0,f1,f2,f3,f4,f5⟩:=hi
 have I1:Inv X pins σ H { s with heap:=h' }:=I.turned (t':=s.toks) k f0 f1 f3 f4 f5
 exact h pins _ σ H xs _ Q I1 (by simpa using rv) hw
theorem c2T {K:Φρ} {es:List Expr} {k:Nat} {t:TGs} {n:Nat} (e:X.K=K) (hc:X.calm=true) (h:PGs X es t)
  (hn:(assignEach es X.env).length=n:=by rfl) (hst:(assignEach es X.env).findIdx? (·.1)=none:=by rfl):PG X (.Tuple es k pos) (d0D K n t):=by subst e; exact c6R hc h hn hst
end
end L2
namespace L2
open PySem PySem.Spec PyProof.Rows
structure PAw (X:Cx) (es:List Expr) (t:TA):Prop where
 h:PA X es t
section
variable {X:Cx}
theorem c6S:PAw X [] tNil:=⟨a0B⟩
theorem a3O {x:Str} {j:Nat} {pos:Pos} {es:List Expr} {t:TA} (hr:PAw X es t):PAw X (.Constant (.str x) j pos::es) (a7G (tC (.str x)) t):=⟨a0A a1D hr.h⟩
end
end L2
set_option maxHeartbeats 4100000
namespace L2
open PySem PySem.Spec PyProof.Rows
def Itd (lo:Int) (n:Nat):It:=⟨λ i _=>i < n,λ i H x H'=>H'=H/\x = .int (lo - i),λ i _=>n<=i⟩
theorem b9E {P:Program} {w:World} {K:Φρ} {tg:Expr} (it:Addr) (lo:Int) (n:Nat):Turn P w K tg (Itd lo n) [it] it (λ i h=>IsRangeIter h it (lo+(i:Nat)*(-1)) ((n:Int) - (i:Nat)) (-1)) where
 mem:=List.mem_cons_self
 obj:=λ i h st b hb=>by
  obtain rfl:b=it:=by simpa using hb
  exact ⟨_,st,λ v z=>by
   have z2:Data.fields _=Data.cell v:=z
   cases z2⟩
 keep:=λ i h h' st k=>k it List.mem_cons_self _ st
 item:=by
  intro X hP hw hK hc i pins s σ H E I hf st hg
  subst hP hw hK; obtain ⟨f0,f1,f2,f3,f4,f5⟩:=hf it List.mem_cons_self
  have W:=Walks.range (prog:=X.prog) (w:=X.w) (I.ok.hd hc) it lo (-1) n
  refine W.item i s _ _ hg st λ v h' tk hv st' kk=>?_; obtain ⟨t,rfl⟩:=hv
  have I1:Inv X pins σ H { s with heap:=h',toks:=tk }:=I.turned (λ b o hb e=>kk b o (by simpa using hb) e) f0 f1 f3 f4 f5
  refine ⟨_,rfl,b7J (s:={ s with heap:=h',toks:=tk }) (n:="range_iterator") st' rfl rfl (by decide) ⟨.int (lo - i),H,I1,⟨t,?_⟩,⟨rfl,rfl⟩,st',λ b hb=>(hf b hb).1⟩⟩
  rw [show lo+(i:Int)*(-1)=lo - i by omega]
 done:=by
  intro X hP hw hK hc i pins s σ H E I hf st hg
  subst hP hw hK; obtain ⟨f0,f1,f2,f3,f4,f5⟩:=hf it List.mem_cons_self
  exact wpAny_pyNext_range_end (I.ok.hd hc) st (by have hg2:n<=i:=hg; omega) λ h' eb=>⟨rfl,I.turned (t':=s.toks) (λ b o hb e=>eb b o hb e) f0 f1 f3 f4 f5⟩
 self:=λ _ _ _ _ _ st h=>wpAny_pyIter_rangeiter st h
section
variable {X:Cx} {tg:Expr}
theorem b9F {pins:List (Addr × Obj)} {σ:St} {H:Hp} {s:Shared} {R:It->Hp->Prop} {E:Value->Shared->Prop} {lo hi:Int} {t u v:Tok} {tk:Nat} (I:Inv X pins σ H s) (h1 : -(2 ^ 62)<=lo) (h2:lo < 2 ^ 62) (h3 : -(2 ^ 62)<=hi) (h4:hi < 2 ^ 62)
  (q:R (Itd lo (lo - hi).toNat) H):wpAny (model X.prog X.w) X.A (pyIter (.ref s.heap.objs.size)) (PIE X pins σ tg R) E { s with heap:=s.heap.push { cls:=.type "range", data:=.fields #[.int lo t,.int hi u,.int (-1) v] },toks:=tk }:=by
 refine wpAny_pyIter_range (IsRange.new ..) (PySem.W.small_down h1 h2 h3 h4) ?_
 have I1:Inv X pins σ H { s with heap:=s.heap.push { cls:=.type "range", data:=.fields #[.int lo t,.int hi u,.int (-1) v] },toks:=tk }:=I.kept λ b o e=>Heap.get?_push_of_some _ e
 refine ⟨(s.heap.push { cls:=.type "range", data:=.fields #[.int lo t,.int hi u,.int (-1) v] }).objs.size,[(s.heap.push { cls:=.type "range", data:=.fields #[.int lo t,.int hi u,.int (-1) v] }).objs.size],_,_,H,rfl,I1.kept (t':=tk) λ b o e=>Heap.get?_push_of_some _ e,b9E _ lo (lo - hi).toNat,?_,λ b hb=>?_,q⟩
 ·have e1:lo+((0:Nat):Int)*(-1)=lo:=by simp
  have e2:(((lo - hi).toNat:Nat):Int) - ((0:Nat):Int)=Builtin.Range.rangeSize lo hi (-1):=by rw [PySem.W.rangeSize_downNat]; omega
  show IsRangeIter _ _ (lo+((0:Nat):Int)*(-1)) ((((lo - hi).toNat:Nat):Int) - ((0:Nat):Int)) (-1)
  rw [e1,e2]; exact Heap.get?_push_size _ rfl
 ·obtain rfl:b=(s.heap.push { cls:=.type "range", data:=.fields #[.int lo t,.int hi u,.int (-1) v] }).objs.size:=by simpa using hb
  exact I1.fpOk (Nat.le_refl _) (I1.hok.fresh (Nat.le_refl _))
def d2L (ta:TA):TI:=λ σ H R=>ta σ H λ vs H1=>∃ i j:Int,vs=[.int i,.int j,.int (-1)]/\(-(2 ^ 30)<=i/\i < 2 ^ 30 /\ -(2 ^ 30)<=j/\j < 2 ^ 30)/\R (Itd i (i - j).toNat) H1
theorem b9G {a b c:Expr} {ta:TA} {p pos:Pos} (hg:Gl X "range") (hm:X.mg "range" = none) (ha:PA X [a,b,c] ta) (hs:starEach [a,b,c] X.env=[(false,eval a X.env),(false,eval b X.env),(false,eval c X.env)]:=by rfl) (hs2:starEach [b,c] X.env=[(false,eval b X.env),(false,eval c X.env)]:=by rfl) :
  PI X tg (.Call (.Name "range" p) [a,b,c] [] pos) (d2L ta):=by
 intro pins s σ H R I h
 refine Call_ (a5N I hg hm boot_range (PyProof.Rows.callWith_type1 (thn (ha pos pins s σ H _ I h) λ us s1 ⟨vs,H1,I1,r1,q1⟩=>?_) (by rw [hs,hs2]) (by rw [hs2]; rfl)))
 obtain ⟨i,j,e,⟨q1,q2,q3,q4⟩,q⟩:=q1; subst e
 cases r1 with
 | cons r rr =>
 cases rr with
 | cons r' rr =>
 cases rr with
 | cons r'' rr =>
  cases rr; obtain ⟨t,rfl⟩:=r; obtain ⟨t',rfl⟩:=r'; obtain ⟨t'',rfl⟩:=r''
  refine call_range_3 (by decide) (b9F I1 (by omega) (by omega) (by omega) (by omega) q) (Or.inl (PyProof.noPylong_small ?_))
  omega
end
section
variable {ix:List (Option Nat)} {g:TG} {tt:TT} {te:TE} {σ:St} {H1:Hp} {Q:VK}
theorem c6T {lo:Int} {n:Nat} (Pv:Nat->List V->Hp->Prop) (h0:Pv 0 [] H1) (hl:∀ i ys H,i<=n->Pv i ys H->ys.length<=sizeLine)
  (hs:∀ i ys H,i < n->Pv i ys H->g (.int (lo - i)) (capt ix σ) H λ σ2 H2=>tt σ2 H2 λ b H3=>if b=true then te σ2 H3 λ v H4=>Pv (i+1) (ys++[v]) H4 else Pv (i+1) ys H3)
  (hd:∀ ys H,Pv n ys H->∀ p,H p=none->Q (.ref p) (upd H p (.lst ys))):a3J ix g tt te σ H1 Q (Itd lo n):=by
 refine ⟨λ i m ys H=>m=n - i/\i<=n/\Pv i ys H,⟨n,by simp,Nat.zero_le _,h0⟩,?_⟩
 rintro i m ys H ⟨rfl,hi,p⟩; have z:=hl i ys H hi p
 by_cases hlt:i < n
 ·refine .inr ⟨hlt,z,Pv (i+1),λ ys' H' p'=>⟨n - (i+1),by omega,rfl,hlt,p'⟩,λ x H' y=>?_⟩
  obtain ⟨e,y⟩:=y; subst e y
  exact hs i ys _ hlt p
 ·obtain rfl:i=n:=by omega
  exact .inl ⟨Nat.le_refl _,z,hd ys H p⟩
end
section
variable {X:Cx}
def b9H:V->List V->Hp->VK->Prop:=λ x vs H Q=>∃ l xs,x = .ref l/\vs=[]/\H l=some (.lst xs)/\∀ H',Chg H l (.lst xs.reverse) H'->Q .non H'
theorem b3V:MtM X "list.reverse" b9H:=mt_reverse.weak λ x vs H Q ⟨l,xs,e1,e2,h,q⟩=>⟨l,xs,e1,e2,h,q _ Chg.mk0⟩
end
end L2
namespace K
open PySem L2 Lw Bg
def top (i:Nat):Stmt:=PySem.Challenge.pw_bagwood_k56_steps_refused.main.body.getD i (.Pass ⟨0,0,0,0⟩)
structure Cl (K:Φρ) (mg:Str->Option Value) where
 BagError:Addr
 m_BagError:mg "BagError" = some (.ref BagError)
 NoGraph:Addr
 m_NoGraph:mg "NoGraph" = some (.ref NoGraph)
 NoPlace:Addr
 m_NoPlace:mg "NoPlace" = some (.ref NoPlace)
 NoTie:Addr
 m_NoTie:mg "NoTie" = some (.ref NoTie)
 NoBag:Addr
 m_NoBag:mg "NoBag" = some (.ref NoBag)
 NoTree:Addr
 m_NoTree:mg "NoTree" = some (.ref NoTree)
 NoOrder:Addr
 m_NoOrder:mg "NoOrder" = some (.ref NoOrder)
 NoPart:Addr
 m_NoPart:mg "NoPart" = some (.ref NoPart)
 NoSteps:Addr
 m_NoSteps:mg "NoSteps" = some (.ref NoSteps)
 TooWide:Addr
 m_TooWide:mg "TooWide" = some (.ref TooWide)
 NoColours:Addr
 m_NoColours:mg "NoColours" = some (.ref NoColours)
 NoWeights:Addr
 m_NoWeights:mg "NoWeights" = some (.ref NoWeights)
 NoNumber:Addr
 m_NoNumber:mg "NoNumber" = some (.ref NoNumber)
 NoName:Addr
 m_NoName:mg "NoName" = some (.ref NoName)
 NoText:Addr
 m_NoText:mg "NoText" = some (.ref NoText)
 NoRow:Addr
 m_NoRow:mg "NoRow" = some (.ref NoRow)
 k_NoTree:Xk K NoTree
 v_NoTree:PySem.W.kitOne K (.ref NoTree) (.type "ValueError")=some true
 q_NoTree_BagError:PySem.W.kitOne K (.ref NoTree) (.ref BagError)=some true
 x_NoTree_BagError:PySem.W.exmOne K (.ref NoTree) (.ref BagError)=some true
 q_NoTree_NoGraph:PySem.W.kitOne K (.ref NoTree) (.ref NoGraph)=some false
 x_NoTree_NoGraph:PySem.W.exmOne K (.ref NoTree) (.ref NoGraph)=some false
 q_NoTree_NoPlace:PySem.W.kitOne K (.ref NoTree) (.ref NoPlace)=some false
 x_NoTree_NoPlace:PySem.W.exmOne K (.ref NoTree) (.ref NoPlace)=some false
 q_NoTree_NoTie:PySem.W.kitOne K (.ref NoTree) (.ref NoTie)=some false
 x_NoTree_NoTie:PySem.W.exmOne K (.ref NoTree) (.ref NoTie)=some false
 q_NoTree_NoBag:PySem.W.kitOne K (.ref NoTree) (.ref NoBag)=some false
 x_NoTree_NoBag:PySem.W.exmOne K (.ref NoTree) (.ref NoBag)=some false
 q_NoTree_NoTree:PySem.W.kitOne K (.ref NoTree) (.ref NoTree)=some true
 x_NoTree_NoTree:PySem.W.exmOne K (.ref NoTree) (.ref NoTree)=some true
 q_NoTree_NoOrder:PySem.W.kitOne K (.ref NoTree) (.ref NoOrder)=some false
 x_NoTree_NoOrder:PySem.W.exmOne K (.ref NoTree) (.ref NoOrder)=some false
 q_NoTree_NoPart:PySem.W.kitOne K (.ref NoTree) (.ref NoPart)=some false
 x_NoTree_NoPart:PySem.W.exmOne K (.ref NoTree) (.ref NoPart)=some false
 q_NoTree_NoSteps:PySem.W.kitOne K (.ref NoTree) (.ref NoSteps)=some false
 x_NoTree_NoSteps:PySem.W.exmOne K (.ref NoTree) (.ref NoSteps)=some false
 q_NoTree_TooWide:PySem.W.kitOne K (.ref NoTree) (.ref TooWide)=some false
 x_NoTree_TooWide:PySem.W.exmOne K (.ref NoTree) (.ref TooWide)=some false
 q_NoTree_NoColours:PySem.W.kitOne K (.ref NoTree) (.ref NoColours)=some false
 x_NoTree_NoColours:PySem.W.exmOne K (.ref NoTree) (.ref NoColours)=some false
 q_NoTree_NoWeights:PySem.W.kitOne K (.ref NoTree) (.ref NoWeights)=some false
 x_NoTree_NoWeights:PySem.W.exmOne K (.ref NoTree) (.ref NoWeights)=some false
 q_NoTree_NoNumber:PySem.W.kitOne K (.ref NoTree) (.ref NoNumber)=some false
 x_NoTree_NoNumber:PySem.W.exmOne K (.ref NoTree) (.ref NoNumber)=some false
 q_NoTree_NoName:PySem.W.kitOne K (.ref NoTree) (.ref NoName)=some false
 x_NoTree_NoName:PySem.W.exmOne K (.ref NoTree) (.ref NoName)=some false
 q_NoTree_NoText:PySem.W.kitOne K (.ref NoTree) (.ref NoText)=some false
 x_NoTree_NoText:PySem.W.exmOne K (.ref NoTree) (.ref NoText)=some false
 q_NoTree_NoRow:PySem.W.kitOne K (.ref NoTree) (.ref NoRow)=some false
 x_NoTree_NoRow:PySem.W.exmOne K (.ref NoTree) (.ref NoRow)=some false
 k_NoSteps:Xk K NoSteps
 v_NoSteps:PySem.W.kitOne K (.ref NoSteps) (.type "ValueError")=some true
 q_NoSteps_BagError:PySem.W.kitOne K (.ref NoSteps) (.ref BagError)=some true
 x_NoSteps_BagError:PySem.W.exmOne K (.ref NoSteps) (.ref BagError)=some true
 q_NoSteps_NoGraph:PySem.W.kitOne K (.ref NoSteps) (.ref NoGraph)=some false
 x_NoSteps_NoGraph:PySem.W.exmOne K (.ref NoSteps) (.ref NoGraph)=some false
 q_NoSteps_NoPlace:PySem.W.kitOne K (.ref NoSteps) (.ref NoPlace)=some false
 x_NoSteps_NoPlace:PySem.W.exmOne K (.ref NoSteps) (.ref NoPlace)=some false
 q_NoSteps_NoTie:PySem.W.kitOne K (.ref NoSteps) (.ref NoTie)=some false
 x_NoSteps_NoTie:PySem.W.exmOne K (.ref NoSteps) (.ref NoTie)=some false
 q_NoSteps_NoBag:PySem.W.kitOne K (.ref NoSteps) (.ref NoBag)=some false
 x_NoSteps_NoBag:PySem.W.exmOne K (.ref NoSteps) (.ref NoBag)=some false
 q_NoSteps_NoTree:PySem.W.kitOne K (.ref NoSteps) (.ref NoTree)=some false
 x_NoSteps_NoTree:PySem.W.exmOne K (.ref NoSteps) (.ref NoTree)=some false
 q_NoSteps_NoOrder:PySem.W.kitOne K (.ref NoSteps) (.ref NoOrder)=some false
 x_NoSteps_NoOrder:PySem.W.exmOne K (.ref NoSteps) (.ref NoOrder)=some false
 q_NoSteps_NoPart:PySem.W.kitOne K (.ref NoSteps) (.ref NoPart)=some false
 x_NoSteps_NoPart:PySem.W.exmOne K (.ref NoSteps) (.ref NoPart)=some false
 q_NoSteps_NoSteps:PySem.W.kitOne K (.ref NoSteps) (.ref NoSteps)=some true
 x_NoSteps_NoSteps:PySem.W.exmOne K (.ref NoSteps) (.ref NoSteps)=some true
 q_NoSteps_TooWide:PySem.W.kitOne K (.ref NoSteps) (.ref TooWide)=some false
 x_NoSteps_TooWide:PySem.W.exmOne K (.ref NoSteps) (.ref TooWide)=some false
 q_NoSteps_NoColours:PySem.W.kitOne K (.ref NoSteps) (.ref NoColours)=some false
 x_NoSteps_NoColours:PySem.W.exmOne K (.ref NoSteps) (.ref NoColours)=some false
 q_NoSteps_NoWeights:PySem.W.kitOne K (.ref NoSteps) (.ref NoWeights)=some false
 x_NoSteps_NoWeights:PySem.W.exmOne K (.ref NoSteps) (.ref NoWeights)=some false
 q_NoSteps_NoNumber:PySem.W.kitOne K (.ref NoSteps) (.ref NoNumber)=some false
 x_NoSteps_NoNumber:PySem.W.exmOne K (.ref NoSteps) (.ref NoNumber)=some false
 q_NoSteps_NoName:PySem.W.kitOne K (.ref NoSteps) (.ref NoName)=some false
 x_NoSteps_NoName:PySem.W.exmOne K (.ref NoSteps) (.ref NoName)=some false
 q_NoSteps_NoText:PySem.W.kitOne K (.ref NoSteps) (.ref NoText)=some false
 x_NoSteps_NoText:PySem.W.exmOne K (.ref NoSteps) (.ref NoText)=some false
 q_NoSteps_NoRow:PySem.W.kitOne K (.ref NoSteps) (.ref NoRow)=some false
 x_NoSteps_NoRow:PySem.W.exmOne K (.ref NoSteps) (.ref NoRow)=some false
 k_TooWide:Xk K TooWide
 v_TooWide:PySem.W.kitOne K (.ref TooWide) (.type "ValueError")=some true
 q_TooWide_BagError:PySem.W.kitOne K (.ref TooWide) (.ref BagError)=some true
 x_TooWide_BagError:PySem.W.exmOne K (.ref TooWide) (.ref BagError)=some true
 q_TooWide_NoGraph:PySem.W.kitOne K (.ref TooWide) (.ref NoGraph)=some false
 x_TooWide_NoGraph:PySem.W.exmOne K (.ref TooWide) (.ref NoGraph)=some false
 q_TooWide_NoPlace:PySem.W.kitOne K (.ref TooWide) (.ref NoPlace)=some false
 x_TooWide_NoPlace:PySem.W.exmOne K (.ref TooWide) (.ref NoPlace)=some false
 q_TooWide_NoTie:PySem.W.kitOne K (.ref TooWide) (.ref NoTie)=some false
 x_TooWide_NoTie:PySem.W.exmOne K (.ref TooWide) (.ref NoTie)=some false
 q_TooWide_NoBag:PySem.W.kitOne K (.ref TooWide) (.ref NoBag)=some false
 x_TooWide_NoBag:PySem.W.exmOne K (.ref TooWide) (.ref NoBag)=some false
 q_TooWide_NoTree:PySem.W.kitOne K (.ref TooWide) (.ref NoTree)=some false
 x_TooWide_NoTree:PySem.W.exmOne K (.ref TooWide) (.ref NoTree)=some false
 q_TooWide_NoOrder:PySem.W.kitOne K (.ref TooWide) (.ref NoOrder)=some false
 x_TooWide_NoOrder:PySem.W.exmOne K (.ref TooWide) (.ref NoOrder)=some false
 q_TooWide_NoPart:PySem.W.kitOne K (.ref TooWide) (.ref NoPart)=some false
 x_TooWide_NoPart:PySem.W.exmOne K (.ref TooWide) (.ref NoPart)=some false
 q_TooWide_NoSteps:PySem.W.kitOne K (.ref TooWide) (.ref NoSteps)=some false
 x_TooWide_NoSteps:PySem.W.exmOne K (.ref TooWide) (.ref NoSteps)=some false
 q_TooWide_TooWide:PySem.W.kitOne K (.ref TooWide) (.ref TooWide)=some true
 x_TooWide_TooWide:PySem.W.exmOne K (.ref TooWide) (.ref TooWide)=some true
 q_TooWide_NoColours:PySem.W.kitOne K (.ref TooWide) (.ref NoColours)=some false
 x_TooWide_NoColours:PySem.W.exmOne K (.ref TooWide) (.ref NoColours)=some false
 q_TooWide_NoWeights:PySem.W.kitOne K (.ref TooWide) (.ref NoWeights)=some false
 x_TooWide_NoWeights:PySem.W.exmOne K (.ref TooWide) (.ref NoWeights)=some false
 q_TooWide_NoNumber:PySem.W.kitOne K (.ref TooWide) (.ref NoNumber)=some false
 x_TooWide_NoNumber:PySem.W.exmOne K (.ref TooWide) (.ref NoNumber)=some false
 q_TooWide_NoName:PySem.W.kitOne K (.ref TooWide) (.ref NoName)=some false
 x_TooWide_NoName:PySem.W.exmOne K (.ref TooWide) (.ref NoName)=some false
 q_TooWide_NoText:PySem.W.kitOne K (.ref TooWide) (.ref NoText)=some false
 x_TooWide_NoText:PySem.W.exmOne K (.ref TooWide) (.ref NoText)=some false
 q_TooWide_NoRow:PySem.W.kitOne K (.ref TooWide) (.ref NoRow)=some false
 x_TooWide_NoRow:PySem.W.exmOne K (.ref TooWide) (.ref NoRow)=some false
theorem d2T {K:Φρ} {h:Heap} {mg:Str->Option Value} {BagError NoGraph NoPlace NoTie NoBag NoTree NoOrder NoPart NoSteps TooWide NoColours NoWeights NoNumber NoName NoText NoRow:Addr} (X:K.In h) (G:h.Ns mainGlobals mg)
  (a_BagError:PySem.W.nsIn K mainGlobals "BagError" = some (some (.ref BagError)))
  (a_NoGraph:PySem.W.nsIn K mainGlobals "NoGraph" = some (some (.ref NoGraph)))
  (a_NoPlace:PySem.W.nsIn K mainGlobals "NoPlace" = some (some (.ref NoPlace)))
  (a_NoTie:PySem.W.nsIn K mainGlobals "NoTie" = some (some (.ref NoTie)))
  (a_NoBag:PySem.W.nsIn K mainGlobals "NoBag" = some (some (.ref NoBag)))
  (a_NoTree:PySem.W.nsIn K mainGlobals "NoTree" = some (some (.ref NoTree)))
  (a_NoOrder:PySem.W.nsIn K mainGlobals "NoOrder" = some (some (.ref NoOrder)))
  (a_NoPart:PySem.W.nsIn K mainGlobals "NoPart" = some (some (.ref NoPart)))
  (a_NoSteps:PySem.W.nsIn K mainGlobals "NoSteps" = some (some (.ref NoSteps)))
  (a_TooWide:PySem.W.nsIn K mainGlobals "TooWide" = some (some (.ref TooWide)))
  (a_NoColours:PySem.W.nsIn K mainGlobals "NoColours" = some (some (.ref NoColours)))
  (a_NoWeights:PySem.W.nsIn K mainGlobals "NoWeights" = some (some (.ref NoWeights)))
  (a_NoNumber:PySem.W.nsIn K mainGlobals "NoNumber" = some (some (.ref NoNumber)))
  (a_NoName:PySem.W.nsIn K mainGlobals "NoName" = some (some (.ref NoName)))
  (a_NoText:PySem.W.nsIn K mainGlobals "NoText" = some (some (.ref NoText)))
  (a_NoRow:PySem.W.nsIn K mainGlobals "NoRow" = some (some (.ref NoRow)))
  (g_NoTree:Xk K NoTree)
  (t_NoTree:[PySem.W.kitOne K (.ref NoTree) (.type "ValueError"),PySem.W.kitOne K (.ref NoTree) (.ref BagError),PySem.W.exmOne K (.ref NoTree) (.ref BagError),PySem.W.kitOne K (.ref NoTree) (.ref NoGraph),PySem.W.exmOne K (.ref NoTree) (.ref NoGraph),PySem.W.kitOne K (.ref NoTree) (.ref NoPlace),PySem.W.exmOne K (.ref NoTree) (.ref NoPlace),PySem.W.kitOne K (.ref NoTree) (.ref NoTie),PySem.W.exmOne K (.ref NoTree) (.ref NoTie),PySem.W.kitOne K (.ref NoTree) (.ref NoBag),PySem.W.exmOne K (.ref NoTree) (.ref NoBag),PySem.W.kitOne K (.ref NoTree) (.ref NoTree),PySem.W.exmOne K (.ref NoTree) (.ref NoTree),PySem.W.kitOne K (.ref NoTree) (.ref NoOrder),PySem.W.exmOne K (.ref NoTree) (.ref NoOrder),PySem.W.kitOne K (.ref NoTree) (.ref NoPart),PySem.W.exmOne K (.ref NoTree) (.ref NoPart),PySem.W.kitOne K (.ref NoTree) (.ref NoSteps),PySem.W.exmOne K (.ref NoTree) (.ref NoSteps),PySem.W.kitOne K (.ref NoTree) (.ref TooWide),PySem.W.exmOne K (.ref NoTree) (.ref TooWide),PySem.W.kitOne K (.ref NoTree) (.ref NoColours),PySem.W.exmOne K (.ref NoTree) (.ref NoColours),PySem.W.kitOne K (.ref NoTree) (.ref NoWeights),PySem.W.exmOne K (.ref NoTree) (.ref NoWeights),PySem.W.kitOne K (.ref NoTree) (.ref NoNumber),PySem.W.exmOne K (.ref NoTree) (.ref NoNumber),PySem.W.kitOne K (.ref NoTree) (.ref NoName),PySem.W.exmOne K (.ref NoTree) (.ref NoName),PySem.W.kitOne K (.ref NoTree) (.ref NoText),PySem.W.exmOne K (.ref NoTree) (.ref NoText),PySem.W.kitOne K (.ref NoTree) (.ref NoRow),PySem.W.exmOne K (.ref NoTree) (.ref NoRow)]=[some true,some true,some true,some false,some false,some false,some false,some false,some false,some false,some false,some true,some true,some false,some false,some false,some false,some false,some false,some false,some false,some false,some false,some false,some false,some false,some false,some false,some false,some false,some false,some false,some false])
  (g_NoSteps:Xk K NoSteps)
  (t_NoSteps:[PySem.W.kitOne K (.ref NoSteps) (.type "ValueError"),PySem.W.kitOne K (.ref NoSteps) (.ref BagError),PySem.W.exmOne K (.ref NoSteps) (.ref BagError),PySem.W.kitOne K (.ref NoSteps) (.ref NoGraph),PySem.W.exmOne K (.ref NoSteps) (.ref NoGraph),PySem.W.kitOne K (.ref NoSteps) (.ref NoPlace),PySem.W.exmOne K (.ref NoSteps) (.ref NoPlace),PySem.W.kitOne K (.ref NoSteps) (.ref NoTie),PySem.W.exmOne K (.ref NoSteps) (.ref NoTie),PySem.W.kitOne K (.ref NoSteps) (.ref NoBag),PySem.W.exmOne K (.ref NoSteps) (.ref NoBag),PySem.W.kitOne K (.ref NoSteps) (.ref NoTree),PySem.W.exmOne K (.ref NoSteps) (.ref NoTree),PySem.W.kitOne K (.ref NoSteps) (.ref NoOrder),PySem.W.exmOne K (.ref NoSteps) (.ref NoOrder),PySem.W.kitOne K (.ref NoSteps) (.ref NoPart),PySem.W.exmOne K (.ref NoSteps) (.ref NoPart),PySem.W.kitOne K (.ref NoSteps) (.ref NoSteps),PySem.W.exmOne K (.ref NoSteps) (.ref NoSteps),PySem.W.kitOne K (.ref NoSteps) (.ref TooWide),PySem.W.exmOne K (.ref NoSteps) (.ref TooWide),PySem.W.kitOne K (.ref NoSteps) (.ref NoColours),PySem.W.exmOne K (.ref NoSteps) (.ref NoColours),PySem.W.kitOne K (.ref NoSteps) (.ref NoWeights),PySem.W.exmOne K (.ref NoSteps) (.ref NoWeights),PySem.W.kitOne K (.ref NoSteps) (.ref NoNumber),PySem.W.exmOne K (.ref NoSteps) (.ref NoNumber),PySem.W.kitOne K (.ref NoSteps) (.ref NoName),PySem.W.exmOne K (.ref NoSteps) (.ref NoName),PySem.W.kitOne K (.ref NoSteps) (.ref NoText),PySem.W.exmOne K (.ref NoSteps) (.ref NoText),PySem.W.kitOne K (.ref NoSteps) (.ref NoRow),PySem.W.exmOne K (.ref NoSteps) (.ref NoRow)]=[some true,some true,some true,some false,some false,some false,some false,some false,some false,some false,some false,some false,some false,some false,some false,some false,some false,some true,some true,some false,some false,some false,some false,some false,some false,some false,some false,some false,some false,some false,some false,some false,some false])
  (g_TooWide:Xk K TooWide)
  (t_TooWide:[PySem.W.kitOne K (.ref TooWide) (.type "ValueError"),PySem.W.kitOne K (.ref TooWide) (.ref BagError),PySem.W.exmOne K (.ref TooWide) (.ref BagError),PySem.W.kitOne K (.ref TooWide) (.ref NoGraph),PySem.W.exmOne K (.ref TooWide) (.ref NoGraph),PySem.W.kitOne K (.ref TooWide) (.ref NoPlace),PySem.W.exmOne K (.ref TooWide) (.ref NoPlace),PySem.W.kitOne K (.ref TooWide) (.ref NoTie),PySem.W.exmOne K (.ref TooWide) (.ref NoTie),PySem.W.kitOne K (.ref TooWide) (.ref NoBag),PySem.W.exmOne K (.ref TooWide) (.ref NoBag),PySem.W.kitOne K (.ref TooWide) (.ref NoTree),PySem.W.exmOne K (.ref TooWide) (.ref NoTree),PySem.W.kitOne K (.ref TooWide) (.ref NoOrder),PySem.W.exmOne K (.ref TooWide) (.ref NoOrder),PySem.W.kitOne K (.ref TooWide) (.ref NoPart),PySem.W.exmOne K (.ref TooWide) (.ref NoPart),PySem.W.kitOne K (.ref TooWide) (.ref NoSteps),PySem.W.exmOne K (.ref TooWide) (.ref NoSteps),PySem.W.kitOne K (.ref TooWide) (.ref TooWide),PySem.W.exmOne K (.ref TooWide) (.ref TooWide),PySem.W.kitOne K (.ref TooWide) (.ref NoColours),PySem.W.exmOne K (.ref TooWide) (.ref NoColours),PySem.W.kitOne K (.ref TooWide) (.ref NoWeights),PySem.W.exmOne K (.ref TooWide) (.ref NoWeights),PySem.W.kitOne K (.ref TooWide) (.ref NoNumber),PySem.W.exmOne K (.ref TooWide) (.ref NoNumber),PySem.W.kitOne K (.ref TooWide) (.ref NoName),PySem.W.exmOne K (.ref TooWide) (.ref NoName),PySem.W.kitOne K (.ref TooWide) (.ref NoText),PySem.W.exmOne K (.ref TooWide) (.ref NoText),PySem.W.kitOne K (.ref TooWide) (.ref NoRow),PySem.W.exmOne K (.ref TooWide) (.ref NoRow)]=[some true,some true,some true,some false,some false,some false,some false,some false,some false,some false,some false,some false,some false,some false,some false,some false,some false,some false,some false,some true,some true,some false,some false,some false,some false,some false,some false,some false,some false,some false,some false,some false,some false]):Nonempty (Cl K mg):=by
 simp only [List.cons.injEq] at t_NoTree
 obtain ⟨w_NoTree,b_NoTree_BagError,c_NoTree_BagError,b_NoTree_NoGraph,c_NoTree_NoGraph,b_NoTree_NoPlace,c_NoTree_NoPlace,b_NoTree_NoTie,c_NoTree_NoTie,b_NoTree_NoBag,c_NoTree_NoBag,b_NoTree_NoTree,c_NoTree_NoTree,b_NoTree_NoOrder,c_NoTree_NoOrder,b_NoTree_NoPart,c_NoTree_NoPart,b_NoTree_NoSteps,c_NoTree_NoSteps,b_NoTree_TooWide,c_NoTree_TooWide,b_NoTree_NoColours,c_NoTree_NoColours,b_NoTree_NoWeights,c_NoTree_NoWeights,b_NoTree_NoNumber,c_NoTree_NoNumber,b_NoTree_NoName,c_NoTree_NoName,b_NoTree_NoText,c_NoTree_NoText,b_NoTree_NoRow,c_NoTree_NoRow,_⟩:=t_NoTree
 simp only [List.cons.injEq] at t_NoSteps
 obtain ⟨w_NoSteps,b_NoSteps_BagError,c_NoSteps_BagError,b_NoSteps_NoGraph,c_NoSteps_NoGraph,b_NoSteps_NoPlace,c_NoSteps_NoPlace,b_NoSteps_NoTie,c_NoSteps_NoTie,b_NoSteps_NoBag,c_NoSteps_NoBag,b_NoSteps_NoTree,c_NoSteps_NoTree,b_NoSteps_NoOrder,c_NoSteps_NoOrder,b_NoSteps_NoPart,c_NoSteps_NoPart,b_NoSteps_NoSteps,c_NoSteps_NoSteps,b_NoSteps_TooWide,c_NoSteps_TooWide,b_NoSteps_NoColours,c_NoSteps_NoColours,b_NoSteps_NoWeights,c_NoSteps_NoWeights,b_NoSteps_NoNumber,c_NoSteps_NoNumber,b_NoSteps_NoName,c_NoSteps_NoName,b_NoSteps_NoText,c_NoSteps_NoText,b_NoSteps_NoRow,c_NoSteps_NoRow,_⟩:=t_NoSteps
 simp only [List.cons.injEq] at t_TooWide
 obtain ⟨w_TooWide,b_TooWide_BagError,c_TooWide_BagError,b_TooWide_NoGraph,c_TooWide_NoGraph,b_TooWide_NoPlace,c_TooWide_NoPlace,b_TooWide_NoTie,c_TooWide_NoTie,b_TooWide_NoBag,c_TooWide_NoBag,b_TooWide_NoTree,c_TooWide_NoTree,b_TooWide_NoOrder,c_TooWide_NoOrder,b_TooWide_NoPart,c_TooWide_NoPart,b_TooWide_NoSteps,c_TooWide_NoSteps,b_TooWide_TooWide,c_TooWide_TooWide,b_TooWide_NoColours,c_TooWide_NoColours,b_TooWide_NoWeights,c_TooWide_NoWeights,b_TooWide_NoNumber,c_TooWide_NoNumber,b_TooWide_NoName,c_TooWide_NoName,b_TooWide_NoText,c_TooWide_NoText,b_TooWide_NoRow,c_TooWide_NoRow,_⟩:=t_TooWide
 exact ⟨{ BagError:=BagError,m_BagError:=PySem.W.mg_of X G a_BagError,NoGraph:=NoGraph,m_NoGraph:=PySem.W.mg_of X G a_NoGraph,NoPlace:=NoPlace,m_NoPlace:=PySem.W.mg_of X G a_NoPlace,NoTie:=NoTie,m_NoTie:=PySem.W.mg_of X G a_NoTie,NoBag:=NoBag,m_NoBag:=PySem.W.mg_of X G a_NoBag,NoTree:=NoTree,m_NoTree:=PySem.W.mg_of X G a_NoTree,NoOrder:=NoOrder,m_NoOrder:=PySem.W.mg_of X G a_NoOrder,NoPart:=NoPart,m_NoPart:=PySem.W.mg_of X G a_NoPart,NoSteps:=NoSteps,m_NoSteps:=PySem.W.mg_of X G a_NoSteps,TooWide:=TooWide,m_TooWide:=PySem.W.mg_of X G a_TooWide,NoColours:=NoColours,m_NoColours:=PySem.W.mg_of X G a_NoColours,NoWeights:=NoWeights,m_NoWeights:=PySem.W.mg_of X G a_NoWeights,NoNumber:=NoNumber,m_NoNumber:=PySem.W.mg_of X G a_NoNumber,NoName:=NoName,m_NoName:=PySem.W.mg_of X G a_NoName,NoText:=NoText,m_NoText:=PySem.W.mg_of X G a_NoText,NoRow:=NoRow,m_NoRow:=PySem.W.mg_of X G a_NoRow,k_NoTree:=g_NoTree,v_NoTree:=w_NoTree,q_NoTree_BagError:=b_NoTree_BagError,x_NoTree_BagError:=c_NoTree_BagError,q_NoTree_NoGraph:=b_NoTree_NoGraph,x_NoTree_NoGraph:=c_NoTree_NoGraph,q_NoTree_NoPlace:=b_NoTree_NoPlace,x_NoTree_NoPlace:=c_NoTree_NoPlace,q_NoTree_NoTie:=b_NoTree_NoTie,x_NoTree_NoTie:=c_NoTree_NoTie,q_NoTree_NoBag:=b_NoTree_NoBag,x_NoTree_NoBag:=c_NoTree_NoBag,q_NoTree_NoTree:=b_NoTree_NoTree,x_NoTree_NoTree:=c_NoTree_NoTree,q_NoTree_NoOrder:=b_NoTree_NoOrder,x_NoTree_NoOrder:=c_NoTree_NoOrder,q_NoTree_NoPart:=b_NoTree_NoPart,x_NoTree_NoPart:=c_NoTree_NoPart,q_NoTree_NoSteps:=b_NoTree_NoSteps,x_NoTree_NoSteps:=c_NoTree_NoSteps,q_NoTree_TooWide:=b_NoTree_TooWide,x_NoTree_TooWide:=c_NoTree_TooWide,q_NoTree_NoColours:=b_NoTree_NoColours,x_NoTree_NoColours:=c_NoTree_NoColours,q_NoTree_NoWeights:=b_NoTree_NoWeights,x_NoTree_NoWeights:=c_NoTree_NoWeights,q_NoTree_NoNumber:=b_NoTree_NoNumber,x_NoTree_NoNumber:=c_NoTree_NoNumber,q_NoTree_NoName:=b_NoTree_NoName,x_NoTree_NoName:=c_NoTree_NoName,q_NoTree_NoText:=b_NoTree_NoText,x_NoTree_NoText:=c_NoTree_NoText,q_NoTree_NoRow:=b_NoTree_NoRow,x_NoTree_NoRow:=c_NoTree_NoRow,k_NoSteps:=g_NoSteps,v_NoSteps:=w_NoSteps,q_NoSteps_BagError:=b_NoSteps_BagError,x_NoSteps_BagError:=c_NoSteps_BagError,q_NoSteps_NoGraph:=b_NoSteps_NoGraph,x_NoSteps_NoGraph:=c_NoSteps_NoGraph,q_NoSteps_NoPlace:=b_NoSteps_NoPlace,x_NoSteps_NoPlace:=c_NoSteps_NoPlace,q_NoSteps_NoTie:=b_NoSteps_NoTie,x_NoSteps_NoTie:=c_NoSteps_NoTie,q_NoSteps_NoBag:=b_NoSteps_NoBag,x_NoSteps_NoBag:=c_NoSteps_NoBag,q_NoSteps_NoTree:=b_NoSteps_NoTree,x_NoSteps_NoTree:=c_NoSteps_NoTree,q_NoSteps_NoOrder:=b_NoSteps_NoOrder,x_NoSteps_NoOrder:=c_NoSteps_NoOrder,q_NoSteps_NoPart:=b_NoSteps_NoPart,x_NoSteps_NoPart:=c_NoSteps_NoPart,q_NoSteps_NoSteps:=b_NoSteps_NoSteps,x_NoSteps_NoSteps:=c_NoSteps_NoSteps,q_NoSteps_TooWide:=b_NoSteps_TooWide,x_NoSteps_TooWide:=c_NoSteps_TooWide,q_NoSteps_NoColours:=b_NoSteps_NoColours,x_NoSteps_NoColours:=c_NoSteps_NoColours,q_NoSteps_NoWeights:=b_NoSteps_NoWeights,x_NoSteps_NoWeights:=c_NoSteps_NoWeights,q_NoSteps_NoNumber:=b_NoSteps_NoNumber,x_NoSteps_NoNumber:=c_NoSteps_NoNumber,q_NoSteps_NoName:=b_NoSteps_NoName,x_NoSteps_NoName:=c_NoSteps_NoName,q_NoSteps_NoText:=b_NoSteps_NoText,x_NoSteps_NoText:=c_NoSteps_NoText,q_NoSteps_NoRow:=b_NoSteps_NoRow,x_NoSteps_NoRow:=c_NoSteps_NoRow,k_TooWide:=g_TooWide,v_TooWide:=w_TooWide,q_TooWide_BagError:=b_TooWide_BagError,x_TooWide_BagError:=c_TooWide_BagError,q_TooWide_NoGraph:=b_TooWide_NoGraph,x_TooWide_NoGraph:=c_TooWide_NoGraph,q_TooWide_NoPlace:=b_TooWide_NoPlace,x_TooWide_NoPlace:=c_TooWide_NoPlace,q_TooWide_NoTie:=b_TooWide_NoTie,x_TooWide_NoTie:=c_TooWide_NoTie,q_TooWide_NoBag:=b_TooWide_NoBag,x_TooWide_NoBag:=c_TooWide_NoBag,q_TooWide_NoTree:=b_TooWide_NoTree,x_TooWide_NoTree:=c_TooWide_NoTree,q_TooWide_NoOrder:=b_TooWide_NoOrder,x_TooWide_NoOrder:=c_TooWide_NoOrder,q_TooWide_NoPart:=b_TooWide_NoPart,x_TooWide_NoPart:=c_TooWide_NoPart,q_TooWide_NoSteps:=b_TooWide_NoSteps,x_TooWide_NoSteps:=c_TooWide_NoSteps,q_TooWide_TooWide:=b_TooWide_TooWide,x_TooWide_TooWide:=c_TooWide_TooWide,q_TooWide_NoColours:=b_TooWide_NoColours,x_TooWide_NoColours:=c_TooWide_NoColours,q_TooWide_NoWeights:=b_TooWide_NoWeights,x_TooWide_NoWeights:=c_TooWide_NoWeights,q_TooWide_NoNumber:=b_TooWide_NoNumber,x_TooWide_NoNumber:=c_TooWide_NoNumber,q_TooWide_NoName:=b_TooWide_NoName,x_TooWide_NoName:=c_TooWide_NoName,q_TooWide_NoText:=b_TooWide_NoText,x_TooWide_NoText:=c_TooWide_NoText,q_TooWide_NoRow:=b_TooWide_NoRow,x_TooWide_NoRow:=c_TooWide_NoRow }⟩
abbrev a9S:Stmt:=top 18
theorem b3W:FnScope ["thing"] ["thing"] (a0F a9S):=⟨rfl,rfl,rfl,by decide +kernel,rfl,by decide +kernel,by decide +kernel⟩
abbrev a9T:Stmt:=top 19
theorem b3X:FnScope ["n", "thing"] ["n", "thing"] (a0F a9T):=⟨rfl,rfl,rfl,by decide +kernel,rfl,by decide +kernel,by decide +kernel⟩
abbrev b5I:Stmt:=top 20
theorem b9I:FnScope ["n", "places"] ["n", "places"] (a0F b5I):=⟨rfl,rfl,rfl,by decide +kernel,rfl,by decide +kernel,by decide +kernel⟩
def c6U (K:Φρ):Sp:=λ vs H Q _=>∃ (x:V) (t:Value) (bi bb:Bool),vs=[x]/\TyOf K H x t/\PySem.W.kitOne K t (.type "int")=some bi/\PySem.W.kitOne K t (.type "bool")=some bb/\Q (.bl (bi && !bb)) H
def c6V:Sp:=λ vs H Q _=>∃ (n:Int) (o:Option Int),vs=[.int n,upV o]/\Q (.bl (a5W n o)) H
def d2M (K:Φρ):Sp:=λ vs H Q _=>∃ (n:Int) (a:Addr) (ns:List Int),vs=[.int n,.ref a]/\SqL K H a (ns.map V.int)/\ns.length<=1000/\∀ H',Same H H'->Q (.bl (setF n ns)) H'
section
variable {P:Program} {w:World} {K:Φρ} {mg:Str->Option Value} {base:Heap}
abbrev DZ19 (K:PySem.W.Frag) (mg:Str->Option Value):=Dn K mg "is_whole" a9S ["thing"]
set_option maxHeartbeats 4000000 in
theorem b3Y (B:Bl mg) (dZ19:DZ19 K mg):FnOk P w K mg base CX0 1 dZ19.f dZ19.fd ["thing"] (c6U K):=by
 refine dZ19.F.ok b3W (λ vs H Q E h=>?_) (λ cdv A outer s H vs Q E hr h=>?_)
 ·obtain ⟨x,t,bi,bb,rfl,_⟩:=h
  rfl
 obtain ⟨x,t,bi,bb,rfl,ty,h1,h2,q⟩:=h
 refine ⟨_,(a0E (a0P (b4L (a0G (a6X (K:=K) rfl) rfl B.isinstance (by decide +kernel) (a0A (pv 0) (a0A (b3E (v:=.ty "int") (u:=.type "int") rfl B.int (by decide +kernel) rfl) a0B))) (b1B (c8C (a0G (a6X (K:=K) rfl) rfl B.isinstance (by decide +kernel) (a0A (pv 0) (a0A (b3E (v:=.ty "bool") (u:=.type "bool") rfl B.bool (by decide +kernel) rfl) a0B)))))))),?_⟩
 refine ⟨_,rfl,_,_,_,_,_,rfl,rfl,ty,h1,_,rfl,?_⟩
 cases bi with
 | true =>
  refine iteT ?_
  exact ⟨_,rfl,_,_,_,_,_,rfl,rfl,ty,h2,_,rfl,q⟩
 | false=>exact iteF q
abbrev DZ15 (K:PySem.W.Frag) (mg:Str->Option Value):=Dn K mg "is_below" a9T ["n", "thing"]
set_option maxHeartbeats 4000000 in
theorem a5K (B:Bl mg) (dZ19:DZ19 K mg) (dZ15:DZ15 K mg):FnOk P w K mg base CX0 2 dZ15.f dZ15.fd ["n", "thing"] c6V:=by
 have gZ19:FnOk P w K mg base CX0 1 _ _ _ _:=b3Y B dZ19
 refine dZ15.F.ok b3X (λ vs H Q E h=>?_) (λ cdv A outer s H vs Q E hr h=>?_)
 ·obtain ⟨n,i,rfl,_⟩:=h
  rfl
 obtain ⟨n,o,rfl,q⟩:=h
 refine ⟨_,(a0E (a0P (b4L (a0K gZ19 hr rfl dZ19.m dZ19.F.kp dZ19.b .nil a1I (a0A (pv 1) a0B)) (b1B (c1K d1K b7Q a0D (pv 1) (pv 0)))))),?_⟩
 cases o with
 | none=>exact ⟨_,rfl,_,_,_,_,rfl,TyOf.non,b3J,b1Q,_,rfl,iteF q⟩
 | some i =>
  refine ⟨_,rfl,_,_,_,_,rfl,TyOf.int i,b3I,b1P,_,rfl,?_⟩
  refine iteT ?_
  refine ⟨_,rfl,_,_,rfl,rfl,_,rfl,?_⟩
  refine ite2 (λ c=>?_) (λ c=>?_)
  ·have c':0<=i:=of_decide_eq_true c
   refine ⟨_,rfl,_,_,rfl,rfl,?_⟩
   have e:a5W n (some i)=decide (i < n):=by unfold a5W; simp [c']
   rw [e] at q; exact q
  ·have c':¬ 0<=i:=of_decide_eq_false (Bool.eq_false_iff.mpr c)
   have e:a5W n (some i)=false:=by unfold a5W; simp [c']
   rw [e] at q; exact q
abbrev DZ17 (K:PySem.W.Frag) (mg:Str->Option Value):=Dn K mg "is_set" b5I ["n", "places"]
set_option maxHeartbeats 4000000 in
theorem b9J (B:Bl mg) (dZ19:DZ19 K mg) (dZ15:DZ15 K mg) (dZ17:DZ17 K mg):FnOk P w K mg base CX0 3 dZ17.f dZ17.fd ["n", "places"] (d2M K):=by
 have gZ15:FnOk P w K mg base CX0 2 _ _ _ _:=a5K B dZ19 dZ15
 refine dZ17.F.ok b9I (λ vs H Q E h=>?_) (λ cdv A outer s H vs Q E hr h=>?_)
 ·obtain ⟨n,a,ns,rfl,_⟩:=h
  rfl
 obtain ⟨n,a,ns,rfl,hS,hz,q⟩:=h
 refine ⟨_,(a0C (a1O (a5B (a1L (K:=K) rfl (a0G (b1R (K:=K) rfl rfl) rfl B.all (by decide +kernel) (a0A (a2P ["v", "n"] [none,some 0]  (by kernel_rfl) rfl (a1A (K:=K) rfl (pv 1)) (λ _ _ _ _ _=>(a0H (i:=0) (show (["v", "n"]:List Str).Nodup by decide +kernel) rfl (Or.inl rfl))) (λ _ _ _ _ _=>a1V) (λ _ _ _ _ _=>(a0K gZ15 hr rfl dZ15.m dZ15.F.kp dZ15.b .nil a1I (a0A (pv 1) (a0A (pv 0) a0B))))) a0B)) (λ _=>rfl)))
   (a0E (a0P b7H))
   a0N)
   (a0E (a0P (a0G (b1R (K:=K) rfl rfl) rfl B.all (by decide +kernel) (a0A (a2P ["k", "places"] [none,some 1]  (by kernel_rfl) rfl (a4M rfl B.range (a0A a0D (a0A (a0G (a0L (K:=K) rfl) rfl B.len (by decide +kernel) (a0A (pv 1) a0B)) a0B))) (λ _ _ _ _ _=>(a0H (i:=0) (show (["k", "places"]:List Str).Nodup by decide +kernel) rfl (Or.inl rfl))) (λ _ _ _ _ _=>a1V) (λ _ _ _ _ _=>(a3S b7Q (a1B (a0V (K:=K) rfl) (pv 1) (a0R a4N (pv 0) a0D) (λ _ _=>rfl)) (a1B (a0V (K:=K) rfl) (pv 1) (pv 0) (λ _ _=>rfl)) (a0S _)))) a0B))))),?_⟩
 refine ⟨_,rfl,a,rfl,⟨_,hS⟩,?_⟩
 refine a7Y (λ x=>match x with | .int v=>some (.bl (decide (0<=v/\v < n))) | _=>none) hS (by rw [List.length_map]; exact hz) (λ x H1 N hx sm hN=>?_) (λ H1 p H1' sm hp=>?_)
 ·obtain ⟨v,hv,rfl⟩:=List.mem_map.mp hx
  exact ⟨_,rfl,_,rfl,n,some v,rfl,hN H1 sm⟩
 have e1:(ns.map V.int).filterMap (λ x=>match x with | .int v=>some (V.bl (decide (0<=v/\v < n))) | _=>none)=(ns.map λ v=>decide (0<=v/\v < n)).map V.bl:=by
  rw [List.map_map]
  exact c5M λ v _=>rfl
 rw [e1] at hp
 refine ⟨p,_,_,rfl,SqL.of hp.here,Truths.bls _,_,rfl,?_⟩
 have s1:Same H H1':=sm.trans hp.same
 have e2:((ns.map λ v=>decide (0<=v/\v < n)).all id)=ns.all λ v=>decide (0<=v/\v < n):=by rw [List.all_map]; rfl
 rw [e2]
 cases c:ns.all λ v=>decide (0<=v/\v < n) with
 | false =>
  refine iteT ?_
  have e:setF n ns=false:=by unfold setF; rw [c]; rfl
  rw [e] at q
  exact q _ s1
 | true =>
  refine iteF ?_
  have hl:((ns.map V.int).length:Int)=ns.length:=by rw [List.length_map]
  refine ⟨_,rfl,a,_,rfl,.inl (s1.seq hS),1,_,rfl,⟨by decide,by decide,by omega,by omega⟩,?_⟩
  have en:((((ns.map V.int).length:Nat):Int) - 1).toNat=ns.length - 1:=by rw [List.length_map]; omega
  rw [en]
  refine c5L (λ i=>some (.bl (decide (ns.getD i 0 < ns.getD (i+1) 0)))) (by omega) (λ i H2 N hi sm2 hN=>?_) (λ H2 p2 H2' sm2 hp2=>?_)
  ·refine ⟨_,rfl,_,rfl,_,_,rfl,rfl,a,_,_,_,rfl,rfl,sm2.seq (s1.seq hS),b0H (by omega) (by omega),_,rfl,_,rfl,a,_,_,_,rfl,rfl,sm2.seq (s1.seq hS),b0H (by omega) (by omega),_,_,rfl,rfl,?_⟩
   have z1:(1+(i:Int) - 1).toNat=i:=by omega
   have z2:(1+(i:Int)).toNat=i+1:=by omega
   rw [z1,z2]
   exact hN H2 sm2
  ·have e3:(List.range (ns.length - 1)).filterMap (λ i=>some (V.bl (decide (ns.getD i 0 < ns.getD (i+1) 0))))=((List.range (ns.length - 1)).map λ i=>decide (ns.getD i 0 < ns.getD (i+1) 0)).map V.bl:=by
    rw [List.map_map]
    exact a4C λ _ _=>rfl
   rw [e3] at hp2
   refine ⟨p2,_,_,rfl,SqL.of hp2.here,Truths.bls _,?_⟩
   have e:setF n ns=((List.range (ns.length - 1)).map λ i=>decide (ns.getD i 0 < ns.getD (i+1) 0)).all id:=by
    unfold setF b1S; rw [c,List.all_map]; rfl
   rw [e] at q
   exact q _ (s1.trans (sm2.trans hp2.same))
end
abbrev b9K:Stmt:=top 24
theorem sc_fault:FnScope ["graph", "rows", "told"] ["graph", "rows"] (a0F b9K):=⟨rfl,rfl,rfl,by decide +kernel,rfl,by decide +kernel,by decide +kernel⟩
abbrev a8H:Stmt:=top 25
theorem sc_row_fault:FnScope ["n", "rows", "k", "row"] ["n", "rows"] (a0F a8H):=⟨rfl,rfl,rfl,by decide +kernel,rfl,by decide +kernel,by decide +kernel⟩
abbrev b9L:Stmt:=top 26
theorem c2U:FnScope ["k", "up"] ["k", "up"] (a0F b9L):=⟨rfl,rfl,rfl,by decide +kernel,rfl,by decide +kernel,by decide +kernel⟩
abbrev a4E:Stmt:=top 27
theorem sc_place_fault:FnScope ["n", "rows", "v"] ["n", "rows"] (a0F a4E):=⟨rfl,rfl,rfl,by decide +kernel,rfl,by decide +kernel,by decide +kernel⟩
abbrev a5L:Stmt:=top 28
theorem sc_tie_fault:FnScope ["ties", "rows", "a", "b"] ["ties", "rows"] (a0F a5L):=⟨rfl,rfl,rfl,by decide +kernel,rfl,by decide +kernel,by decide +kernel⟩
abbrev a4F:Stmt:=top 29
theorem sc_apart_fault:FnScope ["n", "rows", "v", "tops"] ["n", "rows"] (a0F a4F):=⟨rfl,rfl,rfl,by decide +kernel,rfl,by decide +kernel,by decide +kernel⟩
abbrev a8I:Stmt:=top 30
theorem b6V:FnScope ["rows", "up", "v"] ["rows", "up", "v"] (a0F a8I):=⟨rfl,rfl,rfl,by decide +kernel,rfl,by decide +kernel,by decide +kernel⟩
def spUp:Sp:=λ vs H Q _=>∃ (k:Nat) (o:Option Int),vs=[.int k,upV o]/\Q (.bl (upOk k o)) H
def b6W (K:Φρ):Sp:=λ vs H Q _=>∃ (n:Nat) (a:Addr) (rs:List Row),vs=[.int n,.ref a]/\RowsAt K H a rs /\
 ∀ v H',Same H H'->FltV H' v (match a1G n rs with | some k=>.row k | none=>.ok)->Q v H'
def b2I (K:Φρ):Sp:=λ vs H Q _=>∃ (n:Nat) (a:Addr) (rs:List Row),vs=[.int n,.ref a]/\n<=1000/\RowsAt K H a rs /\
 ∀ v H',Same H H'->FltV H' v (match a1J n rs with | some k=>.place k | none=>.ok)->Q v H'
def b6X (K:Φρ):Sp:=λ vs H Q _=>∃ (t a:Addr) (ts:List ζζ) (rs:List Row),vs=[.ref t,.ref a]/\TiesAt K H t ts/\RowsAt K H a rs /\
 ∀ v H',Same H H'->FltV H' v (match a2C ts rs with | some k=>.tie k.1 k.2 | none=>.ok)->Q v H'
def d0E (rs:List Row):Prop:=∀ k i,(a0I rs k).1=some i->k < rs.length->0<=i/\i < (rs.length:Int)
def d0F (K:Φρ):Sp:=λ vs H Q _=>∃ (a:Addr) (rs:List Row) (u:Option Int) (v:Int),vs=[.ref a,upV u,.int v]/\RowsAt K H a rs/\(∀ i,u=some i->0<=i/\i < (rs.length:Int))/\Q (.bl (a6M rs u v)) H
def c6W (K:Φρ):Sp:=λ vs H Q _=>∃ (n:Nat) (a:Addr) (rs:List Row),vs=[.int n,.ref a]/\n<=1000/\RowsAt K H a rs/\d0E rs /\
 ∀ v H',Same H H'->FltV H' v (match a2B n rs with | some k=>.apart k.1 k.2.1 k.2.2 | none=>.ok)->Q v H'
def c6X (K:Φρ):Sp:=λ vs H Q _=>∃ (g:V) (n:Nat) (ts:List ζζ) (a:Addr) (rs:List Row),vs=[g,.ref a]/\n<=1000/\GraphV K H g n ts/\RowsAt K H a rs /\
 ∀ v H',Same H H'->FltV H' v (a2T n ts rs)->Q v H'
theorem d0G {n:Int} {rs:List Row} (h:a1G n rs=none):d0E rs:=by
 unfold a1G at h
 split at h
 ·cases h
 ·intro k i e hk
  have q:=List.find?_eq_none.mp h k (List.mem_range.mpr hk)
  have q':a2Q n rs k=true:=by simpa using q
  unfold a2Q at q'
  rw [Bool.and_eq_true] at q'
  have u:=q'.1
  unfold upOk at u
  rw [e] at u
  split at u
  ·cases u
  ·have u':0<=i/\i < (k:Int):=of_decide_eq_true u
   omega
theorem c6Y (rs:List Row) (v:Int):(List.range rs.length).filterMap (λ i=>if a3G rs v i then some (V.int i) else none)=(a3D rs v).map λ k=>V.int (k:Nat):=by
 unfold a3D
 induction (List.range rs.length) with
 | nil=>rfl
 | cons a r ih =>
  rw [List.filter_cons]
  cases c:a3G rs v a with
  | true=>rw [List.filterMap_cons_some (by rw [if_pos c]),ih]; simp
  | false=>rw [List.filterMap_cons_none (by rw [c]; rfl),ih]; simp
section
variable {P:Program} {w:World} {K:Φρ} {mg:Str->Option Value} {base:Heap}
abbrev DZ18 (K:PySem.W.Frag) (mg:Str->Option Value):=Dn K mg "is_up" b9L ["k", "up"]
set_option maxHeartbeats 4000000 in
theorem c2V (B:Bl mg) (dZ19:DZ19 K mg) (dZ15:DZ15 K mg) (dZ18:DZ18 K mg):FnOk P w K mg base CX0 3 dZ18.f dZ18.fd ["k", "up"] spUp:=by
 have gZ15:FnOk P w K mg base CX0 2 _ _ _ _:=a5K B dZ19 dZ15
 refine dZ18.F.ok c2U (λ vs H Q E h=>?_) (λ cdv A outer s H vs Q E hr h=>?_)
 ·obtain ⟨k,o,rfl,_⟩:=h
  rfl
 obtain ⟨k,o,rfl,q⟩:=h
 refine ⟨_,(a0C (a1O (a0J a5P (pv 0) a0D (a0S _))
   (a0E (a0P (a3S a5Q (pv 1) a1N (a0S _))))
   a0N)
   (a0E (a0P (a0K gZ15 hr rfl dZ15.m dZ15.F.kp dZ15.b .nil a1I (a0A (pv 0) (a0A (pv 1) a0B)))))),?_⟩
 refine ⟨_,rfl,rfl,_,rfl,?_⟩
 refine ite2 (λ c=>?_) (λ c=>?_)
 ·have c':V.int (k:Int)=V.int 0:=of_decide_eq_true c
  have k0:k=0:=by
   have z:(k:Int)=0:=by injection c'
   omega
  refine ⟨_,rfl,rfl,?_⟩
  have e:upOk k o=decide (upV o=V.non):=by unfold upOk; rw [if_pos k0]; cases o <;> simp [upV]
  rw [e] at q
  exact q
 ·have c':¬ V.int (k:Int)=V.int 0:=of_decide_eq_false (Bool.eq_false_iff.mpr c)
  have k0:¬ k=0:=λ z=>c' (by rw [z]; rfl)
  refine ⟨_,rfl,_,rfl,k,o,rfl,?_⟩
  have e:upOk k o=a5W k o:=by unfold upOk; rw [if_neg k0]
  rw [e] at q
  exact q
abbrev DZ25 (K:PySem.W.Frag) (mg:Str->Option Value):=Dn K mg "row_fault" a8H ["n", "rows"]
set_option maxHeartbeats 4000000 in
theorem b2J (B:Bl mg) (dZ19:DZ19 K mg) (dZ15:DZ15 K mg) (dZ17:DZ17 K mg) (dZ18:DZ18 K mg) (dZ25:DZ25 K mg):FnOk P w K mg base CX0 4 dZ25.f dZ25.fd ["n", "rows"] (b6W K):=by
 have gZ18:FnOk P w K mg base CX0 3 _ _ _ _:=c2V B dZ19 dZ15 dZ18
 have gZ17:FnOk P w K mg base CX0 3 _ _ _ _:=b9J B dZ19 dZ15 dZ17
 refine dZ25.F.ok sc_row_fault (λ vs H Q E h=>?_) (λ cdv A outer s H vs Q E hr h=>?_)
 ·obtain ⟨n,a,rs,rfl,_⟩:=h
  rfl
 obtain ⟨n,a,rs,rfl,hR,q⟩:=h
 refine ⟨_,(a0C (a1O (a5B (a1L (K:=K) rfl (pv 1) (λ _=>rfl)))
   (a0E (a0P (a0T (a0A a1D (a0A a0D a0B)))))
   a0N)
   (a0C (a2Z PassesOwn.never rfl (a8A (K:=K) rfl rfl B.enumerate (a0A (pv 1) a0B)) (a2A (K:=K) (n:=2) rfl rfl (a0M (a0H (i:=2) sc_row_fault.nd rfl (Or.inl rfl)) (a0M (a0H (i:=3) sc_row_fault.nd rfl (Or.inl rfl)) a1X)))
   (a0E (a1O (PW.pt (c1G (a5B (a1L (K:=K) rfl (a0K gZ18 hr rfl dZ18.m dZ18.F.kp dZ18.b .nil a1I (a0A (pv 2) (a0A (a1B (a0X (K:=K) rfl) (pv 3) a0D (λ _ _=>rfl)) a0B))) (λ _=>rfl))) (b4K (a5B (a1L (K:=K) rfl (a0K gZ17 hr rfl dZ17.m dZ17.F.kp dZ17.b .nil a1I (a0A (pv 0) (a0A (a1B (a0X (K:=K) rfl) (pv 3) a0D (λ _ _=>rfl)) a0B))) (λ _=>rfl))))))
   (a0E (a0P (a0T (a0A a1D (a0A (pv 2) a0B)))))
   a0N)))
   (a0E (a0P a1N)))),?_⟩
 obtain ⟨xs,hx,hp,hz⟩:=id hR
 have hl:xs.length=rs.length:=Paired.length hp
 refine ⟨_,rfl,_,.inl ⟨xs,hx,rfl⟩,?_⟩
 cases xs with
 | nil =>
  cases hp
  refine iteT ?_
  refine ⟨(by show 2<=1000; decide),λ p H1 nw=>?_⟩
  exact q _ H1 nw.same ⟨p,rfl,nw.here⟩
 | cons x0 xr =>
  refine iteF ?_
  have hne:rs.isEmpty=false:=by cases hp; rfl
  have ef:a1G n rs=(List.range rs.length).find? λ k=>!a2Q n rs k:=by unfold a1G; rw [hne]; rfl
  refine ⟨_,rfl,a,rfl,⟨_,hx⟩,?_⟩
  refine a7M (xs:=x0::xr) (λ i σ H2=>∃ (kk rr:Option V),σ=[some (.int n),some (.ref a),kk,rr]/\Same H H2/\(∀ j < i,a2Q n rs j=true)) ⟨none,none,rfl,Same.refl _,λ j hj=>absurd hj (Nat.not_lt_zero _)⟩ (λ i σ H2 _ ⟨_,_,_,sm,_⟩=>sm.seq hx) ?_ ?_
  ·rintro i x σ H2 p H3 hi ⟨kk,rr,rfl,sm,ok⟩ nw
   obtain ⟨r,hr1,⟨pr,b,rfl,hT,hb,hbl⟩⟩:=a0U hp hi
   have s3:Same H H3:=sm.trans nw.same
   have er:a0I rs i=r:=a3L hr1
   refine ⟨p,_,rfl,SqT.of nw.here,rfl,_,_,rfl,_,_,rfl,rfl,?_⟩
   have il:i < rs.length:=(List.getElem?_eq_some_iff.mp hr1).1
   have bad:a2Q n rs i=false->a1G n rs=some i:=λ c=>by
    rw [ef]
    refine List.find?_range_eq_some.mpr ⟨by rw [c]; rfl,List.mem_range.mpr il,λ j hj=>?_⟩
    rw [ok j hj]; rfl
   have ret:∀ H4:Hp,Same H H4->a2Q n rs i=false->∀ p5 H5,New H4 p5 (.tup [.str "row", .int (i:Nat)]) H5->Q (.ref p5) H5:=λ H4 s4 c p5 H5 n5=>by
    refine q _ H5 (s4.trans n5.same) ?_
    rw [bad c]
    exact ⟨p5,rfl,n5.here⟩
   refine ⟨_,rfl,_,rfl,pr,_,_,_,rfl,rfl,s3.tupq hT,rfl,i,r.1,rfl,_,rfl,?_⟩
   cases c1:upOk i r.1 with
   | false =>
    refine iteT ?_
    have cb:a2Q n rs i=false:=by unfold a2Q; rw [er,c1]; rfl
    exact ⟨_,rfl,(by show 2<=1000; decide),ret H3 s3 cb⟩
   | true =>
    refine iteF ?_
    refine ⟨_,rfl,_,rfl,pr,_,_,_,rfl,rfl,s3.tupq hT,rfl,n,b,r.2,rfl,s3.seq hb,hbl,λ H4 s4=>?_⟩
    refine ⟨_,rfl,?_⟩
    cases c2:setF n r.2 with
    | false =>
     refine iteT ?_
     have cb:a2Q n rs i=false:=by unfold a2Q; rw [er,c1,c2]; rfl
     exact ⟨_,rfl,(by show 2<=1000; decide),ret H4 (s3.trans s4) cb⟩
    | true =>
     refine iteF ?_
     refine ⟨_,_,rfl,s3.trans s4,λ j hj=>?_⟩
     by_cases hji:j=i
     ·subst hji; unfold a2Q; rw [er,c1,c2]; rfl
     ·exact ok j (by omega)
  ·rintro σ H2 ⟨kk,rr,rfl,sm,ok⟩
   have en:a1G n rs=none:=by
    rw [ef]
    refine List.find?_eq_none.mpr λ j hj=>?_
    rw [ok j (by rw [hl]; exact List.mem_range.mp hj)]; simp
   exact q _ H2 sm (by rw [en]; rfl)
abbrev DZ23 (K:PySem.W.Frag) (mg:Str->Option Value):=Dn K mg "place_fault" a4E ["n", "rows"]
set_option maxHeartbeats 4000000 in
theorem a9B (B:Bl mg) (dZ23:DZ23 K mg):FnOk P w K mg base CX0 2 dZ23.f dZ23.fd ["n", "rows"] (b2I K):=by
 refine dZ23.F.ok sc_place_fault (λ vs H Q E h=>?_) (λ cdv A outer s H vs Q E hr h=>?_)
 ·obtain ⟨n,a,rs,rfl,_⟩:=h
  rfl
 obtain ⟨n,a,rs,rfl,hn,hR,q⟩:=h
 have hv:(A.deeper (PyProof.Rows.envOfC "place_fault" (a0F a4E) s.heap.objs.size dZ23.f cdv)).units+65 < cLine:=by have:=hr.un; omega
 refine ⟨_,(a0C (a2Z PassesOwn.never rfl (a2O rfl B.range (a0A (pv 0) a0B)) (a0H (i:=2) sc_place_fault.nd rfl (Or.inr rfl))
   (a0E (a1O (a5B (a1L (K:=K) rfl (a0G (a5U (K:=K) rfl rfl) rfl B.any (by decide +kernel) (a0A (a2P ["up", "places", "v"] [none,none,some 2]  (by kernel_rfl) rfl (a1A (K:=K) rfl (pv 1)) (λ _ _ _ _ _=>(a2A (K:=K) (n:=2) rfl rfl (a0M (a0H (i:=0) (show (["up", "places", "v"]:List Str).Nodup by decide +kernel) rfl (Or.inl rfl)) (a0M (a0H (i:=1) (show (["up", "places", "v"]:List Str).Nodup by decide +kernel) rfl (Or.inl rfl)) a1X)))) (λ _ _ _ _ _=>a1V) (λ _ _ _ _ _=>(a3S (a2V (K:=K) rfl hv) (pv 2) (pv 1) (by with_unfolding_all rfl)))) a0B)) (λ _=>rfl)))
   (a0E (a0P (a0T (a0A a1D (a0A (pv 2) a0B)))))
   a0N)))
   (a0E (a0P a1N))),?_⟩
 obtain ⟨xs,hx,hp,hz⟩:=id hR
 have hl:xs.length=rs.length:=Paired.length hp
 refine ⟨_,rfl,_,rfl,by omega,by omega,?_⟩
 have en:((n:Nat):Int).toNat=n:=by omega
 rw [en]
 refine a3A (n:=n) (λ i σ H2=>∃ vv:Option V,σ=[some (.int n),some (.ref a),vv]/\Same H H2/\∀ j < i,rs.any (has (j:Nat))=true) ⟨none,rfl,Same.refl _,λ j hj=>absurd hj (Nat.not_lt_zero _)⟩ ?_ ?_
 ·rintro i σ H2 hi ⟨vv,rfl,sm,ok⟩
  refine ⟨_,rfl,a,rfl,⟨_,sm.seq hx⟩,?_⟩
  refine a9O (λ j=>some (.bl (has (0+(i:Int)) (a0I rs j)))) (sm.seq hx) (by omega) (λ j x H3 N hj s3 hN=>?_) (λ H3 p H4 s3 nw=>?_)
  ·obtain ⟨r,hr1,⟨pr,b,rfl,hT,hb,hbl⟩⟩:=a0U hp hj
   have s4:=sm.trans s3
   rw [a3L hr1] at hN
   exact ⟨pr,_,rfl,s4.tupq hT,rfl,_,_,rfl,_,_,rfl,rfl,_,rfl,_,rfl,a4I (s4.seq hb) (hN H3 s3)⟩
  ·have e1:(List.range xs.length).filterMap (λ j=>some (V.bl (has (0+(i:Int)) (a0I rs j))))=((List.range rs.length).map λ j=>has (0+(i:Int)) (a0I rs j)).map V.bl:=by
    rw [hl,List.map_map]
    exact a4C λ _ _=>rfl
   rw [e1] at nw
   have e2:=b1T rs (has (0+(i:Int)))
   refine ⟨p,_,_,rfl,SqL.of nw.here,Truths.bls _,_,rfl,?_⟩
   rw [e2]
   have s4:=sm.trans (s3.trans nw.same)
   have ei:(0+(i:Int))=((i:Nat):Int):=by omega
   rw [ei]
   cases c:rs.any (has ((i:Nat):Int)) with
   | false =>
    refine iteT ?_
    refine ⟨_,rfl,(by show 2<=1000; decide),λ p5 H5 n5=>?_⟩
    refine q _ H5 (s4.trans n5.same) ?_
    have ef:a1J n rs=some i:=List.find?_range_eq_some.mpr ⟨by rw [c]; rfl,List.mem_range.mpr hi,λ j hj=>by rw [ok j hj]; rfl⟩
    rw [ef]
    exact ⟨p5,rfl,n5.here⟩
   | true =>
    refine iteF ?_
    refine ⟨_,rfl,s4,λ j hj=>?_⟩
    by_cases hji:j=i
    ·subst hji; exact c
    ·exact ok j (by omega)
 ·rintro σ H2 ⟨vv,rfl,sm,ok⟩
  have ef:a1J n rs=none:=List.find?_eq_none.mpr λ j hj=>by rw [ok j (List.mem_range.mp hj)]; simp
  exact q _ H2 sm (by rw [ef]; rfl)
abbrev DZ32 (K:PySem.W.Frag) (mg:Str->Option Value):=Dn K mg "tie_fault" a5L ["ties", "rows"]
set_option maxHeartbeats 4000000 in
theorem b2K (B:Bl mg) (dZ32:DZ32 K mg):FnOk P w K mg base CX0 2 dZ32.f dZ32.fd ["ties", "rows"] (b6X K):=by
 refine dZ32.F.ok sc_tie_fault (λ vs H Q E h=>?_) (λ cdv A outer s H vs Q E hr h=>?_)
 ·obtain ⟨t,a,ts,rs,rfl,_⟩:=h
  rfl
 obtain ⟨t,a,ts,rs,rfl,hT,hR,q⟩:=h
 have hv:(A.deeper (PyProof.Rows.envOfC "tie_fault" (a0F a5L) s.heap.objs.size dZ32.f cdv)).units+65 < cLine:=by have:=hr.un; omega
 refine ⟨_,(a0C (a2Z PassesOwn.never rfl (a1A (K:=K) rfl (pv 0)) (a2A (K:=K) (n:=2) rfl rfl (a0M (a0H (i:=2) sc_tie_fault.nd rfl (Or.inr rfl)) (a0M (a0H (i:=3) sc_tie_fault.nd rfl (Or.inr rfl)) a1X)))
   (a0E (a1O (a5B (a1L (K:=K) rfl (a0G (a5U (K:=K) rfl rfl) rfl B.any (by decide +kernel) (a0A (a2P ["up", "places", "a", "b"] [none,none,some 2,some 3]  (by kernel_rfl) rfl (a1A (K:=K) rfl (pv 1)) (λ _ _ _ _ _=>(a2A (K:=K) (n:=2) rfl rfl (a0M (a0H (i:=0) (show (["up", "places", "a", "b"]:List Str).Nodup by decide +kernel) rfl (Or.inl rfl)) (a0M (a0H (i:=1) (show (["up", "places", "a", "b"]:List Str).Nodup by decide +kernel) rfl (Or.inl rfl)) a1X)))) (λ _ _ _ _ _=>a1V) (λ _ _ _ _ _=>(b4L (a3S (a2V (K:=K) rfl hv) (pv 2) (pv 1) (by with_unfolding_all rfl)) (b1B (a3S (a2V (K:=K) rfl hv) (pv 3) (pv 1) (by with_unfolding_all rfl)))))) a0B)) (λ _=>rfl)))
   (a0E (a0P (a0T (a0A a1D (a0A (pv 2) (a0A (pv 3) a0B))))))
   a0N)))
   (a0E (a0P a1N))),?_⟩
 obtain ⟨xs,hx,hp,hz⟩:=id hR
 obtain ⟨ys,hy,hq,hzt⟩:=id hT
 have hl:xs.length=rs.length:=Paired.length hp
 have hlt:ys.length=ts.length:=Paired.length hq
 let pt:Int × Int->Bool:=λ t=>rs.any λ r=>has t.1 r && has t.2 r
 have ef:a2C ts rs=ts.find? λ t=>!pt t:=rfl
 refine ⟨_,rfl,t,rfl,⟨_,hy⟩,?_⟩
 refine a5O (xs:=ys) (λ i σ H2=>∃ aa bb:Option V,σ=[some (.ref t),some (.ref a),aa,bb]/\Same H H2/\∀ j z,j < i->ts[j]?=some z->pt z=true) ⟨none,none,rfl,Same.refl _,λ j z hj=>absurd hj (Nat.not_lt_zero _)⟩ (λ i σ H2 _ ⟨_,_,_,sm,_⟩=>sm.seq hy) ?_ ?_
 ·rintro i x σ H2 hi ⟨aa,bb,rfl,sm,ok⟩
  obtain ⟨tt,ht1,⟨p0,rfl,hT0⟩⟩:=a0U hq hi
  refine ⟨p0,_,rfl,sm.tupq hT0,rfl,_,_,rfl,_,_,rfl,rfl,?_⟩
  refine ⟨_,rfl,a,rfl,⟨_,sm.seq hx⟩,?_⟩
  refine a9O (λ j=>some (.bl (has tt.1 (a0I rs j) && has tt.2 (a0I rs j)))) (sm.seq hx) (by omega) (λ j x H3 N hj s3 hN=>?_) (λ H3 p H4 s3 nw=>?_)
  ·obtain ⟨r,hr1,⟨pr,b,rfl,hTr,hb,hbl⟩⟩:=a0U hp hj
   have s4:=sm.trans s3
   rw [a3L hr1] at hN
   refine ⟨pr,_,rfl,s4.tupq hTr,rfl,_,_,rfl,_,_,rfl,rfl,_,rfl,_,rfl,a4I (s4.seq hb) ⟨_,rfl,?_⟩⟩
   cases c:decide (tt.1∈r.2) with
   | false =>
    refine iteF ?_
    have z:=hN H3 s3
    have ez:(has tt.1 r && has tt.2 r)=false:=by unfold has; rw [c]; rfl
    rw [ez] at z; exact z
   | true =>
    refine iteT ?_
    have z:=hN H3 s3
    have ez:(has tt.1 r && has tt.2 r)=decide (tt.2∈r.2):=by unfold has; rw [c]; rfl
    rw [ez] at z
    exact ⟨_,rfl,_,rfl,a4I (s4.seq hb) z⟩
  ·have e1:(List.range xs.length).filterMap (λ j=>some (V.bl (has tt.1 (a0I rs j) && has tt.2 (a0I rs j))))=((List.range rs.length).map λ j=>(λ r=>has tt.1 r && has tt.2 r) (a0I rs j)).map V.bl:=by
    rw [hl,List.map_map]
    exact a4C λ _ _=>rfl
   rw [e1] at nw
   have e2:=b1T rs (λ r=>has tt.1 r && has tt.2 r)
   refine ⟨p,_,_,rfl,SqL.of nw.here,Truths.bls _,_,rfl,?_⟩
   rw [e2]
   have s4:=sm.trans (s3.trans nw.same)
   cases c:rs.any λ r=>has tt.1 r && has tt.2 r with
   | false =>
    refine iteT ?_
    refine ⟨_,rfl,_,rfl,(by show 3<=1000; decide),λ p5 H5 n5=>?_⟩
    refine q _ H5 (s4.trans n5.same) ?_
    have ef2:a2C ts rs=some tt:=b0I ht1 (by show (!pt tt)=true; show (!(rs.any λ r=>has tt.1 r && has tt.2 r))=true; rw [c]; rfl) λ j z hj hz=>by show (!pt z)=false; rw [ok j z hj hz]; rfl
    rw [ef2]
    exact ⟨p5,rfl,n5.here⟩
   | true =>
    refine iteF ?_
    refine ⟨_,_,rfl,s4,λ j z hj hz=>?_⟩
    by_cases hji:j=i
    ·subst hji
     rw [ht1] at hz; cases hz
     exact c
    ·exact ok j z (by omega) hz
 ·rintro σ H2 ⟨aa,bb,rfl,sm,ok⟩
  have ef2:a2C ts rs=none:=List.find?_eq_none.mpr λ z hz=>by
   obtain ⟨j,hj,rfl⟩:=List.getElem_of_mem hz
   have:=ok j ts[j] (by rw [hlt]; exact hj) (List.getElem?_eq_getElem hj)
   show ¬ (!pt ts[j])=true
   rw [this]; simp
  exact q _ H2 sm (by rw [ef2]; rfl)
abbrev DZ16 (K:PySem.W.Frag) (mg:Str->Option Value):=Dn K mg "is_held" a8I ["rows", "up", "v"]
set_option maxHeartbeats 4000000 in
theorem b6Y (B:Bl mg) (dZ16:DZ16 K mg):FnOk P w K mg base CX0 1 dZ16.f dZ16.fd ["rows", "up", "v"] (d0F K):=by
 refine dZ16.F.ok b6V (λ vs H Q E h=>?_) (λ cdv A outer s H vs Q E hr h=>?_)
 ·obtain ⟨a,rs,u,v,rfl,_⟩:=h
  rfl
 obtain ⟨a,rs,u,v,rfl,hR,hu,q⟩:=h
 have hv:(A.deeper (PyProof.Rows.envOfC "is_held" (a0F a8I) s.heap.objs.size dZ16.f cdv)).units+65 < cLine:=by have:=hr.un; omega
 refine ⟨_,(a0E (a0P (b4L (a3S a5I (pv 1) a1N (a0S _)) (b1B (a3S (a2V (K:=K) rfl hv) (pv 2) (a1B (a0X (K:=K) rfl) (a1B (a0V (K:=K) rfl) (pv 0) (pv 1) (λ _ _=>rfl)) a0D (λ _ _=>rfl)) (by with_unfolding_all rfl)))))),?_⟩
 obtain ⟨xs,hx,hp,hz⟩:=id hR
 have hl:xs.length=rs.length:=Paired.length hp
 refine ⟨_,rfl,rfl,_,rfl,?_⟩
 cases u with
 | none=>exact iteF q
 | some i =>
  obtain ⟨i0,i1⟩:=hu i rfl
  refine iteT ?_
  have il:i.toNat < rs.length:=by omega
  obtain ⟨x,hx1,⟨pr,b,rfl,hT,hb,hbl⟩⟩:=a0Y hp (a1W il)
  have ei:i=((i.toNat:Nat):Int):=by omega
  have hat:atI xs i=some (.ref pr):=by rw [ei]; exact a1M hx1
  exact ⟨_,rfl,_,rfl,_,rfl,a,_,_,_,rfl,rfl,hx,hat,pr,_,_,_,rfl,rfl,hT,rfl,a4I hb q⟩
abbrev DZ9 (K:PySem.W.Frag) (mg:Str->Option Value):=Dn K mg "apart_fault" a4F ["n", "rows"]
set_option maxHeartbeats 4000000 in
theorem a9C (B:Bl mg) (dZ16:DZ16 K mg) (dZ9:DZ9 K mg):FnOk P w K mg base CX0 2 dZ9.f dZ9.fd ["n", "rows"] (c6W K):=by
 have gZ16:FnOk P w K mg base CX0 1 _ _ _ _:=b6Y B dZ16
 refine dZ9.F.ok sc_apart_fault (λ vs H Q E h=>?_) (λ cdv A outer s H vs Q E hr h=>?_)
 ·obtain ⟨n,a,rs,rfl,_⟩:=h
  rfl
 obtain ⟨n,a,rs,rfl,hn,hR,hU,q⟩:=h
 have hv:(A.deeper (PyProof.Rows.envOfC "apart_fault" (a0F a4F) s.heap.objs.size dZ9.f cdv)).units+65 < cLine:=by have:=hr.un; omega
 refine ⟨_,(a0C (a2Z PassesOwn.never rfl (a2O rfl B.range (a0A (pv 0) a0B)) (a0H (i:=2) sc_apart_fault.nd rfl (Or.inr rfl))
   (a0C (a7L (i:=3) ["k", "row", "v", "rows"] [none,none,some 2,some 1] sc_apart_fault.nd rfl rfl (by kernel_rfl) rfl (a8A (K:=K) rfl rfl B.enumerate (a0A (pv 1) a0B)) (λ _ _ _ _ _=>(a2A (K:=K) (n:=2) rfl rfl (a0M (a0H (i:=0) (show (["k", "row", "v", "rows"]:List Str).Nodup by decide +kernel) rfl (Or.inl rfl)) (a0M (a0H (i:=1) (show (["k", "row", "v", "rows"]:List Str).Nodup by decide +kernel) rfl (Or.inl rfl)) a1X)))) (λ _ _ _ _ _=>(a2U (PW.pt (a3I (a0J (a2V (K:=K) rfl hv) (pv 2) (a1B (a0X (K:=K) rfl) (pv 1) a0D (λ _ _=>rfl)) (by with_unfolding_all rfl)) (a3B (a5B (a1L (K:=K) rfl (a0K gZ16 hr rfl dZ16.m dZ16.F.kp dZ16.b .nil a1I (a0A (pv 3) (a0A (a1B (a0X (K:=K) rfl) (pv 1) a0D (λ _ _=>rfl)) (a0A (pv 2) a0B)))) (λ _=>rfl)))))))) (λ _ _ _ _ _=>(pv 0)) (by rfl))
   (a0E (a1O (a0J a4Y (a0G (a0L (K:=K) rfl) rfl B.len (by decide +kernel) (a0A (pv 3) a0B)) a0D (a0S _))
   (a0E (a0P (a0T (a0A a1D (a0A (pv 2) (a0A (a1B (a0V (K:=K) rfl) (pv 3) a0D (λ _ _=>rfl)) (a0A (a1B (a0V (K:=K) rfl) (pv 3) a0D (λ _ _=>rfl)) a0B)))))))
   a0N))))
   (a0E (a0P a1N))),?_⟩
 obtain ⟨xs,hx,hp,hz⟩:=id hR
 have hl:xs.length=rs.length:=Paired.length hp
 refine ⟨_,rfl,_,rfl,by omega,by omega,?_⟩
 have en:((n:Nat):Int).toNat=n:=by omega
 rw [en]
 refine a3A (n:=n) (λ i σ H2=>∃ vv tt:Option V,σ=[some (.int n),some (.ref a),vv,tt]/\Same H H2/\∀ j < i,a4O rs ((j:Nat):Int)=none) ⟨none,none,rfl,Same.refl _,λ j hj=>absurd hj (Nat.not_lt_zero _)⟩ ?_ ?_
 ·rintro i σ H2 hi ⟨vv,tt,rfl,sm,ok⟩
  have ei:(0+(i:Int))=((i:Nat):Int):=by omega
  refine ⟨_,rfl,a,rfl,⟨_,sm.seq hx⟩,?_⟩
  refine c5N (λ j _=>if a3G rs ((i:Nat):Int) j then some (.int j) else none) (sm.seq hx) (by omega) (λ j x H3 p H0 N hj s3 nw hN=>?_) (λ H3 p H4 s3 nw=>?_)
  ·obtain ⟨r,hr1,⟨pr,b,rfl,hT,hb,hbl⟩⟩:=a0U hp hj
   have s4:Same H H0:=sm.trans (s3.trans nw.same)
   have jl:j < rs.length:=(List.getElem?_eq_some_iff.mp hr1).1
   have er:=a3L hr1
   have hN':=hN H0 (s3.trans nw.same)
   refine ⟨p,_,rfl,SqT.of nw.here,rfl,_,_,rfl,_,_,rfl,rfl,_,rfl,_,rfl,pr,_,_,_,rfl,rfl,s4.tupq hT,rfl,a4I (s4.seq hb) ⟨_,rfl,?_⟩⟩
   rw [ei]
   cases c:decide (((i:Nat):Int)∈r.2) with
   | false =>
    refine iteF (iteF ?_)
    have ez:a3G rs ((i:Nat):Int) j=false:=by unfold a3G has; rw [er,c]; rfl
    rw [ez] at hN'; exact hN'
   | true =>
    refine iteT ?_
    refine ⟨_,rfl,_,rfl,pr,_,_,_,rfl,rfl,s4.tupq hT,rfl,_,rfl,a,rs,r.1,_,rfl,hR.same s4,(λ u hu=>hU j u (by rw [er]; exact hu) jl),_,rfl,?_⟩
    have ez:a3G rs ((i:Nat):Int) j = !a6M rs r.1 ((i:Nat):Int):=by unfold a3G has; rw [er,c]; rfl
    rw [ez] at hN'
    cases c2:a6M rs r.1 ((i:Nat):Int) with
    | true=>rw [c2] at hN'; exact iteF hN'
    | false=>rw [c2] at hN'; exact iteT ⟨_,rfl,hN'⟩
  ·have e1:(List.range xs.length).filterMap (λ j=>(xs[j]?).bind λ _=>if a3G rs ((i:Nat):Int) j then some (V.int j) else none)=(a3D rs ((i:Nat):Int)).map λ k=>V.int (k:Nat):=by
    rw [<- c6Y,hl]
    refine a5X λ j hj=>?_
    have jl:j < xs.length:=by rw [hl]; exact List.mem_range.mp hj
    rw [List.getElem?_eq_getElem jl]; rfl
   rw [e1] at nw
   have s4:=sm.trans (s3.trans nw.same)
   refine ⟨_,rfl,p,_,rfl,.inl (SqL.of nw.here),_,_,rfl,rfl,_,rfl,?_⟩
   refine ite2 (λ c=>?_) (λ c=>?_)
   ·have c':(1:Int) < (((a3D rs ((i:Nat):Int)).map λ k=>V.int (k:Nat)).length:Nat):=of_decide_eq_true c
    rw [List.length_map] at c'
    obtain ⟨j,k,rest,et⟩:∃ j k rest,a3D rs ((i:Nat):Int)=j::k::rest:=by
     match a3D rs ((i:Nat):Int),c' with
     | [],c'=>exact absurd c' (by simp)
     | [_],c'=>exact absurd c' (by simp)
     | j::k::rest,_=>exact ⟨j,k,rest,rfl⟩
    rw [et] at nw
    refine ⟨_,rfl,_,rfl,p,_,_,_,rfl,rfl,SqL.of nw.here,(show atI _ (0:Int)=_ from a1M (j:=0) rfl),_,rfl,p,_,_,_,rfl,rfl,SqL.of nw.here,(show atI _ (1:Int)=_ from a1M (j:=1) rfl),(by show 4<=1000; decide),λ p5 H5 n5=>?_⟩
    refine q _ H5 (s4.trans n5.same) ?_
    have ea:a4O rs ((i:Nat):Int)=some (j,k):=by unfold a4O; rw [et]
    have ef:a2B n rs=some (i,j,k):=a8Y hi (by rw [ea]; rfl) λ m hm=>by rw [ok m hm]; rfl
    rw [ef]
    refine ⟨p5,rfl,?_⟩
    rw [n5.here,ei]
   ·have c':¬ (1:Int) < (((a3D rs ((i:Nat):Int)).map λ k=>V.int (k:Nat)).length:Nat):=of_decide_eq_false (Bool.eq_false_iff.mpr c)
    rw [List.length_map] at c'
    refine ⟨_,_,rfl,s4,λ m hm=>?_⟩
    by_cases hmi:m=i
    ·subst hmi
     unfold a4O
     match a3D rs ((m:Nat):Int),c' with
     | [],_=>rfl
     | [_],_=>rfl
     | _::_::_,c'=>exact absurd (show (1:Int) < _ by simp only [List.length_cons]; omega) c'
    ·exact ok m (by omega)
 ·rintro σ H2 ⟨vv,tt,rfl,sm,ok⟩
  have ef:a2B n rs=none:=a5J λ m hm=>by rw [ok m hm]; rfl
  exact q _ H2 sm (by rw [ef]; rfl)
abbrev DZ13 (K:PySem.W.Frag) (mg:Str->Option Value):=Dn K mg "fault" b9K ["graph", "rows"]
set_option maxHeartbeats 4000000 in
theorem b0P (B:Bl mg) (dZ19:DZ19 K mg) (dZ15:DZ15 K mg) (dZ17:DZ17 K mg) (dZ18:DZ18 K mg) (dZ25:DZ25 K mg) (dZ23:DZ23 K mg) (dZ32:DZ32 K mg) (dZ16:DZ16 K mg) (dZ9:DZ9 K mg) (dZ13:DZ13 K mg):FnOk P w K mg base CX0 5 dZ13.f dZ13.fd ["graph", "rows"] (c6X K):=by
 have gZ25:FnOk P w K mg base CX0 4 _ _ _ _:=b2J B dZ19 dZ15 dZ17 dZ18 dZ25
 have gZ23:FnOk P w K mg base CX0 4 _ _ _ _:=(a9B B dZ23).mono (by decide)
 have gZ32:FnOk P w K mg base CX0 4 _ _ _ _:=(b2K B dZ32).mono (by decide)
 have gZ9:FnOk P w K mg base CX0 4 _ _ _ _:=(a9C B dZ16 dZ9).mono (by decide)
 refine dZ13.F.ok sc_fault (λ vs H Q E h=>?_) (λ cdv A outer s H vs Q E hr h=>?_)
 ·obtain ⟨g,n,ts,a,rs,rfl,_⟩:=h
  rfl
 obtain ⟨g,n,ts,a,rs,rfl,hn,hG,hR,q⟩:=h
 refine ⟨_,(a0C (a0Q (i:=2) sc_fault.nd rfl (Or.inl rfl) (a0K gZ25 hr rfl dZ25.m dZ25.F.kp dZ25.b .nil a1I (a0A (a1B (a0X (K:=K) rfl) (pv 0) a0D (λ _ _=>rfl)) (a0A (pv 1) a0B))))
   (a3K (a1O (a0J a5Q (pv 2) a1N (a0S _))
   (a0E (a0Q (i:=2) sc_fault.nd rfl (Or.inl rfl) (a0K gZ23 hr rfl dZ23.m dZ23.F.kp dZ23.b .nil a1I (a0A (a1B (a0X (K:=K) rfl) (pv 0) a0D (λ _ _=>rfl)) (a0A (pv 1) a0B)))))
   a0N)
   (a3K (a1O (a0J a5Q (pv 2) a1N (a0S _))
   (a0E (a0Q (i:=2) sc_fault.nd rfl (Or.inl rfl) (a0K gZ32 hr rfl dZ32.m dZ32.F.kp dZ32.b .nil a1I (a0A (a1B (a0X (K:=K) rfl) (pv 0) a0D (λ _ _=>rfl)) (a0A (pv 1) a0B)))))
   a0N)
   (a3K (a1O (a0J a5Q (pv 2) a1N (a0S _))
   (a0E (a0Q (i:=2) sc_fault.nd rfl (Or.inl rfl) (a0K gZ9 hr rfl dZ9.m dZ9.F.kp dZ9.b .nil a1I (a0A (a1B (a0X (K:=K) rfl) (pv 0) a0D (λ _ _=>rfl)) (a0A (pv 1) a0B)))))
   a0N)
   (a0E (a0P (pv 2))))))),?_⟩
 obtain ⟨pg,tl,rfl,hT,hTs⟩:=id hG
 refine ⟨_,rfl,pg,_,_,_,rfl,rfl,hT,rfl,_,rfl,n,a,rs,rfl,hR,λ v1 H1 s1 f1=>?_⟩
 refine ⟨λ σ' H'=>∃ v,σ'=[some (.ref pg),some (.ref a),some v]/\Same H H'/\FltV H' v (match a1G n rs with | some k=>.row k | none=>(match a1J n rs with | some v=>.place v | none=>.ok)),?_,?_⟩
 ·refine ⟨_,rfl,rfl,_,rfl,?_⟩
  cases c:a1G n rs with
  | some k =>
   rw [c] at f1
   obtain ⟨p,rfl,e⟩:=id f1
   exact iteF ⟨_,rfl,s1,f1⟩
  | none =>
   rw [c] at f1
   cases (show v1=V.non from f1)
   refine iteT ?_
   refine ⟨_,rfl,pg,_,_,_,rfl,rfl,s1.tupq hT,rfl,_,rfl,n,a,rs,rfl,hn,hR.same s1,λ v2 H2 s2 f2=>?_⟩
   exact ⟨v2,rfl,s1.trans s2,f2⟩
 rintro σ2 H2 ⟨v2,rfl,s2,f2⟩
 refine ⟨λ σ' H'=>∃ v,σ'=[some (.ref pg),some (.ref a),some v]/\Same H H'/\FltV H' v (match a1G n rs with | some k=>.row k | none=>(match a1J n rs with | some v=>.place v | none=>(match a2C ts rs with | some t=>.tie t.1 t.2 | none=>.ok))),?_,?_⟩
 ·refine ⟨_,rfl,rfl,_,rfl,?_⟩
  cases c:a1G n rs with
  | some k =>
   rw [c] at f2
   obtain ⟨p,rfl,e⟩:=id f2
   exact iteF ⟨_,rfl,s2,f2⟩
  | none =>
   rw [c] at f2
   cases c2:a1J n rs with
   | some k =>
    rw [c2] at f2
    obtain ⟨p,rfl,e⟩:=id f2
    exact iteF ⟨_,rfl,s2,f2⟩
   | none =>
    rw [c2] at f2
    cases (show v2=V.non from f2)
    refine iteT ?_
    refine ⟨_,rfl,pg,_,_,_,rfl,rfl,s2.tupq hT,rfl,_,rfl,tl,a,ts,rs,rfl,hTs.same s2,hR.same s2,λ v3 H3 s3 f3=>?_⟩
    exact ⟨v3,rfl,s2.trans s3,f3⟩
 rintro σ3 H3 ⟨v3,rfl,s3,f3⟩
 refine ⟨λ σ' H'=>∃ v,σ'=[some (.ref pg),some (.ref a),some v]/\Same H H'/\FltV H' v (a2T n ts rs),?_,?_⟩
 ·refine ⟨_,rfl,rfl,_,rfl,?_⟩
  unfold a2T
  cases c:a1G n rs with
  | some k =>
   rw [c] at f3
   obtain ⟨p,rfl,e⟩:=id f3
   exact iteF ⟨_,rfl,s3,f3⟩
  | none =>
   rw [c] at f3
   cases c2:a1J n rs with
   | some k =>
    rw [c2] at f3
    obtain ⟨p,rfl,e⟩:=id f3
    exact iteF ⟨_,rfl,s3,f3⟩
   | none =>
    rw [c2] at f3
    cases c3:a2C ts rs with
    | some k =>
     rw [c3] at f3
     obtain ⟨p,rfl,e⟩:=id f3
     exact iteF ⟨_,rfl,s3,f3⟩
    | none =>
     rw [c3] at f3
     cases (show v3=V.non from f3)
     refine iteT ?_
     refine ⟨_,rfl,pg,_,_,_,rfl,rfl,s3.tupq hT,rfl,_,rfl,n,a,rs,rfl,hn,hR.same s3,d0G c,λ v4 H4 s4 f4=>?_⟩
     exact ⟨v4,rfl,s3.trans s4,f4⟩
 rintro σ4 H4 ⟨v4,rfl,s4,f4⟩
 exact ⟨_,rfl,q v4 H4 s4 f4⟩
end
def a2R (xs ys:List Int):List Int:=xs.filter λ v=>!decide (v∈ys)
def c4K (K:Φρ):Sp:=λ vs H Q _=>∃ (a b:Addr) (xs ys:List Int),vs=[.ref a,.ref b]/\SqL K H a (xs.map V.int)/\SqL K H b (ys.map V.int)/\xs.length<=1000 /\
 ∀ H0 p H',Same H H0->New H0 p (.lst ((a2R xs ys).map V.int)) H'->Q (.ref p) H'
theorem c4L (xs:List Int) (c:Int->Bool):(xs.map V.int).filterMap (λ x=>match x with | .int v=>if c v then some (.int v) else none | _=>none)=(xs.filter c).map V.int:=by
 induction xs with
 | nil=>rfl
 | cons x r ih =>
  rw [List.map_cons,List.filter_cons]
  cases e:c x with
  | true=>rw [List.filterMap_cons_some (by simp only [e]; rfl),ih]; simp
  | false=>rw [List.filterMap_cons_none (by simp only [e]; rfl),ih]; simp
abbrev b5J:Stmt:=top 22
theorem b3Z:FnScope ["one", "other"] ["one", "other"] (a0F b5J):=⟨rfl,rfl,rfl,by decide +kernel,rfl,by decide +kernel,by decide +kernel⟩
section
variable {P:Program} {w:World} {K:Φρ} {mg:Str->Option Value} {base:Heap}
abbrev DZ22 (K:PySem.W.Frag) (mg:Str->Option Value):=Dn K mg "less" b5J ["one", "other"]
set_option maxHeartbeats 4000000 in
theorem b4A (B:Bl mg) (dZ22:DZ22 K mg):FnOk P w K mg base CX0 1 dZ22.f dZ22.fd ["one", "other"] (c4K K):=by
 refine dZ22.F.ok b3Z (λ vs H Q E h=>?_) (λ cdv A outer s H vs Q E hr h=>?_)
 ·obtain ⟨a,b,xs,ys,rfl,_⟩:=h
  rfl
 obtain ⟨a,b,xs,ys,rfl,hA,hB,hz,q⟩:=h
 have hv:(A.deeper (PyProof.Rows.envOfC "less" (a0F b5J) s.heap.objs.size dZ22.f cdv)).units+65 < cLine:=by have:=hr.un; omega
 refine ⟨_,(a0E (a0P (a2P ["v", "other"] [none,some 1]  (by kernel_rfl) rfl (a1A (K:=K) rfl (pv 0)) (λ _ _ _ _ _=>(a0H (i:=0) (show (["v", "other"]:List Str).Nodup by decide +kernel) rfl (Or.inl rfl))) (λ _ _ _ _ _=>(a2U (a0J (a2G (K:=K) rfl hv) (pv 0) (pv 1) (by with_unfolding_all rfl)))) (λ _ _ _ _ _=>(pv 0))))),?_⟩
 refine ⟨_,rfl,a,rfl,⟨_,hA⟩,?_⟩
 refine a7Y (λ x=>match x with | .int v=>if !decide (v∈ys) then some (.int v) else none | _=>none) hA (by rw [List.length_map]; exact hz) (λ x H1 N hx sm hN=>?_) (λ H1 p H1' sm hp=>?_)
 ·obtain ⟨v,hv,rfl⟩:=List.mem_map.mp hx
  have hN':=hN H1 sm
  refine ⟨_,rfl,_,rfl,a5Y (sm.seq hB) ⟨_,rfl,?_⟩⟩
  dsimp only at hN'
  cases c:decide (v∈ys) with
  | true=>rw [c] at hN'; exact iteF hN'
  | false=>rw [c] at hN'; exact iteT ⟨_,rfl,hN'⟩
 ·rw [c4L] at hp
  exact q _ _ _ sm hp
end
inductive Stp where
 | leaf
 | inn (v:Int)
 | tie (a b:Int)
 | out (v:Int)
 | join
deriving DecidableEq
def Stp.vs:Stp->List V
 | .leaf=>[.str "leaf"]
 | .inn v=>[.str "in", .int v]
 | .tie a b=>[.str "tie", .int a,.int b]
 | .out v=>[.str "out", .int v]
 | .join=>[.str "join"]
def Stp.d:Stp->PyData
 | .leaf=>.tuple [.str "leaf"]
 | .inn v=>.tuple [.str "in", .int v]
 | .tie a b=>.tuple [.str "tie", .int a,.int b]
 | .out v=>.tuple [.str "out", .int v]
 | .join=>.tuple [.str "join"]
def Stp.word:Stp->Str
 | .leaf=>"leaf"
 | .inn _=>"in"
 | .tie _ _=>"tie"
 | .out _=>"out"
 | .join=>"join"
def Stp.need:Stp->Nat
 | .leaf=>0
 | .join=>2
 | _=>1
def StpV (K:Φρ) (H:Hp) (v:V) (s:Stp):Prop:=∃ p,v = .ref p/\SqT K H p s.vs
theorem StpV.same {K:Φρ} {H H':Hp} {v:V} {s:Stp} (e:Same H H') (h:StpV K H v s):StpV K H' v s:=by
 obtain ⟨p,rfl,h⟩:=h
 exact ⟨p,rfl,e.tupq h⟩
theorem StpV.isD {K:Φρ} {H:Hp} {v:V} {s:Stp} (h:StpV K H v s):IsD K H v s.d:=by
 obtain ⟨p,rfl,h⟩:=h
 cases s with
 | leaf=>exact .tup h (.cons (.str _) .nil)
 | inn v=>exact .tup h (.cons (.str _) (.cons (.int _) .nil))
 | tie a b=>exact .tup h (.cons (.str _) (.cons (.int _) (.cons (.int _) .nil)))
 | out v=>exact .tup h (.cons (.str _) (.cons (.int _) .nil))
 | join=>exact .tup h (.cons (.str _) .nil)
theorem b9M:valV b2H (.inr "leaf")=some (.int 0):=by decide +kernel
theorem c6Z:valV b2H (.inr "in")=some (.int 1):=by decide +kernel
theorem c2W:valV b2H (.inr "tie")=some (.int 1):=by decide +kernel
theorem c2X:valV b2H (.inr "out")=some (.int 1):=by decide +kernel
theorem b9N:valV b2H (.inr "join")=some (.int 2):=by decide +kernel
theorem c7A (s:Stp):valV b2H (.inr s.word)=some (.int (s.need:Int)):=by
 cases s with
 | leaf=>exact b9M
 | inn v=>exact c6Z
 | tie a b=>exact c2W
 | out v=>exact c2X
 | join=>exact b9N
theorem c7B (s:Stp):atI s.vs ((0:Nat):Int)=some (.str s.word):=by cases s <;> rfl
theorem d0H:∀ x∈["leaf", "in", "tie", "out", "join"],PyData.strOk (Str.ofString x)=true:=by decide +kernel
theorem b9O (s:Stp):s.d.canLay0=true:=by
 have h:=d0H
 cases s with
 | leaf=>simp [Stp.d,PyData.canLay0,PyData.canLayAll0,h]
 | inn v=>simp [Stp.d,PyData.canLay0,PyData.canLayAll0,h]
 | tie a b=>simp [Stp.d,PyData.canLay0,PyData.canLayAll0,h]
 | out v=>simp [Stp.d,PyData.canLay0,PyData.canLayAll0,h]
 | join=>simp [Stp.d,PyData.canLay0,PyData.canLayAll0,h]
theorem b2L (s:Stp):s.d.depth<=1:=by cases s <;> simp [Stp.d,PyData.depth,PyData.depthAll]
theorem b6Z (s:Stp):SeqAt.shaped s.d=true:=by
 unfold SeqAt.shaped
 rw [b9O,Bool.true_and]
 exact decide_eq_true (by have:=b2L s; omega)
theorem b4B (ss:List Stp):SeqAt.shaped (.list (ss.map Stp.d))=true:=by
 unfold SeqAt.shaped
 rw [PyData.canLay0,b0K b9O,PyData.depth,Bool.true_and]
 exact decide_eq_true (by have:=a4Q b2L ss; omega)
def Stp.tag:Stp->Nat
 | .leaf=>0
 | .inn _=>1
 | .tie _ _=>2
 | .out _=>3
 | .join=>4
def Stp.args:Stp->List Int
 | .leaf=>[]
 | .inn v=>[v]
 | .tie a b=>[a,b]
 | .out v=>[v]
 | .join=>[]
def b4C (i:Nat):Str:=Str.ofString (["leaf", "in", "tie", "out", "join"].getD i "")
theorem b5K:∀ i,i < 5->∀ j,j < 5->(b4C i == b4C j)=decide (i=j):=by decide +kernel
theorem b5L (s:Stp):s.word=b4C s.tag:=by cases s <;> rfl
theorem c4M (s:Stp):s.tag < 5:=by cases s <;> simp [Stp.tag]
theorem d0I (s:Stp):s.d = .tuple (.str s.word::s.args.map PyData.int):=by cases s <;> rfl
theorem d0J {s t:Stp} (h:s.tag=t.tag) (a:s.args=t.args):s=t:=by
 cases s <;> cases t <;> simp_all [Stp.tag,Stp.args]
theorem a8J:∀ xs ys:List Int,PyData.eqvAll (xs.map PyData.int) (ys.map PyData.int)=decide (xs=ys)
 | [],[]=>by simp [PyData.eqvAll]
 | [],_::_=>by simp [PyData.eqvAll]
 | _::_,[]=>by simp [PyData.eqvAll]
 | x::xs,y::ys=>by
  rw [List.map_cons,List.map_cons,PyData.eqvAll,a8J xs ys,PyData.eqv,Bool.eq_iff_iff]
  simp
theorem b9P (s t:Stp):PyData.eqv s.d t.d=decide (s=t):=by
 rw [d0I,d0I,PyData.eqv,PyData.eqvAll,a8J,PyData.eqv,b5L,b5L,b5K _ (c4M s) _ (c4M t),Bool.eq_iff_iff,Bool.and_eq_true,decide_eq_true_iff,decide_eq_true_iff,decide_eq_true_iff]
 exact ⟨λ h=>d0J h.1 h.2,λ h=>by rw [h]; exact ⟨rfl,rfl⟩⟩
theorem c7C (ss:List Stp) (t:Stp):(ss.map Stp.d).any (λ e=>PyData.eqv e t.d)=decide (t∈ss):=by
 rw [List.any_map,Bool.eq_iff_iff,List.any_eq_true,decide_eq_true_iff]
 constructor
 ·rintro ⟨x,hx,e⟩
  have:PyData.eqv x.d t.d=true:=e
  rw [b9P] at this
  exact of_decide_eq_true this ▸ hx
 ·exact λ h=>⟨t,h,by show PyData.eqv t.d t.d=true; rw [b9P]; exact decide_eq_true rfl⟩
end K
namespace K
open PySem L2 Lw Bg
abbrev natV (l:List Nat):List V:=l.map λ (x:Nat)=>V.int (x:Int)
theorem c7D {l:List Nat} {j:Nat} (h:j < l.length):atI (natV l) (j:Int)=some (.int ((l.getD j 0:Nat):Int)):=a1M (by
 unfold natV
 rw [List.getElem?_map,List.getElem?_eq_getElem h,τα,List.getElem?_eq_getElem h]; rfl)
structure Tree (n:Nat) (rs:List Row):Prop where
 pos:0 < rs.length
 len:rs.length<=40
 ok:∀ k < rs.length,a2Q n rs k=true
 cov:∀ v:Int,0<=v->v < (n:Int)->∃ r∈rs,v∈r.2
 tops:∀ v:Int,(a3D rs v).length<=1
theorem a9U {n:Nat} {ts:List ζζ} {rs:List Row} (T:Tree n rs) (ht:∀ t∈ts,∃ r∈rs,t.1∈r.2/\t.2∈r.2):a2T n ts rs = .ok:=by
 have e1:a1G n rs=none:=by
  unfold a1G
  have hne:rs.isEmpty=false:=by
   have:=T.pos
   cases rs with
   | nil=>exact absurd this (Nat.not_lt_zero _)
   | cons _ _=>rfl
  rw [hne]
  exact List.find?_eq_none.mpr λ j hj=>by rw [T.ok j (List.mem_range.mp hj)]; simp
 have e2:a1J n rs=none:=by
  unfold a1J
  refine List.find?_eq_none.mpr λ j hj=>?_
  have hj':=List.mem_range.mp hj
  obtain ⟨r,hr,hv⟩:=T.cov (j:Int) (by omega) (by omega)
  have:(rs.any (has (j:Int)))=true:=List.any_eq_true.mpr ⟨r,hr,decide_eq_true hv⟩
  rw [this]
  simp
 have e3:a2C ts rs=none:=by
  unfold a2C
  refine List.find?_eq_none.mpr λ t hm=>?_
  obtain ⟨r,hr,h1,h2⟩:=ht t hm
  have:(rs.any λ r=>has t.1 r && has t.2 r)=true:=List.any_eq_true.mpr ⟨r,hr,by unfold has; rw [decide_eq_true h1,decide_eq_true h2]; rfl⟩
  rw [this]
  simp
 have e4:a2B n rs=none:=by
  unfold a2B
  refine a4D λ v hv=>?_
  have:=T.tops (v:Int)
  unfold a4O
  match e:a3D rs (v:Int),this with
  | [],_=>rfl
  | [x],_=>rfl
 unfold a2T
 rw [e1,e2,e3,e4]
theorem a1E {rs:List Row} {r:Row} {k:Nat} (h:k < rs.length):a0I (rs++[r]) k=a0I rs k:=by
 unfold a0I
 rw [τα,τα,List.getElem?_append_left h]
theorem a1T {rs:List Row} {r:Row}:a0I (rs++[r]) rs.length=r:=by
 unfold a0I
 rw [τα,List.getElem?_append_right (Nat.le_refl _)]
 simp
theorem a6B {rs:List Row} {r:Row} {i j:Nat} (hi:i < rs.length):a0I (rs.set i r) j=if j=i then r else a0I rs j:=by
 unfold a0I
 rw [τα,τα,List.getElem?_set]
 by_cases h:i=j
 ·subst h; rw [if_pos rfl,if_pos hi,if_pos rfl]; rfl
 ·rw [if_neg h,if_neg (Ne.symm h)]
theorem b9Q {rs:List Row} {r:Row} (h:r∈rs):∃ k,k < rs.length/\a0I rs k=r:=by
 obtain ⟨k,hk,e⟩:=List.getElem_of_mem h
 exact ⟨k,hk,a3L (by rw [List.getElem?_eq_getElem hk,e])⟩
def dueF (p:Int->Bool) (i:Nat):List Int:=((List.range i).map λ j=>((j:Nat):Int)).filter p
theorem c7E (p:Int->Bool) (i:Nat):(dueF p i).length<=i:=by
 unfold dueF
 refine Nat.le_trans (List.length_filter_le _ _) ?_
 simp
theorem d0K (p:Int->Bool) (i:Nat):(dueF p i).Pairwise (· < ·):=by
 unfold dueF
 refine List.Pairwise.filter _ ?_
 rw [List.pairwise_map]
 exact List.pairwise_lt_range.imp λ h=>by omega
theorem c7F {p:Int->Bool} {i:Nat} {v:Int}:v∈dueF p i↔0<=v/\v < i/\p v=true:=by
 unfold dueF
 rw [List.mem_filter,List.mem_map]
 constructor
 ·rintro ⟨⟨j,hj,rfl⟩,h⟩
  have:=List.mem_range.mp hj
  exact ⟨by omega,by omega,h⟩
 ·rintro ⟨h0,h1,h⟩
  exact ⟨⟨v.toNat,List.mem_range.mpr (by omega),by omega⟩,h⟩
theorem d0L {n:Nat} {xs:List Int} (hn:n<=10) (h:setF n xs=true):xs.length<=10:=by
 obtain ⟨h1,h2⟩:=(a3U _ _).mp h
 have e:xs=dueF (λ v=>decide (v∈xs)) n:=c6I h2 (d0K _ _) λ v=>by
  rw [c7F]
  constructor
  ·intro hv
   have:=h1 v hv
   exact ⟨this.1,this.2,decide_eq_true hv⟩
  ·rintro ⟨_,_,hv⟩; exact of_decide_eq_true hv
 rw [e]
 exact Nat.le_trans (c7E _ _) hn
def c2Y (rs:List Row):Prop:=∀ j,j < rs.length->∀ u,(a0I rs j).1=some u->0<=u/\u.toNat < j
theorem a8K {n:Int} {rs:List Row} (ok:∀ k < rs.length,a2Q n rs k=true):c2Y rs:=λ j hj u e=>by
 have o:=ok j hj
 unfold a2Q upOk at o
 rw [Bool.and_eq_true] at o
 by_cases z:j=0
 ·rw [if_pos z,e] at o; cases o.1
 ·rw [if_neg z,e] at o
  have b:=of_decide_eq_true o.1
  omega
theorem isTop_iff {rs:List Row} {v:Int} {j:Nat}:a3G rs v j=true↔v∈(a0I rs j).2/\a6M rs (a0I rs j).1 v=false:=by
 unfold a3G has
 rw [Bool.and_eq_true,decide_eq_true_iff]
 constructor
 ·rintro ⟨a,b⟩; exact ⟨a,by simpa using b⟩
 ·rintro ⟨a,b⟩; exact ⟨a,by rw [b]; rfl⟩
theorem b0Q {rs:List Row} {v:Int} (h:(a3D rs v).length<=1) {s t:Nat} (hs:s < rs.length) (ts:a3G rs v s=true) (ht:t < rs.length) (tt:a3G rs v t=true):s=t:=by
 have m1:s∈a3D rs v:=List.mem_filter.mpr ⟨List.mem_range.mpr hs,ts⟩
 have m2:t∈a3D rs v:=List.mem_filter.mpr ⟨List.mem_range.mpr ht,tt⟩
 match e:a3D rs v,h with
 | [],_=>rw [e] at m1; cases m1
 | [x],_ =>
  rw [e] at m1 m2
  rw [List.mem_singleton.mp m1,List.mem_singleton.mp m2]
theorem c4N {rs:List Row} {v:Int} (U:c2Y rs):∀ j,j < rs.length->v∈(a0I rs j).2->∃ t,t<=j/\a3G rs v t=true:=by
 intro j
 induction j using Nat.strongRecOn with
 | ind j ih =>
  intro hj hv
  cases h:a6M rs (a0I rs j).1 v with
  | false=>exact ⟨j,Nat.le_refl _,isTop_iff.mpr ⟨hv,h⟩⟩
  | true =>
   cases e:(a0I rs j).1 with
   | none=>rw [e] at h; cases h
   | some w =>
    have b:=U j hj w e
    have hw:v∈(a0I rs w.toNat).2:=by
     rw [e] at h
     exact of_decide_eq_true h
    obtain ⟨t,ht,top⟩:=ih w.toNat b.2 (by omega) hw
    exact ⟨t,by omega,top⟩
theorem c4O {rs:List Row} {v:Int} (U:c2Y rs) (h1:(a3D rs v).length<=1) {j k u:Nat} (hj:j < rs.length) (hk:k < j) (vj:v∈(a0I rs j).2) (vk:v∈(a0I rs k).2) (eu:(a0I rs j).1=some (u:Int)):v∈(a0I rs u).2:=by
 apply Classical.byContradiction
 intro c
 have hf:a6M rs (a0I rs j).1 v=false:=by
  rw [eu]
  unfold a6M
  dsimp only
  rw [Int.toNat_natCast]
  exact decide_eq_false c
 obtain ⟨t,ht,top⟩:=c4N U k (by omega) vk
 have:=b0Q h1 hj (isTop_iff.mpr ⟨vj,hf⟩) (by omega) top
 omega
theorem pigT {α:Type} [DecidableEq α]:∀ {l U:List α},l.Nodup->(∀ x∈l,x∈U)->l.length<=U.length
 | [],_,_,_=>Nat.zero_le _
 | x::r,U,h,s=>by
  have h':=List.nodup_cons.mp h
  have hx:=s x List.mem_cons_self
  have:=List.length_erase_of_mem hx
  have p:=List.length_pos_of_mem hx
  have ih:=pigT (l:=r) (U:=U.erase x) h'.2 λ y hy=>(List.mem_erase_of_ne (λ (e:y=x)=>h'.1 (e ▸ hy))).mpr (s y (List.mem_cons_of_mem _ hy))
  rw [List.length_cons]; omega
structure Tidy (rs:List Row) (i:Nat) (R:List Row) (sp:List Nat):Prop where
 len:sp.length=i
 few:R.length<=i
 lt:∀ j,j < i->sp.getD j 0 < R.length
 mem:∀ r,r < R.length->∀ v,v∈(a0I R r).2↔∃ j,j < i/\sp.getD j 0=r/\v∈(a0I rs j).2
 own:∀ r,r < R.length->∃ j,j < i/\sp.getD j 0=r/\(a0I R r).2=(a0I rs j).2
 up0:0 < R.length->(a0I R 0).1=none
 ups:∀ r,r < R.length->r≠0->∃ q:Nat,(a0I R r).1=some (q:Int)/\q < r
 hang:∀ j,j < i->∀ u:Nat,(a0I rs j).1=some (u:Int)->sp.getD u 0=sp.getD j 0\/(a0I R (sp.getD j 0)).1=some ((sp.getD u 0:Nat):Int)
 cross:∀ r,r < R.length->∀ q:Nat,(a0I R r).1=some (q:Int)->(∃ x∈(a0I R r).2,x ∉ (a0I R q).2)/\∃ y∈(a0I R q).2,y ∉ (a0I R r).2
theorem a7D {sp:List Nat} {x j:Nat} (h:j < sp.length):(sp++[x]).getD j 0=sp.getD j 0:=by
 rw [τα,τα,List.getElem?_append_left h]
theorem a7E {sp:List Nat} {x:Nat}:(sp++[x]).getD sp.length 0=x:=by
 rw [τα,List.getElem?_append_right (Nat.le_refl _),Nat.sub_self]; rfl
theorem c2Z (rs:List Row):Tidy rs 0 [] [] :=
 ⟨rfl,Nat.le_refl _,λ j h=>absurd h (Nat.not_lt_zero _),λ r h=>absurd h (Nat.not_lt_zero _),λ r h=>absurd h (Nat.not_lt_zero _),λ h=>absurd h (Nat.not_lt_zero _),λ r h=>absurd h (Nat.not_lt_zero _),λ j h=>absurd h (Nat.not_lt_zero _),λ r h=>absurd h (Nat.not_lt_zero _)⟩
theorem b5M {rs:List Row} {i:Nat} {R:List Row} {sp:List Nat} {u:Option Int} (D:Tidy rs i R sp) (U:c2Y rs) (hi:i < rs.length)
  (hu:match u with | none=>R.length=0/\(a0I rs i).1=none | some s=>∃ w:Nat,w < i/\(a0I rs i).1=some (w:Int)/\s=((sp.getD w 0:Nat):Int)/\(∃ x∈(a0I rs i).2,x ∉ (a0I R (sp.getD w 0)).2)/\∃ y∈(a0I R (sp.getD w 0)).2,y ∉ (a0I rs i).2) :
  Tidy rs (i+1) (R++[(u,(a0I rs i).2)]) (sp++[R.length]):=by
 have l:=D.len
 have old:∀ j,j < i->(sp++[R.length]).getD j 0=sp.getD j 0:=λ j hj=>a7D (by omega)
 have new:(sp++[R.length]).getD i 0=R.length:=by rw [<- l]; exact a7E
 have L:(R++[(u,(a0I rs i).2)]).length=R.length+1:=by rw [List.length_append]; rfl
 refine ⟨by rw [List.length_append,l]; rfl,by rw [L]; have:=D.few; omega,λ j hj=>?_,λ r hr v=>?_,λ r hr=>?_,λ _=>?_,λ r hr r0=>?_,λ j hj w ew=>?_,λ r hr q eq=>?_⟩
 ·rw [L]
  by_cases c:j=i
  ·subst c; rw [new]; omega
  ·rw [old j (by omega)]; have:=D.lt j (by omega); omega
 ·rw [L] at hr
  by_cases c:r=R.length
  ·subst c
   rw [a1T]
   constructor
   ·intro h; exact ⟨i,by omega,new,h⟩
   ·rintro ⟨j,hj,e,h⟩
    by_cases d:j=i
    ·subst d; exact h
    ·rw [old j (by omega)] at e
     have:=D.lt j (by omega)
     omega
  ·rw [a1E (by omega),D.mem r (by omega)]
   constructor
   ·rintro ⟨j,hj,e,h⟩; exact ⟨j,by omega,by rw [old j hj]; exact e,h⟩
   ·rintro ⟨j,hj,e,h⟩
    by_cases d:j=i
    ·subst d; rw [new] at e; omega
    ·exact ⟨j,by omega,by rw [<- old j (by omega)]; exact e,h⟩
 ·rw [L] at hr
  by_cases c:r=R.length
  ·subst c
   exact ⟨i,by omega,new,by rw [a1T]⟩
  ·obtain ⟨j,hj,e,h⟩:=D.own r (by omega)
   exact ⟨j,by omega,by rw [old j hj]; exact e,by rw [a1E (by omega)]; exact h⟩
 ·by_cases c:R.length=0
  ·have e:R=[]:=List.eq_nil_of_length_eq_zero c
   subst e
   cases u with
   | none=>rfl
   | some s =>
    obtain ⟨w,hw,_⟩:=hu
    have:=D.lt w hw
    exact absurd this (Nat.not_lt_zero _)
  ·rw [a1E (by omega)]; exact D.up0 (by omega)
 ·rw [L] at hr
  by_cases c:r=R.length
  ·subst c
   rw [a1T]
   cases u with
   | none=>exact absurd hu.1 r0
   | some s =>
    obtain ⟨w,hw,_,rfl,_⟩:=hu
    exact ⟨_,rfl,D.lt w hw⟩
  ·rw [a1E (by omega)]; exact D.ups r (by omega) r0
 ·by_cases d:j=i
  ·subst d
   right
   rw [new,a1T]
   cases u with
   | none=>rw [hu.2] at ew; cases ew
   | some s =>
    obtain ⟨w',hw,e1,e2,_⟩:=hu
    rw [e1] at ew
    have:w'=w:=by injection ew with ew; omega
    subst this
    rw [old w' hw,e2]
  ·have b:=U j (by omega) _ ew
   have hw:w < j:=by omega
   rw [old j (by omega),old w (by omega)]
   rcases D.hang j (by omega) w ew with h | h
   ·exact .inl h
   ·exact .inr (by rw [a1E (D.lt j (by omega))]; exact h)
 ·rw [L] at hr
  by_cases c:r=R.length
  ·subst c
   rw [a1T] at eq ⊢
   cases u with
   | none=>cases eq
   | some s =>
    obtain ⟨w,hw,_,e2,hx,hy⟩:=hu
    have eq':s=(q:Int):=by injection eq
    have:q=sp.getD w 0:=by omega
    subst this
    rw [a1E (D.lt w hw)]
    exact ⟨hx,hy⟩
  ·rw [a1E (by omega)] at eq ⊢
   have ql:q < R.length:=by
    by_cases r0:r=0
    ·subst r0; rw [D.up0 (by omega)] at eq; cases eq
    ·obtain ⟨q',e,h⟩:=D.ups r (by omega) r0
     rw [e] at eq
     injection eq with eq
     omega
   rw [a1E ql]
   exact D.cross r (by omega) q eq
theorem b5N {n:Nat} {rs:List Row} {i w:Nat} {R R':List Row} {sp:List Nat} (T:Tree n rs) (D:Tidy rs i R sp) (hi:i < rs.length) (hw:w < i) (ew:(a0I rs i).1=some (w:Int))
  (hR:(R'=R/\∀ v∈(a0I rs i).2,v∈(a0I R (sp.getD w 0)).2)\/(R'=R.set (sp.getD w 0) ((a0I R (sp.getD w 0)).1,(a0I rs i).2)/\∀ v∈(a0I R (sp.getD w 0)).2,v∈(a0I rs i).2)) :
  Tidy rs (i+1) R' (sp++[sp.getD w 0]):=by
 have U:=a8K T.ok
 have l:=D.len
 have hs:=D.lt w hw
 have old:∀ j,j < i->(sp++[sp.getD w 0]).getD j 0=sp.getD j 0:=λ j hj=>a7D (by omega)
 have new:(sp++[sp.getD w 0]).getD i 0=sp.getD w 0:=by rw [<- l]; exact a7E
 have L:R'.length=R.length:=by rcases hR with ⟨rfl,_⟩ | ⟨rfl,_⟩ <;> simp
 have one:∀ r,(a0I R' r).1=(a0I R r).1:=λ r=>by
  rcases hR with ⟨rfl,_⟩ | ⟨rfl,_⟩
  ·rfl
  ·rw [a6B hs]; split
   ·rename_i c; rw [c]
   ·rfl
 have away:∀ r,r≠sp.getD w 0->(a0I R' r).2=(a0I R r).2:=λ r c=>by
  rcases hR with ⟨rfl,_⟩ | ⟨rfl,_⟩
  ·rfl
  ·rw [a6B hs,if_neg c]
 have here:∀ v,v∈(a0I R' (sp.getD w 0)).2↔v∈(a0I R (sp.getD w 0)).2\/v∈(a0I rs i).2:=λ v=>by
  rcases hR with ⟨rfl,h⟩ | ⟨rfl,h⟩
  ·exact ⟨.inl,λ z=>z.elim id (h v)⟩
  ·rw [a6B hs,if_pos rfl]
   exact ⟨.inr,λ z=>z.elim (h v) id⟩
 have near:∀ r,r < R.length->r≠sp.getD w 0->∀ y∈(a0I R r).2,y ∉ (a0I R (sp.getD w 0)).2->y ∉ (a0I R' (sp.getD w 0)).2:=λ r hr c y hy ny z=>by
  rcases (here y).mp z with z | z
  ·exact ny z
  ·obtain ⟨j,hj,_,hyj⟩:=(D.mem r hr y).mp hy
   have:=c4O U (T.tops y) hi hj z hyj ew
   exact ny ((D.mem _ hs y).mpr ⟨w,hw,rfl,this⟩)
 refine ⟨by rw [List.length_append,l]; rfl,by rw [L]; have:=D.few; omega,λ j hj=>?_,λ r hr v=>?_,λ r hr=>?_,λ h=>?_,λ r hr r0=>?_,λ j hj u eu=>?_,λ r hr q eq=>?_⟩
 ·rw [L]
  by_cases c:j=i
  ·subst c; rw [new]; exact hs
  ·rw [old j (by omega)]; exact D.lt j (by omega)
 ·rw [L] at hr
  have st:(∃ j,j < i+1/\(sp++[sp.getD w 0]).getD j 0=r/\v∈(a0I rs j).2)↔(∃ j,j < i/\sp.getD j 0=r/\v∈(a0I rs j).2)\/(r=sp.getD w 0/\v∈(a0I rs i).2):=by
   constructor
   ·rintro ⟨j,hj,e,h⟩
    by_cases d:j=i
    ·subst d; rw [new] at e; exact .inr ⟨e.symm,h⟩
    ·exact .inl ⟨j,by omega,by rw [<- old j (by omega)]; exact e,h⟩
   ·rintro (⟨j,hj,e,h⟩ | ⟨e,h⟩)
    ·exact ⟨j,by omega,by rw [old j hj]; exact e,h⟩
    ·exact ⟨i,by omega,by rw [new,e],h⟩
  rw [st,<- D.mem r hr]
  by_cases c:r=sp.getD w 0
  ·subst c
   rw [here]
   constructor
   ·rintro (h | h)
    ·exact .inl h
    ·exact .inr ⟨rfl,h⟩
   ·rintro (h | ⟨_,h⟩)
    ·exact .inl h
    ·exact .inr h
  ·rw [away r c]
   exact ⟨.inl,λ z=>z.elim id λ z=>absurd z.1 c⟩
 ·rw [L] at hr
  obtain ⟨j,hj,e,h⟩:=D.own r hr
  by_cases c:r=sp.getD w 0
  ·rcases hR with ⟨rfl,_⟩ | ⟨rfl,_⟩
   ·exact ⟨j,by omega,by rw [old j hj]; exact e,h⟩
   ·refine ⟨i,by omega,by rw [new,c],?_⟩
    rw [c,a6B hs,if_pos rfl]
  ·exact ⟨j,by omega,by rw [old j hj]; exact e,by rw [away r c]; exact h⟩
 ·rw [one]; exact D.up0 (by omega)
 ·rw [one]; exact D.ups r (by omega) r0
 ·by_cases d:j=i
  ·subst d
   rw [ew] at eu
   have:w=u:=by injection eu with eu; omega
   subst this
   left
   rw [new,old w hw]
  ·have b:=U j (by omega) _ eu
   have hu:u < j:=by omega
   rw [old j (by omega),old u (by omega),one]
   exact D.hang j (by omega) u eu
 ·rw [L] at hr
  rw [one] at eq
  have ql:q < r:=by
   by_cases r0:r=0
   ·subst r0; rw [D.up0 (by omega)] at eq; cases eq
   ·obtain ⟨q',e,h⟩:=D.ups r (by omega) r0
    rw [e] at eq
    injection eq with eq
    omega
  obtain ⟨⟨x,hx,nx⟩,y,hy,ny⟩:=D.cross r hr q eq
  by_cases c:r=sp.getD w 0
  ·have cq:q≠sp.getD w 0:=by omega
   rw [away q cq]
   subst c
   exact ⟨⟨x,(here x).mpr (.inl hx),nx⟩,y,hy,near q (by omega) cq y hy ny⟩
  ·rw [away r c]
   by_cases d:q=sp.getD w 0
   ·subst d
    exact ⟨⟨x,hx,near r hr c x hx nx⟩,y,(here y).mpr (.inl hy),ny⟩
   ·rw [away q d]
    exact ⟨⟨x,hx,nx⟩,y,hy,ny⟩
theorem b2M {n:Nat} {rs:List Row} {R:List Row} {sp:List Nat} (T:Tree n rs) (D:Tidy rs rs.length R sp) (v:Int) {r:Nat} (hr:r < R.length) (ht:a3G R v r=true):∃ j,j < rs.length/\sp.getD j 0=r/\a3G rs v j=true:=by
 obtain ⟨h1,h2⟩:=isTop_iff.mp ht
 obtain ⟨j0,hj0,e0,hv0⟩:=(D.mem r hr v).mp h1
 have U:=a8K T.ok
 have go:∀ j,j < rs.length->sp.getD j 0=r->v∈(a0I rs j).2->∃ j,j < rs.length/\sp.getD j 0=r/\a3G rs v j=true:=by
  intro j
  induction j using Nat.strongRecOn with
  | ind j ih =>
   intro hj ej hv
   cases h:a6M rs (a0I rs j).1 v with
   | false=>exact ⟨j,hj,ej,isTop_iff.mpr ⟨hv,h⟩⟩
   | true =>
    cases e:(a0I rs j).1 with
    | none=>rw [e] at h; cases h
    | some w =>
     have b:=U j hj w e
     have hw:v∈(a0I rs w.toNat).2:=by
      rw [e] at h
      exact of_decide_eq_true h
     have e':(a0I rs j).1=some ((w.toNat:Nat):Int):=by rw [e]; congr 1; omega
     rcases D.hang j hj w.toNat e' with z | z
     ·exact ih w.toNat b.2 (by omega) (z.trans ej) hw
     ·exfalso
      rw [ej] at z
      rw [z] at h2
      have m:=(D.mem _ (D.lt w.toNat (by omega)) v).mpr ⟨w.toNat,by omega,rfl,hw⟩
      have:a6M R (some ((sp.getD w.toNat 0:Nat):Int)) v=true:=by
       show has v (a0I R (((sp.getD w.toNat 0:Nat):Int)).toNat)=true
       rw [Int.toNat_natCast]
       exact decide_eq_true m
      rw [this] at h2
      cases h2
 exact go j0 hj0 e0 hv0
theorem b2N {n:Nat} {rs:List Row} {R:List Row} {sp:List Nat} (T:Tree n rs) (D:Tidy rs rs.length R sp):Tree n R:=by
 have pos:=D.lt 0 T.pos
 refine ⟨by omega,by have:=D.few; have:=T.len; omega,λ k hk=>?_,λ v h0 h1=>?_,λ v=>?_⟩
 ·unfold a2Q
  rw [Bool.and_eq_true]
  constructor
  ·unfold upOk
   by_cases c:k=0
   ·subst c; rw [if_pos rfl,D.up0 hk]; rfl
   ·obtain ⟨q,e,h⟩:=D.ups k hk c
    rw [if_neg c,e]
    exact decide_eq_true ⟨by omega,by omega⟩
  ·obtain ⟨j,hj,_,e⟩:=D.own k hk
   rw [e]
   have o:=T.ok j hj
   unfold a2Q at o
   rw [Bool.and_eq_true] at o
   exact o.2
 ·obtain ⟨r,hr,h⟩:=T.cov v h0 h1
  obtain ⟨k,hk,e⟩:=b9Q hr
  have hs:=D.lt k hk
  exact ⟨_,List.mem_of_getElem? (a1W hs),(D.mem _ hs v).mpr ⟨k,hk,rfl,by rw [e]; exact h⟩⟩
 ·have nd:(a3D R v).Nodup:=List.nodup_range.sublist List.filter_sublist
  have same:∀ a∈a3D R v,∀ b∈a3D R v,a=b:=λ a ha b hb=>by
   obtain ⟨a1,a2⟩:=List.mem_filter.mp ha
   obtain ⟨b1,b2⟩:=List.mem_filter.mp hb
   obtain ⟨j,hj,ej,tj⟩:=b2M T D v (List.mem_range.mp a1) a2
   obtain ⟨k,hk,ek,tk⟩:=b2M T D v (List.mem_range.mp b1) b2
   have:=b0Q (T.tops v) hj tj hk tk
   rw [<- ej,<- ek,this]
  match e:a3D R v,nd,same with
  | [],_,_=>exact Nat.zero_le _
  | [_],_,_=>exact Nat.le_refl _
  | a::b::r,nd,same =>
   have:=same a (by simp) b (by simp)
   rw [this] at nd
   exact absurd List.mem_cons_self (List.nodup_cons.mp nd).1
theorem c3A {n:Nat} {rs:List Row} {R:List Row} {sp:List Nat} (T:Tree n rs) (D:Tidy rs rs.length R sp):R.length<=max 1 n:=by
 have TR:=b2N T D
 by_cases c:R.length<=1
 ·omega
 have pick:∀ r,r < R.length->∃ x:Int,a3G R x r=true:=λ r hr=>by
  by_cases r0:r=0
  ·subst r0
   obtain ⟨q,e,h⟩:=D.ups 1 (by omega) (by omega)
   have q0:q=0:=by omega
   subst q0
   obtain ⟨_,y,hy,_⟩:=D.cross 1 (by omega) 0 e
   exact ⟨y,isTop_iff.mpr ⟨hy,by rw [D.up0 (by omega)]; rfl⟩⟩
  ·obtain ⟨q,e,h⟩:=D.ups r hr r0
   obtain ⟨⟨x,hx,nx⟩,_⟩:=D.cross r hr q e
   refine ⟨x,isTop_iff.mpr ⟨hx,?_⟩⟩
   rw [e]
   show has x (a0I R ((q:Int)).toNat)=false
   rw [Int.toNat_natCast]
   exact decide_eq_false nx
 let f:Nat->Int:=λ r=>if h:r < R.length then Classical.choose (pick r h) else 0
 have ft:∀ r,r < R.length->a3G R (f r) r=true:=λ r h=>by
  show a3G R (dite _ _ _) r=true
  rw [dif_pos h]
  exact Classical.choose_spec (pick r h)
 have nd:((List.range R.length).map f).Nodup:=by
  rw [List.nodup_iff_pairwise_ne,List.pairwise_map]
  refine List.pairwise_iff_getElem.mpr λ i j hi hj ij e=>?_
  rw [List.length_range] at hi hj
  rw [List.getElem_range,List.getElem_range] at e
  have a:=ft i hi
  have b:=ft j hj
  rw [e] at a
  have:=b0Q (TR.tops _) hi a hj b
  omega
 have:=pigT nd (U:=(List.range n).map λ (x:Nat)=>(x:Int)) λ x hx=>by
  obtain ⟨r,hr,rfl⟩:=List.mem_map.mp hx
  have hr':=List.mem_range.mp hr
  have m:=(isTop_iff.mp (ft r hr')).1
  have o:=TR.ok r hr'
  unfold a2Q at o
  rw [Bool.and_eq_true] at o
  have b:=((a3U _ _).mp o.2).1 _ m
  exact List.mem_map.mpr ⟨(f r).toNat,List.mem_range.mpr (by omega),by show ((Int.toNat (f r):Nat):Int)=f r; omega⟩
 rw [List.length_map,List.length_map,List.length_range,List.length_range] at this
 omega
abbrev b5O:Stmt:=top 32
theorem sc_tidied:FnScope ["tree", "rows", "spots", "up", "places", "spot"] ["tree"] (a0F b5O):=⟨rfl,rfl,rfl,by decide +kernel,rfl,by decide +kernel,by decide +kernel⟩
abbrev a6C:Stmt:=top 33
theorem a9D:FnScope ["one", "other"] ["one", "other"] (a0F a6C):=⟨rfl,rfl,rfl,by decide +kernel,rfl,by decide +kernel,by decide +kernel⟩
def b9R (K:Φρ):Sp:=λ vs H Q _=>∃ (a b:Addr) (xs ys:List Int),vs=[.ref a,.ref b]/\SqL K H a (xs.map V.int)/\SqL K H b (ys.map V.int)/\xs.length<=1000/\ys.length<=1000/\∀ H',Same H H'->Q (.bl (!(a2R xs ys).isEmpty && !(a2R ys xs).isEmpty)) H'
def RowF (H:Hp) (L:List Addr) (H':Hp) (v:V) (r:Row):Prop:=∃ p b,v = .ref p/\H' p=some (.tup [upV r.1,.ref b])/\H' b=some (.lst (r.2.map V.int))/\b ∉ L/\H b=none/\r.2.length<=16
theorem RowF.same {H:Hp} {L:List Addr} {H1 H2:Hp} {v:V} {r:Row} (s:Same H1 H2) (h:RowF H L H1 v r):RowF H L H2 v r:=by
 obtain ⟨p,b,e,q1,q2,n,f,z⟩:=h
 exact ⟨p,b,e,s _ _ q1,s _ _ q2,n,f,z⟩
theorem RowF.chg {H H1 H2:Hp} {L:List Addr} {l:Addr} {xs ys:List V} {v:V} {r:Row} (hL:l∈L) (hl:H1 l=some (.lst xs)) (c:Chg H1 l (.lst ys) H2) (h:RowF H L H1 v r):RowF H L H2 v r:=by
 obtain ⟨p,b,e,q1,q2,n,f,z⟩:=h
 exact ⟨p,b,e,(c.rest p (c8A q1 hl (by intro z; cases z))).trans q1,(c.rest b (λ z=>n (z ▸ hL))).trans q2,n,f,z⟩
theorem RowF.sub {H:Hp} {L L':List Addr} {H1:Hp} {v:V} {r:Row} (s:∀ x∈L',x∈L) (h:RowF H L H1 v r):RowF H L' H1 v r:=by
 obtain ⟨p,b,e,q1,q2,n,f,z⟩:=h
 exact ⟨p,b,e,q1,q2,λ z=>n (s _ z),f,z⟩
theorem a8L {α β:Type} {R:α->β->Prop} {x:α} {y:β}:∀ {xs:List α} {ys:List β} {i:Nat},Paired R xs ys->R x y->Paired R (xs.set i x) (ys.set i y)
 | [],[],_,.nil,_=>.nil
 | _::_,_::_,0,.cons _ r,h=>.cons h r
 | _::_,_::_,_+1,.cons q r,h=>.cons q (a8L r h)
theorem b2O {xs ys:List Int} (h:(!(a2R xs ys).isEmpty)=true):∃ x∈xs,x ∉ ys:=by
 cases e:a2R xs ys with
 | nil=>rw [e] at h; cases h
 | cons x r =>
  have:x∈xs.filter (λ v=>!decide (v∈ys)):=by
   show x∈a2R xs ys
   rw [e]; exact List.mem_cons_self
  rw [List.mem_filter] at this
  exact ⟨x,this.1,by simpa using this.2⟩
theorem a6D {xs ys:List Int} (h:(!(a2R xs ys).isEmpty)=false):∀ x∈xs,x∈ys:=λ x hx=>by
 apply Classical.byContradiction
 intro c
 have m:x∈xs.filter (λ v=>!decide (v∈ys)):=List.mem_filter.mpr ⟨hx,by simpa using c⟩
 have m':x∈a2R xs ys:=m
 cases e:a2R xs ys with
 | nil=>rw [e] at m'; exact absurd m' List.not_mem_nil
 | cons y r=>rw [e] at h; cases h
def c3B (K:Φρ):Sp:=λ vs H Q _=>∃ (a:Addr) (rs:List Row) (n:Nat),vs=[.ref a]/\RowsAt K H a rs/\Tree n rs/\n<=10 /\
 ∀ p xs R sp H',Same H H'->H p=none->H' p=some (.lst xs)->Paired (RowF H [p] H') xs R->Tidy rs rs.length R sp->Q (.ref p) H'
section
variable {P:Program} {w:World} {K:Φρ} {mg:Str->Option Value} {base:Heap}
abbrev DZ10 (K:PySem.W.Frag) (mg:Str->Option Value):=Dn K mg "are_crossed" a6C ["one", "other"]
set_option maxHeartbeats 4000000 in
theorem a9E (B:Bl mg) (dZ22:DZ22 K mg) (dZ10:DZ10 K mg):FnOk P w K mg base CX0 2 dZ10.f dZ10.fd ["one", "other"] (b9R K):=by
 have gZ22:FnOk P w K mg base CX0 1 _ _ _ _:=b4A B dZ22
 refine dZ10.F.ok a9D (λ vs H Q E h=>?_) (λ cdv A outer s H vs Q E hr h=>?_)
 ·obtain ⟨a,b,xs,ys,rfl,_⟩:=h
  rfl
 obtain ⟨a,b,xs,ys,rfl,hA,hB,zx,zy,q⟩:=h
 refine ⟨_,(a0E (a0P (a3Y (b6L (K:=K) rfl) rfl B.bool (by decide +kernel) (a0A (c5P (K:=K) rfl (a0K gZ22 hr rfl dZ22.m dZ22.F.kp dZ22.b .nil a1I (a0A (pv 0) (a0A (pv 1) a0B))) (b1B (a0K gZ22 hr rfl dZ22.m dZ22.F.kp dZ22.b .nil a1I (a0A (pv 1) (a0A (pv 0) a0B))))) a0B)))),?_⟩
 refine ⟨_,rfl,_,rfl,a,b,xs,ys,rfl,hA,hB,zx,λ H1 p1 H2 s1 n1=>?_⟩
 refine ⟨_,.inl ⟨_,SqL.of n1.here,rfl⟩,?_⟩
 have s12:=s1.trans n1.same
 have ei:∀ l:List Int,(l.map V.int).isEmpty=l.isEmpty:=λ l=>by cases l <;> rfl
 rw [ei]
 cases c:(!(a2R xs ys).isEmpty) with
 | true =>
  refine iteT ⟨_,rfl,_,rfl,b,a,ys,xs,rfl,s12.seq hB,s12.seq hA,zy,λ H3 p2 H4 s3 n2=>?_⟩
  refine ⟨p2,_,rfl,SqL.of n2.here,?_⟩
  have:=q H4 (s12.trans (s3.trans n2.same))
  rw [c,Bool.true_and] at this
  rw [ei]
  exact this
 | false =>
  refine iteF ⟨p1,_,rfl,SqL.of n1.here,?_⟩
  have:=q H2 s12
  rw [c,Bool.false_and] at this
  rw [ei,c]
  exact this
abbrev DZ31 (K:PySem.W.Frag) (mg:Str->Option Value):=Dn K mg "tidied" b5O ["tree"]
set_option maxHeartbeats 8000000 in
theorem b9S (B:Bl mg) (dZ22:DZ22 K mg) (dZ10:DZ10 K mg) (dZ31:DZ31 K mg):FnOk P w K mg base CX0 3 dZ31.f dZ31.fd ["tree"] (c3B K):=by
 have gZ10:FnOk P w K mg base CX0 2 _ _ _ _:=a9E B dZ22 dZ10
 refine dZ31.F.ok sc_tidied (λ vs H Q E h=>?_) (λ cdv A outer s H vs Q E hr h=>?_)
 ·obtain ⟨a,rs,n,rfl,_⟩:=h
  rfl
 obtain ⟨a,rs,n,rfl,hR,T,n10,q⟩:=h
 obtain ⟨ys,hy,hpr,hz⟩:=id hR
 have ly:ys.length=rs.length:=Paired.length hpr
 have U:=a8K T.ok
 have r20:=T.len
 refine ⟨_,(a0C (a0Q (i:=1) sc_tidied.nd rfl (Or.inl rfl) (a0O a0B))
   (a0C (a0Q (i:=2) sc_tidied.nd rfl (Or.inl rfl) (a0O a0B))
   (a0C (a2Z PassesOwn.never rfl (a1A (K:=K) rfl (pv 0)) (a2A (K:=K) (n:=2) rfl rfl (a0M (a0H (i:=3) sc_tidied.nd rfl (Or.inl rfl)) (a0M (a0H (i:=4) sc_tidied.nd rfl (Or.inl rfl)) a1X)))
   (a0C (a0Q (i:=5) sc_tidied.nd rfl (Or.inl rfl) (a4B (a0J a5Q (pv 3) a1N (a0S _)) a1N (a1B (a0V (K:=K) rfl) (pv 2) (pv 3) (λ _ _=>rfl))))
   (a0E (a1O (PW.pt (c1G (a0J a5Q (pv 5) a1N (a0S _)) (b4K (a1L (K:=K) rfl (a0K gZ10 hr rfl dZ10.m dZ10.F.kp dZ10.b .nil a1I (a0A (pv 4) (a0A (a1B (a0X (K:=K) rfl) (a1B (a0V (K:=K) rfl) (pv 1) (pv 5) (λ _ _=>rfl)) a0D (λ _ _=>rfl)) a0B))) (λ _=>rfl)))))
   (a0C (a3C (a5V (K:=K) rfl PySem.F.plainAttrs_list PySem.F.slot_list_append PySem.F.type_list_append a2M (pv 2) (a0A (a0G (a0L (K:=K) rfl) rfl B.len (by decide +kernel) (a0A (pv 1) a0B)) a0B)))
   (a0E (a3C (a5V (K:=K) rfl PySem.F.plainAttrs_list PySem.F.slot_list_append PySem.F.type_list_append a2M (pv 1) (a0A (a0T (a0A (pv 5) (a0A (a3Y (a6L (K:=K) rfl) rfl B.list (by decide +kernel) (a0A (pv 4) a0B)) a0B))) a0B)))))
   (a3K (a1O (a0J a4Y (a0G (a0L (K:=K) rfl) rfl B.len (by decide +kernel) (a0A (pv 4) a0B)) (a0G (a0L (K:=K) rfl) rfl B.len (by decide +kernel) (a0A (a1B (a0X (K:=K) rfl) (a1B (a0V (K:=K) rfl) (pv 1) (pv 5) (λ _ _=>rfl)) a0D (λ _ _=>rfl)) a0B)) (a0S _))
   (a0E (a6U (a0T (a0A (a1B (a0X (K:=K) rfl) (a1B (a0V (K:=K) rfl) (pv 1) (pv 5) (λ _ _=>rfl)) a0D (λ _ _=>rfl)) (a0A (a3Y (a6L (K:=K) rfl) rfl B.list (by decide +kernel) (a0A (pv 4) a0B)) a0B))) (c3Z (pv 1) (pv 5) b1U)))
   a0N)
   (a0E (a3C (a5V (K:=K) rfl PySem.F.plainAttrs_list PySem.F.slot_list_append PySem.F.type_list_append a2M (pv 2) (a0A (pv 5) a0B)))))))))
   (a0E (a0P (pv 1)))))),?_⟩
 refine ⟨(by show 0<=1000; decide),λ pr H1 n1=>?_⟩
 refine ⟨(by show 0<=1000; decide),λ ps H2 n2=>?_⟩
 have s02:Same H H2:=n1.same.trans n2.same
 have frr:H pr=none:=n1.fresh
 have frs:H ps=none:=n1.same.free n2.fresh
 have ne:pr≠ps:=n2.ne n1.here
 refine ⟨_,rfl,a,rfl,⟨_,s02.seq hy⟩,?_⟩
 refine a5O (xs:=ys) (λ i σ H'=>∃ (R:List Row) (sp:List Nat) (xs:List V) (uu pp ss:Option V),σ=[some (.ref a),some (.ref pr),some (.ref ps),uu,pp,ss]/\Same H H'/\H' pr=some (.lst xs)/\Paired (RowF H [pr,ps] H') xs R/\H' ps=some (.lst (natV sp))/\Tidy rs i R sp) ⟨[],[],[],none,none,none,rfl,s02,n2.same _ _ n1.here,.nil,n2.here,c2Z rs⟩ (λ i σ H' _ ⟨_,_,_,_,_,_,_,s,_⟩=>s.seq hy) ?_ ?_
 ·rintro i x σ H3 hx ⟨R,sp,xs,uu,pp,ss,rfl,s3,h3,p3,hs3,D⟩
  obtain ⟨row,hrow,⟨pt,b,rfl,hT,hb,_⟩⟩:=a0U hpr hx
  obtain ⟨hil,hix⟩:=List.getElem?_eq_some_iff.mp hrow
  have er:a0I rs i=row:=by unfold a0I; rw [τα,hrow]; rfl
  have okr:=T.ok i hil
  unfold a2Q at okr
  rw [Bool.and_eq_true,er] at okr
  have fewr:=d0L n10 okr.2
  have lsp:=D.len
  have lR:=D.few
  have lxs:xs.length=R.length:=Paired.length p3
  have hb3:SqL K H3 b (row.2.map V.int):=s3.seq hb
  have memP:pr∈[pr,ps]:=List.mem_cons_self
  have memS:ps∈[pr,ps]:=List.mem_cons_of_mem _ List.mem_cons_self
  have fin:∀ (u:Option Int) (sv:Option V) (H4:Hp) (s34:Same H3 H4),Tidy rs (i+1) (R++[(u,row.2)]) (sp++[R.length])->∀ H5,Chg H4 ps (.lst (natV sp++[.int ((xs.length:Nat):Int)])) H5->∀ p6 H6,New H5 p6 (.lst (row.2.map V.int)) H6->∀ p7 H7,New H6 p7 (.tup [upV u,.ref p6]) H7->∀ H8,Chg H7 pr (.lst (xs++[.ref p7])) H8 ->
    ∃ (R:List Row) (sp:List Nat) (xs:List V) (uu pp ss:Option V),[some (V.ref a),some (.ref pr),some (.ref ps),some (upV row.1),some (.ref b),sv]=[some (V.ref a),some (.ref pr),some (.ref ps),uu,pp,ss]/\Same H H8/\H8 pr=some (.lst xs)/\Paired (RowF H [pr,ps] H8) xs R/\H8 ps=some (.lst (natV sp))/\Tidy rs (i+1) R sp:=λ u sv H4 s34 D' H5 c5 p6 H6 n6 p7 H7 n7 H8 c8=>by
   have hs4:=s34 _ _ hs3
   have s05:Same H H5:=(s3.trans s34).chg frs c5
   have h5:H5 pr=some (.lst xs):=(c5.rest pr ne).trans (s34 _ _ h3)
   have h7:H7 pr=some (.lst xs):=n7.same _ _ (n6.same _ _ h5)
   have s57:=n6.same.trans n7.same
   have p5:Paired (RowF H [pr,ps] H5) xs R:=Paired.mapP p3 λ v r q=>(RowF.same s34 q).chg memS hs4 c5
   have b6:p6 ∉ [pr,ps]:=λ z=>by
    rcases List.mem_cons.mp z with z | z
    ·subst z; have:=n6.fresh; rw [h5] at this; cases this
    ·have z:=List.mem_singleton.mp z
     subst z; have:=n6.fresh; rw [c5.here] at this; cases this
   refine ⟨R++[(u,row.2)],sp++[R.length],xs++[.ref p7],_,_,_,rfl,(s05.trans s57).chg frr c8,c8.here,?_,?_,D'⟩
   ·refine a0Z (Paired.mapP p5 λ v r q=>(RowF.same s57 q).chg memP h7 c8) (RowF.chg memP h7 c8 ⟨p7,p6,rfl,n7.here,n7.same _ _ n6.here,b6,s05.free n6.fresh,by show row.2.length<=16; omega⟩)
   ·rw [(c8.rest ps (Ne.symm ne)),s57 _ _ c5.here,lxs]
    unfold natV
    rw [List.map_append]
    rfl
  refine ⟨pt,_,rfl,s3.tupq hT,rfl,_,_,rfl,_,_,rfl,rfl,?_⟩
  cases eu:row.1 with
  | none =>
   have i0:i=0:=by
    apply Classical.byContradiction
    intro z
    have o:=okr.1
    rw [eu] at o
    unfold upOk at o
    rw [if_neg z] at o
    cases o
   have R0:R.length=0:=by omega
   refine ⟨_,rfl,rfl,_,rfl,iteT ?_⟩
   refine ⟨_,rfl,rfl,_,rfl,iteT (iteT ?_)⟩
   refine ⟨_,rfl,.inl ⟨rfl,_,SqL.of hs3⟩,_,rfl,pr,_,rfl,.inl (SqL.of h3),ps,_,_,rfl,rfl,hs3,(by rw [List.length_map]; omega),λ H5 c5=>?_⟩
   have h5:H5 pr=some (.lst xs):=(c5.rest pr ne).trans h3
   have hb5:SqL K H5 b (row.2.map V.int):=(s3.chg frs c5).seq hb
   refine ⟨_,rfl,.inl ⟨rfl,_,SqL.of h5⟩,_,rfl,_,rfl,b,_,rfl,.inl hb5,λ p6 H6 n6=>?_⟩
   refine ⟨(by show 2<=1000; decide),λ p7 H7 n7=>?_⟩
   refine ⟨pr,_,_,rfl,rfl,n7.same _ _ (n6.same _ _ h5),by omega,λ H8 c8=>?_⟩
   have D':=b5M (u:=none) D U hil ⟨R0,by rw [er]; exact eu⟩
   rw [er] at D'
   have:=fin none (some .non) H3 (Same.refl _) D' H5 c5 p6 H6 n6 p7 H7 n7 H8 c8
   rw [eu] at this
   exact this
  | some wi =>
   obtain ⟨i0,w,ew,wl⟩:i≠0/\∃ w:Nat,wi=(w:Int)/\w < i:=by
    have o:=okr.1
    rw [eu] at o
    unfold upOk at o
    by_cases z:i=0
    ·rw [if_pos z] at o; cases o
    ·rw [if_neg z] at o
     have b:=of_decide_eq_true o
     exact ⟨z,wi.toNat,by omega,by omega⟩
   subst ew
   have ew':(a0I rs i).1=some (w:Int):=by rw [er]; exact eu
   have hsR:=D.lt w wl
   obtain ⟨v,hv,⟨pv',bs,rfl,t1,t2,nb,fb,zl⟩⟩:=a0Y p3 (a1W hsR)
   refine ⟨_,rfl,rfl,_,rfl,iteF ?_⟩
   refine ⟨_,rfl,_,rfl,ps,_,_,_,rfl,rfl,SqL.of hs3,c7D (by omega),?_⟩
   refine ⟨_,rfl,rfl,_,rfl,iteF ?_⟩
   refine ⟨_,rfl,_,rfl,_,rfl,pr,_,_,_,rfl,rfl,SqL.of h3,a1M hv,pv',_,_,_,rfl,rfl,SqT.of t1,rfl,?_⟩
   refine ⟨b,bs,row.2,(a0I R (sp.getD w 0)).2,rfl,hb3,SqL.of t2,by omega,by omega,λ H4 s4=>⟨_,rfl,?_⟩⟩
   refine ite2 (λ c=>?_) (λ c=>?_)
   ·rw [Bool.and_eq_true] at c
    have hs4:=s4 _ _ hs3
    have h4:=s4 _ _ h3
    refine ⟨_,rfl,.inl ⟨rfl,_,SqL.of hs4⟩,_,rfl,pr,_,rfl,.inl (SqL.of h4),ps,_,_,rfl,rfl,hs4,(by rw [List.length_map]; omega),λ H5 c5=>?_⟩
    have h5:H5 pr=some (.lst xs):=(c5.rest pr ne).trans h4
    have hb5:SqL K H5 b (row.2.map V.int):=((s3.trans s4).chg frs c5).seq hb
    refine ⟨_,rfl,.inl ⟨rfl,_,SqL.of h5⟩,_,rfl,_,rfl,b,_,rfl,.inl hb5,λ p6 H6 n6=>?_⟩
    refine ⟨(by show 2<=1000; decide),λ p7 H7 n7=>?_⟩
    refine ⟨pr,_,_,rfl,rfl,n7.same _ _ (n6.same _ _ h5),by omega,λ H8 c8=>?_⟩
    have D':=b5M (u:=some ((sp.getD w 0:Nat):Int)) D U hil ⟨w,wl,ew',rfl,by rw [er]; exact b2O c.1,by rw [er]; exact b2O c.2⟩
    rw [er] at D'
    have:=fin (some ((sp.getD w 0:Nat):Int)) (some (.int ((sp.getD w 0:Nat):Int))) H4 s4 D' H5 c5 p6 H6 n6 p7 H7 n7 H8 c8
    rw [eu] at this
    exact this
   ·have c':(!(a2R row.2 (a0I R (sp.getD w 0)).2).isEmpty)=false\/(!(a2R (a0I R (sp.getD w 0)).2 row.2).isEmpty)=false:=Bool.and_eq_false_iff.mp (Bool.eq_false_iff.mpr c)
    obtain ⟨jo,_,_,ejo⟩:=D.own _ hsR
    have ndS:(a0I R (sp.getD w 0)).2.Nodup:=by
     rw [ejo]
     have o:=T.ok jo (by omega)
     unfold a2Q at o
     rw [Bool.and_eq_true] at o
     exact ((a3U _ _).mp o.2).2.imp λ h=>by omega
    have ndP:row.2.Nodup:=((a3U _ _).mp okr.2).2.imp λ h=>by omega
    have hs4:=s4 _ _ hs3
    have h4:=s4 _ _ h3
    have hb4:SqL K H4 b (row.2.map V.int):=s4.seq hb3
    have t1':=s4 _ _ t1
    have t2':=s4 _ _ t2
    refine ⟨λ σ' H5=>∃ (R':List Row) (xs':List V),σ'=[some (.ref a),some (.ref pr),some (.ref ps),some (upV row.1),some (.ref b),some (.int ((sp.getD w 0:Nat):Int))]/\Same H H5/\H5 pr=some (.lst xs')/\Paired (RowF H [pr,ps] H5) xs' R'/\H5 ps=some (.lst (natV sp))/\Tidy rs (i+1) R' (sp++[sp.getD w 0]),?_,?_⟩
    ·refine ⟨_,rfl,b,_,rfl,.inl hb4,_,rfl,_,rfl,pr,_,_,_,rfl,rfl,SqL.of h4,a1M hv,pv',_,_,_,rfl,rfl,SqT.of t1',rfl,bs,_,rfl,.inl (SqL.of t2'),_,_,rfl,rfl,_,rfl,?_⟩
     refine ite2 (λ d=>?_) (λ d=>?_)
     ·have d':(((a0I R (sp.getD w 0)).2.map V.int).length:Int) < ((row.2.map V.int).length:Int):=of_decide_eq_true d
      rw [List.length_map,List.length_map] at d'
      have sub:∀ v∈(a0I R (sp.getD w 0)).2,v∈row.2:=by
       rcases c' with c' | c'
       ·have:=pigT ndP (a6D c')
        omega
       ·exact a6D c'
      refine ⟨_,rfl,_,rfl,pr,_,_,_,rfl,rfl,SqL.of h4,a1M hv,pv',_,_,_,rfl,rfl,SqT.of t1',rfl,_,rfl,b,_,rfl,.inl hb4,λ p6 H6 n6=>?_⟩
      refine ⟨(by show 2<=1000; decide),λ p7 H7 n7=>?_⟩
      have s47:=n6.same.trans n7.same
      have h7:=s47 _ _ h4
      refine ⟨_,rfl,_,rfl,pr,_,_,sp.getD w 0,rfl,rfl,h7,b8D (by omega),λ H8 c8=>?_⟩
      have b6:p6 ∉ [pr,ps]:=λ z=>by
       rcases List.mem_cons.mp z with z | z
       ·subst z; have:=n6.fresh; rw [h4] at this; cases this
       ·have z:=List.mem_singleton.mp z
        subst z; have:=n6.fresh; rw [hs4] at this; cases this
      have D':=b5N T D hil wl ew' (.inr ⟨rfl,by rw [er]; exact sub⟩)
      rw [er] at D'
      refine ⟨_,_,(by rw [eu]; rfl),((s3.trans s4).trans s47).chg frr c8,c8.here,?_,(c8.rest ps (Ne.symm ne)).trans (s47 _ _ hs4),D'⟩
      refine a8L (Paired.mapP p3 λ v r q=>(RowF.same (s4.trans s47) q).chg memP h7 c8) (RowF.chg memP h7 c8 ⟨p7,p6,rfl,n7.here,n7.same _ _ n6.here,b6,(s3.trans s4).free n6.fresh,by show row.2.length<=16; omega⟩)
     ·have d':¬ (((a0I R (sp.getD w 0)).2.map V.int).length:Int) < ((row.2.map V.int).length:Int):=of_decide_eq_false (Bool.eq_false_iff.mpr d)
      rw [List.length_map,List.length_map] at d'
      have sub:∀ v∈row.2,v∈(a0I R (sp.getD w 0)).2:=by
       rcases c' with c' | c'
       ·exact a6D c'
       ·intro v hv
        apply Classical.byContradiction
        intro z
        have:=pigT (l:=v::(a0I R (sp.getD w 0)).2) (U:=row.2) (List.nodup_cons.mpr ⟨z,ndS⟩) λ x hx=>by
         rcases List.mem_cons.mp hx with e | h
         ·rw [e]; exact hv
         ·exact a6D c' x h
        rw [List.length_cons] at this
        omega
      have D':=b5N T D hil wl ew' (.inl ⟨rfl,by rw [er]; exact sub⟩)
      refine ⟨R,xs,?_,s3.trans s4,h4,Paired.mapP p3 λ v r q=>RowF.same s4 q,hs4,D'⟩
      rw [eu]; rfl
    ·rintro σ' H5 ⟨R',xs',rfl,s5,h5,p5,hs5,D'⟩
     refine ⟨_,rfl,.inl ⟨rfl,_,SqL.of hs5⟩,_,rfl,ps,_,_,rfl,rfl,hs5,(by rw [List.length_map]; omega),λ H6 c6=>?_⟩
     refine ⟨R',_,xs',_,_,_,rfl,s5.chg frs c6,(c6.rest pr ne).trans h5,Paired.mapP p5 λ v r q=>RowF.chg memS hs5 c6 q,?_,D'⟩
     rw [c6.here]
     unfold natV
     rw [List.map_append]
     rfl
 ·rintro σ H3 ⟨R,sp,xs,uu,pp,ss,rfl,s3,h3,p3,hs3,D⟩
  rw [ly] at D
  exact ⟨_,rfl,q pr xs R sp H3 s3 frr h3 (Paired.mapP p3 λ v r q=>RowF.sub (λ x hx=>by rw [List.mem_singleton.mp hx]; exact List.mem_cons_self) q) D⟩
end
end K
namespace K
open PySem L2 Lw Bg
abbrev b9T:Stmt:=top 21
theorem c3C:FnScope ["one", "other"] ["one", "other"] (a0F b9T):=⟨rfl,rfl,rfl,by decide +kernel,rfl,by decide +kernel,by decide +kernel⟩
theorem b9U {p q:Int->Bool} (h:∀ v,0<=v->v < 16->p v=q v):upF p=upF q:=by
 unfold upF
 refine List.filter_congr λ v hv=>?_
 obtain ⟨i,hi,rfl⟩:=List.mem_map.mp hv
 have:=List.mem_range.mp hi
 exact h _ (by omega) (by omega)
def b5P (xs ys:List Int):List Int:=upF λ v=>decide (v∈xs\/v∈ys)
def c7G (K:Φρ):Sp:=λ vs H Q _=>∃ (a b:Addr) (xs ys:List Int),vs=[.ref a,.ref b]/\SqL K H a (xs.map V.int)/\SqL K H b (ys.map V.int)/\b2E xs/\b2E ys /\
 ∀ H0 p H',Same H H0->New H0 p (.lst ((b5P xs ys).map V.int)) H'->Q (.ref p) H'
section
variable {P:Program} {w:World} {K:Φρ} {mg:Str->Option Value} {base:Heap}
abbrev DZ20 (K:PySem.W.Frag) (mg:Str->Option Value):=Dn K mg "joint" b9T ["one", "other"]
set_option maxHeartbeats 4000000 in
theorem c3D (B:Bl mg) (dZ20:DZ20 K mg):FnOk P w K mg base CX0 1 dZ20.f dZ20.fd ["one", "other"] (c7G K):=by
 refine dZ20.F.ok c3C (λ vs H Q E h=>?_) (λ cdv A outer s H vs Q E hr h=>?_)
 ·obtain ⟨a,b,xs,ys,rfl,_⟩:=h
  rfl
 obtain ⟨a,b,xs,ys,rfl,hA,hB,sA,sB,q⟩:=h
 refine ⟨_,(a0E (a0P (a0G (b2G (w:=w) rfl rfl) rfl B.sorted (by decide +kernel) (a0A (a0R (c9P (w:=w) rfl) (a3Y (b2F (K:=K) (w:=w) rfl rfl rfl) rfl B.set (by decide +kernel) (a0A (pv 0) a0B)) (a3Y (b2F (K:=K) (w:=w) rfl rfl rfl) rfl B.set (by decide +kernel) (a0A (pv 1) a0B))) a0B)))),?_⟩
 refine ⟨_,rfl,a,xs,rfl,hA,sA,λ p1 L1 H1 n1 m1=>?_⟩
 refine ⟨_,rfl,b,ys,rfl,n1.same.seq hB,sB,λ p2 L2 H2 n2 m2=>?_⟩
 refine ⟨p1,p2,L1,L2,rfl,rfl,n2.ne n1.here,n2.same _ _ n1.here,n2.here,λ p3 L H3 n3 m3=>?_⟩
 refine ⟨p3,false,L,rfl,n3.here,λ p4 H4 n4=>?_⟩
 have e:(upF λ v=>decide (v.toNat∈L))=b5P xs ys:=b9U λ v h0 h1=>by
  have ev:((v.toNat:Nat):Int)=v:=by omega
  rw [decide_eq_decide,m3 v.toNat,m1 v.toNat,m2 v.toNat,ev]
 rw [e] at n4
 exact q H3 p4 H4 (n1.same.trans (n2.same.trans n3.same)) n4
end
end K
namespace K
open PySem L2 Lw Bg
def c7H (K:Φρ):Sp:=λ vs H Q _=>∃ (a b:Addr) (xs ys:List Int),vs=[.ref a,.ref b]/\SqT K H a (xs.map V.int)/\SqL K H b (ys.map V.int)/\xs.length<=1000 /\
 ∀ H0 p H',Same H H0->New H0 p (.lst ((a2R xs ys).map V.int)) H'->Q (.ref p) H'
section
variable {P:Program} {w:World} {K:Φρ} {mg:Str->Option Value} {base:Heap}
set_option maxHeartbeats 4000000 in
theorem c3E (B:Bl mg) (dZ22:DZ22 K mg):FnOk P w K mg base CX0 1 dZ22.f dZ22.fd ["one", "other"] (c7H K):=by
 refine dZ22.F.ok b3Z (λ vs H Q E h=>?_) (λ cdv A outer s H vs Q E hr h=>?_)
 ·obtain ⟨a,b,xs,ys,rfl,_⟩:=h
  rfl
 obtain ⟨a,b,xs,ys,rfl,hA,hB,hz,q⟩:=h
 have hv:(A.deeper (PyProof.Rows.envOfC "less" (a0F b5J) s.heap.objs.size dZ22.f cdv)).units+65 < cLine:=by have:=hr.un; omega
 refine ⟨_,(a0E (a0P (a2P ["v", "other"] [none,some 1]  (by kernel_rfl) rfl (c5J (K:=K) rfl (pv 0)) (λ _ _ _ _ _=>(a0H (i:=0) (show (["v", "other"]:List Str).Nodup by decide +kernel) rfl (Or.inl rfl))) (λ _ _ _ _ _=>(a2U (a0J (a2G (K:=K) rfl hv) (pv 0) (pv 1) (by with_unfolding_all rfl)))) (λ _ _ _ _ _=>(pv 0))))),?_⟩
 refine ⟨_,rfl,a,rfl,⟨_,hA⟩,?_⟩
 refine c5Q (λ x=>match x with | .int v=>if !decide (v∈ys) then some (.int v) else none | _=>none) hA (by rw [List.length_map]; exact hz) (λ x H1 N hx sm hN=>?_) (λ H1 p H1' sm hp=>?_)
 ·obtain ⟨v,hv,rfl⟩:=List.mem_map.mp hx
  have hN':=hN H1 sm
  refine ⟨_,rfl,_,rfl,a5Y (sm.seq hB) ⟨_,rfl,?_⟩⟩
  dsimp only at hN'
  cases c:decide (v∈ys) with
  | true=>rw [c] at hN'; exact iteF hN'
  | false=>rw [c] at hN'; exact iteT ⟨_,rfl,hN'⟩
 ·have e:(xs.map V.int).filterMap (λ x=>match x with | .int v=>if !decide (v∈ys) then some (V.int v) else none | _=>none)=(a2R xs ys).map V.int:=a7Z λ v _=>rfl
  rw [e] at hp
  exact q _ _ _ sm hp
end
end K
namespace K
open PySem L2 Lw Bg
def c7I (K:Φρ):Sp:=λ vs H Q _=>∃ (a b:Addr) (xs ys:List Int),vs=[.ref a,.ref b]/\SqL K H a (xs.map V.int)/\SqT K H b (ys.map V.int)/\xs.length<=1000 /\
 ∀ H0 p H',Same H H0->New H0 p (.lst ((a2R xs ys).map V.int)) H'->Q (.ref p) H'
theorem b5Q (v:Int):∀ ys:List Int,inV (.int v) (ys.map V.int)=decide (v∈ys)
 | []=>rfl
 | y::r=>by
  have ih:=b5Q v r
  unfold inV at ih ⊢
  rw [List.map_cons,List.any_cons,ih,Bool.eq_iff_iff,Bool.or_eq_true,decide_eq_true_iff,decide_eq_true_iff,List.mem_cons]
  have:eqV (V.int y) (V.int v)=decide (y=v):=rfl
  rw [this,decide_eq_true_iff]
  exact or_congr_left eq_comm
theorem b9V (ys:List Int):(ys.map V.int).all b0D=true:=List.all_eq_true.mpr λ x hx=>by
 obtain ⟨y,_,rfl⟩:=List.mem_map.mp hx
 rfl
section
variable {P:Program} {w:World} {K:Φρ} {mg:Str->Option Value} {base:Heap}
set_option maxHeartbeats 4000000 in
theorem c3F (B:Bl mg) (dZ22:DZ22 K mg):FnOk P w K mg base CX0 1 dZ22.f dZ22.fd ["one", "other"] (c7I K):=by
 refine dZ22.F.ok b3Z (λ vs H Q E h=>?_) (λ cdv A outer s H vs Q E hr h=>?_)
 ·obtain ⟨a,b,xs,ys,rfl,_⟩:=h
  rfl
 obtain ⟨a,b,xs,ys,rfl,hA,hB,hz,q⟩:=h
 refine ⟨_,(a0E (a0P (a2P ["v", "other"] [none,some 1]  (by kernel_rfl) rfl (a1A (K:=K) rfl (pv 0)) (λ _ _ _ _ _=>(a0H (i:=0) (show (["v", "other"]:List Str).Nodup by decide +kernel) rfl (Or.inl rfl))) (λ _ _ _ _ _=>(a2U (a0J (a9N (K:=K) rfl) (pv 0) (pv 1) (by with_unfolding_all rfl)))) (λ _ _ _ _ _=>(pv 0))))),?_⟩
 refine ⟨_,rfl,a,rfl,⟨_,hA⟩,?_⟩
 refine a7Y (λ x=>match x with | .int v=>if !decide (v∈ys) then some (.int v) else none | _=>none) hA (by rw [List.length_map]; exact hz) (λ x H1 N hx sm hN=>?_) (λ H1 p H1' sm hp=>?_)
 ·obtain ⟨v,hv,rfl⟩:=List.mem_map.mp hx
  have hN':=hN H1 sm
  refine ⟨_,rfl,_,rfl,b,_,rfl,.inr (sm.tupq hB),rfl,b9V _,_,rfl,?_⟩
  rw [if_pos rfl,b5Q]
  dsimp only at hN'
  cases c:decide (v∈ys) with
  | true=>rw [c] at hN'; exact iteF hN'
  | false=>rw [c] at hN'; exact iteT ⟨_,rfl,hN'⟩
 ·have e:(xs.map V.int).filterMap (λ x=>match x with | .int v=>if !decide (v∈ys) then some (V.int v) else none | _=>none)=(a2R xs ys).map V.int:=a7Z λ v _=>rfl
  rw [e] at hp
  exact q _ _ _ sm hp
end
end K
namespace K
open PySem L2 Lw Bg
theorem FnOk.either {P:Program} {w:World} {K:Φρ} {mg:Str->Option Value} {base:Heap} {CX:CXT} {k:Nat} {f:Addr} {fd:FuncData} {ps:List Str} {sp sp':Sp} (F:FnOk P w K mg base CX k f fd ps sp) (G:FnOk P w K mg base CX k f fd ps sp'):FnOk P w K mg base CX k f fd ps (λ vs H Q E=>sp vs H Q E\/sp' vs H Q E) :=
 ⟨λ vs H Q E h=>h.elim (F.len vs H Q E) (G.len vs H Q E),λ A outer s H args us vs Q E hr he hb hv hs=>hs.elim (F.run A outer s H args us vs Q E hr he hb hv) (G.run A outer s H args us vs Q E hr he hb hv)⟩
theorem b9W (s t:Int × Int):PyData.eqv (tieD s) (tieD t)=decide (s=t):=by
 unfold tieD
 rw [PyData.eqv]
 have e:=PySem.W.ked_eqvAll [s.1,s.2] [t.1,t.2]
 have e':PyData.eqvAll [.int s.1,.int s.2] [.int t.1,.int t.2]=decide ([s.1,s.2]=[t.1,t.2]):=e
 rw [e']
 obtain ⟨a,b⟩:=s
 obtain ⟨c,d⟩:=t
 simp
theorem c7J (ts:List ζζ) (t:Int × Int):(ts.map tieD).any (λ e=>PyData.eqv e (tieD t))=decide (t∈ts):=by
 rw [List.any_map]
 rw [Bool.eq_iff_iff,List.any_eq_true,decide_eq_true_iff]
 constructor
 ·rintro ⟨s,hs,e⟩
  have:PyData.eqv (tieD s) (tieD t)=true:=e
  rw [b9W] at this
  rw [<- of_decide_eq_true this]; exact hs
 ·intro h
  exact ⟨t,h,by show PyData.eqv (tieD t) (tieD t)=true; rw [b9W]; simp⟩
theorem b7A (t:Int × Int):SeqAt.shaped (tieD t)=true:=by
 unfold SeqAt.shaped
 rw [b8F,Bool.true_and]
 exact decide_eq_true (by have:=b1V t; omega)
abbrev a3R:Stmt:=top 38
theorem sc_bag_behind:FnScope ["graph", "done", "step", "used", "kind", "bag", "v"] ["graph", "done", "step", "used"] (a0F a3R):=⟨rfl,rfl,rfl,by decide +kernel,rfl,by decide +kernel,by decide +kernel⟩
def bagF (n:Nat) (ts:List ζζ) (done:List Stp) (s:Stp) (used:List (List Int)):Option (List Int) :=
 match s with
 | .leaf=>some []
 | .inn v=>if (0<=v/\v < (n:Int))/\v ∉ used.getD 0 []/\Stp.out v ∉ done then some (b5P (used.getD 0 []) [v]) else none
 | .tie a b=>if (a,b)∈ts/\a2R [a,b] (used.getD 0 [])=[]/\Stp.tie a b ∉ done then some (used.getD 0 []) else none
 | .out v=>if v∈used.getD 0 []/\Stp.out v ∉ done then some (a2R (used.getD 0 []) [v]) else none
 | .join=>if used.getD 0 []=used.getD 1 [] then some (used.getD 0 []) else none
def BagN (K:Φρ) (H:Hp) (ux:List V) (H':Hp) (v:V):Option (List Int)->Prop
 | none=>v = .non
 | some b=>∃ p,v = .ref p/\SqL K H' p (b.map V.int)/\(H p=none\/V.ref p∈ux)
theorem b9X {ux:List V} {k:Nat} {v:V} (h:atI ux (k:Int)=some v):v∈ux:=by
 obtain ⟨j,_,e,_⟩:=b3F h
 exact List.mem_of_getElem? e
def d0M (K:Φρ):Sp:=λ vs H Q _=>∃ (g:V) (n:Nat) (ts:List ζζ) (dn st us:Addr) (ds ux:List V) (done:List Stp) (s:Stp) (used:List (List Int)),vs=[g,.ref dn,.ref st,.ref us]/\GraphV K H g n ts/\n<=10/\SqL K H dn ds/\Paired (StpV K H) ds done/\SqT K H st s.vs/\SqL K H us ux/\Paired (LstV K H) ux used/\s.need<=used.length/\(∀ b∈used,b2E b/\b.length<=1000) /\
 ∀ r H',Same H H'->BagN K H ux H' r (bagF n ts done s used)->Q r H'
theorem a3V {i j:Nat} (hi:i < 5) (hj:j < 5) (h:i≠j):decide (V.str (b4C i)=V.str (b4C j))=false:=decide_eq_false λ e=>by
 have e':b4C i=b4C j:=by injection e
 have:=b5K i hi j hj
 rw [e',beq_self_eq_true,decide_eq_false h] at this
 cases this
theorem w10:decide (V.str (Str.ofString "in")=V.str (Str.ofString "leaf"))=false:=a3V (i:=1) (j:=0) (by decide) (by decide) (by decide)
theorem w20:decide (V.str (Str.ofString "tie")=V.str (Str.ofString "leaf"))=false:=a3V (i:=2) (j:=0) (by decide) (by decide) (by decide)
theorem w21:decide (V.str (Str.ofString "tie")=V.str (Str.ofString "in"))=false:=a3V (i:=2) (j:=1) (by decide) (by decide) (by decide)
theorem w30:decide (V.str (Str.ofString "out")=V.str (Str.ofString "leaf"))=false:=a3V (i:=3) (j:=0) (by decide) (by decide) (by decide)
theorem w31:decide (V.str (Str.ofString "out")=V.str (Str.ofString "in"))=false:=a3V (i:=3) (j:=1) (by decide) (by decide) (by decide)
theorem w32:decide (V.str (Str.ofString "out")=V.str (Str.ofString "tie"))=false:=a3V (i:=3) (j:=2) (by decide) (by decide) (by decide)
theorem w40:decide (V.str (Str.ofString "join")=V.str (Str.ofString "leaf"))=false:=a3V (i:=4) (j:=0) (by decide) (by decide) (by decide)
theorem w41:decide (V.str (Str.ofString "join")=V.str (Str.ofString "in"))=false:=a3V (i:=4) (j:=1) (by decide) (by decide) (by decide)
theorem w42:decide (V.str (Str.ofString "join")=V.str (Str.ofString "tie"))=false:=a3V (i:=4) (j:=2) (by decide) (by decide) (by decide)
theorem w43:decide (V.str (Str.ofString "join")=V.str (Str.ofString "out"))=false:=a3V (i:=4) (j:=3) (by decide) (by decide) (by decide)
theorem b9Y {K:Φρ} {H:Hp} {ux:List V} {used:List (List Int)} {k:Nat} (p:Paired (LstV K H) ux used) (h:k < used.length):∃ b,atI ux (k:Int)=some (.ref b)/\SqL K H b ((used.getD k []).map V.int)/\used.getD k []∈used:=by
 obtain ⟨x,hx,⟨b,rfl,hb⟩⟩:=a0Y p (List.getElem?_eq_getElem h)
 refine ⟨b,a1M hx,?_,?_⟩
 ·rw [τα,List.getElem?_eq_getElem h]; exact hb
 ·rw [τα,List.getElem?_eq_getElem h]; exact List.getElem_mem h
theorem a6E {K:Φρ} {H:Hp} {dn st:Addr} {ds:List V} {done:List Stp} {s:Stp} {Q:VK} (hD:SqL K H dn ds) (pD:Paired (StpV K H) ds done) (hS:SqT K H st s.vs) (q:Q (.bl (!decide (s∈done))) H):rInD K true (.ref st) (.ref dn) H Q:=by
 refine ⟨s.d,done.map Stp.d,StpV.isD ⟨st,rfl,hS⟩,.lst hD (b0J (λ _ _ h=>StpV.isD h) pD),b6Z _,b4B _,?_⟩
 rw [if_pos rfl,c7C]
 exact q
section
variable {P:Program} {w:World} {K:Φρ} {mg:Str->Option Value} {base:Heap}
abbrev DZ11 (K:PySem.W.Frag) (mg:Str->Option Value):=Dn K mg "bag_behind" a3R ["graph", "done", "step", "used"]
set_option maxHeartbeats 8000000 in
theorem b0R (B:Bl mg) (dZ19:DZ19 K mg) (dZ15:DZ15 K mg) (dZ20:DZ20 K mg) (dZ22:DZ22 K mg) (dZ11:DZ11 K mg):FnOk P w K mg base CX0 3 dZ11.f dZ11.fd ["graph", "done", "step", "used"] (d0M K):=by
 have gZ15:FnOk P w K mg base CX0 2 _ _ _ _:=a5K B dZ19 dZ15
 have gZ20:FnOk P w K mg base CX0 2 _ _ _ _:=(c3D B dZ20).mono (by decide)
 have gZ22:FnOk P w K mg base CX0 2 _ _ _ _:=(FnOk.either (c3E B dZ22) (c3F B dZ22)).mono (by decide)
 refine dZ11.F.ok sc_bag_behind (λ vs H Q E h=>?_) (λ cdv A outer s H vs Q E hr h=>?_)
 ·obtain ⟨g,n,ts,dn,st,us,ds,ux,done,s,used,rfl,_⟩:=h
  rfl
 obtain ⟨g,n,ts,dn,st,us,ds,ux,done,sp,used,rfl,hG,n10,hD,pD,hS,hU,pU,nu,sm,q⟩:=h
 have hu:(A.deeper (PyProof.Rows.envOfC "bag_behind" (a0F a3R) s.heap.objs.size dZ11.f cdv)).units+64 < cLine:=by have:=hr.un; omega
 have hv:(A.deeper (PyProof.Rows.envOfC "bag_behind" (a0F a3R) s.heap.objs.size dZ11.f cdv)).units+65 < cLine:=by have:=hr.un; omega
 obtain ⟨pg,ta,rfl,hP,hT⟩:=id hG
 refine ⟨_,(a0C (a0Q (i:=4) sc_bag_behind.nd rfl (Or.inl rfl) (a1B (a0X (K:=K) rfl) (pv 2) a0D (λ _ _=>rfl)))
   (a0C (a1O (a0J a5P (pv 4) a1D (a0S _))
   (a0E (a0P (a0O a0B)))
   a0N)
   (a0C (a0Q (i:=5) sc_bag_behind.nd rfl (Or.inl rfl) (a1B (a0V (K:=K) rfl) (pv 3) a0D (λ _ _=>rfl)))
   (a0C (a1O (a0J a5P (pv 4) a1D (a0S _))
   (a0C (a0Q (i:=6) sc_bag_behind.nd rfl (Or.inl rfl) (a1B (a0X (K:=K) rfl) (pv 2) a0D (λ _ _=>rfl)))
   (a0E (a0P (a4B (PW.pt (a3I (a1L (K:=K) rfl (a0K gZ15 hr rfl dZ15.m dZ15.F.kp dZ15.b .nil a1I (a0A (a1B (a0X (K:=K) rfl) (pv 0) a0D (λ _ _=>rfl)) (a0A (pv 6) a0B))) (λ _=>rfl)) (a3I (a0J (a2G (K:=K) rfl hv) (pv 6) (pv 5) (by with_unfolding_all rfl)) (a3B (a0J (a2G (K:=K) rfl hv) (a0T (a0A a1D (a0A (pv 6) a0B))) (pv 1) (by with_unfolding_all rfl)))))) (a0K gZ20 hr rfl dZ20.m dZ20.F.kp dZ20.b .nil a1I (a0A (pv 5) (a0A (a0O (a0A (pv 6) a0B)) a0B))) a1N))))
   a0N)
   (a0C (a1O (a0J a5P (pv 4) a1D (a0S _))
   (a0E (a0P (a4B (PW.pt (a3I (a0J (a2V (K:=K) rfl hv) (a1Z (b3M (K:=K) rfl) (pv 2) (a2L a0D) a2K) (a1B (a0X (K:=K) rfl) (pv 0) a0D (λ _ _=>rfl)) (by with_unfolding_all rfl)) (a3I (a5B (a1L (K:=K) rfl (a0K gZ22 hr rfl dZ22.m dZ22.F.kp dZ22.b .nil a1I (a0A (a1Z (b3M (K:=K) rfl) (pv 2) (a2L a0D) a2K) (a0A (pv 5) a0B))) (λ _=>rfl))) (a3B (a0J (a2G (K:=K) rfl hv) (pv 2) (pv 1) (by with_unfolding_all rfl)))))) (pv 5) a1N)))
   a0N)
   (a0C (a1O (a0J a5P (pv 4) a1D (a0S _))
   (a0E (a0P (a4B (PW.pt (a3I (a0J (a2V (K:=K) rfl hv) (a1B (a0X (K:=K) rfl) (pv 2) a0D (λ _ _=>rfl)) (pv 5) (by with_unfolding_all rfl)) (a3B (a0J (a2G (K:=K) rfl hv) (pv 2) (pv 1) (by with_unfolding_all rfl))))) (a0K gZ22 hr rfl dZ22.m dZ22.F.kp dZ22.b .nil a1I (a0A (pv 5) (a0A (a1Z (b3M (K:=K) rfl) (pv 2) (a2L a0D) a2K) a0B))) a1N)))
   a0N)
   (a0E (a0P (a4B (a0J (c5G (K:=K) rfl hu) (pv 5) (a1B (a0V (K:=K) rfl) (pv 3) a0D (λ _ _=>rfl)) (a0S _)) (pv 5) a1N))))))))),?_⟩
 cases sp with
 | leaf =>
  refine ⟨_,rfl,st,_,_,_,rfl,rfl,hS,rfl,?_⟩
  refine ⟨_,rfl,rfl,_,rfl,?_⟩
  rw [decide_eq_true rfl]
  exact iteT ⟨(by show 0<=1000; decide),λ p1 H1 n1=>q _ H1 n1.same ⟨p1,rfl,SqL.of n1.here,.inl n1.fresh⟩⟩
 | inn v =>
  obtain ⟨b0,a0,hb0,m0⟩:=b9Y (k:=0) pU nu
  obtain ⟨sm0,l0⟩:=sm _ m0
  refine ⟨_,rfl,st,_,_,_,rfl,rfl,hS,rfl,?_⟩
  refine ⟨_,rfl,rfl,_,rfl,?_⟩
  rw [w10]
  refine iteF ?_
  refine ⟨_,rfl,us,_,_,_,rfl,rfl,hU,a0,?_⟩
  refine ⟨_,rfl,rfl,_,rfl,?_⟩
  rw [decide_eq_true rfl]
  refine iteT ⟨_,rfl,st,_,_,_,rfl,rfl,hS,rfl,?_⟩
  refine ⟨_,rfl,pg,_,_,_,rfl,rfl,hP,rfl,_,rfl,(n:Int),some v,rfl,_,rfl,?_⟩
  have eb:a5W (n:Int) (some v)=decide (0<=v/\v < (n:Int)):=rfl
  rw [eb]
  have no:∀ {H'},Same H H'->¬ ((0<=v/\v < (n:Int))/\v ∉ used.getD 0 []/\Stp.out v ∉ done)->Q .non H':=λ s c=>q _ _ s (by
   unfold bagF
   dsimp only
   rw [if_neg c]
   exact rfl)
  by_cases c1:0<=v/\v < (n:Int)
  ·rw [decide_eq_true c1]
   refine iteT ⟨_,rfl,_,rfl,a5Y hb0 ⟨_,rfl,?_⟩⟩
   by_cases c2:v∈used.getD 0 []
   ·rw [decide_eq_true c2]
    exact iteF (iteF (no (Same.refl _) λ h=>h.2.1 c2))
   ·rw [decide_eq_false c2]
    refine iteT ⟨_,rfl,(by show 2<=1000; decide),λ p2 H2 n2=>?_⟩
    refine ⟨_,rfl,a6E (s:=.out v) (n2.same.seq hD) (Paired.mapP pD λ _ _ h=>StpV.same n2.same h) (SqT.of n2.here) ⟨_,rfl,?_⟩⟩
    by_cases c3:Stp.out v∈done
    ·rw [decide_eq_true c3]
     exact iteF (no n2.same λ h=>h.2.2 c3)
    ·rw [decide_eq_false c3]
     refine iteT ⟨_,rfl,_,rfl,(by show 1<=1000; decide),λ p3 H3 n3=>?_⟩
     refine ⟨b0,p3,_,[v],rfl,(n2.same.trans n3.same).seq hb0,SqL.of n3.here,sm0,λ x hx=>by rw [List.mem_singleton.mp hx]; omega,λ H4 p5 H5 s4 n5=>?_⟩
     refine q _ H5 (n2.same.trans (n3.same.trans (s4.trans n5.same))) ?_
     unfold bagF
     dsimp only
     rw [if_pos ⟨c1,c2,c3⟩]
     exact ⟨p5,rfl,SqL.of n5.here,.inl ((n2.same.trans (n3.same.trans s4)).free n5.fresh)⟩
  ·rw [decide_eq_false c1]
   exact iteF (iteF (no (Same.refl _) λ h=>c1 h.1))
 | tie x y =>
  obtain ⟨b0,a0,hb0,m0⟩:=b9Y (k:=0) pU nu
  refine ⟨_,rfl,st,_,_,_,rfl,rfl,hS,rfl,?_⟩
  refine ⟨_,rfl,rfl,_,rfl,?_⟩
  rw [w20]
  refine iteF ?_
  refine ⟨_,rfl,us,_,_,_,rfl,rfl,hU,a0,?_⟩
  refine ⟨_,rfl,rfl,_,rfl,?_⟩
  rw [w21]
  refine iteF ?_
  refine ⟨_,rfl,rfl,_,rfl,?_⟩
  rw [decide_eq_true rfl]
  have no:∀ {H'},Same H H'->¬ ((x,y)∈ts/\a2R [x,y] (used.getD 0 [])=[]/\Stp.tie x y ∉ done)->Q .non H':=λ s c=>q _ _ s (by
   unfold bagF
   dsimp only
   rw [if_neg c]
   exact rfl)
  refine iteT ⟨_,rfl,_,rfl,st,_,rfl,hS,λ h=>absurd h.1 (by show ¬ HT.sIx 3 0 (some 1)=0; decide),λ p1 H1 n1=>?_⟩
  refine ⟨_,rfl,pg,_,_,_,rfl,rfl,n1.same.tupq hP,rfl,tieD (x,y),ts.map tieD,TieV.isD ⟨p1,rfl,SqT.of n1.here⟩,(hT.same n1.same).isD,b7A _,b3L _,_,rfl,?_⟩
  rw [if_neg Bool.false_ne_true,c7J]
  by_cases c1:(x,y)∈ts
  ·rw [decide_eq_true c1]
   refine iteT ⟨_,rfl,_,rfl,st,_,rfl,n1.same.tupq hS,λ h=>absurd h.1 (by show ¬ HT.sIx 3 0 (some 1)=0; decide),λ p2 H2 n2=>?_⟩
   have s2:=n1.same.trans n2.same
   refine ⟨_,rfl,.inl ⟨p2,b0,[x,y],_,rfl,SqT.of n2.here,s2.seq hb0,(by show 2<=1000; decide),λ H4 p5 H5 s4 n5=>?_⟩⟩
   have s5:=s2.trans (s4.trans n5.same)
   refine ⟨_,.inl ⟨_,SqL.of n5.here,rfl⟩,?_⟩
   by_cases c2:a2R [x,y] (used.getD 0 [])=[]
   ·rw [c2]
    refine iteT ⟨_,rfl,_,rfl,a6E (s:=.tie x y) (s5.seq hD) (Paired.mapP pD λ _ _ h=>StpV.same s5 h) (s5.tupq hS) ⟨_,rfl,?_⟩⟩
    by_cases c3:Stp.tie x y∈done
    ·rw [decide_eq_true c3]
     exact iteF (no s5 λ h=>h.2.2 c3)
    ·rw [decide_eq_false c3]
     refine iteT ⟨_,rfl,q _ H5 s5 ?_⟩
     unfold bagF
     dsimp only
     rw [if_pos ⟨c1,c2,c3⟩]
     exact ⟨b0,rfl,s5.seq hb0,.inr (b9X a0)⟩
   ·have e:((a2R [x,y] (used.getD 0 [])).map V.int).isEmpty=false:=by
     cases c4:a2R [x,y] (used.getD 0 []) with
     | nil=>exact absurd c4 c2
     | cons _ _=>rfl
    rw [e]
    exact iteF (iteF (no s5 λ h=>c2 h.2.1))
  ·rw [decide_eq_false c1]
   exact iteF (iteF (no n1.same λ h=>c1 h.1))
 | out v =>
  obtain ⟨b0,a0,hb0,m0⟩:=b9Y (k:=0) pU nu
  refine ⟨_,rfl,st,_,_,_,rfl,rfl,hS,rfl,?_⟩
  refine ⟨_,rfl,rfl,_,rfl,?_⟩
  rw [w30]
  refine iteF ?_
  refine ⟨_,rfl,us,_,_,_,rfl,rfl,hU,a0,?_⟩
  refine ⟨_,rfl,rfl,_,rfl,?_⟩
  rw [w31]
  refine iteF ?_
  refine ⟨_,rfl,rfl,_,rfl,?_⟩
  rw [w32]
  refine iteF ?_
  refine ⟨_,rfl,rfl,_,rfl,?_⟩
  rw [decide_eq_true rfl]
  have no:∀ {H'},Same H H'->¬ (v∈used.getD 0 []/\Stp.out v ∉ done)->Q .non H':=λ s c=>q _ _ s (by
   unfold bagF
   dsimp only
   rw [if_neg c]
   exact rfl)
  refine iteT ⟨_,rfl,st,_,_,_,rfl,rfl,hS,rfl,_,rfl,a4I hb0 ⟨_,rfl,?_⟩⟩
  by_cases c1:v∈used.getD 0 []
  ·rw [decide_eq_true c1]
   refine iteT ⟨_,rfl,_,rfl,a6E (s:=.out v) hD pD hS ⟨_,rfl,?_⟩⟩
   by_cases c2:Stp.out v∈done
   ·rw [decide_eq_true c2]
    exact iteF (no (Same.refl _) λ h=>h.2 c2)
   ·rw [decide_eq_false c2]
    refine iteT ⟨_,rfl,_,rfl,_,rfl,st,_,rfl,hS,λ h=>absurd h.1 (by show ¬ HT.sIx 2 0 (some 1)=0; decide),λ p2 H2 n2=>?_⟩
    refine .inr ⟨b0,p2,_,[v],rfl,n2.same.seq hb0,SqT.of n2.here,(sm _ m0).2,λ H4 p5 H5 s4 n5=>?_⟩
    refine q _ H5 (n2.same.trans (s4.trans n5.same)) ?_
    unfold bagF
    dsimp only
    rw [if_pos ⟨c1,c2⟩]
    exact ⟨p5,rfl,SqL.of n5.here,.inl ((n2.same.trans s4).free n5.fresh)⟩
  ·rw [decide_eq_false c1]
   exact iteF (iteF (no (Same.refl _) λ h=>c1 h.1))
 | join =>
  obtain ⟨b0,a0,hb0,m0⟩:=b9Y (k:=0) pU (Nat.lt_of_lt_of_le (by decide) nu)
  obtain ⟨b1,a1,hb1,m1⟩:=b9Y (k:=1) pU (Nat.lt_of_lt_of_le (by decide) nu)
  refine ⟨_,rfl,st,_,_,_,rfl,rfl,hS,rfl,?_⟩
  refine ⟨_,rfl,rfl,_,rfl,?_⟩
  rw [w40]
  refine iteF ?_
  refine ⟨_,rfl,us,_,_,_,rfl,rfl,hU,a0,?_⟩
  refine ⟨_,rfl,rfl,_,rfl,?_⟩
  rw [w41]
  refine iteF ?_
  refine ⟨_,rfl,rfl,_,rfl,?_⟩
  rw [w42]
  refine iteF ?_
  refine ⟨_,rfl,rfl,_,rfl,?_⟩
  rw [w43]
  refine iteF ?_
  refine ⟨_,rfl,_,rfl,us,_,_,_,rfl,rfl,hU,a1,_,_,.lst hb0 (IsDs.ints _),.lst hb1 (IsDs.ints _),a3M _,a3M _,_,rfl,?_⟩
  rw [if_neg Bool.false_ne_true,b4S]
  by_cases c:used.getD 0 []=used.getD 1 []
  ·rw [decide_eq_true c]
   refine iteT ⟨_,rfl,q _ H (Same.refl _) ?_⟩
   unfold bagF
   dsimp only
   rw [if_pos c]
   exact ⟨b0,rfl,hb0,.inr (b9X a0)⟩
  ·rw [decide_eq_false c]
   refine iteF (q _ H (Same.refl _) ?_)
   unfold bagF
   dsimp only
   rw [if_neg c]
   exact rfl
end
end K
namespace K
open PySem L2 Lw Bg
abbrev d0N:Stmt:=top 37
theorem sc_run:FnScope ["graph", "steps", "tops", "feeds", "pile", "k", "step", "left", "bag"] ["graph", "steps"] (a0F d0N):=⟨rfl,rfl,rfl,by decide +kernel,rfl,by decide +kernel,by decide +kernel⟩
structure RS where
 tops:List (List Int)
 feeds:List (List Nat)
 pile:List Nat
def a2W (s:Stp) (r:RS):Nat:=r.pile.length - s.need
def b0S (s:Stp) (r:RS):List (List Int):=(r.pile.drop (a2W s r)).map λ j=>r.tops.getD j []
def a4Z (n:Nat) (ts:List ζζ) (ss:List Stp) (k:Nat) (r:RS):Option RS :=
 if (ss.getD k .leaf).need<=r.pile.length then
  (bagF n ts (ss.take k) (ss.getD k .leaf) (b0S (ss.getD k .leaf) r)).map λ b=>⟨r.tops++[b],r.feeds++[r.pile.drop (a2W (ss.getD k .leaf) r)],r.pile.take (a2W (ss.getD k .leaf) r)++[k]⟩
 else none
def runR (n:Nat) (ts:List ζζ) (ss:List Stp):Nat->RS × Bool
 | 0=>(⟨[],[],[]⟩,true)
 | k+1=>if (runR n ts ss k).2=true then
   match a4Z n ts ss k (runR n ts ss k).1 with
   | some r=>(r,true)
   | none=>((runR n ts ss k).1,false)
  else ((runR n ts ss k).1,false)
def endR (n:Nat) (ts:List ζζ) (ss:List Stp):RS:=(runR n ts ss ss.length).1
theorem b0T {n:Nat} {ts:List ζζ} {ss:List Stp} {k:Nat} (h:(runR n ts ss k).2=false):∀ m,k<=m->runR n ts ss m=((runR n ts ss k).1,false)
 | 0,hm=>by
  have:k=0:=by omega
  subst this
  exact Prod.ext rfl h
 | m+1,hm=>by
  by_cases c:k=m+1
  ·subst c
   exact Prod.ext rfl h
  ·have ih:=b0T h m (by omega)
   show (if (runR n ts ss m).2=true then _ else _)=_
   rw [ih]
   rfl
structure RunI (i:Nat) (r:RS):Prop where
 tl:r.tops.length=i
 fl:r.feeds.length=i
 pl:r.pile.length<=i
 lt:∀ j∈r.pile,j < i
 sm:∀ b∈r.tops,b2E b/\b.length<=1000
 ff:∀ f∈r.feeds,f.length<=2
theorem b9Z {n:Nat} {ts:List ζζ} {done:List Stp} {s:Stp} {used:List (List Int)} {b:List Int} (n10:n<=10) (sm:∀ b∈used,b2E b/\b.length<=1000) (h:bagF n ts done s used=some b):b2E b/\b.length<=1000:=by
 have g:∀ k,b2E (used.getD k [])/\(used.getD k []).length<=1000:=λ k=>by
  by_cases c:k < used.length
  ·rw [τα,List.getElem?_eq_getElem c]
   exact sm _ (List.getElem_mem c)
  ·rw [τα,List.getElem?_eq_none (by omega)]
   exact ⟨λ x hx=>absurd hx List.not_mem_nil,by decide⟩
 unfold bagF at h
 cases s with
 | leaf =>
  have:b=[]:=(Option.some.inj h).symm
  subst this
  exact ⟨λ x hx=>absurd hx List.not_mem_nil,by decide⟩
 | inn v =>
  dsimp only at h
  split at h
  ·rw [<- Option.some.inj h]
   refine ⟨λ x hx=>?_,?_⟩
   ·obtain ⟨h1,h2,_⟩:=mem_upF.mp hx
    exact ⟨h1,h2⟩
   ·unfold b5P upF
    exact Nat.le_trans (List.length_filter_le _ _) (by rw [List.length_map,List.length_range]; decide)
  ·cases h
 | tie x y =>
  dsimp only at h
  split at h
  ·rw [<- Option.some.inj h]; exact g 0
  ·cases h
 | out v =>
  dsimp only at h
  split at h
  ·rw [<- Option.some.inj h]
   exact ⟨λ x hx=>(g 0).1 x (List.mem_filter.mp hx).1,Nat.le_trans (List.length_filter_le _ _) (g 0).2⟩
  ·cases h
 | join =>
  dsimp only at h
  split at h
  ·rw [<- Option.some.inj h]; exact g 0
  ·cases h
theorem a6P {n:Nat} {ts:List ζζ} {ss:List Stp} (n10:n<=10):∀ {i:Nat},(runR n ts ss i).2=true->RunI i (runR n ts ss i).1
 | 0,_=>⟨rfl,rfl,Nat.le_refl _,λ j h=>absurd h List.not_mem_nil,λ b h=>absurd h List.not_mem_nil,λ b h=>absurd h List.not_mem_nil⟩
 | i+1,h=>by
  have e:runR n ts ss (i+1)=if (runR n ts ss i).2=true then
   (match a4Z n ts ss i (runR n ts ss i).1 with
   | some r=>(r,true)
   | none=>((runR n ts ss i).1,false))
  else ((runR n ts ss i).1,false):=rfl
  rw [e] at h ⊢
  by_cases c:(runR n ts ss i).2=true
  ·have I:=a6P n10 c
   rw [if_pos c] at h ⊢
   cases d:a4Z n ts ss i (runR n ts ss i).1 with
   | none=>rw [d] at h; cases h
   | some r =>
    dsimp only
    unfold a4Z at d
    split at d
    ·obtain ⟨b,hb,er⟩:=Option.map_eq_some_iff.mp d
     rw [<- er]
     have sb:=b9Z n10 (λ x hx=>by
      obtain ⟨j,hj,e⟩:=List.mem_map.mp hx
      have jl:=I.lt j (List.mem_of_mem_drop hj)
      rw [<- e,τα,List.getElem?_eq_getElem (by rw [I.tl]; exact jl)]
      exact I.sm _ (List.getElem_mem _)) hb
     refine ⟨?_,?_,?_,λ j hj=>?_,λ x hx=>?_,λ f hf=>?_⟩
     ·show (_++[b]).length=_
      rw [List.length_append,I.tl]; rfl
     ·show (_++[_]).length=_
      rw [List.length_append,I.fl]; rfl
     ·show (_++[i]).length<=_
      rw [List.length_append,List.length_take]
      have:=I.pl
      show min _ _+1<=_
      omega
     ·rcases List.mem_append.mp hj with hj | hj
      ·have:=I.lt j (List.mem_of_mem_take hj)
       omega
      ·rw [List.mem_singleton.mp hj]; omega
     ·rcases List.mem_append.mp hx with hx | hx
      ·exact I.sm x hx
      ·rw [List.mem_singleton.mp hx]; exact sb
     ·rcases List.mem_append.mp hf with hf | hf
      ·exact I.ff f hf
      ·rw [List.mem_singleton.mp hf,List.length_drop]
       unfold a2W
       have:(ss.getD i .leaf).need<=2:=by cases ss.getD i .leaf <;> simp [Stp.need]
       omega
    ·cases d
  ·rw [if_neg c] at h
   cases h
theorem d0O {n:Nat} {ts:List ζζ} {ss:List Stp} {i:Nat} {r:RS} (c:(runR n ts ss i).2=true) (d:a4Z n ts ss i (runR n ts ss i).1=some r):runR n ts ss (i+1)=(r,true):=by
 show (if (runR n ts ss i).2=true then _ else _)=_
 rw [if_pos c,d]
theorem c7K {n:Nat} {ts:List ζζ} {ss:List Stp} {i:Nat} (il:i < ss.length) (c:(runR n ts ss i).2=true) (d:a4Z n ts ss i (runR n ts ss i).1=none):endR n ts ss=(runR n ts ss i).1:=by
 have e:runR n ts ss (i+1)=((runR n ts ss i).1,false):=by
  show (if (runR n ts ss i).2=true then _ else _)=_
  rw [if_pos c,d]
 unfold endR
 rw [b0T (k:=i+1) (by rw [e]) ss.length il,e]
end K
namespace K
open PySem L2 Lw Bg
def BagL (ex:List Addr) (K:Φρ) (H:Hp) (v:V) (b:List Int):Prop:=∃ p,v = .ref p/\SqL K H p (b.map V.int)/\p ∉ ex
theorem BagL.same {ex:List Addr} {K:Φρ} {H H':Hp} {v:V} {b:List Int} (s:Same H H') (h:BagL ex K H v b):BagL ex K H' v b:=by
 obtain ⟨p,e,q,n⟩:=h
 exact ⟨p,e,s.seq q,n⟩
theorem BagL.l {ex:List Addr} {K:Φρ} {H:Hp} {v:V} {b:List Int} (h:BagL ex K H v b):LstV K H v b:=by
 obtain ⟨p,e,q,n⟩:=h
 exact ⟨p,e,q⟩
theorem c7L {K:Φρ} {H H':Hp} {a p:Addr} {o:HO} {xs:List V} (c:Chg H a o H') (n:p≠a) (h:SqL K H p xs):SqL K H' p xs:=by
 rcases h with h | h
 ·refine .inl ?_
  rcases h with h | ⟨u,h⟩
  ·exact .inl ((c.rest p n).trans h)
  ·exact .inr ⟨u,(c.rest p n).trans h⟩
 ·exact .inr h
theorem BagL.chg {ex:List Addr} {K:Φρ} {H H':Hp} {a:Addr} {o:HO} {v:V} {b:List Int} (c:Chg H a o H') (ha:a∈ex) (h:BagL ex K H v b):BagL ex K H' v b:=by
 obtain ⟨p,e,q,n⟩:=h
 exact ⟨p,e,c7L c (λ z=>n (z ▸ ha)) q,n⟩
def NatL (ex:List Addr) (H:Hp) (q:Addr) (f:List Nat):Prop:=H q=some (.lst (natV f))/\q ∉ ex
theorem NatL.same {ex:List Addr} {H H':Hp} {q:Addr} {f:List Nat} (s:Same H H') (h:NatL ex H q f):NatL ex H' q f:=⟨s _ _ h.1,h.2⟩
theorem NatL.chg {ex:List Addr} {H H':Hp} {a:Addr} {o:HO} {q:Addr} {f:List Nat} (c:Chg H a o H') (ha:a∈ex) (h:NatL ex H q f):NatL ex H' q f:=⟨(c.rest q λ z=>h.2 (z ▸ ha)).trans h.1,h.2⟩
theorem b5R (xs:List V) (k:Nat) (h:k<=xs.length):cutV xs none (some (k:Int))=xs.take k:=by
 unfold cutV
 have e1:HT.sIx xs.length xs.length (some (k:Int))=k:=by
  show min _ _=k
  simp
  omega
 have e2:HT.sIx xs.length 0 none=0:=rfl
 rw [e1,e2,List.drop_zero,Nat.sub_zero]
theorem b5S (xs:List V) (k:Nat) (h:k<=xs.length):cutV xs (some (k:Int)) none=xs.drop k:=by
 unfold cutV
 have e1:HT.sIx xs.length 0 (some (k:Int))=k:=by
  show min _ _=k
  simp
  omega
 have e2:HT.sIx xs.length xs.length none=xs.length:=rfl
 rw [e1,e2,List.take_of_length_le (by rw [List.length_drop]; omega)]
theorem a9V {α β:Type} {R:α->β->Prop}:∀ {xs:List α} {ys:List β} (i:Nat),Paired R xs ys->Paired R (xs.take i) (ys.take i)
 | _,_,0,_=>.nil
 | _,_,_+1,.nil=>.nil
 | _,_,i+1,.cons q r=>.cons q (a9V i r)
def BagX (ex:List Addr) (K:Φρ) (H:Hp) (v:V):Option (List Int)->Prop
 | none=>v = .non
 | some b=>BagL ex K H v b
theorem b2P {ex:List Addr} {K:Φρ} {H:Hp} {vt:List V} {tops:List (List Int)} (p:Paired (BagL ex K H) vt tops):∀ l:List Nat,(∀ j∈l,j < tops.length)->Paired (LstV K H) (l.map λ j=>vt.getD j .non) (l.map λ j=>tops.getD j [])
 | [],_=>.nil
 | j::r,h=>by
  have jl:=h j List.mem_cons_self
  obtain ⟨x,hx,hb⟩:=a0Y p (List.getElem?_eq_getElem jl)
  refine .cons ?_ (b2P p r λ i hi=>h i (List.mem_cons_of_mem _ hi))
  dsimp only
  rw [τα,hx,τα,List.getElem?_eq_getElem jl]
  exact hb.l
def d2N (K:Φρ):Sp:=λ vs H Q _=>∃ (g:V) (n:Nat) (ts:List ζζ) (a:Addr) (xs:List V) (ss:List Stp),vs=[g,.ref a]/\GraphV K H g n ts/\n<=10/\SqL K H a xs/\Paired (StpV K H) xs ss/\ss.length<=900 /\
 ∀ r pt pf pp vt fs H',Same H H'->H' r=some (.tup [.ref pt,.ref pf,.ref pp])->H pt=none->H pf=none->H pp=none->H' pt=some (.lst vt)->H' pf=some (.lst (fs.map V.ref))->NatL [pt,pf] H' pp (endR n ts ss).pile->Paired (BagL [pt,pf] K H') vt (endR n ts ss).tops->Paired (NatL [pt,pf] H') fs (endR n ts ss).feeds->Q (.ref r) H'
section
variable {P:Program} {w:World} {K:Φρ} {mg:Str->Option Value} {base:Heap}
abbrev DZ26 (K:PySem.W.Frag) (mg:Str->Option Value):=Dn K mg "run" d0N ["graph", "steps"]
set_option maxHeartbeats 8000000 in
theorem c4P (B:Bl mg) (U:Used w K mg) (dZ19:DZ19 K mg) (dZ15:DZ15 K mg) (dZ20:DZ20 K mg) (dZ22:DZ22 K mg) (dZ11:DZ11 K mg) (dZ26:DZ26 K mg):FnOk P w K mg base CX0 4 dZ26.f dZ26.fd ["graph", "steps"] (d2N K):=by
 have gZ11:FnOk P w K mg base CX0 3 _ _ _ _:=b0R B dZ19 dZ15 dZ20 dZ22 dZ11
 refine dZ26.F.ok sc_run (λ vs H Q E h=>?_) (λ cdv A outer s H vs Q E hr h=>?_)
 ·obtain ⟨g,n,ts,a,xs,ss,rfl,_⟩:=h
  rfl
 obtain ⟨g,n,ts,a,xs,ss,rfl,hG,n10,hA,pA,l900,q⟩:=h
 have lx:=Paired.length pA
 refine ⟨_,(a0C (a0Q (i:=2) sc_run.nd rfl (Or.inr rfl) (a0O a0B))
   (a0C (a0Q (i:=3) sc_run.nd rfl (Or.inl rfl) (a0O a0B))
   (a0C (a0Q (i:=4) sc_run.nd rfl (Or.inl rfl) (a0O a0B))
   (a0C (a2Z PassesOwn.never rfl (a8A (K:=K) rfl rfl B.enumerate (a0A (pv 1) a0B)) (a2A (K:=K) (n:=2) rfl rfl (a0M (a0H (i:=5) sc_run.nd rfl (Or.inl rfl)) (a0M (a0H (i:=6) sc_run.nd rfl (Or.inl rfl)) a1X)))
   (a0C (a0Q (i:=7) sc_run.nd rfl (Or.inl rfl) (a0R a4N (a0G (a0L (K:=K) rfl) rfl B.len (by decide +kernel) (a0A (pv 4) a0B)) (c6Q U rfl (a1B (a0X (K:=K) rfl) (pv 6) a0D (λ _ _=>rfl)) (λ _ _=>rfl))))
   (a0C (a0Q (i:=8) sc_run.nd rfl (Or.inl rfl) a1N)
   (a3K (a1O (a0J d1L (pv 7) a0D (a0S _))
   (a0E (a0Q (i:=8) sc_run.nd rfl (Or.inl rfl) (a0K gZ11 hr rfl dZ11.m dZ11.F.kp dZ11.b .nil a1I (a0A (pv 0) (a0A (a1Z (a2J (K:=K) rfl) (pv 1) a2K (a2L (pv 5))) (a0A (pv 6) (a0A (a2P ["j", "tops"] [none,some 2]  (by kernel_rfl) rfl (a1A (K:=K) rfl (a1Z (a2J (K:=K) rfl) (pv 4) (a2L (pv 7)) a2K)) (λ _ _ _ _ _=>(a0H (i:=0) (show (["j", "tops"]:List Str).Nodup by decide +kernel) rfl (Or.inl rfl))) (λ _ _ _ _ _=>a1V) (λ _ _ _ _ _=>(a1B (a0V (K:=K) rfl) (pv 1) (pv 0) (λ _ _=>rfl)))) a0B)))))))
   a0N)
   (a0C (a1O (a0J a5Q (pv 8) a1N (a0S _))
   (a0E c1H)
   a0N)
   (a0C (a3C (a5V (K:=K) rfl PySem.F.plainAttrs_list PySem.F.slot_list_append PySem.F.type_list_append a2M (pv 2) (a0A (pv 8) a0B)))
   (a0C (a3C (a5V (K:=K) rfl PySem.F.plainAttrs_list PySem.F.slot_list_append PySem.F.type_list_append a2M (pv 3) (a0A (a1Z (a2J (K:=K) rfl) (pv 4) (a2L (pv 7)) a2K) a0B)))
   (a0E (a0Q (i:=4) sc_run.nd rfl (Or.inl rfl) (a0R a1R (a1Z (a2J (K:=K) rfl) (pv 4) a2K (a2L (pv 7))) (a0O (a0A (pv 5) a0B))))))))))))
   (a0E (a0P (a0T (a0A (pv 2) (a0A (pv 3) (a0A (pv 4) a0B)))))))))),?_⟩
 refine ⟨(by show 0<=1000; decide),λ p1 H1 n1=>⟨(by show 0<=1000; decide),λ p2 H2 n2=>⟨(by show 0<=1000; decide),λ p3 H3 n3=>?_⟩⟩⟩
 have s3:=n1.same.trans (n2.same.trans n3.same)
 have f1:H p1=none:=n1.fresh
 have f2:H p2=none:=n1.same.free n2.fresh
 have f3:H p3=none:=n1.same.free (n2.same.free n3.fresh)
 have n12:p1≠p2:=n2.ne n1.here
 have n13:p3≠p1:=(n3.ne (n2.same _ _ n1.here)).symm
 have n23:p3≠p2:=(n3.ne n2.here).symm
 have ret:∀ {H':Hp} {pp:Addr} {vt:List V} {fs:List Addr} {a5 a6 a7 a8:Option V},Same H H'->H pp=none->H' p1=some (.lst vt)->H' p2=some (.lst (fs.map V.ref))->NatL [p1,p2] H' pp (endR n ts ss).pile->Paired (BagL [p1,p2] K H') vt (endR n ts ss).tops->Paired (NatL [p1,p2] H') fs (endR n ts ss).feeds->tRet (c5K (a7G (tVar 2) (a7G (tVar 3) (a7G (tVar 4) tNil)))) { nx:=λ x H'=>Q V.non H',rt:=Q } [some g,some (.ref a),some (.ref p1),some (.ref p2),some (.ref pp),a5,a6,a7,a8] H':=λ {H' pp vt fs a5 a6 a7 a8} s fp h1 h2 h3 h4 h5=>by
  refine ⟨_,rfl,_,rfl,_,rfl,(by show 3<=1000; decide),λ pr Hr nr=>?_⟩
  exact q pr p1 p2 pp vt fs Hr (s.trans nr.same) nr.here f1 f2 fp (nr.same _ _ h1) (nr.same _ _ h2) (h3.same nr.same) (Paired.mapP h4 λ _ _ h=>h.same nr.same) (Paired.mapP h5 λ _ _ h=>h.same nr.same)
 refine ⟨_,rfl,a,rfl,⟨_,s3.seq hA⟩,?_⟩
 refine a7M (xs:=xs) (λ i σ H'=>∃ (vt:List V) (fs:List Addr) (pp:Addr) (a5 a6 a7 a8:Option V),σ=[some g,some (.ref a),some (.ref p1),some (.ref p2),some (.ref pp),a5,a6,a7,a8]/\Same H H'/\H' p1=some (.lst vt)/\H' p2=some (.lst (fs.map V.ref))/\(runR n ts ss i).2=true/\H pp=none/\NatL [p1,p2] H' pp (runR n ts ss i).1.pile/\Paired (BagL [p1,p2] K H') vt (runR n ts ss i).1.tops/\Paired (NatL [p1,p2] H') fs (runR n ts ss i).1.feeds)
  ⟨[],[],p3,none,none,none,none,rfl,s3,n3.same _ _ (n2.same _ _ n1.here),n3.same _ _ n2.here,rfl,f3,⟨n3.here,by simp [n13,n23]⟩,.nil,.nil⟩ (λ i σ H' _ ⟨_,_,_,_,_,_,_,_,s,_⟩=>s.seq hA) ?_ ?_
 ·rintro i x σ H4 pz H5 hi ⟨vt,fs,pp,a5,a6,a7,a8,rfl,s4,h1,h2,go,fp,hpp,pv,pf⟩ nz
  obtain ⟨sp,hsp,⟨ps,rfl,hps⟩⟩:=a0U pA hi
  have il:i < ss.length:=(List.getElem?_eq_some_iff.mp hsp).1
  have esp:ss.getD i .leaf=sp:=by rw [τα,hsp]; rfl
  have I:=a6P (n:=n) (ts:=ts) (ss:=ss) n10 go
  obtain ⟨R,eR⟩:∃ R,R=(runR n ts ss i).1:=⟨_,rfl⟩
  rw [<- eR] at I hpp pv pf
  have s5:=s4.trans nz.same
  refine ⟨pz,_,rfl,SqT.of nz.here,rfl,_,_,rfl,_,_,rfl,rfl,?_⟩
  have hpp5:=(hpp.same nz.same).1
  refine ⟨_,rfl,pp,_,rfl,.inl (SqL.of hpp5),_,rfl,ps,_,((0:Nat):Int),_,rfl,rfl,s5.tupq hps,c7B sp,.inr sp.word,_,rfl,c7A sp,_,_,rfl,rfl,?_⟩
  dsimp only
  rw [List.length_map]
  obtain ⟨lf,elf⟩:∃ lf:Int,((R.pile.length:Nat):Int) - ((sp.need:Nat):Int)=lf:=⟨_,rfl⟩
  rw [elf]
  refine ⟨λ σ' H'=>∃ bv:V,σ'=[some g,some (.ref a),some (.ref p1),some (.ref p2),some (.ref pp),some (.int (i:Int)),some (.ref ps),some (.int lf),some bv]/\Same H5 H'/\((sp.need<=R.pile.length/\BagX [p1,p2] K H' bv (bagF n ts (ss.take i) sp (b0S sp R)))\/(¬ sp.need<=R.pile.length/\bv = .non)),?_,?_⟩
  ·refine ⟨_,rfl,_,_,rfl,rfl,_,rfl,?_⟩
   refine ite2 (λ c=>?_) (λ c=>⟨.non,rfl,Same.refl _,.inr ⟨?_,rfl⟩⟩)
   ·have c':(0:Int)<=lf:=of_decide_eq_true c
    have nl:sp.need<=R.pile.length:=by omega
    have el:lf=((a2W sp R:Nat):Int):=by unfold a2W; omega
    have ll:a2W sp R<=R.pile.length:=by unfold a2W; omega
    rw [el]
    refine ⟨_,rfl,_,rfl,_,rfl,_,rfl,a,_,rfl,s5.seq hA,λ p6 H6 n6=>?_⟩
    rw [b5R _ _ (by omega)] at n6
    refine ⟨_,rfl,_,rfl,_,rfl,_,rfl,pp,_,rfl,SqL.of (n6.same _ _ hpp5),λ p7 H7 n7=>?_⟩
    rw [b5S _ _ (by rw [List.length_map]; exact ll)] at n7
    have s57:=n6.same.trans n7.same
    have ed:(natV R.pile).drop (a2W sp R)=natV (R.pile.drop (a2W sp R)):=by unfold natV; rw [List.map_drop]
    rw [ed] at n7
    have h17:=s57 _ _ (nz.same _ _ h1)
    have lv:=Paired.length pv
    have jt:∀ j∈R.pile.drop (a2W sp R),j < R.tops.length:=λ j hj=>by rw [I.tl]; exact I.lt j (List.mem_of_mem_drop hj)
    refine ⟨p7,rfl,⟨_,SqL.of n7.here⟩,?_⟩
    refine a7Y (λ v=>match v with | .int z=>some (vt.getD z.toNat .non) | _=>none) (SqL.of n7.here) (by rw [List.length_map,List.length_drop]; have:=I.pl; omega) (λ v H8 N hv8 s8 hN=>?_) (λ H8 p9 H9 s8 n9=>?_)
    ·obtain ⟨j,hj,rfl⟩:=List.mem_map.mp hv8
     have jl:j < vt.length:=by rw [lv]; exact jt j hj
     have hN':=hN H8 s8
     dsimp only at hN'
     rw [Int.toNat_natCast] at hN'
     refine ⟨_,rfl,_,rfl,p1,_,_,_,rfl,rfl,SqL.of (s8 _ _ h17),a1M (List.getElem?_eq_getElem jl),?_⟩
     rw [τα,List.getElem?_eq_getElem jl] at hN'
     exact hN'
    have e9:(natV (R.pile.drop (a2W sp R))).filterMap (λ v=>match v with | .int z=>some (vt.getD z.toNat .non) | _=>none)=(R.pile.drop (a2W sp R)).map λ j=>vt.getD j .non:=by
     unfold natV
     rw [List.filterMap_map]
     refine (a4C λ j _=>?_)
     show some (vt.getD ((j:Int)).toNat V.non)=_
     rw [Int.toNat_natCast]
    rw [e9] at n9
    have s59:=s57.trans (s8.trans n9.same)
    have s69:=n7.same.trans (s8.trans n9.same)
    have pv9:=Paired.mapP pv λ _ _ h=>h.same (nz.same.trans s59)
    refine ⟨g,n,ts,p6,ps,p9,xs.take i,_,ss.take i,sp,b0S sp R,rfl,(hG.same s5).same s59,n10,SqL.of (s69 _ _ n6.here),a9V i (Paired.mapP pA λ _ _ h=>(h.same s5).same s59),(s5.trans s59).tupq hps,SqL.of n9.here,b2P pv9 _ jt,?_,λ b hb=>?_,λ r H10 s10 bn=>?_⟩
    ·unfold b0S
     rw [List.length_map,List.length_drop]
     unfold a2W
     omega
    ·obtain ⟨j,hj,rfl⟩:=List.mem_map.mp hb
     rw [τα,List.getElem?_eq_getElem (jt j hj)]
     exact I.sm _ (List.getElem_mem _)
    refine ⟨r,rfl,s59.trans s10,.inl ⟨nl,?_⟩⟩
    cases eb:bagF n ts (ss.take i) sp (b0S sp R) with
    | none=>rw [eb] at bn; exact bn
    | some b =>
     rw [eb] at bn
     obtain ⟨p,e,hp,h⟩:=bn
     refine ⟨p,e,hp,?_⟩
     rcases h with h | h
     ·have k1:H9 p1=some (.lst vt):=s59 _ _ (nz.same _ _ h1)
      have k2:H9 p2=some (.lst (fs.map V.ref)):=s59 _ _ (nz.same _ _ h2)
      intro hm
      rcases List.mem_cons.mp hm with hm | hm
      ·rw [hm,k1] at h; cases h
      ·rw [List.mem_singleton.mp hm,k2] at h; cases h
     ·obtain ⟨j,hj,ej⟩:=List.mem_map.mp h
      have jl:j < vt.length:=by rw [lv]; exact jt j hj
      obtain ⟨b',_,⟨p',e',_,np⟩⟩:=a0U pv (List.getElem?_eq_getElem jl)
      rw [τα,List.getElem?_eq_getElem jl,Option.getD_some,e'] at ej
      injection ej with ej
      rw [<- ej]; exact np
   ·have c':¬ (0:Int)<=lf:=of_decide_eq_false (Bool.eq_false_iff.mpr c)
    omega
  rintro σ' H6 ⟨bv,rfl,s6,wb⟩
  have s46:=nz.same.trans s6
  have h16:=s46 _ _ h1
  have h26:=s46 _ _ h2
  have hpp6:=hpp.same s46
  have pv6:=Paired.mapP pv λ _ _ h=>h.same s46
  have pf6:=Paired.mapP pf λ _ _ h=>h.same s46
  have sH6:=s4.trans s46
  have stop:bv = .non->a4Z n ts ss i R=none:=λ e=>by
   unfold a4Z
   rw [esp]
   rcases wb with ⟨nl,w⟩ | ⟨nl,_⟩
   ·rw [if_pos nl]
    cases eb:bagF n ts (ss.take i) sp (b0S sp R) with
    | none=>rfl
    | some b =>
     rw [eb] at w
     obtain ⟨p,e',_⟩:=w
     rw [e] at e'; cases e'
   ·rw [if_neg nl]
  refine ⟨_,rfl,rfl,_,rfl,?_⟩
  by_cases cn:bv = .non
  ·rw [decide_eq_true cn]
   refine iteT ?_
   have ee:=c7K il go (by rw [<- eR]; exact stop cn)
   rw [<- eR] at ee
   refine ret sH6 fp h16 h26 ?_ ?_ ?_
   ·rw [ee]; exact hpp6
   ·rw [ee]; exact pv6
   ·rw [ee]; exact pf6
  ·rw [decide_eq_false cn]
   refine iteF ?_
   obtain ⟨nl,b,eb,p,rfl,hp,np⟩:sp.need<=R.pile.length/\∃ b,bagF n ts (ss.take i) sp (b0S sp R)=some b/\BagL [p1,p2] K H6 bv b:=by
    rcases wb with ⟨nl,w⟩ | ⟨_,e⟩
    ·refine ⟨nl,?_⟩
     cases eb:bagF n ts (ss.take i) sp (b0S sp R) with
     | none=>rw [eb] at w; exact absurd w cn
     | some b=>rw [eb] at w; exact ⟨b,rfl,w⟩
    ·exact absurd e cn
   have el:lf=((a2W sp R:Nat):Int):=by unfold a2W; omega
   have ll:a2W sp R<=R.pile.length:=by unfold a2W; omega
   rw [el]
   have lv:=Paired.length pv
   have lff:=Paired.length pf
   have tl:=I.tl
   have fl:=I.fl
   have pl:=I.pl
   have es:a4Z n ts ss i R=some ⟨R.tops++[b],R.feeds++[R.pile.drop (a2W sp R)],R.pile.take (a2W sp R)++[i]⟩:=by
    unfold a4Z
    rw [esp,if_pos nl,eb]
    rfl
   have er:=d0O go (by rw [<- eR]; exact es)
   have m1:p1∈[p1,p2]:=List.mem_cons_self
   have m2:p2∈[p1,p2]:=List.mem_cons_of_mem _ (List.mem_singleton.mpr rfl)
   refine ⟨_,rfl,.inl ⟨rfl,_,SqL.of h16⟩,_,rfl,p1,vt,_,rfl,rfl,h16,by omega,λ H7 c7=>?_⟩
   have h27:H7 p2=some (.lst (fs.map V.ref)):=(c7.rest p2 (Ne.symm n12)).trans h26
   have hpp7:=hpp6.chg c7 m1
   refine ⟨_,rfl,.inl ⟨rfl,_,SqL.of h27⟩,_,rfl,_,rfl,_,rfl,pp,_,rfl,SqL.of hpp7.1,λ p8 H8 n8=>?_⟩
   rw [b5S _ _ (by rw [List.length_map]; exact ll),show (natV R.pile).drop (a2W sp R)=natV (R.pile.drop (a2W sp R)) by unfold natV; rw [List.map_drop]] at n8
   have h28:=n8.same _ _ h27
   refine ⟨p2,_,_,rfl,rfl,h28,by rw [List.length_map]; omega,λ H9 c9=>?_⟩
   have n81:p8 ∉ [p1,p2]:=λ hm=>by
    have f8:=n8.fresh
    rcases List.mem_cons.mp hm with hm | hm
    ·rw [hm,c7.here] at f8; cases f8
    ·rw [List.mem_singleton.mp hm,h27] at f8; cases f8
   have h19:H9 p1=some (.lst (vt++[.ref p])):=(c9.rest p1 n12).trans (n8.same _ _ c7.here)
   have hpp9:=(hpp7.same n8.same).chg c9 m2
   refine ⟨_,rfl,_,rfl,_,rfl,pp,_,rfl,SqL.of hpp9.1,λ p10 H10 n10'=>?_⟩
   rw [b5R _ _ (by rw [List.length_map]; exact ll),show (natV R.pile).take (a2W sp R)=natV (R.pile.take (a2W sp R)) by unfold natV; rw [List.map_take]] at n10'
   refine ⟨_,rfl,(by show 1<=1000; decide),λ p11 H11 n11=>?_⟩
   refine ⟨p10,p11,_,_,rfl,rfl,n11.same _ _ n10'.here,n11.here,by rw [List.length_map,List.length_take]; show min _ _+1<=1000; omega,λ p12 H12 n12'=>?_⟩
   have s9_12:=n10'.same.trans (n11.same.trans n12'.same)
   have sH9:Same H H9:=((sH6.chg f1 c7).trans n8.same).chg f2 c9
   have f12:H p12=none:=sH9.free (n10'.same.free (n11.same.free n12'.fresh))
   refine ⟨vt++[.ref p],fs++[p8],p12,_,_,_,_,rfl,sH9.trans s9_12,s9_12 _ _ h19,?_,by rw [er],f12,?_,?_,?_⟩
   ·have:=s9_12 _ _ c9.here
    rw [this,List.map_append]; rfl
   ·rw [er]
    refine ⟨?_,λ hm=>?_⟩
    ·rw [n12'.here]
     unfold natV
     rw [List.map_append]; rfl
    ·have g:=n12'.fresh
     rcases List.mem_cons.mp hm with hm | hm
     ·rw [hm,n11.same _ _ (n10'.same _ _ h19)] at g; cases g
     ·rw [List.mem_singleton.mp hm,n11.same _ _ (n10'.same _ _ c9.here)] at g; cases g
   ·rw [er]
    exact a0Z (Paired.mapP pv6 λ _ _ h=>(((h.chg c7 m1).same n8.same).chg c9 m2).same s9_12) ((((BagL.chg c7 m1 ⟨p,rfl,hp,np⟩).same n8.same).chg c9 m2).same s9_12)
   ·rw [er]
    exact a0Z (Paired.mapP pf6 λ _ _ h=>(((h.chg c7 m1).same n8.same).chg c9 m2).same s9_12) ((NatL.chg c9 m2 ⟨n8.here,n81⟩).same s9_12)
 ·rintro σ H4 ⟨vt,fs,pp,a5,a6,a7,a8,rfl,s4,h1,h2,go,fp,hpp,pv,pf⟩
  rw [lx] at hpp pv pf
  exact ret s4 fp h1 h2 hpp pv pf
end
end K
namespace K
open PySem L2 Lw Bg
abbrev a2Y:Stmt:=top 39
theorem sc_fault_behind:FnScope ["graph", "steps", "tops", "pile", "v", "a", "b"] ["graph", "steps", "tops", "pile"] (a0F a2Y):=⟨rfl,rfl,rfl,by decide +kernel,rfl,by decide +kernel,by decide +kernel⟩
inductive SFlt where
 | ok
 | step (k:Nat)
 | pile
 | place (v:Nat)
 | tie (a b:Int)
def c7M (R:RS):List (List Int):=R.pile.map λ j=>R.tops.getD j []
def sfF (n:Nat) (ts:List ζζ) (ss:List Stp) (R:RS):SFlt :=
 if R.tops.length < ss.length then .step R.tops.length
 else if c7M R=[[]] then
  match (List.range n).find? λ (v:Nat)=>!decide (Stp.inn (v:Int)∈ss) with
  | some v=>.place v
  | none=>match ts.find? λ t=>!decide (Stp.tie t.1 t.2∈ss) with
   | some t=>.tie t.1 t.2
   | none=>.ok
 else .pile
def d0P (H:Hp) (v:V):SFlt->Prop
 | .ok=>v = .non
 | .step k=>∃ p,v = .ref p/\H p=some (.tup [.str "step", .int (k:Int)])
 | .pile=>∃ p,v = .ref p/\H p=some (.tup [.str "pile"])
 | .place v'=>∃ p,v = .ref p/\H p=some (.tup [.str "place", .int (v':Int)])
 | .tie a b=>∃ p,v = .ref p/\H p=some (.tup [.str "tie", .int a,.int b])
def bagD (b:List Int):PyData:=.list (b.map PyData.int)
theorem c7N (b:List Int):(bagD b).canLay0=true:=by
 have h:=a3M b
 unfold SeqAt.shaped at h
 rw [Bool.and_eq_true] at h
 exact h.1
theorem c0A (b:List Int):(bagD b).depth<=1:=by
 unfold bagD
 rw [PyData.depth]
 have:=a4Q (k:=0) (f:=PyData.int) (λ b=>by simp [PyData.depth]) b
 omega
theorem a8M (bs:List (List Int)):SeqAt.shaped (.list (bs.map bagD))=true:=by
 unfold SeqAt.shaped
 rw [PyData.canLay0,b0K c7N,PyData.depth,Bool.true_and]
 exact decide_eq_true (by have:=a4Q c0A bs; omega)
theorem b5T:∀ xs ys:List (List Int),PyData.eqvAll (xs.map bagD) (ys.map bagD)=decide (xs=ys)
 | [],[]=>by simp [PyData.eqvAll]
 | [],_::_=>by simp [PyData.eqvAll]
 | _::_,[]=>by simp [PyData.eqvAll]
 | x::xs,y::ys=>by
  rw [List.map_cons,List.map_cons,PyData.eqvAll,b5T xs ys,show PyData.eqv (bagD x) (bagD y)=decide (x=y) from b4S x y,Bool.eq_iff_iff]
  simp
theorem c3G {K:Φρ} {H:Hp} {v:V} {s:List Int} (h:LstV K H v s):IsD K H v (bagD s):=by
 obtain ⟨p,rfl,h⟩:=h
 exact .lst h (IsDs.ints _)
def c3H (K:Φρ):Sp:=λ vs H Q _=>∃ (g:V) (n:Nat) (ts:List ζζ) (a pt pp:Addr) (xs vt:List V) (ss:List Stp) (R:RS),vs=[g,.ref a,.ref pt,.ref pp]/\GraphV K H g n ts/\n<=10/\SqL K H a xs/\Paired (StpV K H) xs ss/\SqL K H pt vt/\Paired (LstV K H) vt R.tops/\SqL K H pp (natV R.pile)/\(∀ j∈R.pile,j < R.tops.length)/\R.pile.length<=1000 /\
 ∀ r H',Same H H'->d0P H' r (sfF n ts ss R)->Q r H'
section
variable {P:Program} {w:World} {K:Φρ} {mg:Str->Option Value} {base:Heap}
abbrev DZ14 (K:PySem.W.Frag) (mg:Str->Option Value):=Dn K mg "fault_behind" a2Y ["graph", "steps", "tops", "pile"]
set_option maxHeartbeats 8000000 in
theorem a4R (B:Bl mg) (dZ14:DZ14 K mg):FnOk P w K mg base CX0 1 dZ14.f dZ14.fd ["graph", "steps", "tops", "pile"] (c3H K):=by
 refine dZ14.F.ok sc_fault_behind (λ vs H Q E h=>?_) (λ cdv A outer s H vs Q E hr h=>?_)
 ·obtain ⟨g,n,ts,a,pt,pp,xs,vt,ss,R,rfl,_⟩:=h
  rfl
 obtain ⟨g,n,ts,a,pt,pp,xs,vt,ss,R,rfl,hG,n10,hA,pA,hV,pV,hPp,jl,l1000,q⟩:=h
 have hu:(A.deeper (PyProof.Rows.envOfC "fault_behind" (a0F a2Y) s.heap.objs.size dZ14.f cdv)).units+64 < cLine:=by have:=hr.un; omega
 have hv:(A.deeper (PyProof.Rows.envOfC "fault_behind" (a0F a2Y) s.heap.objs.size dZ14.f cdv)).units+65 < cLine:=by have:=hr.un; omega
 obtain ⟨pg,ta,rfl,hP,hT⟩:=id hG
 have lx:=Paired.length pA
 have lv:=Paired.length pV
 refine ⟨_,(a0C (a1O (a0J b7Q (a0G (a0L (K:=K) rfl) rfl B.len (by decide +kernel) (a0A (pv 2) a0B)) (a0G (a0L (K:=K) rfl) rfl B.len (by decide +kernel) (a0A (pv 1) a0B)) (a0S _))
   (a0E (a0P (a0T (a0A a1D (a0A (a0G (a0L (K:=K) rfl) rfl B.len (by decide +kernel) (a0A (pv 2) a0B)) a0B)))))
   a0N)
   (a0C (a1O (a0J (c5H (K:=K) rfl hu) (a2P ["k", "tops"] [none,some 2]  (by kernel_rfl) rfl (a1A (K:=K) rfl (pv 3)) (λ _ _ _ _ _=>(a0H (i:=0) (show (["k", "tops"]:List Str).Nodup by decide +kernel) rfl (Or.inl rfl))) (λ _ _ _ _ _=>a1V) (λ _ _ _ _ _=>(a1B (a0V (K:=K) rfl) (pv 1) (pv 0) (λ _ _=>rfl)))) (a0O (a0A (a0O a0B) a0B)) (a0S _))
   (a0E (a0P (a0T (a0A a1D a0B))))
   a0N)
   (a0C (a2Z PassesOwn.never rfl (a2O rfl B.range (a0A (a1B (a0X (K:=K) rfl) (pv 0) a0D (λ _ _=>rfl)) a0B)) (a0H (i:=4) sc_fault_behind.nd rfl (Or.inl rfl))
   (a0E (a1O (a0J (a2G (K:=K) rfl hv) (a0T (a0A a1D (a0A (pv 4) a0B))) (pv 1) (by with_unfolding_all rfl))
   (a0E (a0P (a0T (a0A a1D (a0A (pv 4) a0B)))))
   a0N)))
   (a0C (a2Z PassesOwn.never rfl (a1A (K:=K) rfl (a1B (a0X (K:=K) rfl) (pv 0) a0D (λ _ _=>rfl))) (a2A (K:=K) (n:=2) rfl rfl (a0M (a0H (i:=5) sc_fault_behind.nd rfl (Or.inl rfl)) (a0M (a0H (i:=6) sc_fault_behind.nd rfl (Or.inl rfl)) a1X)))
   (a0E (a1O (a0J (a2G (K:=K) rfl hv) (a0T (a0A a1D (a0A (pv 5) (a0A (pv 6) a0B)))) (pv 1) (by with_unfolding_all rfl))
   (a0E (a0P (a0T (a0A a1D (a0A (pv 5) (a0A (pv 6) a0B))))))
   a0N)))
   (a0E (a0P a1N)))))),?_⟩
 refine ⟨_,rfl,pt,_,rfl,.inl hV,_,rfl,a,_,rfl,.inl hA,_,_,rfl,rfl,_,rfl,?_⟩
 rw [lv,lx]
 by_cases c1:R.tops.length < ss.length
 ·rw [decide_eq_true (show ((R.tops.length:Nat):Int) < ((ss.length:Nat):Int) by omega)]
  refine iteT ⟨_,rfl,pt,_,rfl,.inl hV,(by show 2<=1000; decide),λ p1 H1 n1=>q _ H1 n1.same ?_⟩
  unfold sfF
  rw [if_pos c1]
  rw [lv] at n1
  exact ⟨p1,rfl,n1.here⟩
 ·rw [decide_eq_false (show ¬ ((R.tops.length:Nat):Int) < ((ss.length:Nat):Int) by omega)]
  refine iteF ?_
  refine ⟨_,rfl,pp,rfl,⟨_,hPp⟩,?_⟩
  refine a7Y (λ v=>match v with | .int z=>some (vt.getD z.toNat .non) | _=>none) hPp (by rw [List.length_map]; exact l1000) (λ v H8 N hv8 s8 hN=>?_) (λ H8 p9 H9 s8 n9=>?_)
  ·obtain ⟨j,hj,rfl⟩:=List.mem_map.mp hv8
   have jv:j < vt.length:=by rw [lv]; exact jl j hj
   have hN':=hN H8 s8
   dsimp only at hN'
   rw [Int.toNat_natCast] at hN'
   refine ⟨_,rfl,_,rfl,pt,_,_,_,rfl,rfl,s8.seq hV,a1M (List.getElem?_eq_getElem jv),?_⟩
   rw [τα,List.getElem?_eq_getElem jv] at hN'
   exact hN'
  have e9:(natV R.pile).filterMap (λ v=>match v with | .int z=>some (vt.getD z.toNat .non) | _=>none)=R.pile.map λ j=>vt.getD j .non:=by
   unfold natV
   rw [List.filterMap_map]
   refine (a4C λ j _=>?_)
   show some (vt.getD ((j:Int)).toNat V.non)=_
   rw [Int.toNat_natCast]
  rw [e9] at n9
  have s09:=s8.trans n9.same
  have laid:∀ l:List Nat,(∀ j∈l,j < R.tops.length)->Paired (LstV K H9) (l.map λ j=>vt.getD j .non) (l.map λ j=>R.tops.getD j []):=λ l=>by
   induction l with
   | nil=>exact λ _=>.nil
   | cons j r ih =>
    intro h
    have jl:=h j List.mem_cons_self
    obtain ⟨x,hx,p,e,hb⟩:=a0Y pV (List.getElem?_eq_getElem jl)
    refine .cons ?_ (ih λ i hi=>h i (List.mem_cons_of_mem _ hi))
    dsimp only
    rw [τα,hx,τα,List.getElem?_eq_getElem jl]
    exact ⟨p,e,s09.seq hb⟩
  refine ⟨(by show 0<=1000; decide),λ p10 H10 n10'=>⟨(by show 1<=1000; decide),λ p11 H11 n11=>?_⟩⟩
  have s9_11:=n10'.same.trans n11.same
  refine ⟨.list ((c7M R).map bagD),.list ([[]].map bagD),.lst (SqL.of (s9_11 _ _ n9.here)) (b0J (λ _ _ h=>c3G h) (Paired.mapP (laid R.pile jl) λ _ _ ⟨p,e,hb⟩=>⟨p,e,s9_11.seq hb⟩)),.lst (SqL.of n11.here) (.cons (.lst (SqL.of (n11.same _ _ n10'.here)) .nil) .nil),a8M _,a8M [[]],_,rfl,?_⟩
  rw [if_pos rfl,PyData.eqv,b5T]
  have s11:=s09.trans s9_11
  by_cases c2:c7M R=[[]]
  ·rw [decide_eq_true c2]
   refine iteF ?_
   refine ⟨_,rfl,pg,_,_,_,rfl,rfl,s11.tupq hP,rfl,_,rfl,by omega,by omega,?_⟩
   rw [Int.toNat_natCast]
   refine a3A (n:=n) (λ i σ H'=>(∃ vv:Option V,σ=[some (.ref pg),some (.ref a),some (.ref pt),some (.ref pp),vv,none,none])/\Same H H'/\∀ j,j < i->Stp.inn (j:Int)∈ss) ⟨⟨none,rfl⟩,s11,λ j h=>absurd h (Nat.not_lt_zero _)⟩ ?_ ?_
   ·rintro i σ H12 hi ⟨⟨vv,rfl⟩,s12,ok⟩
    have ei:(0:Int)+(i:Int)=(i:Int):=by omega
    rw [ei]
    refine ⟨_,rfl,(by show 2<=1000; decide),λ p13 H13 n13=>?_⟩
    have s13:=s12.trans n13.same
    refine ⟨_,rfl,a6E (s:=.inn (i:Int)) (s13.seq hA) (Paired.mapP pA λ _ _ h=>StpV.same s13 h) (SqT.of n13.here) ⟨_,rfl,?_⟩⟩
    by_cases c3:Stp.inn (i:Int)∈ss
    ·rw [decide_eq_true c3]
     refine iteF ⟨⟨_,rfl⟩,s13,λ j hj=>?_⟩
     by_cases e:j=i
     ·rw [e]; exact c3
     ·exact ok j (by omega)
    ·rw [decide_eq_false c3]
     refine iteT ⟨_,rfl,(by show 2<=1000; decide),λ p14 H14 n14=>q _ H14 (s13.trans n14.same) ?_⟩
     unfold sfF
     have ef:(List.range n).find? (λ (v:Nat)=>!decide (Stp.inn (v:Int)∈ss))=some i:=List.find?_range_eq_some.mpr ⟨by rw [decide_eq_false c3]; rfl,List.mem_range.mpr hi,λ j hj=>by rw [decide_eq_true (ok j hj)]; rfl⟩
     rw [if_neg c1,if_pos c2,ef]
     exact ⟨p14,rfl,n14.here⟩
   ·rintro σ H12 ⟨⟨vv,rfl⟩,s12,ok⟩
    have ef:(List.range n).find? (λ (v:Nat)=>!decide (Stp.inn (v:Int)∈ss))=none:=List.find?_eq_none.mpr λ j hj=>by rw [decide_eq_true (ok j (List.mem_range.mp hj))]; simp
    obtain ⟨txs,htx,ptx,ltx⟩:=id (hT.same s12)
    have ltl:=Paired.length ptx
    refine ⟨_,rfl,pg,_,_,_,rfl,rfl,s12.tupq hP,rfl,ta,rfl,⟨_,htx⟩,?_⟩
    refine a5O (xs:=txs) (λ i σ H'=>(∃ va vb:Option V,σ=[some (.ref pg),some (.ref a),some (.ref pt),some (.ref pp),vv,va,vb])/\Same H12 H'/\∀ t∈ts.take i,Stp.tie t.1 t.2∈ss) ⟨⟨none,none,rfl⟩,Same.refl _,λ t h=>absurd h (by simp)⟩ (λ i σ H' _ ⟨_,s,_⟩=>s.seq htx) ?_ ?_
    ·rintro i x σ H13 hx ⟨⟨va,vb,rfl⟩,s13,ok2⟩
     obtain ⟨t,ht,⟨px,rfl,hpx⟩⟩:=a0U ptx hx
     obtain ⟨til,tix⟩:=List.getElem?_eq_some_iff.mp ht
     have et:ts.take (i+1)=ts.take i++[t]:=by rw [List.take_succ_eq_append_getElem til,tix]
     refine ⟨px,_,rfl,s13.tupq hpx,rfl,_,_,rfl,_,_,rfl,rfl,?_⟩
     refine ⟨_,rfl,_,rfl,(by show 3<=1000; decide),λ p14 H14 n14=>?_⟩
     have s14:=(s12.trans s13).trans n14.same
     refine ⟨_,rfl,a6E (s:=.tie t.1 t.2) (s14.seq hA) (Paired.mapP pA λ _ _ h=>StpV.same s14 h) (SqT.of n14.here) ⟨_,rfl,?_⟩⟩
     by_cases c3:Stp.tie t.1 t.2∈ss
     ·rw [decide_eq_true c3]
      refine iteF ⟨⟨_,_,rfl⟩,s13.trans n14.same,λ t' h'=>?_⟩
      rw [et] at h'
      rcases List.mem_append.mp h' with h' | h'
      ·exact ok2 t' h'
      ·rw [List.mem_singleton.mp h']; exact c3
     ·rw [decide_eq_false c3]
      refine iteT ⟨_,rfl,_,rfl,(by show 3<=1000; decide),λ p15 H15 n15=>q _ H15 (s14.trans n15.same) ?_⟩
      unfold sfF
      have eg:ts.find? (λ t=>!decide (Stp.tie t.1 t.2∈ss))=some t:=by
       rw [<- List.take_append_drop (i+1) ts,et,List.append_assoc,List.find?_append,List.find?_eq_none.mpr (λ t' h'=>by rw [decide_eq_true (ok2 t' h')]; simp)]
       rw [Option.none_or]
       show List.find? _ (t::_)=_
       rw [List.find?_cons,decide_eq_false c3]; rfl
      rw [if_neg c1,if_pos c2,ef,eg]
      exact ⟨p15,rfl,n15.here⟩
    ·rintro σ H13 ⟨⟨va,vb,rfl⟩,s13,ok2⟩
     rw [ltl,List.take_length] at ok2
     refine q _ H13 (s12.trans s13) ?_
     unfold sfF
     have eg:ts.find? (λ t=>!decide (Stp.tie t.1 t.2∈ss))=none:=List.find?_eq_none.mpr λ t h=>by rw [decide_eq_true (ok2 t h)]; simp
     rw [if_neg c1,if_pos c2,ef,eg]
     exact rfl
  ·rw [decide_eq_false c2]
   refine iteT ⟨(by show 1<=1000; decide),λ p12 H12 n12=>q _ H12 (s11.trans n12.same) ?_⟩
   unfold sfF
   rw [if_neg c1,if_neg c2]
   exact ⟨p12,rfl,n12.here⟩
theorem c0B {n:Nat} {ts:List ζζ} {ss:List Stp} (n10:n<=10):∃ i,i<=ss.length/\RunI i (endR n ts ss)/\(i=ss.length\/i < ss.length):=by
 have h:∀ m,m<=ss.length->∃ i,i<=m/\RunI i (runR n ts ss m).1:=λ m=>by
  induction m with
  | zero=>exact λ _=>⟨0,Nat.le_refl _,a6P n10 rfl⟩
  | succ m ih =>
   intro hm
   by_cases c:(runR n ts ss (m+1)).2=true
   ·exact ⟨m+1,Nat.le_refl _,a6P n10 c⟩
   ·obtain ⟨i,hi,I⟩:=ih (by omega)
    refine ⟨i,by omega,?_⟩
    have e:(runR n ts ss (m+1)).1=(runR n ts ss m).1:=by
     have e:runR n ts ss (m+1)=if (runR n ts ss m).2=true then
      (match a4Z n ts ss m (runR n ts ss m).1 with
      | some r=>(r,true)
      | none=>((runR n ts ss m).1,false))
     else ((runR n ts ss m).1,false):=rfl
     rw [e] at c ⊢
     by_cases d:(runR n ts ss m).2=true
     ·rw [if_pos d] at c ⊢
      cases z:a4Z n ts ss m (runR n ts ss m).1 with
      | none=>rfl
      | some r=>rw [z] at c; exact absurd rfl c
     ·rw [if_neg d]
    rw [e]; exact I
 obtain ⟨i,hi,I⟩:=h ss.length (Nat.le_refl _)
 exact ⟨i,hi,I,by omega⟩
end
end K
namespace K
open PySem L2 Lw Bg
theorem c7O {ss:List Stp} {i:Nat} {s:Stp} (h:ss[i]?=some s):ss.getD i .leaf=s:=by
 rw [τα,h]; rfl
end K
namespace K
open PySem L2 Lw Bg
structure Tb (n m:Nat) (up:Nat->Nat) (bag:Nat->List Int):Prop where
 pos:0 < m
 ups:∀ k,0 < k->k < m->up k < k
 nd:∀ k,(bag k).Nodup
 lt:∀ k,∀ v∈bag k,0<=v/\v < (n:Int)
 fr:∀ k,0 < k->k < m->∀ v∈bag k,v∈bag (up k)\/∀ j,j < k->v ∉ bag j
 no:∀ k,m<=k->bag k=[]
inductive Bel (m:Nat) (up:Nat->Nat) (k:Nat):Nat->Prop
 | self:k < m->Bel m up k k
 | step {r:Nat}:0 < r->r < m->Bel m up k (up r)->Bel m up k r
section
variable {n m:Nat} {up:Nat->Nat} {bag:Nat->List Int}
theorem Tb.in_ (T:Tb n m up bag) {k:Nat} {v:Int} (h:v∈bag k):k < m:=by
 rcases Nat.lt_or_ge k m with c | c
 ·exact c
 ·rw [T.no k c] at h; exact absurd h List.not_mem_nil
theorem Bel.le (T:Tb n m up bag) {k r:Nat} (h:Bel m up k r):k<=r:=by
 induction h with
 | self=>exact Nat.le_refl _
 | step r0 rm _ ih=>have:=T.ups _ r0 rm; omega
theorem Bel.trans {k j r:Nat} (h1:Bel m up k j) (h2:Bel m up j r):Bel m up k r:=by
 induction h2 with
 | self=>exact h1
 | step r0 rm _ ih=>exact .step r0 rm ih
theorem Bel.cmp {j j' r:Nat} (h1:Bel m up j r) (h2:Bel m up j' r):Bel m up j j'\/Bel m up j' j:=by
 induction h1 with
 | self=>exact .inr h2
 | @step r r0 rm h ih =>
  cases h2 with
  | self=>exact .inl (.step r0 rm h)
  | step _ _ h'=>exact ih h'
theorem c0C (T:Tb n m up bag) {j j' r:Nat} (j0:0 < j) (jm:j < m) (j0':0 < j') (jm':j' < m) (e:up j=up j') (h1:Bel m up j r) (h2:Bel m up j' r):j=j':=by
 have one:∀ {a b:Nat},0 < a->a < m->up a=up b->Bel m up a b->a=b:=λ {a b} a0 am e h=>by
  cases h with
  | self=>rfl
  | step b0 bm h =>
   rw [<- e] at h
   have l1:=h.le T
   have l2:=T.ups a a0 am
   omega
 rcases h1.cmp h2 with h | h
 ·exact one j0 jm e h
 ·exact (one j0' jm' e.symm h).symm
theorem a8N (T:Tb n m up bag) {j:Nat} {v:Int} (h:v∈bag j) (fr:j=0\/v ∉ bag (up j)):∀ q,v∈bag q->Bel m up j q:=by
 have jm:=T.in_ h
 have no:∀ i,i < j->v ∉ bag i:=λ i hi=>by
  rcases fr with e | e
  ·omega
  ·rcases T.fr j (by omega) jm v h with z | z
   ·exact absurd z e
   ·exact z i hi
 intro q
 induction q using Nat.strongRecOn with
 | ind q ih =>
  intro hq
  have qm:=T.in_ hq
  by_cases c:q=j
  ·rw [c]; exact .self jm
  ·have lj:j < q:=by
    rcases Nat.lt_or_ge q j with d | d
    ·exact absurd hq (no q d)
    ·omega
   rcases T.fr q (by omega) qm v hq with z | z
   ·exact .step (by omega) qm (ih _ (T.ups q (by omega) qm) z)
   ·exact absurd h (z j lj)
def a4J (up:Nat->Nat) (bag:Nat->List Int) (r:Nat) (t:Int × Int):Prop:=t.1∈bag r/\t.2∈bag r/\(r=0\/¬ (t.1∈bag (up r)/\t.2∈bag (up r)))
instance (up:Nat->Nat) (bag:Nat->List Int) (r:Nat) (t:Int × Int):Decidable (a4J up bag r t):=by unfold a4J; infer_instance
theorem b5U (T:Tb n m up bag) {r:Nat} {t:Int × Int} (h:a4J up bag r t):∀ q,t.1∈bag q->t.2∈bag q->Bel m up r q:=by
 obtain ⟨h1,h2,h3⟩:=h
 intro q q1 q2
 rcases h3 with e | e
 ·exact a8N T h1 (.inl e) q q1
 ·by_cases c:t.1∈bag (up r)
  ·exact a8N T h2 (.inr λ z=>e ⟨c,z⟩) q q2
  ·exact a8N T h1 (.inr c) q q1
theorem b0U (T:Tb n m up bag) {r r':Nat} {t:Int × Int} (h:a4J up bag r t) (h':a4J up bag r' t):r=r':=by
 have l1:=(b5U T h r' h'.1 h'.2.1).le T
 have l2:=(b5U T h' r h.1 h.2.1).le T
 omega
end
section
variable {n wd:Nat} {ts:List ζζ}
end
def betw (x y:List Int):List Int:=x.filter λ v=>!decide (v∈y)
def a4S (bag:Nat->List Int) (j k:Nat):List Stp:=(betw (bag j) (bag k)).map .out++(betw (bag k) (bag j)).map .inn
section
variable {n wd m:Nat} {up:Nat->Nat} {bag:Nat->List Int} {ts:List ζζ}
def ownT (up:Nat->Nat) (bag:Nat->List Int) (tb:List ζζ) (k:Nat):List ζζ:=tb.filter λ t=>decide (a4J up bag k t)
def a3W (m:Nat) (up:Nat->Nat) (k:Nat):List Nat:=(List.range m).filter λ j=>decide (k < j) && decide (up j=k)
theorem b0V (T:Tb n m up bag) {k j:Nat}:j∈a3W m up k↔0 < j/\j < m/\up j=k:=by
 unfold a3W
 rw [List.mem_filter,List.mem_range,Bool.and_eq_true,decide_eq_true_iff,decide_eq_true_iff]
 constructor
 ·rintro ⟨a,b,c⟩
  exact ⟨by omega,a,c⟩
 ·rintro ⟨a,b,c⟩
  have:=T.ups j a b
  exact ⟨b,by omega,c⟩
theorem c0D (m:Nat) (up:Nat->Nat) (k:Nat):(a3W m up k).Nodup:=List.nodup_range.sublist List.filter_sublist
end
end K
namespace K
open PySem L2 Lw Bg
abbrev a8O:Stmt:=top 40
theorem sc_run_whole:FnScope ["graph", "steps", "tops", "feeds", "pile"] ["graph", "steps"] (a0F a8O):=⟨rfl,rfl,rfl,by decide +kernel,rfl,by decide +kernel,by decide +kernel⟩
abbrev b2Q:Stmt:=top 45
theorem sc_bags_of:FnScope ["graph", "steps", "tops", "feeds", "last", "ups", "k", "used", "j"] ["graph", "steps"] (a0F b2Q):=⟨rfl,rfl,rfl,by decide +kernel,rfl,by decide +kernel,by decide +kernel⟩
def d0Q (K:Φρ):Sp:=λ vs H Q _=>∃ (g:V) (n:Nat) (ts:List ζζ) (a:Addr) (xs:List V) (ss:List Stp),vs=[g,.ref a]/\GraphV K H g n ts/\n<=10/\SqL K H a xs/\Paired (StpV K H) xs ss/\ss.length<=900/\sfF n ts ss (endR n ts ss) = .ok /\
 ∀ r pt pf vt fs H',Same H H'->H' r=some (.tup [.ref pt,.ref pf])->H pt=none->H pf=none->H' pt=some (.lst vt)->H' pf=some (.lst (fs.map V.ref))->Paired (BagL [pt,pf] K H') vt (endR n ts ss).tops->Paired (NatL [pt,pf] H') fs (endR n ts ss).feeds->Q (.ref r) H'
def a8P (us:List V) (f:List Nat) (v:V):List V:=f.foldl (λ u j=>u.set j v) us
def upsV (m:Nat) (feeds:List (List Nat)):Nat->List V
 | 0=>List.replicate m .non
 | i+1=>a8P (upsV m feeds i) (feeds.getD i []) (.int ((m:Int) - 1 - (i:Int)))
theorem a6Q (v:V):∀ (f:List Nat) (us:List V),(a8P us f v).length=us.length
 | [],_=>rfl
 | j::f,us=>by
  show (a8P (us.set j v) f v).length=_
  rw [a6Q v f,List.length_set]
theorem b0W (m:Nat) (feeds:List (List Nat)):∀ i,(upsV m feeds i).length=m
 | 0=>List.length_replicate
 | i+1=>by
  show (a8P _ _ _).length=m
  rw [a6Q,b0W m feeds i]
def c3I (K:Φρ):Sp:=λ vs H Q _=>∃ (g:V) (n:Nat) (ts:List ζζ) (a:Addr) (xs:List V) (ss:List Stp),vs=[g,.ref a]/\GraphV K H g n ts/\n<=10/\SqL K H a xs/\Paired (StpV K H) xs ss/\ss.length<=900/\sfF n ts ss (endR n ts ss) = .ok /\
 ∀ (r:Addr) (ps bs:List Addr) H',Same H H'->H r=none->H' r=some (.lst (ps.map V.ref))->ps.length=ss.length->bs.length=ss.length->bs.Nodup->(∀ b∈bs,H b=none)->r ∉ bs->(∀ i,i < ss.length->H' (ps.getD i 0)=some (.tup [(upsV ss.length (endR n ts ss).feeds ss.length).getD (ss.length - 1 - i) .non,.ref (bs.getD i 0)])/\H' (bs.getD i 0)=some (.lst (((endR n ts ss).tops.getD (ss.length - 1 - i) []).map V.int)))->Q (.ref r) H'
theorem c0E {n:Nat} {ts:List ζζ} {ss:List Stp} (n10:n<=10) (h:sfF n ts ss (endR n ts ss) = .ok):RunI ss.length (endR n ts ss):=by
 obtain ⟨i,il,I,_⟩:=c0B (n:=n) (ts:=ts) (ss:=ss) n10
 have e:¬ (endR n ts ss).tops.length < ss.length:=λ c=>by
  unfold sfF at h
  rw [if_pos c] at h
  cases h
 rw [I.tl] at e
 have:i=ss.length:=by omega
 exact this ▸ I
theorem b5V (n:Nat) (ts:List ζζ) (ss:List Stp) (m:Nat):runR n ts ss (m+1)=if (runR n ts ss m).2=true then
   (match a4Z n ts ss m (runR n ts ss m).1 with
   | some r=>(r,true)
   | none=>((runR n ts ss m).1,false))
  else ((runR n ts ss m).1,false):=rfl
theorem b2R {n:Nat} {ts:List ζζ} {ss:List Stp} (n10:n<=10):∀ m,(runR n ts ss m).2=false->(runR n ts ss m).1.tops.length < m
 | 0,h=>by cases h
 | m+1,h=>by
  rw [b5V] at h ⊢
  by_cases c:(runR n ts ss m).2=true
  ·rw [if_pos c] at h ⊢
   have I:=a6P n10 c
   cases d:a4Z n ts ss m (runR n ts ss m).1 with
   | none=>show (runR n ts ss m).1.tops.length < m+1; rw [I.tl]; omega
   | some r=>rw [d] at h; cases h
  ·rw [if_neg c]
   have:=b2R n10 m (Bool.eq_false_iff.mpr c)
   show (runR n ts ss m).1.tops.length < m+1
   omega
theorem d2O {n:Nat} {ts:List ζζ} {ss:List Stp} (n10:n<=10) (h:sfF n ts ss (endR n ts ss) = .ok):∀ i,i<=ss.length->(runR n ts ss i).2=true:=by
 have e:¬ (endR n ts ss).tops.length < ss.length:=λ c=>by
  unfold sfF at h
  rw [if_pos c] at h
  cases h
 intro i il
 cases c:(runR n ts ss i).2 with
 | true=>rfl
 | false =>
  have e2:=b0T c ss.length il
  have:=b2R n10 i c
  unfold endR at e
  rw [e2] at e
  have e3:¬ (runR n ts ss i).1.tops.length < ss.length:=e
  omega
theorem c3J {n:Nat} {ts:List ζζ} {ss:List Stp} {i:Nat} {s:Stp} (h:ss[i]?=some s) (g1:(runR n ts ss i).2=true) (g2:(runR n ts ss (i+1)).2=true):∃ b,bagF n ts (ss.take i) s (b0S s (runR n ts ss i).1)=some b/\s.need<=(runR n ts ss i).1.pile.length/\(runR n ts ss (i+1)).1=⟨(runR n ts ss i).1.tops++[b],(runR n ts ss i).1.feeds++[(runR n ts ss i).1.pile.drop (a2W s (runR n ts ss i).1)],(runR n ts ss i).1.pile.take (a2W s (runR n ts ss i).1)++[i]⟩:=by
 rw [b5V,if_pos g1] at g2 ⊢
 cases d:a4Z n ts ss i (runR n ts ss i).1 with
 | none=>rw [d] at g2; cases g2
 | some r =>
  unfold a4Z at d
  rw [c7O h] at d
  by_cases c:s.need<=(runR n ts ss i).1.pile.length
  ·rw [if_pos c] at d
   obtain ⟨b,hb,er⟩:=Option.map_eq_some_iff.mp d
   exact ⟨b,hb,c,er.symm⟩
  ·rw [if_neg c] at d; cases d
theorem b2S {n:Nat} {ts:List ζζ} {ss:List Stp} (n10:n<=10):∀ i,i<=ss.length->(∀ j,j<=i->(runR n ts ss j).2=true)->∀ (k:Nat) (f:List Nat),(runR n ts ss i).1.feeds[k]?=some f->∀ y∈f,y < k
 | 0,_,_,k,f,h=>by cases h
 | i+1,il,go,k,f,h=>by
  have I:=a6P n10 (go i (by omega))
  obtain ⟨b,_,_,e⟩:=c3J (s:=ss[i]'(by omega)) (List.getElem?_eq_getElem (by omega)) (go i (by omega)) (go (i+1) (Nat.le_refl _))
  rw [e] at h
  have h':((runR n ts ss i).1.feeds++[(runR n ts ss i).1.pile.drop (a2W (ss[i]'(by omega)) (runR n ts ss i).1)])[k]?=some f:=h
  by_cases c:k < (runR n ts ss i).1.feeds.length
  ·rw [List.getElem?_append_left c] at h'
   exact b2S n10 i (by omega) (λ j hj=>go j (by omega)) k f h'
  ·have kl:=(List.getElem?_eq_some_iff.mp h').1
   rw [List.length_append,List.length_singleton] at kl
   rw [List.getElem?_append_right (by omega),show k - (runR n ts ss i).1.feeds.length=0 by omega] at h'
   cases h'
   intro y hy
   have:=I.lt y (List.mem_of_mem_drop hy)
   rw [I.fl] at c kl
   omega
section
variable {P:Program} {w:World} {K:Φρ} {mg:Str->Option Value} {base:Heap}
abbrev DZ27 (K:PySem.W.Frag) (mg:Str->Option Value):=Dn K mg "run_whole" a8O ["graph", "steps"]
set_option maxHeartbeats 8000000 in
theorem b2T (B:Bl mg) (U:Used w K mg) (dZ19:DZ19 K mg) (dZ15:DZ15 K mg) (dZ20:DZ20 K mg) (dZ22:DZ22 K mg) (dZ11:DZ11 K mg) (dZ26:DZ26 K mg) (dZ14:DZ14 K mg) (dZ27:DZ27 K mg):FnOk P w K mg base CX0 5 dZ27.f dZ27.fd ["graph", "steps"] (d0Q K):=by
 have gZ26:FnOk P w K mg base CX0 4 _ _ _ _:=c4P B U dZ19 dZ15 dZ20 dZ22 dZ11 dZ26
 have gZ14:FnOk P w K mg base CX0 4 _ _ _ _:=(a4R B dZ14).mono (by decide)
 refine dZ27.F.ok sc_run_whole (λ vs H Q E h=>?_) (λ cdv A outer s H vs Q E hr h=>?_)
 ·obtain ⟨g,n,ts,a,xs,ss,rfl,_⟩:=h
  rfl
 obtain ⟨g,n,ts,a,xs,ss,rfl,hG,n10,hA,pA,l900,okS,q⟩:=h
 refine ⟨_,(a0C (a6U (a0K gZ26 hr rfl dZ26.m dZ26.F.kp dZ26.b .nil a1I (a0A (pv 0) (a0A (pv 1) a0B))) (a2A (K:=K) (n:=3) rfl rfl (a0M (a0H (i:=2) sc_run_whole.nd rfl (Or.inl rfl)) (a0M (a0H (i:=3) sc_run_whole.nd rfl (Or.inl rfl)) (a0M (a0H (i:=4) sc_run_whole.nd rfl (Or.inl rfl)) a1X)))))
   (a0C (a1O (a0J a5I (a0K gZ14 hr rfl dZ14.m dZ14.F.kp dZ14.b .nil a1I (a0A (pv 0) (a0A (pv 1) (a0A (pv 2) (a0A (pv 4) a0B))))) a1N (a0S _))
   (a0E b0A)
   a0N)
   (a0E (a0P (a0T (a0A (pv 2) (a0A (pv 3) a0B))))))),?_⟩
 have I:=c0E n10 okS
 have pl:=I.pl
 refine ⟨_,rfl,_,rfl,g,n,ts,a,xs,ss,rfl,hG,n10,hA,pA,l900,λ r pt pf pp vt fs H1 s1 hr1 ft ff fp ht hf hp pv pf'=>?_⟩
 refine ⟨r,_,rfl,SqT.of hr1,rfl,_,_,rfl,_,_,rfl,_,_,rfl,rfl,?_⟩
 refine ⟨_,rfl,_,rfl,_,rfl,_,rfl,g,n,ts,a,pt,pp,xs,vt,ss,endR n ts ss,rfl,hG.same s1,n10,s1.seq hA,Paired.mapP pA λ _ _ h=>h.same s1,SqL.of ht,Paired.mapP pv λ _ _ h=>h.l,SqL.of hp.1,(λ j hj=>by rw [I.tl]; exact I.lt j hj),by omega,λ v H2 s2 fv=>?_⟩
 rw [okS] at fv
 obtain rfl:v = .non:=fv
 refine ⟨rfl,_,rfl,iteF ?_⟩
 refine ⟨_,rfl,_,rfl,(by show 2<=1000; decide),λ p3 H3 n3=>?_⟩
 have s13:=s2.trans n3.same
 exact q p3 pt pf vt fs H3 (s1.trans s13) n3.here ft ff (s13 _ _ ht) (s13 _ _ hf) (Paired.mapP pv λ _ _ h=>h.same s13) (Paired.mapP pf' λ _ _ h=>h.same s13)
abbrev DZ12 (K:PySem.W.Frag) (mg:Str->Option Value):=Dn K mg "bags_of" b2Q ["graph", "steps"]
set_option maxHeartbeats 8000000 in
theorem b7B (B:Bl mg) (U:Used w K mg) (dZ19:DZ19 K mg) (dZ15:DZ15 K mg) (dZ20:DZ20 K mg) (dZ22:DZ22 K mg) (dZ11:DZ11 K mg) (dZ26:DZ26 K mg) (dZ14:DZ14 K mg) (dZ27:DZ27 K mg) (dZ12:DZ12 K mg):FnOk P w K mg base CX0 6 dZ12.f dZ12.fd ["graph", "steps"] (c3I K):=by
 have gZ27:FnOk P w K mg base CX0 5 _ _ _ _:=b2T B U dZ19 dZ15 dZ20 dZ22 dZ11 dZ26 dZ14 dZ27
 refine dZ12.F.ok sc_bags_of (λ vs H Q E h=>?_) (λ cdv A outer s H vs Q E hr h=>?_)
 ·obtain ⟨g,n,ts,a,xs,ss,rfl,_⟩:=h
  rfl
 obtain ⟨g,n,ts,a,xs,ss,rfl,hG,n10,hA,pA,l900,okS,q⟩:=h
 have lx:=Paired.length pA
 refine ⟨_,(a0C (a6U (a0K gZ27 hr rfl dZ27.m dZ27.F.kp dZ27.b .nil a1I (a0A (pv 0) (a0A (pv 1) a0B))) (a2A (K:=K) (n:=2) rfl rfl (a0M (a0H (i:=2) sc_bags_of.nd rfl (Or.inr rfl)) (a0M (a0H (i:=3) sc_bags_of.nd rfl (Or.inl rfl)) a1X))))
   (a0C (a0Q (i:=4) sc_bags_of.nd rfl (Or.inl rfl) (a0R a4N (a0G (a0L (K:=K) rfl) rfl B.len (by decide +kernel) (a0A (pv 1) a0B)) a0D))
   (a0C (a0Q (i:=5) sc_bags_of.nd rfl (Or.inr rfl) (a2P ["step"] [none]  (by kernel_rfl) rfl (a1A (K:=K) rfl (pv 1)) (λ _ _ _ _ _=>(a0H (i:=0) (show (["step"]:List Str).Nodup by decide +kernel) rfl (Or.inl rfl))) (λ _ _ _ _ _=>a1V) (λ _ _ _ _ _=>a1N)))
   (a0C (a2Z PassesOwn.never rfl (a8A (K:=K) rfl rfl B.enumerate (a0A (pv 3) a0B)) (a2A (K:=K) (n:=2) rfl rfl (a0M (a0H (i:=6) sc_bags_of.nd rfl (Or.inl rfl)) (a0M (a0H (i:=7) sc_bags_of.nd rfl (Or.inl rfl)) a1X)))
   (a0E (a2Z PassesOwn.never rfl (a1A (K:=K) rfl (pv 7)) (a0H (i:=8) sc_bags_of.nd rfl (Or.inl rfl))
   (a0E (a6U (a0R a4N (pv 4) (pv 6)) (c3Z (pv 5) (pv 8) b1U))))))
   (a0E (a0P (a2P ["k", "ups", "tops"] [none,some 5,some 2]  (by kernel_rfl) rfl (b9G rfl B.range (a0A (pv 4) (a0A (c1J b4N a0D) (a0A (c1J b4N a0D) a0B)))) (λ _ _ _ _ _=>(a0H (i:=0) (show (["k", "ups", "tops"]:List Str).Nodup by decide +kernel) rfl (Or.inl rfl))) (λ _ _ _ _ _=>a1V) (λ _ _ _ _ _=>(a0T (a0A (a1B (a0V (K:=K) rfl) (pv 1) (pv 0) (λ _ _=>rfl)) (a0A (a3Y (a6L (K:=K) rfl) rfl B.list (by decide +kernel) (a0A (a1B (a0V (K:=K) rfl) (pv 2) (pv 0) (λ _ _=>rfl)) a0B)) a0B))))))))))),?_⟩
 have I:=c0E n10 okS
 obtain ⟨R,eR⟩:∃ R,R=endR n ts ss:=⟨_,rfl⟩
 rw [<- eR] at I q
 refine ⟨_,rfl,_,rfl,g,n,ts,a,xs,ss,rfl,hG,n10,hA,pA,l900,okS,λ r pt pf vt fs H1 s1 hr1 ft ff ht hf pv pf'=>?_⟩
 rw [<- eR] at pv pf'
 refine ⟨r,_,rfl,SqT.of hr1,rfl,_,_,rfl,_,_,rfl,rfl,?_⟩
 refine ⟨_,rfl,a,_,rfl,.inl (s1.seq hA),_,_,rfl,rfl,?_⟩
 dsimp only
 rw [lx]
 obtain ⟨m,em⟩:∃ m,m=ss.length:=⟨_,rfl⟩
 rw [<- em] at q I l900 lx ⊢
 refine ⟨_,rfl,a,rfl,⟨_,s1.seq hA⟩,?_⟩
 refine a7Y (λ _=>some V.non) (s1.seq hA) (by omega) (λ v H2 N hv s2 hN=>hN H2 s2) (λ H2 pu H3 s2 n3=>?_)
 have e3:∀ l:List V,l.filterMap (λ _=>some V.non)=List.replicate l.length V.non:=λ l=>by
  induction l with
  | nil=>rfl
  | cons x r ih=>rw [List.filterMap_cons,ih]; rfl
 rw [e3,lx] at n3
 have s13:=s2.trans n3.same
 have s3:=s1.trans s13
 have lfs:=Paired.length pf'
 have npu:∀ b u,H1 b=some u->b≠pu:=λ b u hb z=>by
  have:=s2.free n3.fresh
  rw [<- z,hb] at this
  cases this
 refine ⟨_,rfl,pf,rfl,⟨_,SqL.of (s13 _ _ hf)⟩,?_⟩
 refine a7M (xs:=fs.map V.ref) (λ i σ H'=>∃ (v6 v7 v8:Option V),σ=[some g,some (.ref a),some (.ref pt),some (.ref pf),some (.int ((m:Int) - 1)),some (.ref pu),v6,v7,v8]/\(∀ b u,b≠pu->H3 b=some u->H' b=some u)/\Same H H'/\H' pu=some (.lst (upsV m R.feeds i)))
  ⟨none,none,none,rfl,λ _ _ _ h=>h,s3,n3.here⟩ (λ i σ H' _ ⟨_,_,_,_,kp,_⟩=>SqL.of (kp _ _ (npu _ _ hf) (s13 _ _ hf))) ?_ ?_
 ·rintro i x σ H4 pz H5 hi ⟨v6,v7,v8,rfl,kp,s4,hu4⟩ nz
  rw [List.getElem?_map] at hi
  obtain ⟨fa,hfa,rfl⟩:=Option.map_eq_some_iff.mp hi
  obtain ⟨f,hfi,hfl,_⟩:=a0U pf' hfa
  have il:i < R.feeds.length:=(List.getElem?_eq_some_iff.mp hfi).1
  have efi:R.feeds.getD i []=f:=by rw [τα,hfi]; rfl
  have hfa3:=s13 _ _ hfl
  have hfa5:H5 fa=some (.lst (natV f)):=nz.same _ _ (kp _ _ (npu _ _ hfl) hfa3)
  have hu5:=nz.same _ _ hu4
  have zpu:pz≠pu:=λ z=>by have:=nz.fresh; rw [z,hu4] at this; cases this
  refine ⟨pz,_,rfl,SqT.of nz.here,rfl,_,_,rfl,_,_,rfl,rfl,?_⟩
  refine ⟨_,rfl,fa,rfl,⟨_,SqL.of hfa5⟩,?_⟩
  refine a5O (xs:=natV f) (λ j σ H'=>∃ (v8:Option V),σ=[some g,some (.ref a),some (.ref pt),some (.ref pf),some (.int ((m:Int) - 1)),some (.ref pu),some (.int (i:Int)),some (.ref fa),v8]/\(∀ b u,b≠pu->H5 b=some u->H' b=some u)/\Same H H'/\H' pu=some (.lst (a8P (upsV m R.feeds i) (f.take j) (.int ((m:Int) - 1 - (i:Int))))))
   ⟨_,rfl,λ _ _ _ h=>h,s4.trans nz.same,hu5⟩ (λ j σ H' _ ⟨_,_,kp2,_⟩=>SqL.of (kp2 _ _ (npu _ _ hfl) hfa5)) ?_ ?_
  ·rintro j x σ H6 hx ⟨v8,rfl,kp2,s6,hu6⟩
   rw [List.getElem?_map] at hx
   obtain ⟨y,hy,rfl⟩:=Option.map_eq_some_iff.mp hx
   have yl:y < m:=by
    have:=b2S n10 ss.length (Nat.le_refl _) (d2O n10 okS) i f (by rw [eR] at hfi; exact hfi) y (List.mem_of_getElem? hy)
    have fl:=I.fl
    omega
   have et:f.take (j+1)=f.take j++[y]:=by rw [List.take_succ,hy]; rfl
   refine ⟨_,rfl,_,rfl,_,_,rfl,rfl,_,rfl,_,rfl,pu,_,_,y,rfl,rfl,hu6,b8D (by rw [a6Q,b0W]; exact yl),λ H7 c7=>?_⟩
   refine ⟨_,rfl,λ b u nb h=>(c7.rest b nb).trans (kp2 b u nb h),s6.chg ((s1.trans s2).free n3.fresh) c7,?_⟩
   rw [c7.here,et]
   unfold a8P
   rw [List.foldl_append]
   rfl
  ·rintro σ H6 ⟨v8,rfl,kp2,s6,hu6⟩
   rw [List.length_map,List.take_length] at hu6
   refine ⟨_,_,_,rfl,λ b u nb h=>kp2 b u nb (nz.same _ _ (kp b u nb h)),s6,?_⟩
   rw [hu6]
   show _=some (HO.lst (a8P (upsV m R.feeds i) (R.feeds.getD i []) (.int ((m:Int) - 1 - (i:Int)))))
   rw [efi]
 rintro σ H4 ⟨v6,v7,v8,rfl,kp,s4,hu4⟩
 rw [List.length_map,lfs,I.fl] at hu4
 have ht4:H4 pt=some (.lst vt):=kp _ _ (npu _ _ ht) (s13 _ _ ht)
 have lvt:=Paired.length pv
 rw [I.tl] at lvt
 have pv4:∀ j,j < m->∃ b,vt[j]?=some (.ref b)/\SqL K H4 b ((R.tops.getD j []).map V.int)/\(R.tops.getD j []).length<=1000:=λ j hj=>by
  have jl:j < R.tops.length:=by rw [I.tl]; exact hj
  obtain ⟨v,hv,p,rfl,hp,_⟩:=a0Y pv (List.getElem?_eq_getElem jl)
  have eg:R.tops.getD j []=R.tops[j]:=by rw [τα,List.getElem?_eq_getElem jl]; rfl
  refine ⟨p,hv,?_,by rw [eg]; exact (I.sm _ (List.getElem_mem jl)).2⟩
  rw [eg]
  rcases hp with h | h
  ·refine .inl ?_
   rcases h with h | ⟨u,h⟩
   ·exact .inl (kp _ _ (npu _ _ h) (s13 _ _ h))
   ·exact .inr ⟨u,kp _ _ (npu _ _ h) (s13 _ _ h)⟩
  ·exact .inr h
 refine ⟨_,rfl,_,rfl,_,rfl,_,_,rfl,⟨by omega,by omega,by omega,by omega⟩,?_⟩
 have en:((m:Int) - 1 - (-1)).toNat=m:=by omega
 rw [en]
 refine c6T (λ i ys H'=>∃ ps bs:List Addr,ys=ps.map V.ref/\ps.length=i/\bs.length=i/\bs.Nodup/\(∀ b∈bs,H4 b=none/\∃ u,H' b=some u)/\Same H4 H'/\∀ j,j < i->H' (ps.getD j 0)=some (.tup [(upsV m R.feeds m).getD (m - 1 - j) .non,.ref (bs.getD j 0)])/\H' (bs.getD j 0)=some (.lst ((R.tops.getD (m - 1 - j) []).map V.int)))
  ⟨[],[],rfl,rfl,rfl,.nil,λ b h=>absurd h List.not_mem_nil,Same.refl _,λ j hj=>absurd hj (Nat.not_lt_zero _)⟩ (λ i ys H' hi ⟨ps,bs,e,l,_⟩=>by rw [e,List.length_map,l]; exact Nat.le_of_lt (a0W (by omega))) (λ i ys H5 hi ⟨ps,bs,e,lp,lb,nd,fr,s5,at_⟩=>?_) (λ ys H5 ⟨ps,bs,e,lp,lb,nd,fr,s5,at_⟩ p6 hp6=>?_)
 ·have ei:(m:Int) - 1 - (i:Int)=((m - 1 - i:Nat):Int):=by omega
  rw [ei]
  obtain ⟨b,hb,hbl,bl⟩:=pv4 (m - 1 - i) (by omega)
  have au:atI (upsV m R.feeds m) ((m - 1 - i:Nat):Int)=some ((upsV m R.feeds m).getD (m - 1 - i) .non):=by
   refine a1M ?_
   rw [τα,List.getElem?_eq_getElem (by rw [b0W]; omega)]; rfl
  refine ⟨_,rfl,_,rfl,pu,_,_,_,rfl,rfl,SqL.of (s5 _ _ hu4),au,_,rfl,_,rfl,pt,_,_,_,rfl,rfl,SqL.of (s5 _ _ ht4),a1M hb,b,_,rfl,.inl (s5.seq hbl),λ p7 H7 n7=>⟨(by show 2<=1000; decide),λ p8 H8 n8=>?_⟩⟩
  have s58:=n7.same.trans n8.same
  refine ⟨ps++[p8],bs++[p7],by rw [e,List.map_append]; rfl,by rw [List.length_append,lp]; rfl,by rw [List.length_append,lb]; rfl,List.nodup_append.mpr ⟨nd,by simp,λ x hx y hy z=>?_⟩,λ b hb=>?_,s5.trans s58,λ j hj=>?_⟩
  ·rw [List.mem_singleton.mp hy] at z
   obtain ⟨u,hu⟩:=(fr x hx).2
   have:=n7.fresh
   rw [<- z,hu] at this
   cases this
  ·rcases List.mem_append.mp hb with hb | hb
   ·obtain ⟨h1,u,h2⟩:=fr b hb
    exact ⟨h1,u,s58 _ _ h2⟩
   ·rw [List.mem_singleton.mp hb]
    exact ⟨s5.free n7.fresh,_,n8.same _ _ n7.here⟩
  ·by_cases c:j < i
   ·rw [τα,List.getElem?_append_left (by omega),<- τα,τα (l:=bs++[p7]),List.getElem?_append_left (by omega),<- τα]
    exact ⟨s58 _ _ (at_ j c).1,s58 _ _ (at_ j c).2⟩
   ·obtain rfl:j=i:=by omega
    rw [τα,List.getElem?_append_right (by omega),lp,Nat.sub_self,τα (l:=bs++[p7]),List.getElem?_append_right (by omega),lb,Nat.sub_self]
    exact ⟨n8.here,n8.same _ _ n7.here⟩
 ·subst e
  have n6:New H5 p6 (.lst (ps.map V.ref)) (upd H5 p6 (.lst (ps.map V.ref))):=New.mk0 hp6
  refine q p6 ps bs _ (s4.trans (s5.trans n6.same)) ((s4.trans s5).free n6.fresh) n6.here lp lb nd (λ b hb=>s4.free (fr b hb).1) (λ hm=>?_) (λ j hj=>⟨n6.same _ _ (at_ j hj).1,n6.same _ _ (at_ j hj).2⟩)
  obtain ⟨u,hu⟩:=(fr p6 hm).2
  have:=n6.fresh
  rw [hu] at this
  cases this
end
end K
namespace K
open PySem L2 Lw Bg
abbrev rng (n:Nat):List Int:=(List.range n).map λ i=>((i:Nat):Int)
theorem mem_rng {n:Nat} {v:Int}:v∈rng n↔0<=v/\v < (n:Int):=by
 rw [List.mem_map]
 constructor
 ·rintro ⟨i,hi,rfl⟩
  have:=List.mem_range.mp hi
  omega
 ·rintro ⟨h0,h1⟩
  exact ⟨v.toNat,List.mem_range.mpr (by omega),by omega⟩
theorem c0F (n:Nat):(rng n).Nodup:=by
 unfold List.Nodup
 rw [List.pairwise_map]
 exact List.pairwise_lt_range.imp λ h=>by omega
theorem b2U {α:Type} (p q:α->Bool) (h:∀ x,p x=true->q x=true):∀ l:List α,l.countP p+l.countP (λ x=>q x && !p x)=l.countP q
 | []=>rfl
 | x::l=>by
  have ih:=b2U p q h l
  rw [List.countP_cons,List.countP_cons,List.countP_cons]
  cases hp:p x with
  | true=>rw [h x hp]; simp; omega
  | false =>
   cases hq:q x with
   | true=>simp; omega
   | false=>simp; omega
theorem a8Q {α:Type} (l:List α) (p:Nat->α->Bool):∀ (js:List Nat) (q:α->Bool),js.Nodup->(∀ j∈js,∀ x,p j x=true->q x=true)->(∀ j∈js,∀ j'∈js,∀ x,p j x=true->p j' x=true->j=j')->(js.map λ j=>l.countP (p j)).sum<=l.countP q
 | [],_,_,_,_=>Nat.zero_le _
 | j::js,q,nd,hq,one=>by
  obtain ⟨n1,n2⟩:=List.nodup_cons.mp nd
  have ih:=a8Q l p js (λ x=>q x && !p j x) n2 (λ i hi x hx=>by
   rw [Bool.and_eq_true]
   refine ⟨hq i (List.mem_cons_of_mem _ hi) x hx,?_⟩
   cases hp:p j x with
   | false=>rfl
   | true=>exact absurd (one j List.mem_cons_self i (List.mem_cons_of_mem _ hi) x hp hx ▸ hi) n1) (λ a ha b hb x h1 h2=>one a (List.mem_cons_of_mem _ ha) b (List.mem_cons_of_mem _ hb) x h1 h2)
  have:=b2U (p j) q (hq j List.mem_cons_self) l
  rw [List.map_cons,List.sum_cons]
  omega
section
open Classical
variable {n m:Nat} {up:Nat->Nat} {bag:Nat->List Int}
noncomputable def cR (m:Nat) (up:Nat->Nat) (k:Nat):Nat:=(List.range m).countP λ r=>decide (Bel m up k r)
noncomputable def cT (m:Nat) (up:Nat->Nat) (bag:Nat->List Int) (tb:List ζζ) (k:Nat):Nat:=tb.countP λ t=>decide (∃ r,Bel m up k r/\a4J up bag r t)
theorem c0G (T:Tb n m up bag) {k:Nat} (km:k < m):1+((a3W m up k).map λ j=>cR m up j).sum<=cR m up k:=by
 have kid:∀ j∈a3W m up k,0 < j/\j < m/\up j=k:=λ j hj=>(b0V T).mp hj
 have ne:∀ j∈a3W m up k,j≠k:=λ j hj e=>by
  obtain ⟨j0,jm,ju⟩:=kid j hj
  have:=T.ups j j0 jm
  omega
 have h:=a8Q (List.range m) (λ j r=>if j=k then decide (r=k) else decide (Bel m up j r)) (k::a3W m up k) (λ r=>decide (Bel m up k r)) (List.nodup_cons.mpr ⟨λ z=>ne k z rfl,c0D _ _ _⟩) (λ j hj x hx=>by
  by_cases c:j=k
  ·rw [if_pos c,decide_eq_true_iff] at hx
   rw [hx]; exact decide_eq_true (.self km)
  ·rw [if_neg c,decide_eq_true_iff] at hx
   rcases List.mem_cons.mp hj with e | hj
   ·exact absurd e c
   ·obtain ⟨j0,jm,ju⟩:=kid j hj
    exact decide_eq_true (Bel.trans (.step j0 jm (by rw [ju]; exact .self km)) hx)) (λ a ha b hb x h1 h2=>by
  have nk:∀ {j:Nat},j∈a3W m up k->¬ Bel m up j k:=λ {j} hj z=>by
   obtain ⟨j0,jm,ju⟩:=kid j hj
   have:=T.ups j j0 jm
   have:=z.le T
   omega
  rcases List.mem_cons.mp ha with ea | ha <;> rcases List.mem_cons.mp hb with eb | hb
  ·rw [ea,eb]
  ·rw [if_pos ea,decide_eq_true_iff] at h1
   rw [if_neg (ne b hb),decide_eq_true_iff] at h2
   exact absurd (h1 ▸ h2) (nk hb)
  ·rw [if_pos eb,decide_eq_true_iff] at h2
   rw [if_neg (ne a ha),decide_eq_true_iff] at h1
   exact absurd (h2 ▸ h1) (nk ha)
  ·rw [if_neg (ne a ha),decide_eq_true_iff] at h1
   rw [if_neg (ne b hb),decide_eq_true_iff] at h2
   obtain ⟨a0,am,au⟩:=kid a ha
   obtain ⟨b0,bm,bu⟩:=kid b hb
   exact c0C T a0 am b0 bm (au.trans bu.symm) h1 h2)
 rw [List.map_cons,List.sum_cons] at h
 have e1:(List.range m).countP (λ r=>if k=k then decide (r=k) else decide (Bel m up k r))=1:=by
  have:(λ r=>if k=k then decide (r=k) else decide (Bel m up k r))=λ r=>decide (r=k):=funext λ r=>if_pos rfl
  rw [this]
  have h1:=List.nodup_range (n:=m)
  have h2:List.count k (List.range m)=1:=by rw [h1.count,if_pos (List.mem_range.mpr km)]
  rw [<- h2]
  unfold List.count
  congr 1
  try (funext r; exact (Bool.eq_iff_iff.mpr (by simp)))
 have e2:(a3W m up k).map (λ j=>(List.range m).countP λ r=>if j=k then decide (r=k) else decide (Bel m up j r))=(a3W m up k).map λ j=>cR m up j:=List.map_congr_left λ j hj=>by
  unfold cR
  congr 1
  funext r
  rw [if_neg (ne j hj)]
 rw [e1,e2] at h
 exact h
theorem c7P (T:Tb n m up bag) {k:Nat} (km:k < m) (tb:List ζζ):(ownT up bag tb k).length+((a3W m up k).map λ j=>cT m up bag tb j).sum<=cT m up bag tb k:=by
 have kid:∀ j∈a3W m up k,0 < j/\j < m/\up j=k:=λ j hj=>(b0V T).mp hj
 have ne:∀ j∈a3W m up k,j≠k:=λ j hj e=>by
  obtain ⟨j0,jm,ju⟩:=kid j hj
  have:=T.ups j j0 jm
  omega
 have h:=a8Q tb (λ j t=>if j=k then decide (a4J up bag k t) else decide (∃ r,Bel m up j r/\a4J up bag r t)) (k::a3W m up k) (λ t=>decide (∃ r,Bel m up k r/\a4J up bag r t)) (List.nodup_cons.mpr ⟨λ z=>ne k z rfl,c0D _ _ _⟩) (λ j hj x hx=>by
  by_cases c:j=k
  ·rw [if_pos c,decide_eq_true_iff] at hx
   exact decide_eq_true ⟨k,.self km,hx⟩
  ·rw [if_neg c,decide_eq_true_iff] at hx
   obtain ⟨r,br,hr⟩:=hx
   rcases List.mem_cons.mp hj with e | hj
   ·exact absurd e c
   ·obtain ⟨j0,jm,ju⟩:=kid j hj
    exact decide_eq_true ⟨r,Bel.trans (.step j0 jm (by rw [ju]; exact .self km)) br,hr⟩) (λ a ha b hb x h1 h2=>by
  have nk:∀ {j:Nat},j∈a3W m up k->¬ Bel m up j k:=λ {j} hj z=>by
   obtain ⟨j0,jm,ju⟩:=kid j hj
   have:=T.ups j j0 jm
   have:=z.le T
   omega
  rcases List.mem_cons.mp ha with ea | ha <;> rcases List.mem_cons.mp hb with eb | hb
  ·rw [ea,eb]
  ·rw [if_pos ea,decide_eq_true_iff] at h1
   rw [if_neg (ne b hb),decide_eq_true_iff] at h2
   obtain ⟨r,br,hr⟩:=h2
   exact absurd (b0U T hr h1 ▸ br) (nk hb)
  ·rw [if_pos eb,decide_eq_true_iff] at h2
   rw [if_neg (ne a ha),decide_eq_true_iff] at h1
   obtain ⟨r,br,hr⟩:=h1
   exact absurd (b0U T hr h2 ▸ br) (nk ha)
  ·rw [if_neg (ne a ha),decide_eq_true_iff] at h1
   rw [if_neg (ne b hb),decide_eq_true_iff] at h2
   obtain ⟨r,br,hr⟩:=h1
   obtain ⟨r',br',hr'⟩:=h2
   have:=b0U T hr hr'
   subst this
   obtain ⟨a0,am,au⟩:=kid a ha
   obtain ⟨b0,bm,bu⟩:=kid b hb
   exact c0C T a0 am b0 bm (au.trans bu.symm) br br')
 rw [List.map_cons,List.sum_cons] at h
 have e1:tb.countP (λ t=>if k=k then decide (a4J up bag k t) else decide (∃ r,Bel m up k r/\a4J up bag r t))=(ownT up bag tb k).length:=by
  unfold ownT
  rw [<- List.countP_eq_length_filter]
  congr 1
  funext t
  rw [if_pos rfl]
  try exact decide_eq_decide.mpr Iff.rfl
 have e2:(a3W m up k).map (λ j=>tb.countP λ t=>if j=k then decide (a4J up bag k t) else decide (∃ r,Bel m up j r/\a4J up bag r t))=(a3W m up k).map λ j=>cT m up bag tb j:=List.map_congr_left λ j hj=>by
  unfold cT
  congr 1
  funext t
  rw [if_neg (ne j hj)]
 rw [e1,e2] at h
 exact h
theorem c0H {α:Type} (L:Nat->List α) (c d:Nat->Nat):∀ js:List Nat,(∀ j∈js,(L j).length<=14*c j+d j)->(js.flatMap L).length<=14*(js.map c).sum+(js.map d).sum
 | [],_=>Nat.zero_le _
 | j::js,h=>by
  have ih:=c0H L c d js λ i hi=>h i (List.mem_cons_of_mem _ hi)
  have:=h j List.mem_cons_self
  rw [List.flatMap_cons,List.length_append,List.map_cons,List.sum_cons,List.map_cons,List.sum_cons]
  omega
theorem c0I (hW:∀ k,(bag k).length<=4) (j k:Nat):(a4S bag j k).length<=8:=by
 have f1:(betw (bag j) (bag k)).length<=4:=Nat.le_trans (List.length_filter_le _ _) (hW j)
 have f2:(betw (bag k) (bag j)).length<=4:=Nat.le_trans (List.length_filter_le _ _) (hW k)
 unfold a4S
 rw [List.length_append,List.length_map,List.length_map]
 omega
end
def upR (rs:List Row) (k:Nat):Nat:=((a0I rs k).1.getD 0).toNat
def bagR (rs:List Row) (k:Nat):List Int:=(a0I rs k).2
theorem a4G {rs:List Row} {k:Nat} (h:rs.length<=k):a0I rs k=(none,[]):=by
 unfold a0I
 rw [τα,List.getElem?_eq_none h]; rfl
theorem a1S (rs:List Row) (r:Row) (k:Nat):bagR (rs++[r]) k=if k=rs.length then r.2 else bagR rs k:=by
 unfold bagR
 by_cases c:k=rs.length
 ·rw [if_pos c,c,a1T]
 ·rw [if_neg c]
  by_cases d:k < rs.length
  ·rw [a1E d]
  ·rw [a4G (by rw [List.length_append,List.length_singleton]; omega),a4G (by omega)]
theorem a7Q (rs:List Row) (r:Row) (k:Nat):upR (rs++[r]) k=if k=rs.length then (r.1.getD 0).toNat else upR rs k:=by
 unfold upR
 by_cases c:k=rs.length
 ·rw [if_pos c,c,a1T]
 ·rw [if_neg c]
  by_cases d:k < rs.length
  ·rw [a1E d]
  ·rw [a4G (by rw [List.length_append,List.length_singleton]; omega),a4G (by omega)]
structure Rw (n most:Nat) (rs:List Row) (us:List Int):Prop where
 T:Tb n rs.length (upR rs) (bagR rs)
 r0:(a0I rs 0).1=none
 ru:∀ k,0 < k->k < rs.length->(a0I rs k).1=some ((upR rs k:Nat):Int)
 nd:us.Nodup
 lt:∀ v∈us,0<=v/\v < (n:Int)
 dis:∀ v∈us,∀ k,v ∉ bagR rs k
 cov:∀ v:Int,0<=v->v < (n:Int)->v∈us\/∃ k,v∈bagR rs k
 few:∀ k,(bagR rs k).length<=most
theorem a7R (us:List Int) (c:Nat):us.take (us.length - c)++us.drop (us.length - c)=us:=List.take_append_drop _ _
theorem rw_0 {n most c:Nat} {us zs:List Int} (pm:us.Perm (rng n)) (cm:c<=most) (hz:zs.Perm (us.drop (us.length - c)).reverse):Rw n most [(none,zs)] (us.take (us.length - c)):=by
 have ndu:us.Nodup:=pm.nodup_iff.mpr (c0F n)
 have inn:∀ v∈us,0<=v/\v < (n:Int):=λ v hv=>mem_rng.mp (pm.mem_iff.mp hv)
 have nd2:=ndu
 rw [<- a7R us c] at nd2
 obtain ⟨n1,n2,dj⟩:=List.nodup_append.mp nd2
 have mz:∀ v,v∈zs↔v∈us.drop (us.length - c):=λ v=>by rw [hz.mem_iff,List.mem_reverse]
 have bg:∀ k,bagR [(none,zs)] k=if k=0 then zs else []:=λ k=>by
  cases k with
  | zero=>rfl
  | succ k=>rfl
 have lz:zs.length<=most:=by
  rw [hz.length_eq,List.length_reverse,List.length_drop]; omega
 refine ⟨⟨Nat.zero_lt_one,λ k h0 h1=>?_,λ k=>?_,λ k v hv=>?_,λ k h0 h1=>?_,λ k hk=>?_⟩,rfl,λ k h0 h1=>?_,n1,λ v hv=>inn v (List.mem_of_mem_take hv),λ v hv k hk=>?_,λ v v0 v1=>?_,λ k=>?_⟩
 ·exact absurd h1 (by show ¬ k < 1; omega)
 ·rw [bg]; split
  ·exact hz.nodup_iff.mpr ((List.reverse_perm _).nodup_iff.mpr n2)
  ·exact .nil
 ·rw [bg] at hv
  split at hv
  ·exact inn v (List.mem_of_mem_drop ((mz v).mp hv))
  ·exact absurd hv List.not_mem_nil
 ·exact absurd h1 (by show ¬ k < 1; omega)
 ·rw [bg,if_neg (by have:1<=k:=hk; omega)]
 ·exact absurd h1 (by show ¬ k < 1; omega)
 ·rw [bg] at hk
  split at hk
  ·exact dj v hv v ((mz v).mp hk) rfl
  ·exact absurd hk List.not_mem_nil
 ·have:v∈us:=pm.mem_iff.mpr (mem_rng.mpr ⟨v0,v1⟩)
  rw [<- a7R us c] at this
  rcases List.mem_append.mp this with h | h
  ·exact .inl h
  ·exact .inr ⟨0,(mz v).mpr h⟩
 ·rw [bg]; split
  ·exact lz
  ·exact Nat.zero_le _
theorem d0R {n most c f:Nat} {rs:List Row} {us ks zs:List Int} (W:Rw n most rs us) (fl:f < rs.length) (sb:List.Sublist ks (bagR rs f)) (lc:ks.length+c<=most) (hz:zs.Perm (ks++(us.drop (us.length - c)).reverse)):Rw n most (rs++[(some (f:Int),zs)]) (us.take (us.length - c)):=by
 have nd2:=W.nd
 rw [<- a7R us c] at nd2
 obtain ⟨n1,n2,dj⟩:=List.nodup_append.mp nd2
 have mz:∀ v,v∈zs↔v∈ks\/v∈us.drop (us.length - c):=λ v=>by rw [hz.mem_iff,List.mem_append,List.mem_reverse]
 have lz:zs.length<=most:=by
  rw [hz.length_eq,List.length_append,List.length_reverse,List.length_drop]; omega
 have ll:(rs++[((some (f:Int),zs):Row)]).length=rs.length+1:=by rw [List.length_append,List.length_singleton]
 have ndz:zs.Nodup:=hz.nodup_iff.mpr (List.nodup_append.mpr ⟨(W.T.nd f).sublist sb,(List.reverse_perm _).nodup_iff.mpr n2,λ x hx y hy e=>by
  subst e
  exact W.dis x (List.mem_of_mem_drop (List.mem_reverse.mp hy)) f (sb.subset hx)⟩)
 have un:upR (rs++[((some (f:Int),zs):Row)]) rs.length=f:=by
  rw [a7Q,if_pos rfl]; rfl
 refine ⟨⟨by omega,λ k h0 h1=>?_,λ k=>?_,λ k v hv=>?_,λ k h0 h1 v hv=>?_,λ k hk=>?_⟩,?_,λ k h0 h1=>?_,n1,λ v hv=>W.lt v (List.mem_of_mem_take hv),λ v hv k hk=>?_,λ v v0 v1=>?_,λ k=>?_⟩
 ·rw [ll] at h1
  by_cases e:k=rs.length
  ·subst e; rw [un]; exact fl
  ·rw [a7Q,if_neg e]; exact W.T.ups k h0 (by omega)
 ·rw [a1S]; split
  ·exact ndz
  ·exact W.T.nd k
 ·rw [a1S] at hv
  split at hv
  ·rcases (mz v).mp hv with h | h
   ·exact W.T.lt f v (sb.subset h)
   ·exact W.lt v (List.mem_of_mem_drop h)
  ·exact W.T.lt k v hv
 ·rw [ll] at h1
  by_cases e:k=rs.length
  ·subst e
   rw [un]
   rw [a1S,if_pos rfl] at hv
   rcases (mz v).mp hv with h | h
   ·refine .inl ?_
    rw [a1S,if_neg (by omega)]
    exact sb.subset h
   ·refine .inr λ j hj=>?_
    rw [a1S,if_neg (by omega)]
    exact W.dis v (List.mem_of_mem_drop h) j
  ·have kl:k < rs.length:=by omega
   rw [a1S,if_neg e] at hv
   rw [a7Q,if_neg e]
   have ul:=W.T.ups k h0 kl
   rcases W.T.fr k h0 kl v hv with h | h
   ·refine .inl ?_
    rw [a1S,if_neg (by omega)]
    exact h
   ·refine .inr λ j hj=>?_
    rw [a1S,if_neg (by omega)]
    exact h j hj
 ·rw [ll] at hk
  rw [a1S,if_neg (by omega)]
  exact W.T.no k (by omega)
 ·rw [a1E W.T.pos]; exact W.r0
 ·rw [ll] at h1
  by_cases e:k=rs.length
  ·subst e; rw [un,a1T]
  ·rw [a7Q,if_neg e,a1E (by omega)]; exact W.ru k h0 (by omega)
 ·rw [a1S] at hk
  split at hk
  ·rcases (mz v).mp hk with h | h
   ·exact W.dis v (List.mem_of_mem_take hv) f (sb.subset h)
   ·exact dj v hv v h rfl
  ·exact W.dis v (List.mem_of_mem_take hv) k hk
 ·rcases W.cov v v0 v1 with h | ⟨k,h⟩
  ·rw [<- a7R us c] at h
   rcases List.mem_append.mp h with h | h
   ·exact .inl h
   ·refine .inr ⟨rs.length,?_⟩
    rw [a1S,if_pos rfl]
    exact (mz v).mpr (.inr h)
  ·refine .inr ⟨k,?_⟩
   have kl:=W.T.in_ h
   rw [a1S,if_neg (by omega)]
   exact h
 ·rw [a1S]; split
  ·exact lz
  ·exact W.few k
def RwX (ex:List Addr) (H:Hp) (v:V) (r:Row):Prop:=∃ p b,v = .ref p/\H p=some (.tup [upV r.1,.ref b])/\H b=some (.lst (r.2.map V.int))/\b ∉ ex/\r.2.length<=1000
theorem RwX.same {ex:List Addr} {H H':Hp} {v:V} {r:Row} (s:Same H H') (h:RwX ex H v r):RwX ex H' v r:=by
 obtain ⟨p,b,e,h1,h2,h3⟩:=h
 exact ⟨p,b,e,s _ _ h1,s _ _ h2,h3⟩
theorem RwX.chg {ex:List Addr} {H H':Hp} {l:Addr} {xs:List V} {o:HO} {v:V} {r:Row} (hl:H l=some (.lst xs)) (c:Chg H l o H') (m:l∈ex) (h:RwX ex H v r):RwX ex H' v r:=by
 obtain ⟨p,b,e,h1,h2,h3,h4⟩:=h
 exact ⟨p,b,e,(c.rest p λ z=>by rw [z,hl] at h1; cases h1).trans h1,(c.rest b λ z=>h3 (z ▸ m)).trans h2,h3,h4⟩
theorem RwX.l {ex:List Addr} {l:Addr} {H:Hp} {v:V} {r:Row} (m:l∈ex) (h:RwX ex H v r):RowL l H v r:=by
 obtain ⟨p,b,e,h1,h2,h3,h4⟩:=h
 exact ⟨p,b,e,h1,h2,λ z=>h3 (z ▸ m),h4⟩
theorem c0J {ix:List (Option Nat)} {g:TG} {tt:TT} {te:TE} {σ:St} {H:Hp} {Q:VK} {pl:Addr} {us:List Int} {c:Nat} {lo:Int} (h:H pl=some (.lst (us.map V.int))) (hc:c<=us.length) (lu:us.length<=900)
  (hs:∀ (i:Nat) (H':Hp) (xs:List V) (y:V) (N:VK) (M:Hp->Prop),H' pl=some (.lst (xs++[y]))->(∀ H2,Chg H' pl (.lst xs) H2->N y H2)->g (.int (lo+i)) (capt ix σ) H' λ σ2 H2=>tt σ2 H2 λ b H3=>if b=true then te σ2 H3 N else M H3)
  (hd:∀ H1 p H2,Chg H pl (.lst ((us.take (us.length - c)).map V.int)) H1->New H1 p (.lst ((us.drop (us.length - c)).reverse.map V.int)) H2->Q (.ref p) H2):a3J ix g tt te σ H Q (Itr lo c):=by
 refine a5T (λ i ys H'=>ys=(us.drop (us.length - i)).reverse.map V.int/\Chg H pl (.lst ((us.take (us.length - i)).map V.int)) H') ⟨?_,?_,λ _ _=>rfl⟩ (λ i ys H' hi ⟨e,_⟩=>?_) (λ i ys H' hi ⟨e,c1⟩=>?_) (λ ys H' ⟨e,c1⟩ p hp=>?_)
 ·rw [Nat.sub_zero,List.drop_length]; rfl
 ·rw [Nat.sub_zero,List.take_length]; exact h
 ·rw [e,List.length_map,List.length_reverse,List.length_drop]; exact Nat.le_of_lt (a0W (by omega))
 ·have jl:us.length - (i+1) < us.length:=by omega
  have e1:us.length - i=us.length - (i+1)+1:=by omega
  have et:us.take (us.length - i)=us.take (us.length - (i+1))++[us[us.length - (i+1)]]:=by rw [e1,List.take_succ_eq_append_getElem jl]
  have ed:us.drop (us.length - (i+1))=us[us.length - (i+1)]::us.drop (us.length - i):=by rw [List.drop_eq_getElem_cons jl,e1]
  have h1:=c1.here
  rw [et,List.map_append] at h1
  refine hs i H' _ _ (λ v H4=>ys++[v]=(us.drop (us.length - (i+1))).reverse.map V.int/\Chg H pl (.lst ((us.take (us.length - (i+1))).map V.int)) H4) _ h1 λ H2 c2=>⟨?_,c2.here,λ b hb=>(c2.rest b hb).trans (c1.rest b hb)⟩
  rw [e,ed,List.reverse_cons,List.map_append]; rfl
 ·subst e
  exact hd H' p _ c1 (New.mk0 hp)
def ownS (up:Nat->Nat) (bag:Nat->List Int) (tb:List ζζ) (k:Nat):List Stp:=(ownT up bag tb k).map λ t=>.tie t.1 t.2
def upJ (bag:Nat->List Int) (L:Nat->List Stp) (k:Nat) (M:List Stp) (j:Nat):List Stp:=M++L j++a4S bag j k++if M.isEmpty=true then [] else [.join]
def a3E (tb:List ζζ) (m:Nat) (up:Nat->Nat) (bag:Nat->List Int):Nat->Nat->List Stp
 | 0,_=>[]
 | f+1,k=>(if ((a3W m up k).foldl (upJ bag (a3E tb m up bag f) k) []).isEmpty=true then .leaf::(bag k).map .inn else (a3W m up k).foldl (upJ bag (a3E tb m up bag f) k) [])++ownS up bag tb k
section
variable {n wd m:Nat} {up:Nat->Nat} {bag:Nat->List Int} {ts tb:List ζζ}
theorem a9W (T:Tb n m up bag) (hW:∀ k,(bag k).length<=4) (tb:List ζζ):∀ f k,k < m->(a3E tb m up bag f k).length+9<=14*cR m up k+cT m up bag tb k
 | 0,k,km=>by
  have h:=c0G T km
  show 0+9<=_
  omega
 | f+1,k,km=>by
  have h1:=c0G T km
  have h2:=c7P T km tb
  have hb:=hW k
  have h3:=c0H (λ j=>a3E tb m up bag f j++(a4S bag j k++[Stp.join])) (λ j=>cR m up j) (λ j=>cT m up bag tb j) (a3W m up k) λ j hj=>by
   obtain ⟨j0,jm,ju⟩:=(b0V T).mp hj
   have ih:=a9W T hW tb f j jm
   have:=c0I hW j k
   show (a3E tb m up bag f j++(a4S bag j k++[Stp.join])).length<=14*cR m up j+cT m up bag tb j
   rw [List.length_append,List.length_append,List.length_singleton]
   omega
  have eo:(ownS up bag tb k).length=(ownT up bag tb k).length:=List.length_map _
  have le:∀ (js:List Nat) (M:List Stp),(js.foldl (upJ bag (a3E tb m up bag f) k) M).length<=M.length+(js.flatMap λ j=>a3E tb m up bag f j++(a4S bag j k++[Stp.join])).length:=λ js=>by
   induction js with
   | nil=>intro M; exact Nat.le_refl _
   | cons j js ih =>
    intro M
    show (js.foldl _ (upJ bag _ k M j)).length<=_
    refine Nat.le_trans (ih _) ?_
    rw [List.flatMap_cons,List.length_append (as:=a3E tb m up bag f j++_),List.length_append (as:=a3E tb m up bag f j),List.length_append (as:=a4S bag j k),List.length_singleton]
    unfold upJ
    rw [List.length_append,List.length_append,List.length_append]
    have:(if M.isEmpty=true then ([]:List Stp) else [.join]).length<=1:=by split <;> simp
    omega
  have l:=le (a3W m up k) []
  unfold a3E
  rw [List.length_append]
  have z:([]:List Stp).length=0:=rfl
  split
  ·rw [List.length_cons,List.length_map]; omega
  ·omega
theorem a6R (T:Tb n m up bag) (hW:∀ k,(bag k).length<=4) (m10:m<=10) {tb:List ζζ} (t100:tb.length<=100) {f k:Nat} (km:k < m):(a3E tb m up bag f k).length<=240:=by
 have h:=a9W T hW tb f k km
 have h1:cR m up k<=m:=by
  have:=List.countP_le_length (p:=λ r=>@decide (Bel m up k r) (Classical.propDecidable _)) (l:=List.range m)
  rw [List.length_range] at this
  exact this
 have h2:cT m up bag tb k<=tb.length:=List.countP_le_length
 omega
end
theorem c0K {n:Nat} {rs:List Row} (T:Tree n rs):Tb n rs.length (upR rs) (bagR rs):=by
 have U:=a8K T.ok
 have up:∀ k,0 < k->k < rs.length->(a0I rs k).1=some ((upR rs k:Nat):Int)/\upR rs k < k:=λ k k0 kl=>by
  have o:=T.ok k kl
  unfold a2Q upOk at o
  rw [Bool.and_eq_true,if_neg (by omega)] at o
  cases e:(a0I rs k).1 with
  | none=>rw [e] at o; cases o.1
  | some i =>
   have:=U k kl i e
   unfold upR
   rw [e]
   exact ⟨by congr 1; show i=((i.toNat:Nat):Int); omega,this.2⟩
 have st:∀ k,k < rs.length->setF n (bagR rs k)=true:=λ k kl=>by
  have o:=T.ok k kl
  unfold a2Q at o
  rw [Bool.and_eq_true] at o
  exact o.2
 have no:∀ k,rs.length<=k->bagR rs k=[]:=λ k h=>by unfold bagR; rw [a4G h]
 refine ⟨T.pos,λ k k0 kl=>(up k k0 kl).2,λ k=>?_,λ k v hv=>?_,λ k k0 kl v hv=>?_,no⟩
 ·by_cases c:k < rs.length
  ·exact ((a3U _ _).mp (st k c)).2.imp λ h=>by omega
  ·rw [no k (by omega)]; exact .nil
 ·by_cases c:k < rs.length
  ·exact ((a3U _ _).mp (st k c)).1 v hv
  ·rw [no k (by omega)] at hv; exact absurd hv List.not_mem_nil
 ·by_cases c:v∈bagR rs (upR rs k)
  ·exact .inl c
  ·refine .inr λ j hj z=>c ?_
   exact c4O U (T.tops v) kl hj hv z (up k k0 kl).1
theorem c0L {n:Nat} {rs:List Row} (T:Tree n rs) {k:Nat} (k0:0 < k) (kl:k < rs.length):(a0I rs k).1=some ((upR rs k:Nat):Int):=by
 have U:=a8K T.ok
 have o:=T.ok k kl
 unfold a2Q upOk at o
 rw [Bool.and_eq_true,if_neg (by omega)] at o
 cases e:(a0I rs k).1 with
 | none=>rw [e] at o; cases o.1
 | some i =>
  have:=U k kl i e
  unfold upR
  rw [e]
  congr 1; show i=((i.toNat:Nat):Int); omega
theorem c0M {n:Nat} {rs:List Row} (T:Tree n rs):(a0I rs 0).1=none:=by
 have o:=T.ok 0 T.pos
 unfold a2Q upOk at o
 rw [Bool.and_eq_true,if_pos rfl] at o
 cases e:(a0I rs 0).1 with
 | none=>rfl
 | some i=>rw [e] at o; cases o.1
theorem c7Q {n most:Nat} {rs:List Row} (W:Rw n most rs []) (sr:∀ k,(bagR rs k).Pairwise (· < ·)) (l40:rs.length<=40):Tree n rs:=by
 have T:=W.T
 refine ⟨T.pos,l40,λ k kl=>?_,λ v v0 v1=>?_,λ v=>?_⟩
 ·unfold a2Q
  rw [Bool.and_eq_true]
  refine ⟨?_,(a3U _ _).mpr ⟨T.lt k,sr k⟩⟩
  unfold upOk
  by_cases c:k=0
  ·subst c; rw [if_pos rfl,W.r0]; rfl
  ·rw [if_neg c,W.ru k (by omega) kl]
   have:=T.ups k (by omega) kl
   exact decide_eq_true ⟨by omega,by omega⟩
 ·rcases W.cov v v0 v1 with h | ⟨k,h⟩
  ·exact absurd h List.not_mem_nil
  ·have kl:=T.in_ h
   exact ⟨a0I rs k,List.mem_of_getElem? (a1W kl),h⟩
 ·have nd:(a3D rs v).Nodup:=List.nodup_range.sublist List.filter_sublist
  have no:∀ {a b:Nat},a < b->b < rs.length->a3G rs v a=true->a3G rs v b=true->False:=λ {a b} ab bl ha hb=>by
   obtain ⟨a1,_⟩:=isTop_iff.mp ha
   obtain ⟨b1,b2⟩:=isTop_iff.mp hb
   rcases T.fr b (by omega) bl v b1 with h | h
   ·rw [W.ru b (by omega) bl] at b2
    have:a6M rs (some ((upR rs b:Nat):Int)) v=true:=decide_eq_true h
    rw [this] at b2
    cases b2
   ·exact h a ab a1
  have same:∀ a∈a3D rs v,∀ b∈a3D rs v,a=b:=λ a ha b hb=>by
   obtain ⟨a1,a2⟩:=List.mem_filter.mp ha
   obtain ⟨b1,b2⟩:=List.mem_filter.mp hb
   have al:=List.mem_range.mp a1
   have bl:=List.mem_range.mp b1
   rcases Nat.lt_trichotomy a b with c | c | c
   ·exact (no c bl a2 b2).elim
   ·exact c
   ·exact (no c al b2 a2).elim
  match e:a3D rs v,nd,same with
  | [],_,_=>exact Nat.zero_le _
  | [_],_,_=>exact Nat.le_refl _
  | a::b::r,nd,same =>
   have:=same a (by simp) b (by simp)
   rw [this] at nd
   exact absurd List.mem_cons_self (List.nodup_cons.mp nd).1
end K
namespace K
open PySem L2 Lw Bg
def StpL (H:Hp) (v:V) (s:Stp):Prop:=∃ p,v = .ref p/\H p=some (.tup s.vs)
theorem StpL.same {H H':Hp} {v:V} {s:Stp} (e:Same H H') (h:StpL H v s):StpL H' v s:=by
 obtain ⟨p,rfl,h⟩:=h
 exact ⟨p,rfl,e _ _ h⟩
theorem paired_app {α β:Type} {R:α->β->Prop}:∀ {xs xs':List α} {ys ys':List β},Paired R xs ys->Paired R xs' ys'->Paired R (xs++xs') (ys++ys')
 | _,_,_,_,.nil,h=>h
 | _,_,_,_,.cons a b,h=>.cons a (paired_app b h)
theorem b4D {K:Φρ} {a:Addr} {ix:List (Option Nat)} {g:TG} {tt:TT} {te:TE} {σ:St} {H:Hp} {Q:VK} (xs:List Int) (c:Int->Bool) (S:Int->Stp) (hx:SqL K H a (xs.map V.int)) (l9:xs.length<=900)
  (hs:∀ (v:Int) (H1:Hp) (N:VK) (M:Hp->Prop),v∈xs->Same H H1->(c v=true->∀ p H2,New H1 p (.tup (S v).vs) H2->N (.ref p) H2)->(c v=false->M H1)->g (.int v) (capt ix σ) H1 λ σ2 H2=>tt σ2 H2 λ b H3=>if b=true then te σ2 H3 N else M H3)
  (hd:∀ H1 p ys H2,Same H H1->New H1 p (.lst ys) H2->Paired (StpL H2) ys ((xs.filter c).map S)->Q (.ref p) H2):a3J ix g tt te σ H Q (Itl K a):=by
 refine a3T (K:=K) (a:=a) (xs:=xs.map V.int) (λ i ys H'=>Same H H'/\Paired (StpL H') ys (((xs.take i).filter c).map S)) ⟨Same.refl _,.nil⟩ (λ i ys H' hi ⟨s,p⟩=>⟨s.seq hx,?_⟩) (λ i x ys H' hi ⟨s,p⟩=>?_) (λ ys H' ⟨s,p⟩ q hq=>?_)
 ·rw [Paired.length p,List.length_map]
  have:=List.length_filter_le c (xs.take i)
  rw [List.length_take] at this
  exact Nat.le_of_lt (a0W (by omega))
 ·rw [List.getElem?_map] at hi
  obtain ⟨v,hv,rfl⟩:=Option.map_eq_some_iff.mp hi
  have et:xs.take (i+1)=xs.take i++[v]:=by rw [List.take_succ,hv]; rfl
  refine hs v H' _ _ (List.mem_of_getElem? hv) s (λ cv p2 H2 n2=>⟨s.trans n2.same,?_⟩) (λ cv=>⟨s,?_⟩)
  ·rw [et,List.filter_append,List.map_append,List.filter_cons,cv]
   exact a0Z (Paired.mapP p λ _ _ h=>h.same n2.same) ⟨p2,rfl,n2.here⟩
  ·rw [et,List.filter_append,List.map_append,List.filter_cons,cv]
   simp only [Bool.false_eq_true,if_false,List.filter_nil,List.map_nil,List.append_nil]
   exact p
 ·have nq:New H' q (.lst ys) (upd H' q (.lst ys)):=New.mk0 hq
  rw [List.length_map,List.take_length] at p
  exact hd H' q ys _ s nq (Paired.mapP p λ _ _ h=>h.same nq.same)
abbrev a6F:Stmt:=top 42
theorem a5D:FnScope ["bags"] ["bags"] (a0F a6F):=⟨rfl,rfl,rfl,by decide +kernel,rfl,by decide +kernel,by decide +kernel⟩
abbrev a4T:Stmt:=top 44
theorem a7J:FnScope ["lower", "upper"] ["lower", "upper"] (a0F a4T):=⟨rfl,rfl,rfl,by decide +kernel,rfl,by decide +kernel,by decide +kernel⟩
def d0S (K:Φρ):Sp:=λ vs H Q _=>∃ (a b:Addr) (xs ys:List Int),vs=[.ref a,.ref b]/\SqL K H a (xs.map V.int)/\SqL K H b (ys.map V.int)/\xs.length<=100/\ys.length<=100 /\
 ∀ p us H',Same H H'->H p=none->H' p=some (.lst us)->Paired (StpL H') us ((betw xs ys).map .out++(betw ys xs).map .inn)->Q (.ref p) H'
section
variable {P:Program} {w:World} {K:Φρ} {mg:Str->Option Value} {base:Heap}
abbrev DZ28 (K:PySem.W.Frag) (mg:Str->Option Value):=Dn K mg "steps_between" a4T ["lower", "upper"]
set_option maxHeartbeats 8000000 in
theorem a7K (B:Bl mg) (dZ22:DZ22 K mg) (dZ28:DZ28 K mg):FnOk P w K mg base CX0 2 dZ28.f dZ28.fd ["lower", "upper"] (d0S K):=by
 have gZ22:FnOk P w K mg base CX0 1 _ _ _ _:=b4A B dZ22
 refine dZ28.F.ok a7J (λ vs H Q E h=>?_) (λ cdv A outer s H vs Q E hr h=>?_)
 ·obtain ⟨a,b,xs,ys,rfl,_⟩:=h
  rfl
 obtain ⟨a,b,xs,ys,rfl,hA,hB,zx,zy,q⟩:=h
 refine ⟨_,(a0E (a0P (a0R a1R (a2P ["v"] [none]  (by kernel_rfl) rfl (a1A (K:=K) rfl (a0K gZ22 hr rfl dZ22.m dZ22.F.kp dZ22.b .nil a1I (a0A (pv 0) (a0A (pv 1) a0B)))) (λ _ _ _ _ _=>(a0H (i:=0) (show (["v"]:List Str).Nodup by decide +kernel) rfl (Or.inl rfl))) (λ _ _ _ _ _=>a1V) (λ _ _ _ _ _=>(a0T (a0A a1D (a0A (pv 0) a0B))))) (a2P ["v"] [none]  (by kernel_rfl) rfl (a1A (K:=K) rfl (a0K gZ22 hr rfl dZ22.m dZ22.F.kp dZ22.b .nil a1I (a0A (pv 1) (a0A (pv 0) a0B)))) (λ _ _ _ _ _=>(a0H (i:=0) (show (["v"]:List Str).Nodup by decide +kernel) rfl (Or.inl rfl))) (λ _ _ _ _ _=>a1V) (λ _ _ _ _ _=>(a0T (a0A a1D (a0A (pv 0) a0B)))))))),?_⟩
 refine ⟨_,rfl,_,rfl,a,b,xs,ys,rfl,hA,hB,by omega,λ H1 p1 H2 s1 n1=>?_⟩
 have s2:=s1.trans n1.same
 have l1:(a2R xs ys).length<=xs.length:=List.length_filter_le _ _
 have l2:(a2R ys xs).length<=ys.length:=List.length_filter_le _ _
 refine ⟨p1,rfl,⟨_,SqL.of n1.here⟩,?_⟩
 refine b4D (a2R xs ys) (λ _=>true) Stp.out (SqL.of n1.here) (by omega) (λ v H3 N M _ s3 hN hM=>?_) (λ H3 p3 y3 H4 s3 n4 p4=>?_)
 ·exact ⟨_,rfl,(by show 2<=1000; decide),λ p H5 n5=>hN rfl p H5 n5⟩
 rw [List.filter_eq_self.mpr (λ _ _=>rfl)] at p4
 have s4:=s2.trans (s3.trans n4.same)
 refine ⟨_,rfl,_,rfl,b,a,ys,xs,rfl,s4.seq hB,s4.seq hA,by omega,λ H5 p5 H6 s5 n6=>?_⟩
 have s6:=s4.trans (s5.trans n6.same)
 refine ⟨p5,rfl,⟨_,SqL.of n6.here⟩,?_⟩
 refine b4D (a2R ys xs) (λ _=>true) Stp.inn (SqL.of n6.here) (by omega) (λ v H7 N M _ s7 hN hM=>?_) (λ H7 p7 y7 H8 s7 n8 p8=>?_)
 ·exact ⟨_,rfl,(by show 2<=1000; decide),λ p H5 n5=>hN rfl p H5 n5⟩
 rw [List.filter_eq_self.mpr (λ _ _=>rfl)] at p8
 have s48:Same H4 H8:=s5.trans (n6.same.trans (s7.trans n8.same))
 have e4:=Paired.length p4
 have e8:=Paired.length p8
 rw [List.length_map] at e4 e8
 refine ⟨p3,p7,_,_,rfl,rfl,s48 _ _ n4.here,n8.here,by omega,λ p9 H9 n9=>?_⟩
 refine q p9 _ H9 (s4.trans (s48.trans n9.same)) ((s4.trans s48).free n9.fresh) n9.here ?_
 exact paired_app (Paired.mapP p4 λ _ _ h=>StpL.same (s48.trans n9.same) h) (Paired.mapP p8 λ _ _ h=>StpL.same n9.same h)
end
end K
namespace K
open PySem L2 Lw Bg
abbrev a4H:Stmt:=top 43
theorem sc_steps_up_to:FnScope ["graph", "rows", "k", "up", "places", "steps", "j", "row", "joins", "above"] ["graph", "rows", "k"] (a0F a4H):=⟨rfl,rfl,rfl,by decide +kernel,rfl,by decide +kernel,by decide +kernel⟩
def a6S (up:Nat->Nat) (k i:Nat):List Nat:=(List.range i).filter λ j=>decide (k < j) && decide (up j=k)
theorem a6T {up:Nat->Nat} {k i:Nat}:a6S up k (i+1)=a6S up k i++if k < i/\up i=k then [i] else []:=by
 unfold a6S
 rw [List.range_succ,List.filter_append]
 congr 1
 rw [List.filter_cons]
 by_cases c:k < i/\up i=k
 ·rw [if_pos c,decide_eq_true c.1,decide_eq_true c.2]; rfl
 ·rw [if_neg c]
  have:(decide (k < i) && decide (up i=k))=false:=by
   rw [<- Bool.decide_and]; exact decide_eq_false c
  rw [this]; rfl
theorem c4Q (bag:Nat->List Int) (L:Nat->List Stp) (k:Nat):∀ (js:List Nat) (M:List Stp),M.length<=(js.foldl (upJ bag L k) M).length
 | [],_=>Nat.le_refl _
 | j::js,M=>by
  refine Nat.le_trans ?_ (c4Q bag L k js (upJ bag L k M j))
  unfold upJ
  rw [List.length_append,List.length_append,List.length_append]
  omega
theorem b2V (up:Nat->Nat) (k i:Nat):∀ c,∃ rest,a6S up k (i+c)=a6S up k i++rest
 | 0=>⟨[],by rw [List.append_nil]; rfl⟩
 | c+1=>by
  obtain ⟨r,e⟩:=b2V up k i c
  exact ⟨r++if k < i+c/\up (i+c)=k then [i+c] else [],by rw [<- Nat.add_assoc,a6T,e,List.append_assoc]⟩
theorem d0T {K:Φρ} {a:Addr} {ix:List (Option Nat)} {g:TG} {tt:TT} {te:TE} {σ:St} {H:Hp} {Q:VK} (tx:List V) (ts:List ζζ) (c:Int × Int->Bool) (hx:SqL K H a tx) (hp:Paired (TieV K H) tx ts) (l9:ts.length<=900)
  (hs:∀ (t:Int × Int) (p:Addr) (H1:Hp) (N:VK) (M:Hp->Prop),t∈ts->SqT K H1 p [.int t.1,.int t.2]->Same H H1->(c t=true->∀ H2,Same H1 H2->∀ q H3,New H2 q (.tup (Stp.tie t.1 t.2).vs) H3->N (.ref q) H3)->(c t=false->∀ H2,Same H1 H2->M H2)->g (.ref p) (capt ix σ) H1 λ σ2 H2=>tt σ2 H2 λ b H3=>if b=true then te σ2 H3 N else M H3)
  (hd:∀ H1 p ys H2,Same H H1->New H1 p (.lst ys) H2->Paired (StpL H2) ys ((ts.filter c).map λ t=>.tie t.1 t.2)->Q (.ref p) H2):a3J ix g tt te σ H Q (Itl K a):=by
 have lt:=Paired.length hp
 refine a3T (K:=K) (a:=a) (xs:=tx) (λ i ys H'=>Same H H'/\Paired (StpL H') ys (((ts.take i).filter c).map λ t=>.tie t.1 t.2)) ⟨Same.refl _,.nil⟩ (λ i ys H' hi ⟨s,p⟩=>⟨s.seq hx,?_⟩) (λ i x ys H' hi ⟨s,p⟩=>?_) (λ ys H' ⟨s,p⟩ q hq=>?_)
 ·rw [Paired.length p,List.length_map]
  have:=List.length_filter_le c (ts.take i)
  rw [List.length_take] at this
  exact Nat.le_of_lt (a0W (by omega))
 ·obtain ⟨t,ht,⟨px,rfl,hpx⟩⟩:=a0U hp hi
  have et:ts.take (i+1)=ts.take i++[t]:=by rw [List.take_succ,ht]; rfl
  refine hs t px H' _ _ (List.mem_of_getElem? ht) (s.tupq hpx) s (λ cv H2 s2 p2 H3 n3=>⟨s.trans (s2.trans n3.same),?_⟩) (λ cv H2 s2=>⟨s.trans s2,?_⟩)
  ·rw [et,List.filter_append,List.map_append,List.filter_cons,cv]
   exact a0Z (Paired.mapP p λ _ _ h=>h.same (s2.trans n3.same)) ⟨p2,rfl,n3.here⟩
  ·rw [et,List.filter_append,List.map_append,List.filter_cons,cv]
   simp only [Bool.false_eq_true,if_false,List.filter_nil,List.map_nil,List.append_nil]
   exact Paired.mapP p λ _ _ h=>h.same s2
 ·have nq:New H' q (.lst ys) (upd H' q (.lst ys)):=New.mk0 hq
  rw [lt,List.take_length] at p
  exact hd H' q ys _ s nq (Paired.mapP p λ _ _ h=>h.same nq.same)
def b5W (K:Φρ) (d:Nat):Sp:=λ vs H Q _=>∃ (g:V) (n:Nat) (ts:List ζζ) (a:Addr) (xs:List V) (R:List Row) (k:Nat),vs=[g,.ref a,.int (k:Int)]/\GraphV K H g n ts/\SqL K H a xs/\Paired (RowV K H) xs R/\Tree n R/\R.length<=10/\ts.length<=100/\(∀ k,(bagR R k).length<=4)/\k < R.length/\R.length<=k+d /\
 ∀ p us H',Same H H'->H p=none->H' p=some (.lst us)->Paired (StpL H') us (a3E ts R.length (upR R) (bagR R) d k)->Q (.ref p) H'
section
variable {P:Program} {w:World} {K:Φρ} {mg:Str->Option Value} {base:Heap}
abbrev DZ30 (K:PySem.W.Frag) (mg:Str->Option Value):=Dn K mg "steps_up_to" a4H ["graph", "rows", "k"]
theorem c3K (dZ30:DZ30 K mg):FnOk P w K mg base CX0 3 dZ30.f dZ30.fd ["graph", "rows", "k"] (b5W K 0):=by
 refine dZ30.F.ok sc_steps_up_to (λ vs H Q E h=>?_) (λ cdv A outer s H vs Q E hr h=>?_)
 ·obtain ⟨g,n,ts,a,xs,R,k,_,_,_,_,_,_,_,_,h1,h2,_⟩:=h
  omega
 ·obtain ⟨g,n,ts,a,xs,R,k,_,_,_,_,_,_,_,_,h1,h2,_⟩:=h
  omega
set_option maxHeartbeats 8000000 in
theorem c3L (B:Bl mg) (dZ22:DZ22 K mg) (dZ28:DZ28 K mg) (dZ30:DZ30 K mg) (d:Nat) (gZ30:FnOk P w K mg base CX0 (d+3) dZ30.f dZ30.fd ["graph", "rows", "k"] (b5W K d)):FnOk P w K mg base CX0 (d+4) dZ30.f dZ30.fd ["graph", "rows", "k"] (b5W K (d+1)):=by
 have gZ22:FnOk P w K mg base CX0 (d+3) _ _ _ _:=(b4A B dZ22).mono (by omega)
 have gZ28:FnOk P w K mg base CX0 (d+3) _ _ _ _:=(a7K B dZ22 dZ28).mono (by omega)
 refine dZ30.F.ok sc_steps_up_to (λ vs H Q E h=>?_) (λ cdv A outer s H vs Q E hr h=>?_)
 ·obtain ⟨g,n,ts,a,xs,R,k,rfl,_⟩:=h
  rfl
 obtain ⟨g,n,ts,a,xs,R,k,rfl,hG,hA,pA,T,r10,t100,b4,kl,dk,q⟩:=h
 have hv:(A.deeper (PyProof.Rows.envOfC "steps_up_to" (a0F a4H) s.heap.objs.size dZ30.f cdv)).units+65 < cLine:=by have:=hr.un; omega
 have Tb':=c0K T
 have lx:=Paired.length pA
 have full:=a6R Tb' b4 r10 t100 (f:=d+1) kl
 have lJ0:∀ j,j < R.length->(a3E ts R.length (upR R) (bagR R) d j).length<=240:=λ j hj=>a6R Tb' b4 r10 t100 hj
 obtain ⟨L,eL⟩:∃ L:Nat->List Stp,L=a3E ts R.length (upR R) (bagR R) d:=⟨_,rfl⟩
 have eS:a3E ts R.length (upR R) (bagR R) (d+1) k=(if ((a6S (upR R) k R.length).foldl (upJ (bagR R) L k) []).isEmpty=true then .leaf::(bagR R k).map .inn else (a6S (upR R) k R.length).foldl (upJ (bagR R) L k) [])++ownS (upR R) (bagR R) ts k:=by rw [eL]; rfl
 have hpre:∀ i,i<=R.length->((a6S (upR R) k i).foldl (upJ (bagR R) L k) []).length<=240:=λ i il=>by
  obtain ⟨rest,e⟩:=b2V (upR R) k i (R.length - i)
  rw [Nat.add_sub_cancel' il] at e
  have h1:=c4Q (bagR R) L k rest ((a6S (upR R) k i).foldl (upJ (bagR R) L k) [])
  rw [<- List.foldl_append,<- e] at h1
  rw [eS,List.length_append] at full
  by_cases c:((a6S (upR R) k R.length).foldl (upJ (bagR R) L k) []).isEmpty=true
  ·rw [List.isEmpty_iff.mp c] at h1
   exact Nat.le_trans h1 (Nat.zero_le _)
  ·rw [if_neg c] at full
   omega
 obtain ⟨vk,hxk,⟨pk,bk,rfl,hTk,hbk,lbk⟩⟩:=a0Y pA (a1W kl)
 obtain ⟨pg,pt,rfl,hPG,tx,hTx,pTx,lTx⟩:=id hG
 refine ⟨_,(a0C (a6U (a1B (a0V (K:=K) rfl) (pv 1) (pv 2) (λ _ _=>rfl)) (a2A (K:=K) (n:=2) rfl rfl (a0M (a0H (i:=3) sc_steps_up_to.nd rfl (Or.inl rfl)) (a0M (a0H (i:=4) sc_steps_up_to.nd rfl (Or.inr rfl)) a1X))))
   (a0C (a0Q (i:=5) sc_steps_up_to.nd rfl (Or.inl rfl) (a0O a0B))
   (a0C (a2Z PassesOwn.never rfl (a8A (K:=K) rfl rfl B.enumerate (a0A (pv 1) a0B)) (a2A (K:=K) (n:=2) rfl rfl (a0M (a0H (i:=6) sc_steps_up_to.nd rfl (Or.inl rfl)) (a0M (a0H (i:=7) sc_steps_up_to.nd rfl (Or.inl rfl)) a1X)))
   (a0E (a1O (a0J a5P (a1B (a0X (K:=K) rfl) (pv 7) a0D (λ _ _=>rfl)) (pv 2) (a0S _))
   (a0C (a0Q (i:=8) sc_steps_up_to.nd rfl (Or.inl rfl) (a4B (a1L (K:=K) rfl (pv 5) (λ _=>rfl)) (a0O (a0A (a0T (a0A a1D a0B)) a0B)) (a0O a0B)))
   (a0E (a0Q (i:=5) sc_steps_up_to.nd rfl (Or.inl rfl) (a0R a1R (a0R a1R (a0R a1R (pv 5) (a0K gZ30 hr rfl dZ30.m dZ30.F.kp dZ30.b .nil a1I (a0A (pv 0) (a0A (pv 1) (a0A (pv 6) a0B))))) (a0K gZ28 hr rfl dZ28.m dZ28.F.kp dZ28.b .nil a1I (a0A (a1B (a0X (K:=K) rfl) (pv 7) a0D (λ _ _=>rfl)) (a0A (pv 4) a0B)))) (pv 8)))))
   a0N)))
   (a3K (a1O (a5B (a1L (K:=K) rfl (pv 5) (λ _=>rfl)))
   (a0E (a0Q (i:=5) sc_steps_up_to.nd rfl (Or.inl rfl) (a0R a1R (a0O (a0A (a0T (a0A a1D a0B)) a0B)) (a0K gZ28 hr rfl dZ28.m dZ28.F.kp dZ28.b .nil a1I (a0A (a0O a0B) (a0A (pv 4) a0B))))))
   a0N)
   (a0C (a0Q (i:=9) sc_steps_up_to.nd rfl (Or.inr rfl) (a4B (a0J a5Q (pv 3) a1N (a0S _)) (a0O a0B) (a1B (a0X (K:=K) rfl) (a1B (a0V (K:=K) rfl) (pv 1) (pv 3) (λ _ _=>rfl)) a0D (λ _ _=>rfl))))
   (a0E (a0P (a0R a1R (pv 5) (a2P ["a", "b", "places", "above"] [none,none,some 4,some 9]  (by kernel_rfl) rfl (a1A (K:=K) rfl (a1B (a0X (K:=K) rfl) (pv 0) a0D (λ _ _=>rfl))) (λ _ _ _ _ _=>(a2A (K:=K) (n:=2) rfl rfl (a0M (a0H (i:=0) (show (["a", "b", "places", "above"]:List Str).Nodup by decide +kernel) rfl (Or.inl rfl)) (a0M (a0H (i:=1) (show (["a", "b", "places", "above"]:List Str).Nodup by decide +kernel) rfl (Or.inl rfl)) a1X)))) (λ _ _ _ _ _=>(a2U (PW.pt (a3I (a0J (a2V (K:=K) rfl hv) (pv 0) (pv 2) (by with_unfolding_all rfl)) (a3I (a0J (a2V (K:=K) rfl hv) (pv 1) (pv 2) (by with_unfolding_all rfl)) (a3B (a1L (K:=K) rfl (a0K gZ22 hr rfl dZ22.m dZ22.F.kp dZ22.b .nil a1I (a0A (a0O (a0A (pv 0) (a0A (pv 1) a0B))) (a0A (pv 3) a0B))) (λ _=>rfl)))))))) (λ _ _ _ _ _=>(a0T (a0A a1D (a0A (pv 0) (a0A (pv 1) a0B)))))))))))))),?_⟩
 refine ⟨_,rfl,_,rfl,a,_,_,_,rfl,rfl,hA,a1M hxk,pk,_,rfl,hTk,rfl,_,_,rfl,_,_,rfl,rfl,?_⟩
 refine ⟨(by show 0<=1000; decide),λ p0 H0 n0=>?_⟩
 have s0:=n0.same
 have hA0:=s0.seq hA
 refine ⟨_,rfl,a,rfl,⟨_,hA0⟩,?_⟩
 refine a7M (xs:=xs) (λ i σ H'=>∃ (jj rr js:Option V) (pM:Addr) (us:List V),σ=[some (.ref pg),some (.ref a),some (.int (k:Int)),some (upV (a0I R k).1),some (.ref bk),some (.ref pM),jj,rr,js,none]/\Same H H'/\H pM=none/\H' pM=some (.lst us)/\Paired (StpL H') us ((a6S (upR R) k i).foldl (upJ (bagR R) L k) []))
  ⟨none,none,none,p0,[],rfl,s0,n0.fresh,n0.here,.nil⟩ (λ i σ H' _ ⟨_,_,_,_,_,_,s,_⟩=>s.seq hA) ?_ ?_
 ·rintro i x σ H1 p1 H2 hx ⟨jj,rr,jn,pM,us,rfl,s1,fM,hM,qM⟩ n2
  have s2:=s1.trans n2.same
  obtain ⟨r,hr1,⟨pr,b,rfl,hT,hb,hbl⟩⟩:=a0U pA hx
  have il:i < R.length:=(List.getElem?_eq_some_iff.mp hr1).1
  have er:a0I R i=r:=a3L hr1
  have eb:bagR R i=r.2:=by unfold bagR; rw [er]
  have hM2:=n2.same _ _ hM
  refine ⟨p1,_,rfl,SqT.of n2.here,rfl,_,_,rfl,_,_,rfl,rfl,?_⟩
  refine ⟨_,rfl,pr,_,_,_,rfl,rfl,s2.tupq hT,rfl,_,rfl,(by cases r.1 <;> rfl),_,rfl,?_⟩
  have eu:decide (upV r.1=V.int (k:Int))=decide (k < i/\upR R i=k):=by
   by_cases i0:i=0
   ·subst i0
    rw [<- er,c0M T]
    rw [decide_eq_false (show ¬ (k < 0/\upR R 0=k) by omega)]
    rfl
   ·rw [<- er,c0L T (by omega) il]
    have:=Tb'.ups i (by omega) il
    refine decide_eq_decide.mpr ⟨λ z=>?_,λ z=>?_⟩
    ·have:((upR R i:Nat):Int)=(k:Int):=V.int.inj z
     omega
    ·show V.int ((upR R i:Nat):Int)=V.int (k:Int)
     rw [z.2]
  rw [eu,a6T]
  refine ite2 (λ c=>?_) (λ c=>?_)
  rotate_left
  ·have c:=of_decide_eq_false (Bool.eq_false_iff.mpr c)
   rw [if_neg c,List.append_nil]
   exact ⟨_,_,_,pM,us,rfl,s2,fM,hM2,Paired.mapP qM λ _ _ h=>h.same n2.same⟩
  have c:=of_decide_eq_true c
  have pre1:=hpre (i+1) il
  rw [a6T] at pre1
  rw [if_pos c,List.foldl_append] at pre1 ⊢
  have e1:∀ M:List Stp,([i]:List Nat).foldl (upJ (bagR R) L k) M=upJ (bagR R) L k M i:=λ _=>rfl
  rw [e1] at pre1 ⊢
  generalize (a6S (upR R) k i).foldl (upJ (bagR R) L k) []=M at qM pre1 ⊢
  have lu:=Paired.length qM
  refine ⟨_,rfl,_,.inl ⟨_,SqL.of hM2,rfl⟩,?_⟩
  have eM:us.isEmpty=M.isEmpty:=by
   cases M with
   | nil=>cases qM; rfl
   | cons _ _=>cases qM; rfl
  have lJ:=lJ0 i il
  rw [<- eL] at lJ
  have upl:(upJ (bagR R) L k M i).length=M.length+(L i).length+(a4S (bagR R) i k).length+(if M.isEmpty=true then ([]:List Stp) else [.join]).length:=by
   unfold upJ
   rw [List.length_append,List.length_append,List.length_append]
  have go:∀ (pj:Addr) (jx:List V) (H3:Hp),Same H2 H3->H3 pj=some (.lst jx)->Paired (StpL H3) jx (if M.isEmpty=true then ([]:List Stp) else [.join])->∀ (p9:Addr) (xJ y6:List V) (H9:Hp),Same H3 H9->H p9=none->H9 p9=some (.lst (us++xJ++y6++jx))->Paired (StpL H9) xJ (L i)->Paired (StpL H9) y6 (a4S (bagR R) i k)->Same H H9/\H p9=none/\H9 p9=some (.lst (us++xJ++y6++jx))/\Paired (StpL H9) (us++xJ++y6++jx) (upJ (bagR R) L k M i):=λ pj jx H3 s3 hj qj p9 xJ y6 H9 s9 f9 h9 qJ q6 =>
   ⟨s2.trans (s3.trans s9),f9,h9,paired_app (paired_app (paired_app (Paired.mapP qM λ _ _ h=>StpL.same (n2.same.trans (s3.trans s9)) h) qJ) q6) (Paired.mapP qj λ _ _ h=>StpL.same s9 h)⟩
  dsimp only
  rw [eM]
  cases eE:M.isEmpty with
  | true =>
   rw [eE] at go upl
   refine iteF ⟨(by show 0<=1000; decide),λ pj H3 n3=>?_⟩
   have s3:=n3.same
   have G3:=go pj [] H3 s3 n3.here (by rw [if_pos rfl]; exact .nil)
   have lj:([]:List V).length<=1:=Nat.zero_le _
   have hj:=n3.here
   obtain ⟨jx,ejx⟩:∃ jx:List V,jx=[]:=⟨_,rfl⟩
   rw [<- ejx] at G3 lj hj
   have s03:=s2.trans s3
   refine ⟨_,rfl,_,rfl,_,rfl,_,rfl,.ref pg,n,ts,a,xs,R,i,rfl,hG.same s03,s03.seq hA,Paired.mapP pA λ _ _ h=>RowV.same s03 h,T,r10,t100,b4,il,by omega,λ pJ xJ H4 s4 fJ hJ qJ=>?_⟩
   rw [<- eL] at qJ
   have l4:=Paired.length qJ
   refine ⟨pM,pJ,_,_,rfl,rfl,s4 _ _ (s3 _ _ hM2),hJ,by omega,λ p5 H5 n5=>?_⟩
   have s05:=s03.trans (s4.trans n5.same)
   refine ⟨_,rfl,pr,_,_,_,rfl,rfl,s05.tupq hT,rfl,_,rfl,b,bk,r.2,bagR R k,rfl,s05.seq hb,s05.seq hbk,(by have:=b4 i; rw [eb] at this; omega),(by have:=b4 k; omega),λ p6 y6 H6 s6 f6 h6 q6=>?_⟩
   rw [<- eb] at q6
   have l6:=Paired.length q6
   have l6':y6.length=(a4S (bagR R) i k).length:=l6
   refine ⟨p5,p6,_,_,rfl,rfl,s6 _ _ n5.here,h6,(by rw [List.length_append]; omega),λ p7 H7 n7=>?_⟩
   have s37:=s4.trans (n5.same.trans (s6.trans n7.same))
   refine ⟨_,rfl,p7,pj,_,_,rfl,rfl,n7.here,s37 _ _ hj,(by rw [List.length_append,List.length_append]; omega),λ p9 H9 n9=>?_⟩
   have s39:=s37.trans n9.same
   obtain ⟨g1,g2,g3,g4⟩:=G3 p9 xJ y6 H9 s39 ((s03.trans s37).free n9.fresh) n9.here (Paired.mapP qJ λ _ _ h=>StpL.same (n5.same.trans (s6.trans (n7.same.trans n9.same))) h) (Paired.mapP q6 λ _ _ h=>StpL.same (n7.same.trans n9.same) h)
   exact ⟨_,_,_,p9,_,rfl,g1,g2,g3,g4⟩
  | false =>
   rw [eE] at go upl
   refine iteT ⟨(by show 1<=1000; decide),λ pa Ha na=>⟨(by show 1<=1000; decide),λ pj H3 n3=>?_⟩⟩
   have s3:=na.same.trans n3.same
   have G3:=go pj [.ref pa] H3 s3 n3.here (by rw [if_neg Bool.false_ne_true]; exact .cons ⟨pa,rfl,n3.same _ _ na.here⟩ .nil)
   have lj:([.ref pa]:List V).length<=1:=Nat.le_refl _
   have hj:=n3.here
   generalize ([.ref pa]:List V)=jx at G3 lj hj
   have s03:=s2.trans s3
   refine ⟨_,rfl,_,rfl,_,rfl,_,rfl,.ref pg,n,ts,a,xs,R,i,rfl,hG.same s03,s03.seq hA,Paired.mapP pA λ _ _ h=>RowV.same s03 h,T,r10,t100,b4,il,by omega,λ pJ xJ H4 s4 fJ hJ qJ=>?_⟩
   rw [<- eL] at qJ
   have l4:=Paired.length qJ
   refine ⟨pM,pJ,_,_,rfl,rfl,s4 _ _ (s3 _ _ hM2),hJ,by omega,λ p5 H5 n5=>?_⟩
   have s05:=s03.trans (s4.trans n5.same)
   refine ⟨_,rfl,pr,_,_,_,rfl,rfl,s05.tupq hT,rfl,_,rfl,b,bk,r.2,bagR R k,rfl,s05.seq hb,s05.seq hbk,(by have:=b4 i; rw [eb] at this; omega),(by have:=b4 k; omega),λ p6 y6 H6 s6 f6 h6 q6=>?_⟩
   rw [<- eb] at q6
   have l6:=Paired.length q6
   have l6':y6.length=(a4S (bagR R) i k).length:=l6
   refine ⟨p5,p6,_,_,rfl,rfl,s6 _ _ n5.here,h6,(by rw [List.length_append]; omega),λ p7 H7 n7=>?_⟩
   have s37:=s4.trans (n5.same.trans (s6.trans n7.same))
   refine ⟨_,rfl,p7,pj,_,_,rfl,rfl,n7.here,s37 _ _ hj,(by rw [List.length_append,List.length_append]; omega),λ p9 H9 n9=>?_⟩
   have s39:=s37.trans n9.same
   obtain ⟨g1,g2,g3,g4⟩:=G3 p9 xJ y6 H9 s39 ((s03.trans s37).free n9.fresh) n9.here (Paired.mapP qJ λ _ _ h=>StpL.same (n5.same.trans (s6.trans (n7.same.trans n9.same))) h) (Paired.mapP q6 λ _ _ h=>StpL.same (n7.same.trans n9.same) h)
   exact ⟨_,_,_,p9,_,rfl,g1,g2,g3,g4⟩
 ·rintro σ H1 ⟨jj,rr,jn,pM,us,rfl,s1,fM,hM,qM⟩
  rw [lx] at qM
  have pre:=hpre R.length (Nat.le_refl _)
  rw [eS] at q full
  generalize (a6S (upR R) k R.length).foldl (upJ (bagR R) L k) []=M at qM q full pre
  have lu:=Paired.length qM
  have eM:us.isEmpty=M.isEmpty:=by
   cases M with
   | nil=>cases qM; rfl
   | cons _ _=>cases qM; rfl
  refine ⟨λ σ' H'=>∃ (pN:Addr) (ys:List V),σ'=[some (.ref pg),some (.ref a),some (.int (k:Int)),some (upV (a0I R k).1),some (.ref bk),some (.ref pN),jj,rr,jn,none]/\Same H H'/\H pN=none/\H' pN=some (.lst ys)/\Paired (StpL H') ys (if M.isEmpty=true then .leaf::(bagR R k).map .inn else M),?_,?_⟩
  ·refine ⟨_,rfl,_,.inl ⟨_,SqL.of hM,rfl⟩,?_⟩
   dsimp only
   rw [eM]
   cases eE:M.isEmpty with
   | true =>
    refine iteT ⟨(by show 1<=1000; decide),λ pa Ha na=>⟨(by show 1<=1000; decide),λ pl H3 n3=>⟨(by show 0<=1000; decide),λ pe H4 n4=>?_⟩⟩⟩
    have s4:=na.same.trans (n3.same.trans n4.same)
    have s04:=s1.trans s4
    refine ⟨_,rfl,pe,bk,[],bagR R k,rfl,SqL.of n4.here,s04.seq hbk,Nat.zero_le _,(by have:=b4 k; omega),λ p6 y6 H6 s6 f6 h6 q6=>?_⟩
    have eb0:(betw [] (bagR R k)).map Stp.out++(betw (bagR R k) []).map Stp.inn=(bagR R k).map .inn:=by
     have:betw (bagR R k) []=bagR R k:=List.filter_eq_self.mpr λ v _=>by simp
     rw [this]; rfl
    rw [eb0] at q6
    have l6:=Paired.length q6
    rw [List.length_map] at l6
    have:=b4 k
    refine ⟨pl,p6,_,_,rfl,rfl,s6 _ _ (n4.same _ _ n3.here),h6,(by show 1+y6.length<=1000; omega),λ p7 H7 n7=>?_⟩
    refine ⟨p7,_,rfl,s04.trans (s6.trans n7.same),(s04.trans s6).free n7.fresh,n7.here,?_⟩
    rw [if_pos rfl]
    exact .cons ⟨pa,rfl,n7.same _ _ (s6 _ _ (n4.same _ _ (n3.same _ _ na.here)))⟩ (Paired.mapP q6 λ _ _ h=>StpL.same n7.same h)
   | false =>
    refine iteF ⟨pM,us,rfl,s1,fM,hM,?_⟩
    rw [if_neg Bool.false_ne_true]
    exact qM
  rintro σ' H2 ⟨pN,ys,rfl,s2,fN,hN,qN⟩
  have ely:ys.length<=240:=by
   rw [Paired.length qN]
   rw [List.length_append] at full
   omega
  have fin:∀ (pV:Addr) (ab:List Int) (H3:Hp),Same H2 H3->SqL K H3 pV (ab.map V.int)->(∀ t:Int × Int,(t.1 ∉ ab\/t.2 ∉ ab)↔(k=0\/¬ (t.1∈bagR R (upR R k)/\t.2∈bagR R (upR R k))))->tRet
   (tOp c8V (tVar 5)
    (tLC [none,none,some 4,some 9] (c4V K (tOp (rIxT K) (tVar 0) (tC (V.int 1))))
     (gTup K 2 (c4U (b0B 0) (c4U (b0B 1) gNil)))
     (tAnd (c4X (tOp (rInD K false) (tVar 0) (tVar 2)))
      (tAnd (c4X (tOp (rInD K false) (tVar 1) (tVar 2)))
       (tTru K
        (c8I (c4K K) [] E0 (a7G (c1S (a7G (tVar 0) (a7G (tVar 1) tNil))) (a7G (tVar 3) tNil))))))
     (c5K (a7G (tC (V.str (Str.ofString "tie"))) (a7G (tVar 0) (a7G (tVar 1) tNil))))))
   { nx:=λ x H'=>Q V.non H',rt:=Q } [some (.ref pg),some (.ref a),some (.int (k:Int)),some (upV (a0I R k).1),some (.ref bk),some (.ref pN),jj,rr,jn,some (.ref pV)] H3:=λ pV ab H3 s3 hV mA=>by
   have s03:=s2.trans s3
   refine ⟨_,rfl,_,rfl,pg,_,_,_,rfl,rfl,s03.tupq hPG,rfl,pt,rfl,⟨_,s03.seq hTx⟩,?_⟩
   refine d0T tx ts (λ t=>decide (a4J (upR R) (bagR R) k t)) (s03.seq hTx) (Paired.mapP pTx λ _ _ ⟨p,e,h⟩=>⟨p,e,s03.tupq h⟩) (by omega) (λ t px H4 N M _ hpx s4 hN hM=>?_) (λ H4 p5 y5 H5 s4 n5 q5=>?_)
   ·have s34:=s03.trans s4
    refine ⟨px,_,rfl,hpx,rfl,_,_,rfl,_,_,rfl,rfl,?_⟩
    have eh:decide (a4J (upR R) (bagR R) k t)=(decide (t.1∈bagR R k) && (decide (t.2∈bagR R k) && !(a2R [t.1,t.2] ab).isEmpty)):=by
     have e2:(!(a2R [t.1,t.2] ab).isEmpty)=decide (t.1 ∉ ab\/t.2 ∉ ab):=by
      show (!(List.filter (λ v=>!decide (v∈ab)) [t.1,t.2]).isEmpty)=_
      rw [List.filter_cons,List.filter_cons]
      by_cases c1:t.1∈ab <;> by_cases c2:t.2∈ab <;> simp [c1,c2]
     rw [e2,Bool.eq_iff_iff,Bool.and_eq_true,Bool.and_eq_true,decide_eq_true_iff,decide_eq_true_iff,decide_eq_true_iff,decide_eq_true_iff]
     unfold a4J
     rw [mA t]
    rw [eh] at hN hM
    refine ⟨_,rfl,_,rfl,a4I (s34.seq hbk) ⟨_,rfl,?_⟩⟩
    cases c1:decide (t.1∈(a0I R k).2) with
    | false =>
     have c1':decide (t.1∈bagR R k)=false:=c1
     rw [c1'] at hM
     exact iteF (hM rfl H4 (Same.refl _))
    | true =>
     have c1':decide (t.1∈bagR R k)=true:=c1
     rw [c1'] at hN hM
     refine iteT ⟨_,rfl,_,rfl,a4I (s34.seq hbk) ⟨_,rfl,?_⟩⟩
     cases c2:decide (t.2∈(a0I R k).2) with
     | false =>
      have c2':decide (t.2∈bagR R k)=false:=c2
      rw [c2'] at hM
      exact iteF (hM rfl H4 (Same.refl _))
     | true =>
      have c2':decide (t.2∈bagR R k)=true:=c2
      rw [c2'] at hN hM
      refine iteT ⟨_,rfl,_,rfl,(by show 2<=1000; decide),λ p6 H6 n6=>⟨_,rfl,p6,pV,[t.1,t.2],ab,rfl,SqL.of n6.here,n6.same.seq (s4.seq hV),(by show 2<=1000; decide),λ H7 p7 H8 s7 n8=>?_⟩⟩
      refine ⟨_,.inl ⟨_,SqL.of n8.here,rfl⟩,?_⟩
      have s48:=n6.same.trans (s7.trans n8.same)
      have ei:∀ l:List Int,(l.map V.int).isEmpty=l.isEmpty:=λ l=>by cases l <;> rfl
      dsimp only
      rw [ei]
      cases c3:(a2R [t.1,t.2] ab).isEmpty with
      | true =>
       rw [c3] at hM
       exact iteF (hM rfl H8 s48)
      | false =>
       rw [c3] at hN
       exact iteT ⟨_,rfl,_,rfl,(by show 3<=1000; decide),λ p9 H9 n9=>hN rfl H8 s48 p9 H9 n9⟩
   have s25:=s3.trans (s4.trans n5.same)
   have l5:=Paired.length q5
   rw [List.length_map] at l5
   have l5':=List.length_filter_le (λ t=>decide (a4J (upR R) (bagR R) k t)) ts
   refine ⟨pN,p5,_,_,rfl,rfl,s25 _ _ hN,n5.here,(by omega),λ p9 H9 n9=>?_⟩
   exact q p9 _ H9 (s2.trans (s25.trans n9.same)) ((s2.trans s25).free n9.fresh) n9.here (paired_app (Paired.mapP qN λ _ _ h=>StpL.same (s25.trans n9.same) h) (Paired.mapP q5 λ _ _ h=>StpL.same n9.same h))
  refine ⟨_,rfl,rfl,_,rfl,?_⟩
  by_cases k0:k=0
  ·have e0:(a0I R k).1=none:=by rw [k0]; exact c0M T
   rw [e0] at fin ⊢
   refine iteT ⟨(by show 0<=1000; decide),λ pV H3 n3=>?_⟩
   exact fin pV [] H3 n3.same (SqL.of n3.here) λ t=>⟨λ _=>.inl k0,λ _=>.inl List.not_mem_nil⟩
  ·have e0:=c0L T (k:=k) (by omega) kl
   have ul:=Tb'.ups k (by omega) kl
   rw [e0] at fin ⊢
   obtain ⟨vu,hxu,⟨pu,bu,rfl,hTu,hbu,lbu⟩⟩:=a0Y pA (a1W (show upR R k < R.length by omega))
   refine iteF ⟨_,rfl,_,rfl,a,_,_,_,rfl,rfl,s2.seq hA,a1M hxu,pu,_,_,_,rfl,rfl,s2.tupq hTu,rfl,?_⟩
   refine fin bu (bagR R (upR R k)) H2 (Same.refl _) (s2.seq hbu) λ t=>?_
   by_cases c1:t.1∈bagR R (upR R k) <;> by_cases c2:t.2∈bagR R (upR R k) <;> simp [c1,c2,k0]
theorem a5E (B:Bl mg) (dZ22:DZ22 K mg) (dZ28:DZ28 K mg) (dZ30:DZ30 K mg):∀ d,FnOk P w K mg base CX0 (d+3) dZ30.f dZ30.fd ["graph", "rows", "k"] (b5W K d)
 | 0=>c3K dZ30
 | d+1=>c3L B dZ22 dZ28 dZ30 d (a5E B dZ22 dZ28 dZ30 d)
end
end K
namespace K
open PySem L2 Lw Bg
abbrev a9X:Stmt:=top 41
theorem sc_steps_of:FnScope ["graph", "tree", "rows"] ["graph", "tree"] (a0F a9X):=⟨rfl,rfl,rfl,by decide +kernel,rfl,by decide +kernel,by decide +kernel⟩
structure Cts (mg:Str->Option Value) where
 u_MOST_IN_A_BAG:Value
 m_MOST_IN_A_BAG:mg "MOST_IN_A_BAG" = some u_MOST_IN_A_BAG
 r_MOST_IN_A_BAG:RelV (.int 4) u_MOST_IN_A_BAG
theorem d2R {K:Φρ} {h:Heap} {mg:Str->Option Value} {t_MOST_IN_A_BAG:Tok} (X:K.In h) (G:h.Ns mainGlobals mg) (a_MOST_IN_A_BAG:PySem.W.nsIn K mainGlobals "MOST_IN_A_BAG" = some (some (Value.int 4 t_MOST_IN_A_BAG))):Nonempty (Cts mg) :=
 ⟨{ u_MOST_IN_A_BAG:=_,m_MOST_IN_A_BAG:=PySem.W.mg_of X G a_MOST_IN_A_BAG,r_MOST_IN_A_BAG:=⟨_,rfl⟩ }⟩
def d0U (K:Φρ):Sp:=λ vs H Q _=>∃ (a:Addr) (xs:List V) (rs:List Row),vs=[.ref a]/\SqL K H a xs/\Paired (λ v r=>∃ q,v = .ref q/\SqL K H q (r.2.map V.int)) xs rs/\rs.length<=900/\(∀ r∈rs,r.2.length<=4)/\∀ H',Same H H'->Q .non H'
def c0N (K:Φρ):Sp:=λ vs H Q _=>∃ (g:V) (n:Nat) (ts:List ζζ) (a:Addr) (rs:List Row),vs=[g,.ref a]/\GraphV K H g n ts/\n<=10/\RowsAt K H a rs/\Tree n rs/\(∀ r∈rs,r.2.length<=4)/\ts.length<=100/\(∀ t∈ts,∃ r∈rs,t.1∈r.2/\t.2∈r.2) /\
 ∀ p us H' R sp,Same H H'->H p=none->H' p=some (.lst us)->Tidy rs rs.length R sp->Paired (StpL H') us (a3E ts R.length (upR R) (bagR R) 10 0++(bagR R 0).map .out)->Q (.ref p) H'
theorem d0V {rs R:List Row} {sp:List Nat} {c:Nat} (D:Tidy rs rs.length R sp) (h:∀ r∈rs,r.2.length<=c) (k:Nat):(bagR R k).length<=c:=by
 by_cases kl:k < R.length
 ·obtain ⟨j,jl,_,e⟩:=D.own k kl
  unfold bagR
  rw [e]
  exact h _ (List.mem_of_getElem? (a1W jl))
 ·unfold bagR
  rw [a4G (by omega)]
  exact Nat.zero_le _
section
variable {P:Program} {w:World} {K:Φρ} {mg:Str->Option Value} {base:Heap}
abbrev DZ24 (K:PySem.W.Frag) (mg:Str->Option Value):=Dn K mg "refuse_wide" a6F ["bags"]
set_option maxHeartbeats 8000000 in
theorem a9F (B:Bl mg) (Ct:Cts mg) (dZ24:DZ24 K mg):FnOk P w K mg base CX0 1 dZ24.f dZ24.fd ["bags"] (d0U K):=by
 refine dZ24.F.ok a5D (λ vs H Q E h=>?_) (λ cdv A outer s H vs Q E hr h=>?_)
 ·obtain ⟨a,xs,rs,rfl,_⟩:=h
  rfl
 obtain ⟨a,xs,rs,rfl,hx,hp,l9,h4,q⟩:=h
 have lx:=Paired.length hp
 refine ⟨_,(a0E (a1O (a1L (K:=K) rfl (a0G (a5U (K:=K) rfl rfl) rfl B.any (by decide +kernel) (a0A (a2P ["bag"] [none]  (by kernel_rfl) rfl (a1A (K:=K) rfl (pv 0)) (λ _ _ _ _ _=>(a0H (i:=0) (show (["bag"]:List Str).Nodup by decide +kernel) rfl (Or.inl rfl))) (λ _ _ _ _ _=>a1V) (λ _ _ _ _ _=>(a3S a4Y (a0G (a0L (K:=K) rfl) rfl B.len (by decide +kernel) (a0A (pv 0) a0B)) (a2F (v:=.int 4) rfl Ct.m_MOST_IN_A_BAG Ct.r_MOST_IN_A_BAG) (a0S _)))) a0B)) (λ _=>rfl))
   (a0E b0A)
   a0N)),?_⟩
 refine ⟨_,rfl,a,rfl,⟨_,hx⟩,?_⟩
 refine a9O (λ j=>some (.bl false)) hx (by omega) (λ j x H3 N hj s3 hN=>?_) (λ H3 p H4 s3 nw=>?_)
 ·obtain ⟨r,hr1,⟨b,rfl,hb⟩⟩:=a0U hp hj
  refine ⟨_,rfl,b,_,rfl,.inl (s3.seq hb),_,_,rfl,rfl,?_⟩
  have:=h4 r (List.mem_of_getElem? hr1)
  dsimp only
  rw [decide_eq_false (show ¬ (4:Int) < (((r.2.map V.int).length:Nat):Int) by rw [List.length_map]; omega)]
  exact hN H3 s3
 have e1:(List.range xs.length).filterMap (λ j=>some (V.bl false))=((List.range rs.length).map λ _=>false).map V.bl:=by
  rw [lx,List.map_map]
  exact a4C λ _ _=>rfl
 rw [e1] at nw
 refine ⟨p,_,_,rfl,SqL.of nw.here,Truths.bls _,_,rfl,?_⟩
 have e2:((List.range rs.length).map λ _=>false).any id=false:=by
  rw [List.any_eq_false]
  intro x hx
  obtain ⟨_,_,rfl⟩:=List.mem_map.mp hx
  simp
 rw [e2]
 exact iteF (q H4 (s3.trans nw.same))
abbrev DZ29 (K:PySem.W.Frag) (mg:Str->Option Value):=Dn K mg "steps_of" a9X ["graph", "tree"]
set_option maxHeartbeats 8000000 in
theorem b4E (B:Bl mg) (Ct:Cts mg) (dZ19:DZ19 K mg) (dZ15:DZ15 K mg) (dZ17:DZ17 K mg) (dZ18:DZ18 K mg) (dZ25:DZ25 K mg) (dZ23:DZ23 K mg) (dZ32:DZ32 K mg) (dZ16:DZ16 K mg) (dZ9:DZ9 K mg) (dZ13:DZ13 K mg) (dZ24:DZ24 K mg) (dZ22:DZ22 K mg) (dZ10:DZ10 K mg) (dZ31:DZ31 K mg) (dZ28:DZ28 K mg) (dZ30:DZ30 K mg) (dZ29:DZ29 K mg):FnOk P w K mg base CX0 14 dZ29.f dZ29.fd ["graph", "tree"] (c0N K):=by
 have gZ13:FnOk P w K mg base CX0 13 _ _ _ _:=(b0P B dZ19 dZ15 dZ17 dZ18 dZ25 dZ23 dZ32 dZ16 dZ9 dZ13).mono (by decide)
 have gZ24:FnOk P w K mg base CX0 13 _ _ _ _:=(a9F B Ct dZ24).mono (by decide)
 have gZ31:FnOk P w K mg base CX0 13 _ _ _ _:=(b9S B dZ22 dZ10 dZ31).mono (by decide)
 have gZ30:FnOk P w K mg base CX0 13 _ _ _ _:=a5E B dZ22 dZ28 dZ30 10
 refine dZ29.F.ok sc_steps_of (λ vs H Q E h=>?_) (λ cdv A outer s H vs Q E hr h=>?_)
 ·obtain ⟨g,n,ts,a,rs,rfl,_⟩:=h
  rfl
 obtain ⟨g,n,ts,a,rs,rfl,hG,n10,hR,T,h4,t100,inb,q⟩:=h
 refine ⟨_,(a0C (a1O (a0J a5I (a0K gZ13 hr rfl dZ13.m dZ13.F.kp dZ13.b .nil a1I (a0A (pv 0) (a0A (pv 1) a0B))) a1N (a0S _))
   (a0E b0A)
   a0N)
   (a0C (a3C (a0K gZ24 hr rfl dZ24.m dZ24.F.kp dZ24.b .nil a1I (a0A (a2P ["up", "places"] [none,none]  (by kernel_rfl) rfl (a1A (K:=K) rfl (pv 1)) (λ _ _ _ _ _=>(a2A (K:=K) (n:=2) rfl rfl (a0M (a0H (i:=0) (show (["up", "places"]:List Str).Nodup by decide +kernel) rfl (Or.inl rfl)) (a0M (a0H (i:=1) (show (["up", "places"]:List Str).Nodup by decide +kernel) rfl (Or.inl rfl)) a1X)))) (λ _ _ _ _ _=>a1V) (λ _ _ _ _ _=>(pv 1))) a0B)))
   (a0C (a0Q (i:=2) sc_steps_of.nd rfl (Or.inl rfl) (a0K gZ31 hr rfl dZ31.m dZ31.F.kp dZ31.b .nil a1I (a0A (pv 1) a0B)))
   (a0E (a0P (a0R a1R (a0K gZ30 hr rfl dZ30.m dZ30.F.kp dZ30.b .nil a1I (a0A (pv 0) (a0A (pv 2) (a0A a0D a0B)))) (a2P ["v"] [none]  (by kernel_rfl) rfl (a1A (K:=K) rfl (a1B (a0X (K:=K) rfl) (a1B (a0V (K:=K) rfl) (pv 2) a0D (λ _ _=>rfl)) a0D (λ _ _=>rfl))) (λ _ _ _ _ _=>(a0H (i:=0) (show (["v"]:List Str).Nodup by decide +kernel) rfl (Or.inl rfl))) (λ _ _ _ _ _=>a1V) (λ _ _ _ _ _=>(a0T (a0A a1D (a0A (pv 0) a0B))))))))))),?_⟩
 refine ⟨_,rfl,_,rfl,g,n,ts,a,rs,rfl,by omega,hG,hR,λ v H1 s1 fv=>?_⟩
 rw [a9U T inb] at fv
 obtain rfl:v = .non:=fv
 refine ⟨rfl,_,rfl,iteF ?_⟩
 obtain ⟨xs,hx,hp,hz⟩:=id hR
 have lx:=Paired.length hp
 have r40:=T.len
 refine ⟨_,rfl,a,rfl,⟨_,s1.seq hx⟩,?_⟩
 refine a3T (K:=K) (a:=a) (xs:=xs) (λ i ys H'=>Same H1 H'/\Paired (λ v r=>∃ q,v = .ref q/\SqL K H' q (r.2.map V.int)) ys (rs.take i)) ⟨Same.refl _,.nil⟩ (λ i ys H' hi ⟨s,p⟩=>⟨(s1.trans s).seq hx,?_⟩) (λ i x ys H' hi ⟨s,p⟩=>?_) (λ ys H2 ⟨s2,p2⟩ pb hpb=>?_)
 ·rw [Paired.length p,List.length_take]
  exact Nat.le_of_lt (a0W (by omega))
 ·obtain ⟨r,hr1,⟨pr,b,rfl,hT,hb,hbl⟩⟩:=a0U hp hi
  have et:rs.take (i+1)=rs.take i++[r]:=by rw [List.take_succ,hr1]; rfl
  refine ⟨pr,_,rfl,(s1.trans s).tupq hT,rfl,_,_,rfl,_,_,rfl,rfl,_,rfl,s,?_⟩
  rw [et]
  exact a0Z p ⟨b,rfl,(s1.trans s).seq hb⟩
 rw [lx,List.take_length] at p2
 have n3:New H2 pb (.lst ys) (upd H2 pb (.lst ys)):=New.mk0 hpb
 generalize upd H2 pb (.lst ys)=H3 at n3 ⊢
 refine ⟨pb,ys,rs,rfl,SqL.of n3.here,Paired.mapP p2 λ _ _ ⟨q,e,h⟩=>⟨q,e,n3.same.seq h⟩,by omega,h4,λ H4 s4=>?_⟩
 have s04:=s1.trans (s2.trans (n3.same.trans s4))
 refine ⟨_,rfl,a,rs,n,rfl,RowsAt.same s04 hR,T,n10,λ p5 x5 R sp H5 s5 f5 h5 q5 D=>?_⟩
 have s05:=s04.trans s5
 have TR:=b2N T D
 have few:=c3A T D
 have b4:=d0V D h4
 have qR:Paired (RowV K H5) x5 R:=Paired.mapP q5 λ _ _ ⟨p,b,e,h1,h2,_,_,h3⟩=>⟨p,b,e,SqT.of h1,SqL.of h2,by omega⟩
 refine ⟨_,rfl,_,rfl,g,n,ts,p5,x5,R,0,rfl,hG.same s05,SqL.of h5,qR,TR,by omega,t100,b4,TR.pos,by omega,λ p6 x6 H6 s6 f6 h6 q6=>?_⟩
 obtain ⟨v0,hx0,⟨pr0,b0,rfl,hT0,hb0,_⟩⟩:=a0Y qR (a1W TR.pos)
 refine ⟨_,rfl,p5,_,_,_,rfl,rfl,SqL.of (s6 _ _ h5),a1M hx0,pr0,_,_,_,rfl,rfl,s6.tupq hT0,rfl,b0,rfl,⟨_,s6.seq hb0⟩,?_⟩
 have b0l:=b4 0
 refine b4D (bagR R 0) (λ _=>true) Stp.out (s6.seq hb0) (by omega) (λ v H7 N M _ s7 hN hM=>?_) (λ H7 p7 y7 H8 s7 n8 q8=>?_)
 ·exact ⟨_,rfl,(by show 2<=1000; decide),λ p H5 n5=>hN rfl p H5 n5⟩
 rw [List.filter_eq_self.mpr (λ _ _=>rfl)] at q8
 have l6:=Paired.length q6
 have l240:=a6R (c0K TR) b4 (by omega) t100 (f:=10) TR.pos
 have l8:=Paired.length q8
 rw [List.length_map] at l8
 have s68:=s7.trans n8.same
 refine ⟨p6,p7,_,_,rfl,rfl,s68 _ _ h6,n8.here,by omega,λ p9 H9 n9=>?_⟩
 have s09:=s05.trans (s6.trans (s68.trans n9.same))
 exact q p9 _ H9 R sp s09 ((s05.trans (s6.trans s68)).free n9.fresh) n9.here D (paired_app (Paired.mapP q6 λ _ _ h=>StpL.same (s68.trans n9.same) h) (Paired.mapP q8 λ _ _ h=>StpL.same n9.same h))
end
end K
namespace K
open PySem L2 Lw Bg
abbrev b2W:Stmt:=top 47
theorem sc__law_at:FnScope ["_law_script", "_law_k", "_law_base"] ["_law_script", "_law_k"] (a0F b2W):=⟨rfl,rfl,rfl,by decide +kernel,rfl,by decide +kernel,by decide +kernel⟩
def spAt (K:Φρ):Sp:=λ vs H Q _=>∃ (a:Addr) (ns:List Int) (k:Int),vs=[.ref a,.int k]/\Scr K H a ns/\ns.length<=63/\0<=k/\k<=1000/\∀ z,Q (.int z) H
section
variable {P:Program} {w:World} {K:Φρ} {mg:Str->Option Value} {base:Heap}
abbrev DZ0 (K:PySem.W.Frag) (mg:Str->Option Value):=Dn K mg "_law_at" b2W ["_law_script", "_law_k"]
set_option maxHeartbeats 4000000 in
theorem a4A (B:Bl mg) (dZ0:DZ0 K mg):FnOk P w K mg base CX0 1 dZ0.f dZ0.fd ["_law_script", "_law_k"] (spAt K):=by
 refine dZ0.F.ok sc__law_at (λ vs H Q E h=>?_) (λ cdv A outer s H vs Q E hr h=>?_)
 ·obtain ⟨a,ns,k,rfl,_⟩:=h
  rfl
 obtain ⟨a,ns,k,rfl,hS,h63,k0,k1,q⟩:=h
 have hA:=hS.seq
 refine ⟨_,(a0C (a1O (a0J b7Q (pv 1) (a0G (a0L (K:=K) rfl) rfl B.len (by decide +kernel) (a0A (pv 0) a0B)) (a0S _))
   (a0E (a0P (a1B (a0V (K:=K) rfl) (pv 0) (pv 1) (λ _ _=>rfl))))
   a0N)
   (a0C (a0Q (i:=2) sc__law_at.nd rfl (Or.inl rfl) a0D)
   (a3K (a1O (a0J a4Y (a0G (a0L (K:=K) rfl) rfl B.len (by decide +kernel) (a0A (pv 0) a0B)) a0D (a0S _))
   (a0E (a0Q (i:=2) sc__law_at.nd rfl (Or.inl rfl) (a0R a2E (a1B (a0V (K:=K) rfl) (pv 0) (a0R a2E (a0R a2I (a0R a7T (pv 1) a0D) a0D) (a0G (a0L (K:=K) rfl) rfl B.len (by decide +kernel) (a0A (pv 0) a0B))) (λ _ _=>rfl)) a0D)))
   a0N)
   (a0E (a0P (a0R a2E (a0R a7T (a0R a2I (a0R a2I (pv 2) (a0R a7T a0D (pv 1))) a0D) (a0R a2I (a0R a2I (a0R a7T (pv 2) a0D) (a0R a7T (pv 1) (pv 1))) a0D)) a0D)))))),?_⟩
 have hl:(ns.map V.int).length=ns.length:=List.length_map _
 refine ⟨_,rfl,_,rfl,a,_,rfl,.inl hA,_,_,rfl,rfl,_,rfl,?_⟩
 refine ite2 (λ c=>?_) (λ c=>?_)
 ·have c':k < (((ns.map V.int).length:Nat):Int):=of_decide_eq_true c
  rw [hl] at c'
  exact ⟨_,rfl,_,rfl,a,_,_,_,rfl,rfl,hA,b0H k0 c',q _⟩
 refine ⟨λ σ' H'=>∃ b:Int,-(2 ^ 32) < b/\b < 2 ^ 32/\σ'=[some (.ref a),some (.int k),some (.int b)]/\H'=H,?_,?_⟩
 ·refine ⟨_,rfl,a,_,rfl,.inl hA,_,_,rfl,rfl,_,rfl,?_⟩
  refine ite2 (λ c2=>?_) (λ c2=>⟨71,by decide,by decide,rfl,rfl⟩)
  have c2':(0:Int) < (((ns.map V.int).length:Nat):Int):=of_decide_eq_true c2
  rw [hl] at c2'
  have m0:=Int.emod_nonneg (k*17+6) (show (ns.length:Int)≠0 by omega)
  have m1:=Int.emod_lt_of_pos (k*17+6) c2'
  refine ⟨_,rfl,_,rfl,_,_,rfl,rfl,.inr ⟨by decide,by decide⟩,_,_,rfl,rfl,_,rfl,a,_,rfl,.inl hA,_,_,rfl,rfl,(by rw [hl]; exact c2'),a,_,_,_,rfl,rfl,hA,(by rw [hl]; exact b0H m0 m1),_,_,rfl,rfl,(show (0:Int) < _ by decide),?_⟩
  have e0:=Int.emod_nonneg (ns.getD ((k*17+6) % (ns.length:Int)).toNat 0) (show (999931:Int)≠0 by decide)
  have e1:=Int.emod_lt_of_pos (ns.getD ((k*17+6) % (ns.length:Int)).toNat 0) (show (0:Int) < 999931 by decide)
  exact ⟨_,by omega,by omega,rfl,rfl⟩
 rintro σ' H' ⟨b,b0,b1,rfl,rfl⟩
 refine ⟨_,rfl,_,rfl,_,_,rfl,rfl,.inl ⟨by decide,by decide⟩,_,_,rfl,rfl,_,_,rfl,rfl,_,rfl,_,_,rfl,rfl,.inr ⟨by decide,by decide⟩,_,rfl,_,rfl,_,_,rfl,rfl,.inl ⟨by omega,by omega⟩,_,_,rfl,rfl,_,_,rfl,rfl,_,_,rfl,rfl,.inl ⟨by omega,by omega⟩,_,_,rfl,rfl,(show (0:Int) < _ by decide),q _⟩
end
abbrev a8R:Stmt:=top 48
theorem sc__law_rows:FnScope ["_law_script", "_law_n", "_law_most", "_law_left", "_law_many", "_law_rows_here", "_law_k", "_law_up", "_law_bag", "_law_fresh"] ["_law_script", "_law_n", "_law_most"] (a0F a8R):=⟨rfl,rfl,rfl,by decide +kernel,rfl,by decide +kernel,by decide +kernel⟩
def Asc (rs:List Row):Prop:=∀ k,(bagR rs k).Pairwise (· < ·)
theorem c3M {rs:List Row} {r:Row} (h:Asc rs) (hr:r.2.Pairwise (· < ·)):Asc (rs++[r]):=λ k=>by
 rw [a1S]
 split
 ·exact hr
 ·exact h k
theorem c4R {zs:List Int} (nd:zs.Nodup) (h:zs.Pairwise (· <= ·)):zs.Pairwise (· < ·):=(List.pairwise_and_iff.mpr ⟨h,nd⟩).imp λ {a b} z=>by have:=z.1; have:=z.2; omega
def c3N (K:Φρ):Sp:=λ vs H Q _=>∃ (a:Addr) (ns:List Int) (n most:Nat),vs=[.ref a,.int n,.int most]/\Scr K H a ns/\ns.length<=63/\n<=10/\2<=most/\most<=6 /\
 ∀ l xs rs H',Same H H'->H l=none->H' l=some (.lst xs)->Paired (RowL l H') xs rs->Rw n most rs []->Asc rs->rs.length<=13->Q (.ref l) H'
def RowW (K:Φρ) (a l pl:Addr) (n most many:Nat) (H:Hp) (m:Nat) (σ:St) (H':Hp):Prop :=
 ∃ (xs:List V) (rs:List Row) (us:List Int) (v7 v8 v9 v10:Option V),σ=[some (.ref a),some (.int n),some (.int most),some (.ref pl),some (.int many),some (.ref l),v7,v8,v9,v10]/\Same H H'/\H' l=some (.lst xs)/\H' pl=some (.lst (us.map V.int))/\Paired (RwX [l,pl] H') xs rs/\Rw n most rs us/\Asc rs/\m=(many - rs.length)+us.length/\rs.length<=many+(n - us.length)/\us.length<=n
theorem c0O (xs:List V) (k:Nat):cutV xs none (some (k:Int))=xs.take k:=by
 unfold cutV
 have e1:HT.sIx xs.length xs.length (some (k:Int))=min k xs.length:=HT.sIx_nat _ _ k
 have e2:HT.sIx xs.length 0 none=0:=rfl
 rw [e1,e2,List.drop_zero,Nat.sub_zero]
 rcases Nat.le_total k xs.length with c | c
 ·rw [Nat.min_eq_left c]
 ·rw [Nat.min_eq_right c,List.take_of_length_le (Nat.le_refl _),List.take_of_length_le c]
section
variable {P:Program} {w:World} {K:Φρ} {mg:Str->Option Value} {base:Heap}
abbrev DZ5 (K:PySem.W.Frag) (mg:Str->Option Value):=Dn K mg "_law_rows" a8R ["_law_script", "_law_n", "_law_most"]
set_option maxHeartbeats 8000000 in
theorem b2X (B:Bl mg) (dZ0:DZ0 K mg) (dZ5:DZ5 K mg):FnOk P w K mg base CX0 2 dZ5.f dZ5.fd ["_law_script", "_law_n", "_law_most"] (c3N K):=by
 have gZ0:FnOk P w K mg base CX0 1 _ _ _ _:=a4A B dZ0
 refine dZ5.F.ok sc__law_rows (λ vs H Q E h=>?_) (λ cdv A outer s H vs Q E hr h=>?_)
 ·obtain ⟨a,ns,n,most,rfl,_⟩:=h
  rfl
 obtain ⟨a,ns,n,most,rfl,hS,h63,n10,mo2,mo6,q⟩:=h
 refine ⟨_,(a0C (a0Q (i:=3) sc__law_rows.nd rfl (Or.inr rfl) (c2M rfl B.list B.range (a0A (pv 1) a0B)))
   (a3K (a1O (a0J a5P (a0R a2E (a0K gZ0 hr rfl dZ0.m dZ0.F.kp dZ0.b .nil a1I (a0A (pv 0) (a0A a0D a0B))) a0D) a0D (a0S _))
   (a0E (a3C (b3K (K:=K) rfl PySem.F.plainAttrs_list PySem.F.slot_list_reverse PySem.F.type_list_reverse b3V (pv 3))))
   a0N)
   (a0C (a0Q (i:=4) sc__law_rows.nd rfl (Or.inl rfl) (a0R a2I a0D (a0R a2E (a0K gZ0 hr rfl dZ0.m dZ0.F.kp dZ0.b .nil a1I (a0A (pv 0) (a0A a0D a0B))) a0D)))
   (a0C (a0Q (i:=5) sc__law_rows.nd rfl (Or.inl rfl) (a0O (a0A (a0T (a0A a1N (a0A (a0G (a7C (K:=K) rfl) rfl B.sorted (by decide +kernel) (a0A (a2P ["_law_k", "_law_left"] [none,some 3]  (by kernel_rfl) rfl (a2O rfl B.range (a0A (a0G (b1C rfl) rfl B.min (by decide +kernel) (a0A (a0G (a0L (K:=K) rfl) rfl B.len (by decide +kernel) (a0A (pv 3) a0B)) (a0A (a0R a2E (a0K gZ0 hr rfl dZ0.m dZ0.F.kp dZ0.b .nil a1I (a0A (pv 0) (a0A a0D a0B))) (a0R a2I (pv 2) a0D)) a0B))) a0B)) (λ _ _ _ _ _=>(a0H (i:=0) (show (["_law_k", "_law_left"]:List Str).Nodup by decide +kernel) rfl (Or.inl rfl))) (λ _ _ _ _ _=>a1V) (λ _ _ _ _ _=>(b3K (K:=K) rfl PySem.F.plainAttrs_list PySem.F.slot_list_pop PySem.F.type_list_pop b9A (pv 1)))) a0B)) a0B))) a0B)))
   (a0C (c1I PassesOwn.never (PW.pt (c1G (a0J b7Q (a0G (a0L (K:=K) rfl) rfl B.len (by decide +kernel) (a0A (pv 5) a0B)) (pv 4) (a0S _)) (b4K (a0J a4Y (a0G (a0L (K:=K) rfl) rfl B.len (by decide +kernel) (a0A (pv 3) a0B)) a0D (a0S _)))))
   (a0C (a0Q (i:=6) sc__law_rows.nd rfl (Or.inr rfl) (a0G (a0L (K:=K) rfl) rfl B.len (by decide +kernel) (a0A (pv 5) a0B)))
   (a0C (a0Q (i:=7) sc__law_rows.nd rfl (Or.inl rfl) (a0R a2E (a0K gZ0 hr rfl dZ0.m dZ0.F.kp dZ0.b .nil a1I (a0A (pv 0) (a0A (a0R a2I a0D (pv 6)) a0B))) (pv 6)))
   (a0C (a0Q (i:=8) sc__law_rows.nd rfl (Or.inl rfl) (a1Z (a2J (K:=K) rfl) (a2P ["_law_v", "_law_script", "_law_k"] [none,some 0,some 6]  (by kernel_rfl) rfl (a1A (K:=K) rfl (a1B (a0X (K:=K) rfl) (a1B (a0V (K:=K) rfl) (pv 5) (pv 7) (λ _ _=>rfl)) a0D (λ _ _=>rfl))) (λ _ _ _ _ _=>(a0H (i:=0) (show (["_law_v", "_law_script", "_law_k"]:List Str).Nodup by decide +kernel) rfl (Or.inl rfl))) (λ _ _ _ _ _=>(a2U (a0J a4Y (a0R a2E (a0K gZ0 hr rfl dZ0.m dZ0.F.kp dZ0.b .nil a1I (a0A (pv 1) (a0A (a0R a2I (a0R a2I a0D (a0R a7T a0D (pv 2))) (pv 0)) a0B))) a0D) a0D (a0S _)))) (λ _ _ _ _ _=>(pv 0))) a2K (a2L (a0R a4N (pv 2) a0D))))
   (a0C (a0Q (i:=9) sc__law_rows.nd rfl (Or.inl rfl) (a0R a2I a0D (a0R a2E (a0K gZ0 hr rfl dZ0.m dZ0.F.kp dZ0.b .nil a1I (a0A (pv 0) (a0A (a0R a2I a0D (pv 6)) a0B))) (a0R a4N (pv 2) (a0G (a0L (K:=K) rfl) rfl B.len (by decide +kernel) (a0A (pv 8) a0B))))))
   (a0E (a3C (a5V (K:=K) rfl PySem.F.plainAttrs_list PySem.F.slot_list_append PySem.F.type_list_append a2M (pv 5) (a0A (a0T (a0A (pv 7) (a0A (a0G (a7C (K:=K) rfl) rfl B.sorted (by decide +kernel) (a0A (a0R a1R (pv 8) (a2P ["_law_j", "_law_left"] [none,some 3]  (by kernel_rfl) rfl (a2O rfl B.range (a0A (a0G (b1C rfl) rfl B.min (by decide +kernel) (a0A (pv 9) (a0A (a0G (a0L (K:=K) rfl) rfl B.len (by decide +kernel) (a0A (pv 3) a0B)) a0B))) a0B)) (λ _ _ _ _ _=>(a0H (i:=0) (show (["_law_j", "_law_left"]:List Str).Nodup by decide +kernel) rfl (Or.inl rfl))) (λ _ _ _ _ _=>a1V) (λ _ _ _ _ _=>(b3K (K:=K) rfl PySem.F.plainAttrs_list PySem.F.slot_list_pop PySem.F.type_list_pop b9A (pv 1))))) a0B)) a0B))) a0B)))))))))
   (a0E (a0P (pv 5)))))))),?_⟩
 refine ⟨_,rfl,n,rfl,by omega,λ p5 H0 n0=>?_⟩
 have e0:(List.range n).map (λ i=>V.int ((i:Nat):Int))=(rng n).map V.int:=by rw [List.map_map]; rfl
 rw [e0] at n0
 refine ⟨λ σ' H'=>∃ us:List Int,us.Perm (rng n)/\Same H H'/\H' p5=some (.lst (us.map V.int))/\σ'=[some (.ref a),some (.int n),some (.int most),some (.ref p5),none,none,none,none,none,none],?_,?_⟩
 ·refine ⟨_,rfl,a,ns,1,rfl,hS.same n0.same,h63,by decide,by decide,λ z1=>⟨_,_,rfl,rfl,(show (0:Int) < 2 by decide),rfl,_,rfl,ite2 (λ _=>?_) (λ _=>⟨rng n,List.Perm.refl _,n0.same,n0.here,rfl⟩)⟩⟩
  refine ⟨_,rfl,.inl ⟨rfl,_,SqL.of n0.here⟩,p5,_,rfl,rfl,n0.here,λ H1 c1=>?_⟩
  rw [<- List.map_reverse] at c1
  exact ⟨(rng n).reverse,List.reverse_perm _,n0.same.chg n0.fresh c1,c1.here,rfl⟩
 rintro σ' H5 ⟨us,pu,s5,h5,rfl⟩
 have f5:=n0.fresh
 have lu:us.length=n:=by rw [pu.length_eq,List.length_map,List.length_range]
 refine ⟨_,rfl,a,ns,2,rfl,hS.same s5,h63,by decide,by decide,λ zm=>⟨_,_,rfl,rfl,(show (0:Int) < _ by decide),_,_,rfl,rfl,?_⟩⟩
 have y0:=Int.emod_nonneg zm (show (3:Int)≠0 by decide)
 have y1:=Int.emod_lt_of_pos zm (show (0:Int) < 3 by decide)
 obtain ⟨many,em⟩:∃ k:Nat,1+zm % 3=(k:Int):=⟨(1+zm % 3).toNat,by omega⟩
 dsimp only
 rw [em]
 refine ⟨_,rfl,p5,_,rfl,.inl (SqL.of h5),_,rfl,a,ns,3,rfl,hS.same s5,h63,by decide,by decide,λ z3=>?_⟩
 have w0:=Int.emod_nonneg z3 (show (most:Int)+1≠0 by omega)
 have w1:=Int.emod_lt_of_pos z3 (show (0:Int) < (most:Int)+1 by omega)
 refine ⟨_,rfl,_,_,rfl,rfl,_,_,rfl,rfl,(show (0:Int) < (most:Int)+1 by omega),_,_,rfl,?_⟩
 dsimp only
 obtain ⟨c,ec,c1,c2⟩:∃ c:Nat,(if z3 % ((most:Int)+1) < (((us.map V.int).length:Nat):Int) then z3 % ((most:Int)+1) else (((us.map V.int).length:Nat):Int))=(c:Int)/\c<=most/\c<=us.length:=by
  rw [List.length_map]
  split
  ·exact ⟨(z3 % ((most:Int)+1)).toNat,by omega,by omega,by omega⟩
  ·exact ⟨us.length,rfl,by omega,Nat.le_refl _⟩
 rw [ec]
 refine ⟨_,rfl,by omega,by omega,?_⟩
 rw [Int.toNat_natCast]
 refine c0J h5 c2 (by omega) (λ i H' xs y N M h q=>⟨_,rfl,.inl ⟨rfl,_,SqL.of h⟩,p5,xs,y,rfl,rfl,h,q⟩) (λ H9 p9 H10 c9 n10=>?_)
 refine ⟨p9,_,rfl,SqL.of n10.here,(by rw [List.length_reverse,List.length_drop]; omega),λ ps Hs zs ns' pz lz'=>?_⟩
 refine ⟨(by show 2<=1000; decide),λ p11 H11 n11=>⟨(by show 1<=1000; decide),λ pr H12 n12=>?_⟩⟩
 have sS:Same H9 H12:=n10.same.trans (ns'.same.trans (n11.same.trans n12.same))
 have h10l:H12 p5=some (.lst ((us.take (us.length - c)).map V.int)):=sS _ _ c9.here
 have ne58:p5≠pr:=λ z=>by have:=n12.fresh; rw [<- z,n11.same _ _ (ns'.same _ _ (n10.same _ _ c9.here))] at this; cases this
 have s12:Same H H12:=(s5.chg f5 c9).trans sS
 have f8:H pr=none:=(s5.chg f5 c9).free (n10.same.free (ns'.same.free (n11.same.free n12.fresh)))
 have ne9:ps ∉ [pr,p5]:=λ hm=>by
  rcases List.mem_cons.mp hm with hm | hm
  ·have:=n12.fresh
   rw [<- hm,n11.same _ _ ns'.here] at this; cases this
  ·have:=ns'.fresh
   rw [List.mem_singleton.mp hm,n10.same _ _ c9.here] at this; cases this
 have W0:=rw_0 (most:=most) (c:=c) pu c1 pz
 have lt:(us.take (us.length - c)).length=us.length - c:=by rw [List.length_take]; omega
 have ascz:zs.Pairwise (· < ·):=c4R (W0.T.nd 0) lz'
 refine ⟨RowW K a pr p5 n most many H,⟨_,[.ref p11],[(none,zs)],_,none,none,none,none,rfl,s12,n12.here,h10l,.cons ⟨p11,ps,rfl,n12.same _ _ n11.here,n12.same _ _ (n11.same _ _ ns'.here),ne9,?_⟩ .nil,W0,λ k=>?_,rfl,?_,?_⟩,?_⟩
 ·show zs.length<=1000
  rw [pz.length_eq,List.length_reverse,List.length_drop]; omega
 ·cases k with
  | zero=>exact ascz
  | succ k=>exact .nil
 ·show 1<=_
  omega
 ·rw [lt]; omega
 rintro m σ H1 ⟨xs,rs,us,v7,v8,v9,v10,rfl,s1,hl,hpl,hpr,W,asc,em',b1,b2⟩
 have lx:xs.length=rs.length:=Paired.length hpr
 have hS1:=hS.same s1
 have r1:=W.T.pos
 refine ⟨_,rfl,pr,_,rfl,.inl (SqL.of hl),_,rfl,_,_,rfl,rfl,_,rfl,?_⟩
 refine ite2 (λ c=>iteT ?_) (λ c=>⟨_,rfl,p5,_,rfl,.inl (SqL.of hpl),_,_,rfl,rfl,_,rfl,ite2 (λ d=>?_) (λ d=>?_)⟩)
 rotate_left 2
 ·have c':¬ ((xs.length:Nat):Int) < (many:Int):=of_decide_eq_false (Bool.eq_false_iff.mpr c)
  have d':¬ (((us.map V.int).length:Nat):Int) > 0:=of_decide_eq_false (Bool.eq_false_iff.mpr d)
  rw [List.length_map] at d'
  have e0:us=[]:=List.eq_nil_of_length_eq_zero (by omega)
  rw [e0] at W
  exact ⟨_,rfl,q pr xs rs H1 s1 f8 hl (Paired.mapP hpr λ _ _ h=>h.l List.mem_cons_self) W asc (by omega)⟩
 all_goals
  have hc:rs.length < many\/(many<=rs.length/\0 < us.length):=by
   first
   | exact .inr (by
     have c':¬ ((xs.length:Nat):Int) < (many:Int):=of_decide_eq_false (Bool.eq_false_iff.mpr c)
     have d':(((us.map V.int).length:Nat):Int) > 0:=of_decide_eq_true d
     rw [List.length_map] at d'
     omega)
   | exact .inl (by have c':((xs.length:Nat):Int) < (many:Int):=of_decide_eq_true c; omega)
  refine ⟨λ σ' H'=>∃ m',m' < m/\RowW K a pr p5 n most many H m' σ' H',λ _ _ h=>h,?_⟩
  refine ⟨_,rfl,pr,_,rfl,.inl (SqL.of hl),?_⟩
  rw [lx]
  refine ⟨_,rfl,_,rfl,_,_,rfl,rfl,a,ns,_,rfl,hS1,h63,(by omega),(by omega),λ z=>?_⟩
  have u0:=Int.emod_nonneg z (show ((rs.length:Nat):Int)≠0 by omega)
  have u1:=Int.emod_lt_of_pos z (show (0:Int) < ((rs.length:Nat):Int) by omega)
  refine ⟨_,rfl,_,_,rfl,rfl,(show (0:Int) < ((rs.length:Nat):Int) by omega),?_⟩
  obtain ⟨f,ef⟩:∃ f:Nat,z % ((rs.length:Nat):Int)=(f:Int):=⟨(z % ((rs.length:Nat):Int)).toNat,by omega⟩
  dsimp only
  rw [ef]
  have fl:f < rs.length:=by omega
  obtain ⟨v,hx,⟨pt,bb,rfl,hT,hbb,hbl,_⟩⟩:=a0Y hpr (a1W fl)
  have lf:(a0I rs f).2.length<=most:=W.few f
  refine ⟨_,rfl,_,rfl,pr,_,_,_,rfl,rfl,SqL.of hl,a1M hx,pt,_,_,_,rfl,rfl,SqT.of hT,rfl,bb,rfl,⟨_,SqL.of hbb⟩,?_⟩
  refine a3T (K:=K) (a:=bb) (xs:=(a0I rs f).2.map V.int) (λ i ys H'=>∃ ks:List Int,ys=ks.map V.int/\List.Sublist ks ((a0I rs f).2.take i)/\Same H1 H') ⟨[],rfl,List.nil_sublist _,Same.refl _⟩ (λ i ys H' hi ⟨ks,e,sb,s⟩=>⟨SqL.of (s _ _ hbb),?_⟩) (λ i x ys H2 hx ⟨ks,e,sb,s2⟩=>?_) (λ ys H2 ⟨ks,e,sb,s2⟩ p3' hp3=>?_)
  ·have:=sb.length_le
   rw [List.length_take] at this
   rw [e,List.length_map]; exact Nat.le_of_lt (a0W (by omega))
  ·rw [List.getElem?_map] at hx
   obtain ⟨u,hu,rfl⟩:=Option.map_eq_some_iff.mp hx
   have et:(a0I rs f).2.take (i+1)=(a0I rs f).2.take i++[u]:=by rw [List.take_succ,hu]; rfl
   have ub:=W.T.lt f u (List.mem_of_getElem? hu)
   refine ⟨_,rfl,_,rfl,_,_,rfl,rfl,.inl ⟨by decide,by decide⟩,_,_,rfl,rfl,_,rfl,_,_,rfl,rfl,a,ns,_,rfl,hS1.same s2,h63,(by omega),(by omega),λ z4=>⟨_,_,rfl,rfl,(show (0:Int) < _ by decide),_,_,rfl,rfl,_,rfl,ite2 (λ c4=>⟨_,rfl,ks++[u],by rw [e,List.map_append]; rfl,by rw [et]; exact sb.append (List.Sublist.refl _),s2⟩) (λ c4=>⟨ks,e,by rw [et]; exact sb.trans (List.sublist_append_left _ _),s2⟩)⟩⟩
  subst e
  rw [List.length_map,List.take_length] at sb
  have n3:New H2 p3' (.lst (ks.map V.int)) (upd H2 p3' (.lst (ks.map V.int))):=New.mk0 hp3
  generalize upd H2 p3' (.lst (ks.map V.int))=H3 at n3 ⊢
  have s13:=s2.trans n3.same
  have lk:=sb.length_le
  have hl3:=s13 _ _ hl
  refine ⟨_,rfl,_,_,rfl,rfl,_,rfl,p3',_,rfl,SqL.of n3.here,λ pb H4 n4=>?_⟩
  rw [show (most:Int) - 1=((most - 1:Nat):Int) by omega,c0O,<- List.map_take] at n4
  have s14:=s13.trans n4.same
  have hpb:=n4.here
  have fpb:=s13.free n4.fresh
  have sb:List.Sublist (ks.take (most - 1)) (bagR rs f):=(List.take_sublist _ _).trans sb
  have km:(ks.take (most - 1)).length+1<=most:=by rw [List.length_take]; omega
  generalize ks.take (most - 1)=ks at hpb sb km n4
  refine ⟨_,rfl,_,rfl,_,_,rfl,rfl,a,ns,_,rfl,hS1.same s14,h63,(by omega),(by omega),λ z5=>?_⟩
  have t0:=Int.emod_nonneg z5 (show (most:Int) - ((ks.length:Nat):Int)≠0 by omega)
  have t1:=Int.emod_lt_of_pos z5 (show (0:Int) < (most:Int) - ((ks.length:Nat):Int) by omega)
  refine ⟨_,rfl,_,rfl,pb,_,rfl,.inl (SqL.of hpb),_,_,rfl,rfl,_,_,rfl,rfl,(by rw [List.length_map]; show (0:Int) < (most:Int) - ((ks.length:Nat):Int); omega),_,_,rfl,rfl,?_⟩
  rw [List.length_map]
  obtain ⟨fr,efr⟩:∃ fr:Nat,1+z5 % ((most:Int) - ((ks.length:Nat):Int))=(fr:Int):=⟨(1+z5 % ((most:Int) - ((ks.length:Nat):Int))).toNat,by omega⟩
  dsimp only
  rw [efr]
  have frm:ks.length+fr<=most:=by omega
  have fr1:1<=fr:=by omega
  have hpl4:=s14 _ _ hpl
  have hl4:=s14 _ _ hl
  refine ⟨_,rfl,.inl ⟨rfl,_,SqL.of hl4⟩,_,rfl,_,rfl,_,rfl,_,rfl,p5,_,rfl,.inl (SqL.of hpl4),_,_,rfl,?_⟩
  obtain ⟨c,ec,c1,c2,c3⟩:∃ c:Nat,(if (((us.map V.int).length:Nat):Int) < (fr:Int) then (((us.map V.int).length:Nat):Int) else (fr:Int))=(c:Int)/\c<=fr/\c<=us.length/\(1<=fr->0 < us.length->1<=c):=by
   rw [List.length_map]
   split
   ·exact ⟨us.length,rfl,by omega,Nat.le_refl _,λ _ h=>h⟩
   ·exact ⟨fr,rfl,Nat.le_refl _,by omega,λ h _=>h⟩
  rw [ec]
  refine ⟨_,rfl,by omega,by omega,?_⟩
  rw [Int.toNat_natCast]
  refine c0J hpl4 c2 (by omega) (λ i H' xs y N M h q=>⟨_,rfl,.inl ⟨rfl,_,SqL.of h⟩,p5,xs,y,rfl,rfl,h,q⟩) (λ H6 p7 H7 c6 n7=>?_)
  have nb5:pb≠p5:=λ z=>by rw [z,hpl] at fpb; cases fpb
  have nl5:pr≠p5:=ne58.symm
  have hb7:=n7.same _ _ ((c6.rest pb nb5).trans hpb)
  refine ⟨pb,p7,_,_,rfl,rfl,hb7,n7.here,(by rw [List.length_map,List.length_map,List.length_reverse,List.length_drop]; omega),λ p8 H8 n8'=>?_⟩
  rw [<- List.map_append] at n8'
  refine ⟨p8,_,rfl,SqL.of n8'.here,(by rw [List.length_append,List.length_reverse,List.length_drop]; omega),λ pz Hz zs nz pmz lez=>?_⟩
  have hl8:=nz.same _ _ (n8'.same _ _ (n7.same _ _ ((c6.rest pr nl5).trans hl4)))
  have hp8:=nz.same _ _ (n8'.same _ _ (n7.same _ _ c6.here))
  refine ⟨(by show 2<=1000; decide),λ p10 H10 n10'=>?_⟩
  have hl10:=n10'.same _ _ hl8
  have hp10:=n10'.same _ _ hp8
  refine ⟨pr,_,_,rfl,rfl,hl10,(by omega),λ H11 c11=>?_⟩
  have lks:=sb.length_le
  have W2:=d0R (c:=c) W fl sb (by omega) pmz
  have ascz:zs.Pairwise (· < ·):=c4R (by have:=W2.T.nd rs.length; rw [a1S,if_pos rfl] at this; exact this) lez
  have lt2:(us.take (us.length - c)).length=us.length - c:=by rw [List.length_take]; omega
  have s8':Same H6 H10:=n7.same.trans (n8'.same.trans (nz.same.trans n10'.same))
  have x8:pz ∉ [pr,p5]:=λ hm=>by
   have f:=nz.fresh
   rcases List.mem_cons.mp hm with hm | hm
   ·rw [hm,n8'.same _ _ (n7.same _ _ ((c6.rest pr nl5).trans hl4))] at f; cases f
   ·rw [List.mem_singleton.mp hm,n8'.same _ _ (n7.same _ _ c6.here)] at f; cases f
  refine ⟨_,?_,xs++[.ref p10],rs++[(some (f:Int),zs)],us.take (us.length - c),_,_,_,_,rfl,(((s1.trans s14).chg f5 c6).trans s8').chg f8 c11,c11.here,(c11.rest p5 ne58).trans hp10,?_,W2,c3M asc ascz,rfl,?_,?_⟩
  ·rw [em',List.length_append,List.length_singleton,lt2]
   have:=c3
   have:=fr1
   omega
  ·refine a0Z (Paired.mapP hpr λ v t q=>(((q.same s14).chg hpl4 c6 (List.mem_cons_of_mem _ List.mem_cons_self)).same s8').chg hl10 c11 List.mem_cons_self) (RwX.chg hl10 c11 List.mem_cons_self ⟨p10,pz,rfl,n10'.here,n10'.same _ _ nz.here,x8,?_⟩)
   show zs.length<=1000
   rw [pmz.length_eq,List.length_append,List.length_reverse,List.length_drop]; omega
  ·rw [List.length_append,List.length_singleton,lt2]
   have:=c3
   have:=fr1
   omega
  ·rw [lt2]; omega
end
end K
namespace K
open PySem L2 Lw Bg
def lexT (s t:Int × Int):Prop:=s.1 < t.1\/(s.1=t.1/\s.2 < t.2)
structure Web (n:Int) (ts:List ζζ):Prop where
 ok:∀ t∈ts,0<=t.1/\t.1 < t.2/\t.2 < n
 up:ts.Pairwise lexT
theorem pigA {α:Type} [DecidableEq α] {l U:List α} (nd:l.Nodup) (h:∀ x∈l,x∈U):l.length<=U.length:=by
 induction l generalizing U with
 | nil=>exact Nat.zero_le _
 | cons a r ih =>
  obtain ⟨n1,n2⟩:=List.nodup_cons.mp nd
  have am:=h a List.mem_cons_self
  have:=ih (U:=U.erase a) n2 λ x hx=>(List.mem_erase_of_ne (λ e=>n1 (by rw [<- e]; exact hx))).mpr (h x (List.mem_cons_of_mem _ hx))
  rw [List.length_erase_of_mem am] at this
  have:=List.length_pos_of_mem am
  rw [List.length_cons]; omega
def allT:List ζζ:=(List.range 10).flatMap λ (a:Nat)=>((List.range 10).filter λ (b:Nat)=>decide (a < b)).map λ (b:Nat)=>(((a:Nat):Int),((b:Nat):Int))
theorem lexT.asymm {s t:Int × Int} (h:lexT s t) (h':lexT t s):False:=by
 unfold lexT at h h'
 omega
theorem Web.nd {n:Int} {ts:List ζζ} (h:Web n ts):ts.Nodup:=h.up.imp λ l e=>by
 subst e
 exact l.asymm l
theorem Web.few {n:Nat} {ts:List ζζ} (h:Web n ts) (n10:n<=10):ts.length<=45:=by
 have:=pigA (U:=allT) h.nd λ t ht=>by
  have o:=h.ok t ht
  unfold allT
  refine List.mem_flatMap.mpr ⟨t.1.toNat,List.mem_range.mpr (by omega),List.mem_map.mpr ⟨t.2.toNat,List.mem_filter.mpr ⟨List.mem_range.mpr (by omega),decide_eq_true (by omega)⟩,?_⟩⟩
  exact Prod.ext (by show ((t.1.toNat:Nat):Int)=t.1; omega) (by show ((t.2.toNat:Nat):Int)=t.2; omega)
 have e:allT.length=45:=by decide +kernel
 omega
abbrev a5M:Stmt:=top 49
theorem sc__law_ties:FnScope ["_law_script", "_law_rows_here", "_law_n", "_law_found", "_law_a", "_law_b", "_law_together"] ["_law_script", "_law_rows_here", "_law_n"] (a0F a5M):=⟨rfl,rfl,rfl,by decide +kernel,rfl,by decide +kernel,by decide +kernel⟩
def b2Y (rs:List Row) (t:Int × Int):Prop:=∃ k,t.1∈bagR rs k/\t.2∈bagR rs k
def c3O (K:Φρ):Sp:=λ vs H Q _=>∃ (a l:Addr) (ns:List Int) (ys:List V) (rs:List Row) (n:Nat),vs=[.ref a,.ref l,.int n]/\Scr K H a ns/\ns.length<=63/\H l=some (.lst ys)/\Paired (RowL l H) ys rs/\rs.length<=40/\n<=10 /\
 ∀ r xs ts H',Same H H'->H r=none->H' r=some (.lst xs)->Paired (TieL H') xs ts->(∀ t∈ts,0<=t.1/\t.1 < t.2/\t.2 < (n:Int))->ts.Nodup->(∀ t∈ts,b2Y rs t)->ts.length<=45->Q (.ref r) H'
section
variable {P:Program} {w:World} {K:Φρ} {mg:Str->Option Value} {base:Heap}
abbrev DZ8 (K:PySem.W.Frag) (mg:Str->Option Value):=Dn K mg "_law_ties" a5M ["_law_script", "_law_rows_here", "_law_n"]
set_option maxHeartbeats 8000000 in
theorem b2Z (B:Bl mg) (dZ0:DZ0 K mg) (dZ8:DZ8 K mg):FnOk P w K mg base CX0 2 dZ8.f dZ8.fd ["_law_script", "_law_rows_here", "_law_n"] (c3O K):=by
 have gZ0:FnOk P w K mg base CX0 1 _ _ _ _:=a4A B dZ0
 refine dZ8.F.ok sc__law_ties (λ vs H Q E h=>?_) (λ cdv A outer s H vs Q E hr h=>?_)
 ·obtain ⟨a,l,ns,ys,rs,n,rfl,_⟩:=h
  rfl
 obtain ⟨a,l,ns,ys,rs,n,rfl,hS,h63,hy,hpr,r40,hn,q⟩:=h
 have hv:(A.deeper (PyProof.Rows.envOfC "_law_ties" (a0F a5M) s.heap.objs.size dZ8.f cdv)).units+65 < cLine:=by have:=hr.un; omega
 have ly:ys.length=rs.length:=Paired.length hpr
 refine ⟨_,(a0C (a0Q (i:=3) sc__law_ties.nd rfl (Or.inl rfl) (a0O a0B))
   (a0C (a2Z PassesOwn.never rfl (a2O rfl B.range (a0A (pv 2) a0B)) (a0H (i:=4) sc__law_ties.nd rfl (Or.inr rfl))
   (a0E (a2Z PassesOwn.never rfl (a4M rfl B.range (a0A (a0R a2I (pv 4) a0D) (a0A (pv 2) a0B))) (a0H (i:=5) sc__law_ties.nd rfl (Or.inr rfl))
   (a0C (a7L (i:=6) ["_law_row", "_law_a", "_law_b"] [none,some 4,some 5] sc__law_ties.nd rfl rfl (by kernel_rfl) rfl (a1A (K:=K) rfl (pv 1)) (λ _ _ _ _ _=>(a0H (i:=0) (show (["_law_row", "_law_a", "_law_b"]:List Str).Nodup by decide +kernel) rfl (Or.inl rfl))) (λ _ _ _ _ _=>(a2U (PW.pt (a3I (a0J (a2V (K:=K) rfl hv) (pv 1) (a1B (a0X (K:=K) rfl) (pv 0) a0D (λ _ _=>rfl)) (by with_unfolding_all rfl)) (a3B (a0J (a2V (K:=K) rfl hv) (pv 2) (a1B (a0X (K:=K) rfl) (pv 0) a0D (λ _ _=>rfl)) (by with_unfolding_all rfl))))))) (λ _ _ _ _ _=>(pv 0)) (by rfl))
   (a0E (a1O (PW.pt (a3I (a0J a4Y (a0G (a0L (K:=K) rfl) rfl B.len (by decide +kernel) (a0A (pv 6) a0B)) a0D (a0S _)) (a3B (a0J a4Y (a0R a2E (a0K gZ0 hr rfl dZ0.m dZ0.F.kp dZ0.b .nil a1I (a0A (pv 0) (a0A (a0R a2I (a0R a2I a0D (a0R a7T a0D (pv 4))) (pv 5)) a0B))) a0D) a0D (a0S _)))))
   (a0E (a3C (a5V (K:=K) rfl PySem.F.plainAttrs_list PySem.F.slot_list_append PySem.F.type_list_append a2M (pv 3) (a0A (a0T (a0A (pv 4) (a0A (pv 5) a0B))) a0B))))
   a0N))))))
   (a0E (a0P (pv 3))))),?_⟩
 refine ⟨(by show 0<=1000; decide),λ r H0 nw=>?_⟩
 refine ⟨_,rfl,_,rfl,by omega,by omega,?_⟩
 rw [Int.toNat_natCast]
 refine a3A (n:=n) (λ i σ H2=>∃ (aa bb bo:Option V) (xs:List V) (ts:List ζζ),σ=[some (.ref a),some (.ref l),some (.int n),some (.ref r),aa,bb,bo]/\Same H H2/\H2 r=some (.lst xs)/\Paired (TieL H2) xs ts/\ts.length<=10*i/\Web n ts/\(∀ t∈ts,t.1 < (i:Int))/\∀ t∈ts,b2Y rs t)
  ⟨none,none,none,[],[],rfl,nw.same,nw.here,.nil,Nat.zero_le _,⟨λ t h=>absurd h List.not_mem_nil,.nil⟩,λ t h=>absurd h List.not_mem_nil,λ t h=>absurd h List.not_mem_nil⟩ ?_ ?_
 ·rintro i σ H2 hi ⟨aa,bb,bo,xs,ts,rfl,sm,hr2,hp,hz,hw,hlt,bi⟩
  refine ⟨_,rfl,_,_,rfl,rfl,_,rfl,_,_,rfl,⟨by omega,by omega,by omega,by omega⟩,?_⟩
  refine a3A (n:=_) (λ j σ H3=>∃ (bb bo:Option V) (xs:List V) (ts:List ζζ),σ=[some (.ref a),some (.ref l),some (.int n),some (.ref r),some (.int (0+(i:Int))),bb,bo]/\Same H H3/\H3 r=some (.lst xs)/\Paired (TieL H3) xs ts/\ts.length<=10*i+j/\Web n ts/\(∀ t∈ts,t.1 < (i:Int)\/(t.1=(i:Int)/\t.2 < (i:Int)+1+j))/\∀ t∈ts,b2Y rs t)
   ⟨bb,bo,xs,ts,rfl,sm,hr2,hp,by omega,hw,λ t h=>.inl (hlt t h),bi⟩ ?_ ?_
  ·rintro j σ H3 hj ⟨bb,bo,xs,ts,rfl,sm,hr3,hp,hz,hw,hlt,bi⟩
   have jn:(j:Int)+(0+(i:Int)+1) < n:=by omega
   have hy3:=sm _ _ hy
   generalize eav:(0+(i:Int))=av
   generalize ebv:(av+1+(j:Int))=bv
   refine ⟨_,rfl,l,rfl,⟨_,SqL.of hy3⟩,?_⟩
   refine a9O (λ k=>if (decide (av∈bagR rs k) && decide (bv∈bagR rs k))=true then ys[k]? else none) (SqL.of hy3) (by omega) (λ k x H4 N hk s4 hN=>?_) (λ H4 p4 H5 s4 n4=>?_)
   ·have kl:k < rs.length:=by rw [<- ly]; exact (List.getElem?_eq_some_iff.mp hk).1
    obtain ⟨v,hx,⟨pp,b,rfl,hTk,hb,_⟩⟩:=a0Y hpr (a1W kl)
    rw [hk] at hx
    cases hx
    have s04:=sm.trans s4
    have hN':=hN H4 s4
    rw [hk] at hN'
    refine ⟨_,rfl,_,rfl,pp,_,_,_,rfl,rfl,SqT.of (s04 _ _ hTk),rfl,a4I (SqL.of (s04 _ _ hb)) ⟨_,rfl,?_⟩⟩
    refine ite2 (λ c=>?_) (λ c=>?_)
    ·refine ⟨_,rfl,_,rfl,pp,_,_,_,rfl,rfl,SqT.of (s04 _ _ hTk),rfl,a4I (SqL.of (s04 _ _ hb)) ⟨_,rfl,?_⟩⟩
     refine ite2 (λ d=>?_) (λ d=>?_)
     ·rw [if_pos (by unfold bagR; rw [c,d]; rfl)] at hN'
      exact ⟨_,rfl,hN'⟩
     ·rw [if_neg (by unfold bagR; rw [Bool.eq_false_iff.mpr d]; simp)] at hN'
      exact hN'
    ·refine iteF ?_
     rw [if_neg (by unfold bagR; rw [Bool.eq_false_iff.mpr c]; simp)] at hN'
     exact hN'
   have s05:=sm.trans (s4.trans n4.same)
   have hr5:H5 r=some (.lst xs):=(s4.trans n4.same) _ _ hr3
   have hp5:=Paired.mapP hp λ v t q=>TieL.same (s4.trans n4.same) q
   have lxs:xs.length=ts.length:=Paired.length hp
   have no:∃ (bb bo:Option V) (xs:List V) (ts:List ζζ),[some (V.ref a),some (.ref l),some (.int n),some (.ref r),some (.int av),some (.int bv),some (.ref p4)]=[some (V.ref a),some (.ref l),some (.int n),some (.ref r),some (.int av),bb,bo]/\Same H H5/\H5 r=some (.lst xs)/\Paired (TieL H5) xs ts/\ts.length<=10*i+(j+1)/\Web n ts/\(∀ t∈ts,t.1 < (i:Int)\/(t.1=(i:Int)/\t.2 < (i:Int)+1+((j+1:Nat):Int)))/\∀ t∈ts,b2Y rs t :=
    ⟨_,_,xs,ts,rfl,s05,hr5,hp5,by omega,hw,λ t ht=>by have:=hlt t ht; omega,bi⟩
   refine ⟨_,rfl,p4,_,rfl,.inl (SqL.of n4.here),_,_,rfl,rfl,_,rfl,?_⟩
   refine ite2 (λ c=>?_) (λ c=>iteF no)
   have c':=of_decide_eq_true c
   refine ⟨_,rfl,_,rfl,_,_,rfl,rfl,.inl ⟨by decide,by decide⟩,_,_,rfl,rfl,_,rfl,_,_,rfl,rfl,a,ns,_,rfl,hS.same s05,h63,(by omega),(by omega),λ z5=>⟨_,_,rfl,rfl,(show (0:Int) < _ by decide),_,_,rfl,rfl,_,rfl,ite2 (λ d=>?_) (λ d=>no)⟩⟩
   have hrow:b2Y rs (av,bv):=by
    have c3:0 < ((List.range ys.length).filterMap (λ k=>if (decide (av∈bagR rs k) && decide (bv∈bagR rs k))=true then ys[k]? else none)).length:=by omega
    obtain ⟨x,hx⟩:=List.exists_mem_of_length_pos c3
    obtain ⟨k,_,e⟩:=List.mem_filterMap.mp hx
    by_cases d2:(decide (av∈bagR rs k) && decide (bv∈bagR rs k))=true
    ·rw [Bool.and_eq_true] at d2
     exact ⟨k,of_decide_eq_true d2.1,of_decide_eq_true d2.2⟩
    ·rw [if_neg d2] at e; cases e
   refine ⟨_,rfl,.inl ⟨rfl,_,SqL.of hr5⟩,_,rfl,_,rfl,(by show 2<=1000; decide),λ p6 H6 n6=>?_⟩
   have h6:=n6.same _ _ hr5
   refine ⟨r,_,_,rfl,rfl,h6,(by omega),λ H7 c7=>?_⟩
   refine ⟨_,_,xs++[.ref p6],ts++[(av,bv)],rfl,(s05.trans n6.same).chg nw.fresh c7,c7.here,?_,?_,⟨λ t ht=>?_,?_⟩,λ t ht=>?_,λ t ht=>?_⟩
   ·exact a0Z (Paired.mapP hp5 λ v t q=>(TieL.same n6.same q).chg h6 c7) (TieL.chg h6 c7 ⟨p6,rfl,n6.here⟩)
   ·rw [List.length_append]; show ts.length+1<=_; omega
   ·rcases List.mem_append.mp ht with ht | ht
    ·exact hw.ok t ht
    ·rw [List.mem_singleton.mp ht]
     exact ⟨by show 0<=av; omega,by show av < bv; omega,by show bv < n; omega⟩
   ·refine List.pairwise_append.mpr ⟨hw.up,List.pairwise_singleton _ _,λ t ht u hu=>?_⟩
    rw [List.mem_singleton.mp hu]
    show t.1 < av\/(t.1=av/\t.2 < bv)
    have:=hlt t ht
    omega
   ·rcases List.mem_append.mp ht with ht | ht
    ·have:=hlt t ht
     omega
    ·rw [List.mem_singleton.mp ht]
     show av < (i:Int)\/(av=(i:Int)/\bv < (i:Int)+1+((j+1:Nat):Int))
     omega
   ·rcases List.mem_append.mp ht with ht | ht
    ·exact bi t ht
    ·rw [List.mem_singleton.mp ht]; exact hrow
  ·rintro σ H3 ⟨bb,bo,xs,ts,rfl,sm,hr3,hp,hz,hw,hlt,bi⟩
   exact ⟨_,bb,bo,xs,ts,rfl,sm,hr3,hp,by omega,hw,λ t ht=>by have:=hlt t ht; omega,bi⟩
 ·rintro σ H2 ⟨aa,bb,bo,xs,ts,rfl,sm,hr2,hp,hz,hw,hlt,bi⟩
  have few:=hw.few hn
  exact ⟨_,rfl,q r xs ts H2 sm nw.fresh hr2 hp (λ t ht=>hw.ok t ht) hw.nd bi (by omega)⟩
end
end K
namespace K
open PySem L2 Lw Bg
theorem a6G {n:Nat} {ts:List ζζ} {rs:List Row} (h:a2T n ts rs = .ok):a1G n rs=none/\a1J n rs=none/\a2C ts rs=none/\a2B n rs=none:=by
 unfold a2T at h
 cases e1:a1G n rs with
 | some k=>rw [e1] at h; cases h
 | none =>
  rw [e1] at h
  cases e2:a1J n rs with
  | some k=>rw [e2] at h; cases h
  | none =>
   rw [e2] at h
   cases e3:a2C ts rs with
   | some k=>rw [e3] at h; cases h
   | none =>
    rw [e3] at h
    cases e4:a2B n rs with
    | some k=>rw [e4] at h; cases h
    | none=>exact ⟨rfl,rfl,rfl,rfl⟩
theorem c0P {n:Nat} {ts:List ζζ} {rs:List Row} {k:Nat} (hk:k < rs.length) (h:a2Q n rs k=false):a2T n ts rs ≠ .ok:=λ e=>by
 have e1:=(a6G e).1
 unfold a1G at e1
 split at e1
 ·cases e1
 ·have:=List.find?_eq_none.mp e1 k (List.mem_range.mpr hk)
  rw [h] at this
  simp at this
theorem c3P {n:Nat} {ts:List ζζ}:a2T n ts [] ≠ .ok:=λ e=>by
 have e1:=(a6G e).1
 unfold a1G at e1
 cases e1
theorem c0Q {n:Nat} {ts:List ζζ} {rs:List Row} {v:Nat} (vn:v < n) (h:∀ r∈rs,(v:Int) ∉ r.2):a2T n ts rs ≠ .ok:=λ e=>by
 have e2:=(a6G e).2.1
 unfold a1J at e2
 have:=List.find?_eq_none.mp e2 v (List.mem_range.mpr vn)
 have no:rs.any (has (v:Int))=false:=by
  rw [List.any_eq_false]
  intro r hr z
  exact h r hr (of_decide_eq_true z)
 rw [no] at this
 simp at this
theorem c7R {n:Nat} {ts:List ζζ} {rs:List Row} {t:Int × Int} (ht:t∈ts) (h:∀ r∈rs,¬ (t.1∈r.2/\t.2∈r.2)):a2T n ts rs ≠ .ok:=λ e=>by
 have e3:=(a6G e).2.2.1
 unfold a2C at e3
 have:=List.find?_eq_none.mp e3 t ht
 have no:(rs.any λ r=>has t.1 r && has t.2 r)=false:=by
  rw [List.any_eq_false]
  intro r hr z
  rw [Bool.and_eq_true] at z
  exact h r hr ⟨of_decide_eq_true z.1,of_decide_eq_true z.2⟩
 rw [no] at this
 simp at this
theorem c0R {n:Nat} {ts:List ζζ} {rs:List Row} {v s t:Nat} (vn:v < n) (hs:s < rs.length) (ss:a3G rs (v:Int) s=true) (ht:t < rs.length) (tt:a3G rs (v:Int) t=true) (ne:s≠t):a2T n ts rs ≠ .ok:=λ e=>by
 have e4:=(a6G e).2.2.2
 refine ne (b0Q (v:=(v:Int)) ?_ hs ss ht tt)
 unfold a2B at e4
 have:=List.findSome?_eq_none_iff.mp e4 v (List.mem_range.mpr vn)
 have z:a4O rs (v:Int)=none:=Option.map_eq_none_iff.mp this
 unfold a4O at z
 cases e5:a3D rs (v:Int) with
 | nil=>exact Nat.zero_le _
 | cons x r =>
  cases r with
  | nil=>exact Nat.le_refl _
  | cons y r =>
   rw [e5] at z
   cases z
def RowE (H:Hp) (v:V) (r:Row):Prop:=∃ p b,v = .ref p/\H p=some (.tup [upV r.1,.ref b])/\H b=some (.lst (r.2.map V.int))/\r.2.length<=1000
theorem RowE.same {H H':Hp} {v:V} {r:Row} (s:Same H H') (h:RowE H v r):RowE H' v r:=by
 obtain ⟨p,b,e,h1,h2,z⟩:=h
 exact ⟨p,b,e,s _ _ h1,s _ _ h2,z⟩
theorem RowE.v {K:Φρ} {H:Hp} {v:V} {r:Row} (h:RowE H v r):RowV K H v r:=by
 obtain ⟨p,b,e,h1,h2,z⟩:=h
 exact ⟨p,b,e,SqT.of h1,SqL.of h2,z⟩
def RowsE (H:Hp) (a:Addr) (rs:List Row):Prop:=∃ xs,H a=some (.lst xs)/\Paired (RowE H) xs rs
theorem RowsE.same {H H':Hp} {a:Addr} {rs:List Row} (s:Same H H') (h:RowsE H a rs):RowsE H' a rs:=by
 obtain ⟨xs,h1,p⟩:=h
 exact ⟨xs,s _ _ h1,Paired.mapP p λ _ _ h=>h.same s⟩
theorem RowsE.at {K:Φρ} {H:Hp} {a:Addr} {rs:List Row} (h:RowsE H a rs) (l:rs.length<=1000):RowsAt K H a rs:=by
 obtain ⟨xs,h1,p⟩:=h
 exact ⟨xs,SqL.of h1,Paired.mapP p λ _ _ h=>h.v,l⟩
theorem andQ {a b:TT} {σ:St} {H:Hp} {Q:Bool->Hp->Prop} {c1 c2:Bool} (h1:∀ Q:Bool->Hp->Prop,Q c1 H->a σ H Q) (h2:∀ Q:Bool->Hp->Prop,Q c2 H->b σ H Q) (h:Q (c1 && c2) H):tAnd a b σ H Q:=by
 refine h1 _ ?_
 cases c1 with
 | false=>exact iteF h
 | true=>exact iteT (h2 _ h)
theorem d0W {n:Int} {ls:List Int} (h:(∀ v∈ls,0<=v/\v < n)->ls.Pairwise (· < ·)->False):setF n ls=false:=Bool.eq_false_iff.mpr λ e=>h ((a3U _ _).mp e).1 ((a3U _ _).mp e).2
theorem d2P {a:Nat} {u:Int} (h:u < 0\/(a:Int)<=u):upOk a (some u)=false:=by
 unfold upOk
 by_cases c:a=0
 ·rw [if_pos c]; rfl
 ·rw [if_neg c]
  unfold a5W
  simp
  omega
theorem b5X {H:Hp} {vs:List V} {ts:List ζζ} (h:Paired (TieL H) vs ts):∀ l:List Nat,(∀ i∈l,i < ts.length)->Paired (TieL H) (l.map λ i=>vs.getD i .non) (l.map λ i=>ts.getD i (0,0))
 | [],_=>.nil
 | i::l,hl=>by
  obtain ⟨x,hx,q⟩:=a0Y h (List.getElem?_eq_getElem (hl i List.mem_cons_self))
  refine .cons ?_ (b5X h l λ j hj=>hl j (List.mem_cons_of_mem _ hj))
  dsimp only
  rw [τα,hx,τα,List.getElem?_eq_getElem (hl i List.mem_cons_self)]
  exact q
theorem d0X {K:Φρ} {H:Hp} {yt:List V} {ts:List ζζ} (pT:Paired (TieL H) yt ts) (l:ts.length<=60) :
  ∃ ls:List (List Int),Paired (TupV K H) yt ls/\(∀ ns∈ls,ns≠[])/\yt.length < 64/\∀ (q:List Nat) r H',q.Perm (List.range yt.length)->(q.map λ i=>ls.getD i []).Pairwise (λ a b=>¬ b < a)->New H r (.lst (q.map λ i=>yt.getD i .non)) H' ->
   ∃ ts' xs,New H r (.lst xs) H'/\Paired (TieL H') xs ts'/\(∀ t,t∈ts'↔t∈ts)/\xs.length<=60:=by
 have ly:=Paired.length pT
 have toV:∀ {vs:List V} {us:List ζζ},Paired (TieL H) vs us->Paired (TupV K H) vs (us.map λ t=>[t.1,t.2]):=λ {vs us} h=>by
  induction h with
  | nil=>exact .nil
  | cons a _ ih =>
   obtain ⟨p,e,hp⟩:=a
   exact .cons ⟨p,e,SqT.of hp⟩ ih
 refine ⟨_,toV pT,(λ ns h=>by obtain ⟨t,_,rfl⟩:=List.mem_map.mp h; exact λ z=>by cases z),by omega,λ qq p8 H8 pq srt n8=>?_⟩
 have P8:=b5X (Paired.mapP pT λ _ _ h=>TieL.same n8.same h) qq (λ i hi=>by rw [<- ly]; exact List.mem_range.mp (pq.mem_iff.mp hi))
 refine ⟨_,_,n8,P8,λ t=>⟨λ ht=>?_,λ ht=>?_⟩,?_⟩
 ·obtain ⟨i,hi,rfl⟩:=List.mem_map.mp ht
  have:=List.mem_range.mp (pq.mem_iff.mp hi)
  rw [τα,List.getElem?_eq_getElem (by omega)]
  exact List.getElem_mem _
 ·obtain ⟨i,hi,rfl⟩:=List.getElem_of_mem ht
  exact List.mem_map.mpr ⟨i,pq.mem_iff.mpr (List.mem_range.mpr (by omega)),by rw [τα,List.getElem?_eq_getElem hi]; rfl⟩
 rw [List.length_map,pq.length_eq,List.length_range]
 omega
theorem b4F (xs:List V) (k:Nat):cutV xs none (some (k:Int))=xs.take k:=by
 unfold cutV
 rw [HT.sIx_nat,show HT.sIx xs.length 0 none=0 from rfl,List.drop_zero,Nat.sub_zero]
 rcases Nat.le_total k xs.length with c | c
 ·rw [Nat.min_eq_left c]
 ·rw [Nat.min_eq_right c,List.take_of_length_le (Nat.le_refl _),List.take_of_length_le c]
theorem b4G (xs:List V) (k:Nat):cutV xs (some (k:Int)) none=xs.drop k:=by
 unfold cutV
 rw [HT.sIx_nat,show HT.sIx xs.length xs.length none=xs.length from rfl]
 rcases Nat.le_total k xs.length with c | c
 ·rw [Nat.min_eq_left c,List.take_of_length_le (by rw [List.length_drop]; exact Nat.le_refl _)]
 ·rw [Nat.min_eq_right c,List.drop_of_length_le (Nat.le_refl _),List.drop_of_length_le c,List.take_nil]
abbrev a8S:Stmt:=top 50
theorem b3A:FnScope ["_law_rows_here", "_law_v"] ["_law_rows_here", "_law_v"] (a0F a8S):=⟨rfl,rfl,rfl,by decide +kernel,rfl,by decide +kernel,by decide +kernel⟩
abbrev a3X:Stmt:=top 51
theorem sc__law_spoiled:FnScope ["_law_script", "_law_n", "_law_ties_here", "_law_rows_here", "_law_kind", "_law_pick", "_law_free", "_law_a", "_law_b", "_law_lone", "_law_k", "_law_long"] ["_law_script", "_law_n", "_law_ties_here", "_law_rows_here"] (a0F a3X):=⟨rfl,rfl,rfl,by decide +kernel,rfl,by decide +kernel,by decide +kernel⟩
def a8T (rs:List Row) (v:Int):List Row:=rs.map λ r=>(r.1,r.2.filter λ u=>decide (u≠v))
def d0Y (K:Φρ):Sp:=λ vs H Q _=>∃ (l:Addr) (v:Int) (rs:List Row),vs=[.ref l,.int v]/\RowsE H l rs/\rs.length<=100/\∀ p H',Same H H'->RowsE H' p (a8T rs v)->Q (.ref p) H'
def c0S (K:Φρ):Sp:=λ vs H Q _=>∃ (a t l:Addr) (ns:List Int) (n:Nat) (xs:List V) (ts:List ζζ) (rs:List Row),vs=[.ref a,.int n,.ref t,.ref l]/\Scr K H a ns/\ns.length<=63/\H t=some (.lst xs)/\Paired (TieL H) xs ts/\ts.length<=45/\RowsE H l rs/\Tree n rs/\rs.length<=13/\n<=10/\(∀ H',Same H H'->Q .non H') /\
 ∀ p t' l' ts' rs' H',Same H H'->H' p=some (.lst [.ref t',.ref l'])->TiesAt K H' t' ts'->ts'.length<=60->RowsAt K H' l' rs'->rs'.length<=100->a2T n ts' rs' ≠ .ok->Q (.ref p) H'
theorem b7C {rs:List Row} {r:Row} (h:r∈rs):∃ k,k < rs.length/\a0I rs k=r:=by
 obtain ⟨k,hk,e⟩:=List.getElem_of_mem h
 refine ⟨k,hk,?_⟩
 unfold a0I
 rw [τα,List.getElem?_eq_getElem hk,<- e]
 rfl
def b4H (rs:List Row) (k:Nat) (r:Row):List Row:=rs.take k++[r]++rs.drop (k+1)
theorem a4X {rs:List Row} {k:Nat} {r:Row} (h:k < rs.length):(b4H rs k r).length=rs.length:=by
 unfold b4H
 rw [List.length_append,List.length_append,List.length_take,List.length_drop]
 show min _ _+1+_=_
 omega
theorem c0T {rs:List Row} {k:Nat} {r:Row} (h:k < rs.length):a0I (b4H rs k r) k=r:=by
 unfold b4H a0I
 rw [τα,List.getElem?_append_left (by rw [List.length_append,List.length_take]; show _ < min _ _+1; omega),List.getElem?_append_right (by rw [List.length_take]; omega),List.length_take,show k - min k rs.length=0 by omega]
 rfl
theorem a8U {F:V->Row->Prop} {ys:List V} {rs:List Row} {x:V} {r:Row} (k:Nat) (h:Paired F ys rs) (hr:F x r):Paired F (ys.take k++[x]++ys.drop (k+1)) (b4H rs k r):=Sm.paired_app (a0Z (Sm.paired_take k h) hr) (Sm.paired_drop (k+1) h)
section
variable {P:Program} {w:World} {K:Φρ} {mg:Str->Option Value} {base:Heap}
abbrev DZ3 (K:PySem.W.Frag) (mg:Str->Option Value):=Dn K mg "_law_lost" a8S ["_law_rows_here", "_law_v"]
set_option maxHeartbeats 8000000 in
theorem b3B (B:Bl mg) (dZ3:DZ3 K mg):FnOk P w K mg base CX0 1 dZ3.f dZ3.fd ["_law_rows_here", "_law_v"] (d0Y K):=by
 refine dZ3.F.ok b3A (λ vs H Q E h=>?_) (λ cdv A outer s H vs Q E hr h=>?_)
 ·obtain ⟨l,v,rs,rfl,_⟩:=h
  rfl
 obtain ⟨l,v,rs,rfl,hR,l100,q⟩:=h
 obtain ⟨ys,hy,hpr⟩:=id hR
 have ly:ys.length=rs.length:=Paired.length hpr
 refine ⟨_,(a0E (a0P (a2P ["_law_row", "_law_v"] [none,some 1]  (by kernel_rfl) rfl (a1A (K:=K) rfl (pv 0)) (λ _ _ _ _ _=>(a0H (i:=0) (show (["_law_row", "_law_v"]:List Str).Nodup by decide +kernel) rfl (Or.inl rfl))) (λ _ _ _ _ _=>a1V) (λ _ _ _ _ _=>(a0T (a0A (a1B (a0X (K:=K) rfl) (pv 0) a0D (λ _ _=>rfl)) (a0A (a2P ["_law_one", "_law_v"] [none,some 1]  (by kernel_rfl) rfl (a1A (K:=K) rfl (a1B (a0X (K:=K) rfl) (pv 0) a0D (λ _ _=>rfl))) (λ _ _ _ _ _=>(a0H (i:=0) (show (["_law_one", "_law_v"]:List Str).Nodup by decide +kernel) rfl (Or.inl rfl))) (λ _ _ _ _ _=>(a2U (a0J b7P (pv 0) (pv 1) (a0S _)))) (λ _ _ _ _ _=>(pv 0))) a0B))))))),?_⟩
 refine ⟨_,rfl,l,rfl,⟨_,SqL.of hy⟩,?_⟩
 refine a3T (K:=K) (a:=l) (xs:=ys) (λ i zs G=>Same H G/\Paired (RowE G) zs ((a8T rs v).take i)) ⟨Same.refl _,.nil⟩ (λ i zs G hi ⟨s,p⟩=>⟨SqL.of (s _ _ hy),?_⟩) (λ i x zs G hx ⟨s,p⟩=>?_) ?_
 ·have:=Paired.length p
  rw [this,List.length_take]
  unfold a8T
  rw [List.length_map]
  exact Nat.le_of_lt (a0W (by omega))
 ·obtain ⟨r,hr,pp,b,rfl,hT,hb,hz⟩:=a0U hpr hx
  refine ⟨_,rfl,pp,_,_,_,rfl,rfl,SqT.of (s _ _ hT),rfl,_,rfl,pp,_,_,_,rfl,rfl,SqT.of (s _ _ hT),rfl,b,rfl,⟨_,SqL.of (s _ _ hb)⟩,?_⟩
  refine a7Y (λ x=>match x with | .int u=>if decide (u≠v)=true then some (.int u) else none | _=>none) (SqL.of (s _ _ hb)) (by rw [List.length_map]; exact hz) (λ x H2 N hx s2 hN=>?_) (λ H2 p3 H3 s2 n3=>?_)
  ·obtain ⟨y,hy,rfl⟩:=List.mem_map.mp hx
   have hN':=hN H2 s2
   refine ⟨_,rfl,_,rfl,rfl,_,rfl,?_⟩
   rw [show (!decide (V.int y=V.int v))=decide (y≠v) by
    by_cases c:y=v
    ·rw [c]; simp
    ·rw [decide_eq_false (λ z=>c (V.int.inj z)),decide_eq_true c]; rfl]
   dsimp only at hN'
   cases d:decide (y≠v) with
   | true=>rw [d] at hN'; exact iteT ⟨_,rfl,hN'⟩
   | false=>rw [d] at hN'; exact iteF hN'
  have e3:(r.2.map V.int).filterMap (λ x=>match x with | .int u=>if decide (u≠v)=true then some (V.int u) else none | _=>none)=(r.2.filter λ u=>decide (u≠v)).map V.int:=c4L r.2 λ u=>decide (u≠v)
  rw [e3] at n3
  refine ⟨(by show 2<=1000; decide),λ p4 H4 n4=>?_⟩
  have s4:=s2.trans (n3.same.trans n4.same)
  refine ⟨s.trans s4,?_⟩
  have e4:(a8T rs v)[i]?=some (r.1,r.2.filter λ u=>decide (u≠v)):=by unfold a8T; rw [List.getElem?_map,hr]; rfl
  rw [List.take_succ,e4]
  exact a0Z (Paired.mapP p λ _ _ h=>h.same s4) ⟨p4,p3,rfl,n4.here,n4.same _ _ n3.here,Nat.le_trans (List.length_filter_le _ _) hz⟩
 intro zs G ⟨s,p⟩ pm hpm
 have ll:(a8T rs v).length=ys.length:=by unfold a8T; rw [List.length_map,ly]
 rw [<- ll,List.take_length] at p
 have n:=New.mk0 (o:=.lst zs) hpm
 exact q pm _ (s.trans n.same) ⟨zs,n.here,Paired.mapP p λ _ _ h=>h.same n.same⟩
abbrev DZ6 (K:PySem.W.Frag) (mg:Str->Option Value):=Dn K mg "_law_spoiled" a3X ["_law_script", "_law_n", "_law_ties_here", "_law_rows_here"]
set_option maxHeartbeats 8000000 in
theorem a8V (B:Bl mg) (dZ0:DZ0 K mg) (dZ3:DZ3 K mg) (dZ6:DZ6 K mg):FnOk P w K mg base CX0 2 dZ6.f dZ6.fd ["_law_script", "_law_n", "_law_ties_here", "_law_rows_here"] (c0S K):=by
 have gZ0:FnOk P w K mg base CX0 1 _ _ _ _:=a4A B dZ0
 have gZ3:FnOk P w K mg base CX0 1 _ _ _ _:=b3B B dZ3
 refine dZ6.F.ok sc__law_spoiled (λ vs H Q E h=>?_) (λ cdv A outer s H vs Q E hr h=>?_)
 ·obtain ⟨a,t,l,ns,n,xs,ts,rs,rfl,_⟩:=h
  rfl
 obtain ⟨a,t,l,ns,n,xs,ts,rs,rfl,hS,h63,ht,hp,l45,hR,T,l13,n10,q0,q⟩:=h
 have hv:(A.deeper (PyProof.Rows.envOfC "_law_spoiled" (a0F a3X) s.heap.objs.size dZ6.f cdv)).units+65 < cLine:=by have:=hr.un; omega
 obtain ⟨ys,hy,hpr⟩:=id hR
 have ly:ys.length=rs.length:=Paired.length hpr
 refine ⟨_,(a0C (a0Q (i:=4) sc__law_spoiled.nd rfl (Or.inl rfl) (a0R a2E (a0K gZ0 hr rfl dZ0.m dZ0.F.kp dZ0.b .nil a1I (a0A (pv 0) (a0A a0D a0B))) a0D))
   (a0C (a0Q (i:=5) sc__law_spoiled.nd rfl (Or.inr rfl) (a0K gZ0 hr rfl dZ0.m dZ0.F.kp dZ0.b .nil a1I (a0A (pv 0) (a0A a0D a0B))))
   (a0C (a0Q (i:=6) sc__law_spoiled.nd rfl (Or.inl rfl) (a0O a0B))
   (a0C (a2Z PassesOwn.never rfl (a2O rfl B.range (a0A (pv 1) a0B)) (a0H (i:=7) sc__law_spoiled.nd rfl (Or.inr rfl))
   (a0E (a2Z PassesOwn.never rfl (a4M rfl B.range (a0A (a0R a2I (pv 7) a0D) (a0A (pv 1) a0B))) (a0H (i:=8) sc__law_spoiled.nd rfl (Or.inr rfl))
   (a0E (a1O (a0J a5P (a0G (a0L (K:=K) rfl) rfl B.len (by decide +kernel) (a0A (a2P ["_law_row", "_law_a", "_law_b"] [none,some 7,some 8]  (by kernel_rfl) rfl (a1A (K:=K) rfl (pv 3)) (λ _ _ _ _ _=>(a0H (i:=0) (show (["_law_row", "_law_a", "_law_b"]:List Str).Nodup by decide +kernel) rfl (Or.inl rfl))) (λ _ _ _ _ _=>(a2U (PW.pt (a3I (a0J (a2V (K:=K) rfl hv) (pv 1) (a1B (a0X (K:=K) rfl) (pv 0) a0D (λ _ _=>rfl)) (by with_unfolding_all rfl)) (a3B (a0J (a2V (K:=K) rfl hv) (pv 2) (a1B (a0X (K:=K) rfl) (pv 0) a0D (λ _ _=>rfl)) (by with_unfolding_all rfl))))))) (λ _ _ _ _ _=>(pv 0))) a0B)) a0D (a0S _))
   (a0E (a3C (a5V (K:=K) rfl PySem.F.plainAttrs_list PySem.F.slot_list_append PySem.F.type_list_append a2M (pv 6) (a0A (a0T (a0A (pv 7) (a0A (pv 8) a0B))) a0B))))
   a0N)))))
   (a0C (a1O (PW.pt (a3I (a0J a5P (pv 4) a0D (a0S _)) (a3B (a0J a4Y (a0G (a0L (K:=K) rfl) rfl B.len (by decide +kernel) (a0A (pv 6) a0B)) a0D (a0S _)))))
   (a0E (a0P (a0O (a0A (a0G (b2B (K:=K) rfl) rfl B.sorted (by decide +kernel) (a0A (a0R a1R (pv 2) (a0O (a0A (a1B (a0V (K:=K) rfl) (pv 6) (a0R a2E (pv 5) (a0G (a0L (K:=K) rfl) rfl B.len (by decide +kernel) (a0A (pv 6) a0B))) (λ _ _=>rfl)) a0B))) a0B)) (a0A (pv 3) a0B)))))
   a0N)
   (a0C (a1O (PW.pt (a3I (a0J a5P (pv 4) a0D (a0S _)) (a3B (a0J a4Y (pv 1) a0D (a0S _)))))
   (a0E (a0P (a0O (a0A (a2P ["_law_tie", "_law_pick", "_law_n"] [none,some 5,some 1]  (by kernel_rfl) rfl (a1A (K:=K) rfl (pv 2)) (λ _ _ _ _ _=>(a0H (i:=0) (show (["_law_tie", "_law_pick", "_law_n"]:List Str).Nodup by decide +kernel) rfl (Or.inl rfl))) (λ _ _ _ _ _=>(a2U (a0J (a9N (K:=K) rfl) (a0R a2E (pv 1) (pv 2)) (pv 0) (by with_unfolding_all rfl)))) (λ _ _ _ _ _=>(pv 0))) (a0A (a0K gZ3 hr rfl dZ3.m dZ3.F.kp dZ3.b .nil a1I (a0A (pv 3) (a0A (a0R a2E (pv 5) (pv 1)) a0B))) a0B)))))
   a0N)
   (a3K (a1O (PW.pt (a3I (a0J a5P (pv 4) a0D (a0S _)) (a3B (a0J a4Y (pv 1) a0D (a0S _)))))
   (a0C (a7L (i:=9) ["_law_k", "_law_pick", "_law_n", "_law_rows_here"] [none,some 5,some 1,some 3] sc__law_spoiled.nd rfl rfl (by kernel_rfl) rfl (a2O rfl B.range (a0A (a0G (a0L (K:=K) rfl) rfl B.len (by decide +kernel) (a0A (pv 3) a0B)) a0B)) (λ _ _ _ _ _=>(a0H (i:=0) (show (["_law_k", "_law_pick", "_law_n", "_law_rows_here"]:List Str).Nodup by decide +kernel) rfl (Or.inl rfl))) (λ _ _ _ _ _=>(a2U (a0J (a2G (K:=K) rfl hv) (a0R a2E (pv 1) (pv 2)) (a1B (a0X (K:=K) rfl) (a1B (a0V (K:=K) rfl) (pv 3) (pv 0) (λ _ _=>rfl)) a0D (λ _ _=>rfl)) (by with_unfolding_all rfl)))) (λ _ _ _ _ _=>(pv 0)) (by rfl))
   (a0E (a1O (a0J a4Y (a0G (a0L (K:=K) rfl) rfl B.len (by decide +kernel) (a0A (pv 9) a0B)) a0D (a0S _))
   (a0E (a0P (a0O (a0A (pv 2) (a0A (a0R a1R (pv 3) (a0O (a0A (a0T (a0A (a1B (a0V (K:=K) rfl) (pv 9) (a0R a2E (a0R b7L (pv 5) a0D) (a0G (a0L (K:=K) rfl) rfl B.len (by decide +kernel) (a0A (pv 9) a0B))) (λ _ _=>rfl)) (a0A (a0O (a0A (a0R a2E (pv 5) (pv 1)) a0B)) a0B))) a0B))) a0B)))))
   a0N)))
   a0N)
   (a0C (a1O (a0J a5P (pv 4) a0D (a0S _))
   (a0C (a0Q (i:=10) sc__law_spoiled.nd rfl (Or.inl rfl) (a0R a2E (pv 5) (a0G (a0L (K:=K) rfl) rfl B.len (by decide +kernel) (a0A (pv 3) a0B))))
   (a0E (a0P (a0O (a0A (pv 2) (a0A (a0R a1R (a0R a1R (a1Z (a2J (K:=K) rfl) (pv 3) a2K (a2L (pv 10))) (a0O (a0A (a0T (a0A (a0R a2I (pv 10) (a0R a2E (a0R b7L (pv 5) a0D) a0D)) (a0A (a1B (a0X (K:=K) rfl) (a1B (a0V (K:=K) rfl) (pv 3) (pv 10) (λ _ _=>rfl)) a0D (λ _ _=>rfl)) a0B))) a0B))) (a1Z (a2J (K:=K) rfl) (pv 3) (a2L (a0R a2I (pv 10) a0D)) a2K)) a0B))))))
   a0N)
   (a3K (a1O (a0J a5P (pv 4) a0D (a0S _))
   (a0C (a7L (i:=11) ["_law_k", "_law_rows_here"] [none,some 3] sc__law_spoiled.nd rfl rfl (by kernel_rfl) rfl (a2O rfl B.range (a0A (a0G (a0L (K:=K) rfl) rfl B.len (by decide +kernel) (a0A (pv 3) a0B)) a0B)) (λ _ _ _ _ _=>(a0H (i:=0) (show (["_law_k", "_law_rows_here"]:List Str).Nodup by decide +kernel) rfl (Or.inl rfl))) (λ _ _ _ _ _=>(a2U (a0J a4Y (a0G (a0L (K:=K) rfl) rfl B.len (by decide +kernel) (a0A (a1B (a0X (K:=K) rfl) (a1B (a0V (K:=K) rfl) (pv 1) (pv 0) (λ _ _=>rfl)) a0D (λ _ _=>rfl)) a0B)) a0D (a0S _)))) (λ _ _ _ _ _=>(pv 0)) (by rfl))
   (a0E (a1O (a0J a4Y (a0G (a0L (K:=K) rfl) rfl B.len (by decide +kernel) (a0A (pv 11) a0B)) a0D (a0S _))
   (a0C (a0Q (i:=10) sc__law_spoiled.nd rfl (Or.inl rfl) (a1B (a0V (K:=K) rfl) (pv 11) (a0R a2E (pv 5) (a0G (a0L (K:=K) rfl) rfl B.len (by decide +kernel) (a0A (pv 11) a0B))) (λ _ _=>rfl)))
   (a0E (a0P (a0O (a0A (pv 2) (a0A (a0R a1R (a0R a1R (a1Z (a2J (K:=K) rfl) (pv 3) a2K (a2L (pv 10))) (a0O (a0A (a0T (a0A (a1B (a0X (K:=K) rfl) (a1B (a0V (K:=K) rfl) (pv 3) (pv 10) (λ _ _=>rfl)) a0D (λ _ _=>rfl)) (a0A (d0C (K:=K) rfl (a1B (a0X (K:=K) rfl) (a1B (a0V (K:=K) rfl) (pv 3) (pv 10) (λ _ _=>rfl)) a0D (λ _ _=>rfl))) a0B))) a0B))) (a1Z (a2J (K:=K) rfl) (pv 3) (a2L (a0R a2I (pv 10) a0D)) a2K)) a0B))))))
   a0N)))
   a0N)
   (a0C (a1O (a0J a5P (pv 4) a0D (a0S _))
   (a0E (a0P (a0O (a0A (pv 2) (a0A (a0O a0B) a0B)))))
   a0N)
   (a0E (a0P a1N)))))))))))),?_⟩
 refine ⟨_,rfl,a,ns,4,rfl,hS,h63,by decide,by decide,λ z4=>⟨_,_,rfl,rfl,(show (0:Int) < 8 by decide),?_⟩⟩
 dsimp only
 generalize z4 % 8=kd
 refine ⟨_,rfl,a,ns,5,rfl,hS,h63,by decide,by decide,λ pick=>?_⟩
 refine ⟨(by show 0<=1000; decide),λ pf H0 n0=>?_⟩
 refine ⟨_,rfl,_,rfl,by omega,by omega,?_⟩
 rw [Int.toNat_natCast]
 refine a3A (n:=n) (λ i σ H2=>∃ (aa bb:Option V) (fx:List V) (fs:List ζζ),σ=[some (.ref a),some (.int n),some (.ref t),some (.ref l),some (.int kd),some (.int pick),some (.ref pf),aa,bb,none,none,none]/\Same H H2/\H2 pf=some (.lst fx)/\Paired (TieL H2) fx fs/\fs.length<=10*i/\∀ f∈fs,∀ r∈rs,¬ (f.1∈r.2/\f.2∈r.2)) ⟨none,none,[],[],rfl,n0.same,n0.here,.nil,Nat.zero_le _,λ f h=>absurd h List.not_mem_nil⟩ ?_ ?_
 ·rintro i σ H2 hi ⟨aa,bb,fx,fs,rfl,sm,h2,hp2,hz,no⟩
  refine ⟨_,rfl,_,_,rfl,rfl,_,rfl,_,_,rfl,⟨by omega,by omega,by omega,by omega⟩,?_⟩
  refine a3A (n:=_) (λ j σ H3=>∃ (bb:Option V) (fx:List V) (fs:List ζζ),σ=[some (.ref a),some (.int n),some (.ref t),some (.ref l),some (.int kd),some (.int pick),some (.ref pf),some (.int (0+(i:Int))),bb,none,none,none]/\Same H H3/\H3 pf=some (.lst fx)/\Paired (TieL H3) fx fs/\fs.length<=10*i+j/\∀ f∈fs,∀ r∈rs,¬ (f.1∈r.2/\f.2∈r.2)) ⟨bb,fx,fs,rfl,sm,h2,hp2,hz,no⟩ ?_ ?_
  ·rintro j σ H3 hj ⟨bb,fx,fs,rfl,sm,h3,hp3,hz,no⟩
   generalize eav:(0+(i:Int))=av
   generalize ebv:(av+1+(j:Int))=bv
   refine ⟨_,rfl,l,rfl,⟨_,SqL.of (sm _ _ hy)⟩,?_⟩
   refine a9O (λ k=>if (rs[k]?).any (λ r=>has av r && has bv r)=true then ys[k]? else none) (SqL.of (sm _ _ hy)) (by omega) (λ j' x H4 N hj' s4 hN=>?_) (λ H4 p4 H5 s4 n4=>?_)
   ·obtain ⟨rr,hrr,⟨pp,b,rfl,hT,hb,_⟩⟩:=a0U hpr hj'
    have s04:=sm.trans s4
    have hN':=hN H4 s4
    rw [hrr,hj'] at hN'
    refine ⟨_,rfl,_,rfl,pp,_,_,_,rfl,rfl,SqT.of (s04 _ _ hT),rfl,a4I (SqL.of (s04 _ _ hb)) ⟨_,rfl,?_⟩⟩
    refine ite2 (λ c=>?_) (λ c=>?_)
    ·refine ⟨_,rfl,_,rfl,pp,_,_,_,rfl,rfl,SqT.of (s04 _ _ hT),rfl,a4I (SqL.of (s04 _ _ hb)) ⟨_,rfl,?_⟩⟩
     refine ite2 (λ d=>?_) (λ d=>?_)
     ·rw [if_pos (by show (has av rr && has bv rr)=true; unfold has; rw [c,d]; rfl)] at hN'
      exact ⟨_,rfl,hN'⟩
     ·rw [if_neg (by show ¬ (has av rr && has bv rr)=true; unfold has; rw [Bool.eq_false_iff.mpr d]; simp)] at hN'
      exact hN'
    ·refine iteF ?_
     rw [if_neg (by show ¬ (has av rr && has bv rr)=true; unfold has; rw [Bool.eq_false_iff.mpr c]; simp)] at hN'
     exact hN'
   have s35:=s4.trans n4.same
   have s05:=sm.trans s35
   have h5:=s35 _ _ h3
   have hp5:=Paired.mapP hp3 λ _ _ h=>TieL.same s35 h
   refine ⟨p4,_,rfl,.inl (SqL.of n4.here),rfl,_,rfl,ite2 (λ cc=>?_) (λ cc=>⟨_,fx,fs,rfl,s05,h5,hp5,by omega,no⟩)⟩
   have cc':=V.int.inj (of_decide_eq_true cc)
   have none_:∀ r∈rs,¬ (av∈r.2/\bv∈r.2):=by
    intro r hr ⟨h1,h2⟩
    obtain ⟨j,hj,e⟩:=List.getElem_of_mem hr
    have e0:=List.eq_nil_of_length_eq_zero (by omega:((List.range ys.length).filterMap λ k=>if (rs[k]?).any (λ r=>has av r && has bv r)=true then ys[k]? else none).length=0)
    have:=List.filterMap_eq_nil_iff.mp e0 j (List.mem_range.mpr (by omega))
    rw [List.getElem?_eq_getElem hj,e] at this
    rw [if_pos (by show (has av r && has bv r)=true; unfold has; rw [decide_eq_true h1,decide_eq_true h2]; rfl),List.getElem?_eq_getElem (by omega)] at this
    cases this
   have lf:=Paired.length hp3
   refine ⟨_,rfl,.inl ⟨rfl,_,SqL.of h5⟩,_,rfl,_,rfl,(by show 2<=1000; decide),λ p6 H6 n6=>?_⟩
   have h6:=n6.same _ _ h5
   refine ⟨pf,_,_,rfl,rfl,h6,(by omega),λ H7 c7=>?_⟩
   refine ⟨_,fx++[.ref p6],fs++[(av,bv)],rfl,(s05.trans n6.same).chg n0.fresh c7,c7.here,a0Z (Paired.mapP hp5 λ v t q=>(TieL.same n6.same q).chg h6 c7) (TieL.chg h6 c7 ⟨p6,rfl,n6.here⟩),by rw [List.length_append]; show _+1<=_; omega,λ f hf=>?_⟩
   rcases List.mem_append.mp hf with hf | hf
   ·exact no f hf
   ·rw [List.mem_singleton.mp hf]; exact none_
  ·rintro σ H3 ⟨bb,fx,fs,rfl,sm,h3,hp3,hz,no⟩
   exact ⟨_,bb,fx,fs,rfl,sm,h3,hp3,by omega,no⟩
 rintro σ H2 ⟨aa,bb,fx,fs,rfl,sm,h2,hp2,hz,no⟩
 have lf:=Paired.length hp2
 have lx:=Paired.length hp
 have tA:∀ {H1:Hp},Same H H1->TiesAt K H1 t ts:=λ s=>⟨xs,SqL.of (s _ _ ht),Paired.mapP hp λ _ _ h=>(TieL.same s h).v,by omega⟩
 try dsimp only [b7I,tSeq,tIfS]
 refine andQ (c1:=decide (V.int kd=V.int 1)) (c2:=decide ((0:Int) < ((fx.length:Nat):Int))) ?_ ?_ ?_
 ·exact λ Q h=>⟨_,rfl,rfl,_,rfl,h⟩
 ·exact λ Q h=>⟨_,rfl,pf,_,rfl,.inl (SqL.of h2),_,_,rfl,rfl,_,rfl,h⟩
 refine ite2 (λ cc=>?_) (λ _=>?_)
 ·have f0:(0:Int) < ((fx.length:Nat):Int):=of_decide_eq_true (Bool.and_eq_true _ _ ▸ cc).2
  have m0:=Int.emod_nonneg pick (show ((fx.length:Nat):Int)≠0 by omega)
  have m1:=Int.emod_lt_of_pos pick f0
  obtain ⟨k,ek⟩:∃ k:Nat,pick % ((fx.length:Nat):Int)=(k:Int):=⟨(pick % ((fx.length:Nat):Int)).toNat,by omega⟩
  have kl:k < fs.length:=by omega
  obtain ⟨x,hx,p6,rfl,h6⟩:=a0Y hp2 (List.getElem?_eq_getElem kl)
  refine ⟨_,rfl,_,rfl,_,rfl,_,rfl,pf,_,rfl,.inl (SqL.of h2),_,_,rfl,rfl,f0,?_⟩
  dsimp only
  rw [ek]
  refine ⟨pf,_,_,_,rfl,rfl,SqL.of h2,a1M hx,(by show 1<=1000; decide),λ p7 H7 n7=>?_⟩
  have s07:=sm.trans n7.same
  refine ⟨t,p7,_,_,rfl,rfl,s07 _ _ ht,n7.here,by show _+1<=_; omega,λ p8 H8 n8=>?_⟩
  have s08:=s07.trans n8.same
  have hp8:Paired (TieL H8) (xs++[.ref p6]) (ts++[fs[k]]):=a0Z (Paired.mapP hp λ _ _ h=>TieL.same s08 h) ⟨p6,rfl,n8.same _ _ (n7.same _ _ h6)⟩
  obtain ⟨ls,a1,a2,a3,a4⟩:=d0X (K:=K) hp8 (by rw [List.length_append]; show _+1<=60; omega)
  refine ⟨p8,_,ls,rfl,SqL.of n8.here,a1,a2,a3,λ qq rt H9 b1 b2 b3=>?_⟩
  obtain ⟨ts',xs',n9,pts,mem,lxs⟩:=a4 qq rt H9 b1 b2 b3
  clear a1 a2 a3 a4 b1 b2 b3
  refine ⟨_,rfl,(by show 2<=1000; decide),λ p10 H10 n10'=>?_⟩
  have l':=Paired.length pts
  have s10:=s08.trans (n9.same.trans n10'.same)
  refine q p10 rt l ts' rs H10 s10 n10'.here ⟨xs',SqL.of (n10'.same _ _ n9.here),Paired.mapP pts λ _ _ h=>(TieL.same n10'.same h).v,by omega⟩ (by omega) ((hR.same s10).at (by omega)) (by omega) ?_
  exact c7R (t:=fs[k]) ((mem _).mpr (List.mem_append_right _ (List.mem_singleton.mpr rfl))) (no _ (List.getElem_mem kl))
 try dsimp only [b7I,tSeq,tIfS]
 refine andQ (c1:=decide (V.int kd=V.int 2)) (c2:=decide ((0:Int) < (n:Int))) ?_ ?_ ?_
 ·exact λ Q h=>⟨_,rfl,rfl,_,rfl,h⟩
 ·exact λ Q h=>⟨_,rfl,_,_,rfl,rfl,_,rfl,h⟩
 refine ite2 (λ cc=>?_) (λ _=>?_)
 ·have p0:(0:Int) < (n:Int):=of_decide_eq_true (Bool.and_eq_true _ _ ▸ cc).2
  have m0:=Int.emod_nonneg pick (show (n:Int)≠0 by omega)
  have m1:=Int.emod_lt_of_pos pick p0
  refine ⟨_,rfl,t,rfl,⟨_,SqL.of (sm _ _ ht)⟩,?_⟩
  refine a3T (K:=K) (a:=t) (xs:=xs) (λ i zs G=>∃ us:List ζζ,Paired (TieL G) zs us/\us.length<=i/\Same H2 G) ⟨[],.nil,Nat.le_refl _,Same.refl _⟩ (λ i zs G hi ⟨us,p,lu,s⟩=>⟨SqL.of (s _ _ (sm _ _ ht)),?_⟩) (λ i x zs G hx ⟨us,p,lu,s⟩=>?_) (λ zs G ⟨us,p,lu,s⟩ p3 hp3=>?_)
  ·rw [Paired.length p]; exact Nat.le_of_lt (a0W (by omega))
  ·obtain ⟨tt,htt,pp,rfl,hT⟩:=a0U hp hx
   have hT':=s _ _ (sm _ _ hT)
   refine ⟨_,rfl,_,rfl,_,_,rfl,rfl,p0,_,rfl,?_⟩
   refine ⟨pp,_,rfl,.inr (SqT.of hT'),rfl,rfl,_,rfl,ite2 (λ _=>⟨_,rfl,us++[tt],a0Z p ⟨pp,rfl,hT'⟩,by rw [List.length_append]; show _+1<=_; omega,s⟩) (λ _=>⟨us,p,by omega,s⟩)⟩
  have n3:=New.mk0 (o:=.lst zs) hp3
  generalize upd G p3 (.lst zs)=H3 at n3 ⊢
  have s03:=sm.trans (s.trans n3.same)
  refine ⟨_,rfl,_,rfl,_,rfl,_,_,rfl,rfl,p0,l,pick % (n:Int),rs,rfl,hR.same s03,by omega,λ p4 H4 s4 hR4=>⟨(by show 2<=1000; decide),λ p5 H5 n5=>?_⟩⟩
  have s35:=s4.trans n5.same
  have lu':=Paired.length p
  refine q p5 p3 p4 us (a8T rs (pick % (n:Int))) H5 (s03.trans s35) n5.here ⟨zs,SqL.of (s35 _ _ n3.here),Paired.mapP p λ _ _ h=>(TieL.same (n3.same.trans s35) h).v,by omega⟩ (by omega) ((hR4.same n5.same).at (by unfold a8T; rw [List.length_map]; omega)) (by unfold a8T; rw [List.length_map]; omega) ?_
  refine c0Q (v:=(pick % (n:Int)).toNat) (by omega) λ r hr=>?_
  unfold a8T at hr
  obtain ⟨r0,_,rfl⟩:=List.mem_map.mp hr
  rw [show (((pick % (n:Int)).toNat:Nat):Int)=pick % (n:Int) by omega]
  intro z
  exact absurd rfl (of_decide_eq_true (List.mem_filter.mp z).2)
 refine ⟨λ σ' H'=>Same H H'/\∃ o6 o7 o8 o9:Option V,σ'=[some (.ref a),some (.int n),some (.ref t),some (.ref l),some (.int kd),some (.int pick),o6,o7,o8,o9,none,none],?_,?_⟩
 ·try dsimp only [b7I,tSeq,tIfS]
  refine andQ (c1:=decide (V.int kd=V.int 3)) (c2:=decide ((0:Int) < (n:Int))) ?_ ?_ ?_
  ·exact λ Q h=>⟨_,rfl,rfl,_,rfl,h⟩
  ·exact λ Q h=>⟨_,rfl,_,_,rfl,rfl,_,rfl,h⟩
  refine ite2 (λ cc=>?_) (λ _=>⟨sm,_,_,_,_,rfl⟩)
  have p0:(0:Int) < (n:Int):=of_decide_eq_true (Bool.and_eq_true _ _ ▸ cc).2
  have m0:=Int.emod_nonneg pick (show (n:Int)≠0 by omega)
  have m1:=Int.emod_lt_of_pos pick p0
  have hy2:=sm _ _ hy
  refine ⟨_,rfl,l,_,rfl,.inl (SqL.of hy2),_,rfl,by omega,by omega,?_⟩
  rw [Int.toNat_natCast]
  refine a5T (λ i zs G=>∃ js:List Nat,zs=natV js/\js.length<=i/\(∀ j∈js,j < rs.length/\pick % (n:Int) ∉ (a0I rs j).2)/\Same H2 G) ⟨[],rfl,Nat.le_refl _,λ j h=>absurd h List.not_mem_nil,Same.refl _⟩ (λ i zs G hi ⟨js,e,lj,_⟩=>?_) (λ i zs G hi ⟨js,e,lj,al,s⟩=>?_) ?_
  ·rw [e,List.length_map]; exact Nat.le_of_lt (a0W (by omega))
  ·rw [show ((0:Int)+(i:Int))=((i:Nat):Int) by omega]
   have il:i < rs.length:=by omega
   obtain ⟨x,hx,pp,b,rfl,hT,hb,_⟩:=a0Y hpr (a1W il)
   have s0:=sm.trans s
   refine ⟨_,rfl,_,rfl,_,_,rfl,rfl,p0,_,rfl,_,rfl,l,_,_,_,rfl,rfl,SqL.of (s0 _ _ hy),a1M hx,pp,_,_,_,rfl,rfl,SqT.of (s0 _ _ hT),rfl,a5Y (SqL.of (s0 _ _ hb)) ⟨_,rfl,ite2 (λ c=>?_) (λ _=>⟨js,e,by omega,al,s⟩)⟩⟩
   refine ⟨_,rfl,js++[i],by rw [e]; unfold natV; rw [List.map_append]; rfl,by rw [List.length_append]; show _+1<=_; omega,λ j hj=>?_,s⟩
   rcases List.mem_append.mp hj with hj | hj
   ·exact al j hj
   ·rw [List.mem_singleton.mp hj]
    refine ⟨il,λ z=>?_⟩
    rw [decide_eq_true z] at c
    cases c
  rintro zs G ⟨js,rfl,lj,al,s⟩ p9 hp9
  have n9:=New.mk0 (o:=.lst (natV js)) hp9
  generalize upd G p9 (.lst (natV js))=H9 at n9 ⊢
  have s29:=s.trans n9.same
  have s09:=sm.trans s29
  have ln:(natV js).length=js.length:=List.length_map _
  refine ⟨_,rfl,p9,_,rfl,.inl (SqL.of n9.here),_,_,rfl,rfl,_,rfl,ite2 (λ c=>?_) (λ _=>⟨s09,_,_,_,_,rfl⟩)⟩
  have j0:(0:Int) < (((natV js).length:Nat):Int):=of_decide_eq_true c
  have k0:=Int.emod_nonneg (pick / 11) (show (((natV js).length:Nat):Int)≠0 by omega)
  have k1:=Int.emod_lt_of_pos (pick / 11) j0
  obtain ⟨k,ek⟩:∃ k:Nat,pick / 11 % (((natV js).length:Nat):Int)=(k:Int):=⟨(pick / 11 % (((natV js).length:Nat):Int)).toNat,by omega⟩
  have kl:k < js.length:=by omega
  have hx:(natV js)[k]?=some (.int ((js[k]:Nat):Int)):=by unfold natV; rw [List.getElem?_map,List.getElem?_eq_getElem kl]; rfl
  obtain ⟨jl,jv⟩:=al _ (List.getElem_mem kl)
  refine ⟨_,rfl,_,rfl,_,rfl,_,rfl,_,_,rfl,rfl,⟨by omega,by omega⟩,_,rfl,p9,_,rfl,.inl (SqL.of n9.here),_,_,rfl,rfl,j0,?_⟩
  dsimp only
  rw [ek]
  refine ⟨p9,_,_,_,rfl,rfl,SqL.of n9.here,a1M hx,_,rfl,_,rfl,_,_,rfl,rfl,p0,(by show 1<=1000; decide),λ p10 H10 n10'=>⟨(by show 2<=1000; decide),λ p11 H11 n11=>⟨(by show 1<=1000; decide),λ p12 H12 n12=>?_⟩⟩⟩
  have s012:=s09.trans (n10'.same.trans (n11.same.trans n12.same))
  refine ⟨l,p12,_,_,rfl,rfl,s012 _ _ hy,n12.here,by show _+1<=_; omega,λ p13 H13 n13=>⟨(by show 2<=1000; decide),λ p14 H14 n14=>?_⟩⟩
  have s1114:=n12.same.trans (n13.same.trans n14.same)
  have s014:=s012.trans (n13.same.trans n14.same)
  refine q p14 t p13 ts (rs++[(some ((js[k]:Nat):Int),[pick % (n:Int)])]) H14 s014 n14.here (tA s014) (by omega) (RowsE.at ⟨_,n14.same _ _ n13.here,a0Z (Paired.mapP hpr λ _ _ h=>h.same s014) ⟨p11,p10,rfl,s1114 _ _ n11.here,s1114 _ _ (n11.same _ _ n10'.here),by show 1<=1000; decide⟩⟩ (by rw [List.length_append]; show _+1<=_; omega)) (by rw [List.length_append]; show _+1<=_; omega) ?_
  obtain ⟨r0,hr0,hv0⟩:=T.cov _ m0 m1
  obtain ⟨j0',hj0,er0⟩:=b7C hr0
  obtain ⟨tp,htp,top⟩:=c4N (v:=pick % (n:Int)) (a8K T.ok) j0' hj0 (by rw [er0]; exact hv0)
  have e1:=Int.toNat_of_nonneg m0
  have ra:a0I (rs++[(some ((js[k]:Nat):Int),[pick % (n:Int)])]) rs.length=(some ((js[k]:Nat):Int),[pick % (n:Int)]):=by unfold a0I; rw [τα,List.getElem?_append_right (Nat.le_refl _),Nat.sub_self]; rfl
  have rb:∀ j,j < rs.length->a0I (rs++[(some ((js[k]:Nat):Int),[pick % (n:Int)])]) j=a0I rs j:=λ j hj=>by unfold a0I; rw [τα,List.getElem?_append_left hj,<- τα]
  refine c0R (v:=(pick % (n:Int)).toNat) (s:=tp) (t:=rs.length) (by omega) (by rw [List.length_append]; show _ < _+1; omega) ?_ (by rw [List.length_append]; show _ < _+1; omega) ?_ (by omega)
  ·rw [e1]
   have h:=isTop_iff.mp top
   refine isTop_iff.mpr ⟨by rw [rb tp (by omega)]; exact h.1,?_⟩
   rw [rb tp (by omega)]
   have hh:=h.2
   cases eu:(a0I rs tp).1 with
   | none=>rfl
   | some u =>
    rw [eu] at hh
    have hu:=a8K T.ok tp (by omega) u eu
    unfold a6M at hh ⊢
    dsimp only at hh ⊢
    rw [rb _ (by omega)]
    exact hh
  ·rw [e1]
   refine isTop_iff.mpr ⟨by rw [ra]; exact List.mem_singleton.mpr rfl,?_⟩
   rw [ra]
   unfold a6M
   dsimp only
   rw [Int.toNat_natCast,rb _ jl]
   exact decide_eq_false jv
 rintro σ H3 ⟨s3,o6,o7,o8,o9,rfl⟩
 have hy3:=s3 _ _ hy
 have lp:=T.pos
 refine ⟨_,rfl,rfl,_,rfl,ite2 (λ _=>?_) (λ _=>?_)⟩
 ·have ep:(0:Int) < ((ys.length:Nat):Int):=by omega
  have a0:=Int.emod_nonneg pick (show ((ys.length:Nat):Int)≠0 by omega)
  have a1:=Int.emod_lt_of_pos pick ep
  refine ⟨_,rfl,_,rfl,l,_,rfl,.inl (SqL.of hy3),_,_,rfl,rfl,ep,?_⟩
  obtain ⟨k,ek⟩:∃ k:Nat,pick % ((ys.length:Nat):Int)=(k:Int):=⟨(pick % ((ys.length:Nat):Int)).toNat,by omega⟩
  dsimp only
  rw [ek]
  have kl:k < rs.length:=by omega
  obtain ⟨x,hx,pp,b,rfl,hT,hb,hz⟩:=a0Y hpr (a1W kl)
  refine ⟨_,rfl,_,rfl,_,rfl,_,rfl,l,_,rfl,SqL.of hy3,λ p4 H4 n4=>?_⟩
  rw [b4F] at n4
  have d0:=Int.emod_nonneg (pick / 13) (show (3:Int)≠0 by decide)
  have s04:=s3.trans n4.same
  refine ⟨_,rfl,_,rfl,_,_,rfl,rfl,⟨by omega,by omega⟩,_,_,rfl,rfl,(show (0:Int) < 3 by decide),_,_,rfl,rfl,_,rfl,_,rfl,l,_,_,_,rfl,rfl,SqL.of (s04 _ _ hy),a1M hx,pp,_,_,_,rfl,rfl,SqT.of (s04 _ _ hT),rfl,(by show 2<=1000; decide),λ p5 H5 n5=>⟨(by show 1<=1000; decide),λ p6 H6 n6=>?_⟩⟩
  have s46:=n5.same.trans n6.same
  refine ⟨p4,p6,_,_,rfl,rfl,s46 _ _ n4.here,n6.here,by rw [List.length_take]; show _+1<=_; omega,λ p7 H7 n7=>?_⟩
  have s07:=s04.trans (s46.trans n7.same)
  refine ⟨_,rfl,_,rfl,_,_,rfl,rfl,_,rfl,l,_,rfl,SqL.of (s07 _ _ hy),λ p8 H8 n8=>?_⟩
  rw [show (k:Int)+1=((k+1:Nat):Int) by omega,b4G] at n8
  refine ⟨p7,p8,_,_,rfl,rfl,n8.same _ _ n7.here,n8.here,by rw [List.length_append,List.length_take,List.length_drop]; show _+1+_<=_; omega,λ p9 H9 n9=>⟨(by show 2<=1000; decide),λ p10 H10 n10'=>?_⟩⟩
  have s510:=n6.same.trans (n7.same.trans (n8.same.trans (n9.same.trans n10'.same)))
  have s010:=s04.trans (n5.same.trans s510)
  refine q p10 t p9 ts (b4H rs k (some ((k:Int)+pick / 13 % 3),(a0I rs k).2)) H10 s010 n10'.here (tA s010) (by omega) (RowsE.at ⟨_,n10'.same _ _ n9.here,a8U k (Paired.mapP hpr λ _ _ h=>h.same s010) ⟨p5,b,rfl,s510 _ _ n5.here,s010 _ _ hb,hz⟩⟩ (by rw [a4X kl]; omega)) (by rw [a4X kl]; omega) ?_
  refine c0P (k:=k) (by rw [a4X kl]; omega) ?_
  unfold a2Q
  rw [c0T kl,d2P (.inr (by omega)),Bool.false_and]
 refine ⟨λ σ' H'=>Same H H'/\∃ o6 o7 o8 o9 o10 o11:Option V,σ'=[some (.ref a),some (.int n),some (.ref t),some (.ref l),some (.int kd),some (.int pick),o6,o7,o8,o9,o10,o11],?_,?_⟩
 ·refine ⟨_,rfl,rfl,_,rfl,ite2 (λ _=>?_) (λ _=>⟨s3,_,_,_,_,_,_,rfl⟩)⟩
  refine ⟨_,rfl,l,_,rfl,.inl (SqL.of hy3),_,rfl,by omega,by omega,?_⟩
  rw [Int.toNat_natCast]
  refine a5T (λ i zs G=>∃ js:List Nat,zs=natV js/\js.length<=i/\(∀ j∈js,j < rs.length/\1 < (a0I rs j).2.length)/\Same H3 G) ⟨[],rfl,Nat.le_refl _,λ j h=>absurd h List.not_mem_nil,Same.refl _⟩ (λ i zs G hi ⟨js,e,lj,_⟩=>?_) (λ i zs G hi ⟨js,e,lj,al,s⟩=>?_) ?_
  ·rw [e,List.length_map]; exact Nat.le_of_lt (a0W (by omega))
  ·rw [show ((0:Int)+(i:Int))=((i:Nat):Int) by omega]
   have il:i < rs.length:=by omega
   obtain ⟨x,hx,pp,b,rfl,hT,hb,_⟩:=a0Y hpr (a1W il)
   have s0:=s3.trans s
   refine ⟨_,rfl,_,rfl,l,_,_,_,rfl,rfl,SqL.of (s0 _ _ hy),a1M hx,pp,_,_,_,rfl,rfl,SqT.of (s0 _ _ hT),rfl,b,_,rfl,.inl (SqL.of (s0 _ _ hb)),_,_,rfl,rfl,_,rfl,ite2 (λ c=>?_) (λ _=>⟨js,e,by omega,al,s⟩)⟩
   refine ⟨_,rfl,js++[i],by rw [e]; unfold natV; rw [List.map_append]; rfl,by rw [List.length_append]; show _+1<=_; omega,λ j hj=>?_,s⟩
   rcases List.mem_append.mp hj with hj | hj
   ·exact al j hj
   ·rw [List.mem_singleton.mp hj]
    refine ⟨il,?_⟩
    have c':(1:Int) < ((((a0I rs i).2.map V.int).length:Nat):Int):=of_decide_eq_true c
    rw [List.length_map] at c'
    omega
  rintro zs G ⟨js,rfl,lj,al,s⟩ p9 hp9
  have n9:=New.mk0 (o:=.lst (natV js)) hp9
  generalize upd G p9 (.lst (natV js))=H9 at n9 ⊢
  have s29:=s.trans n9.same
  have s09:=s3.trans s29
  have ln:(natV js).length=js.length:=List.length_map _
  refine ⟨_,rfl,p9,_,rfl,.inl (SqL.of n9.here),_,_,rfl,rfl,_,rfl,ite2 (λ c=>?_) (λ _=>⟨s09,_,_,_,_,_,_,rfl⟩)⟩
  have j0:(0:Int) < (((natV js).length:Nat):Int):=of_decide_eq_true c
  have k0:=Int.emod_nonneg pick (show (((natV js).length:Nat):Int)≠0 by omega)
  have k1:=Int.emod_lt_of_pos pick j0
  obtain ⟨m,em⟩:∃ m:Nat,pick % (((natV js).length:Nat):Int)=(m:Int):=⟨(pick % (((natV js).length:Nat):Int)).toNat,by omega⟩
  have ml:m < js.length:=by omega
  have hx:(natV js)[m]?=some (.int ((js[m]:Nat):Int)):=by unfold natV; rw [List.getElem?_map,List.getElem?_eq_getElem ml]; rfl
  obtain ⟨kl,k2⟩:=al _ (List.getElem_mem ml)
  refine ⟨_,rfl,_,rfl,_,rfl,p9,_,rfl,.inl (SqL.of n9.here),_,_,rfl,rfl,j0,?_⟩
  dsimp only
  rw [em]
  refine ⟨p9,_,_,_,rfl,rfl,SqL.of n9.here,a1M hx,?_⟩
  generalize js[m]=k at kl k2 ⊢
  obtain ⟨x,hx,pp,b,rfl,hT,hb,hz⟩:=a0Y hpr (a1W kl)
  refine ⟨_,rfl,_,rfl,_,rfl,_,rfl,l,_,rfl,SqL.of (s09 _ _ hy),λ p4 H4 n4=>?_⟩
  rw [b4F] at n4
  have s04:=s09.trans n4.same
  refine ⟨_,rfl,_,rfl,l,_,_,_,rfl,rfl,SqL.of (s04 _ _ hy),a1M hx,pp,_,_,_,rfl,rfl,SqT.of (s04 _ _ hT),rfl,_,rfl,_,rfl,l,_,_,_,rfl,rfl,SqL.of (s04 _ _ hy),a1M hx,pp,_,_,_,rfl,rfl,SqT.of (s04 _ _ hT),rfl,b,_,rfl,SqL.of (s04 _ _ hb),λ pb Hb nb=>?_⟩
  rw [<- List.map_reverse] at nb
  refine ⟨(by show 2<=1000; decide),λ p5 H5 n5=>⟨(by show 1<=1000; decide),λ p6 H6 n6=>?_⟩⟩
  have s46:=nb.same.trans (n5.same.trans n6.same)
  refine ⟨p4,p6,_,_,rfl,rfl,s46 _ _ n4.here,n6.here,by rw [List.length_take]; show _+1<=_; omega,λ p7 H7 n7=>?_⟩
  have s07:=s04.trans (s46.trans n7.same)
  refine ⟨_,rfl,_,rfl,_,_,rfl,rfl,_,rfl,l,_,rfl,SqL.of (s07 _ _ hy),λ p8 H8 n8=>?_⟩
  rw [show (k:Int)+1=((k+1:Nat):Int) by omega,b4G] at n8
  refine ⟨p7,p8,_,_,rfl,rfl,n8.same _ _ n7.here,n8.here,by rw [List.length_append,List.length_take,List.length_drop]; show _+1+_<=_; omega,λ p9' H9' n9'=>⟨(by show 2<=1000; decide),λ p10 H10 n10'=>?_⟩⟩
  have s510:=n6.same.trans (n7.same.trans (n8.same.trans (n9'.same.trans n10'.same)))
  have s010:=s04.trans (nb.same.trans (n5.same.trans s510))
  refine q p10 t p9' ts (b4H rs k ((a0I rs k).1,(a0I rs k).2.reverse)) H10 s010 n10'.here (tA s010) (by omega) (RowsE.at ⟨_,n10'.same _ _ n9'.here,a8U k (Paired.mapP hpr λ _ _ h=>h.same s010) ⟨p5,pb,rfl,s510 _ _ n5.here,s510 _ _ (n5.same _ _ nb.here),by show (a0I rs k).2.reverse.length<=1000; rw [List.length_reverse]; exact hz⟩⟩ (by rw [a4X kl]; omega)) (by rw [a4X kl]; omega) ?_
  refine c0P (k:=k) (by rw [a4X kl]; omega) ?_
  unfold a2Q
  rw [c0T kl]
  have o:=T.ok k kl
  unfold a2Q at o
  rw [Bool.and_eq_true] at o
  obtain ⟨o1,o2⟩:=(a3U _ _).mp o.2
  rw [d0W (λ _ pw=>?_),Bool.and_false]
  obtain ⟨x,y,r,er⟩:∃ x y r,(a0I rs k).2=x::y::r:=by
   match e:(a0I rs k).2 with
   | []=>rw [e] at k2; cases k2
   | [x]=>rw [e] at k2; simp at k2
   | x::y::r=>exact ⟨x,y,r,rfl⟩
  rw [er] at pw o2
  have h1:=(List.pairwise_cons.mp o2).1 y List.mem_cons_self
  rw [List.reverse_cons,List.pairwise_append] at pw
  have h2:=pw.2.2 y (List.mem_reverse.mpr List.mem_cons_self) x (List.mem_singleton.mpr rfl)
  omega
 rintro σ H4 ⟨s4,o6,o7,o8,o9,o10,o11,rfl⟩
 refine ⟨_,rfl,rfl,_,rfl,ite2 (λ _=>?_) (λ _=>q0 _ s4)⟩
 refine ⟨_,rfl,(by show 0<=1000; decide),λ p5 H5 n5=>⟨(by show 2<=1000; decide),λ p6 H6 n6=>?_⟩⟩
 have s06:=s4.trans (n5.same.trans n6.same)
 exact q p6 t p5 ts [] H6 s06 n6.here (tA s06) (by omega) ⟨[],SqL.of (n6.same _ _ n5.here),.nil,by decide⟩ (by decide) c3P
end
end K
namespace K
open PySem L2 Lw Bg
abbrev a4U:Stmt:=top 52
theorem sc__law_class:FnScope ["_law_error", "_law_some", "_law_names"] ["_law_error"] (a0F a4U):=⟨rfl,rfl,rfl,by decide +kernel,rfl,by decide +kernel,by decide +kernel⟩
def a9G (k:Nat):List Bool:=(List.range 15).map λ i=>decide (i=k)
structure Cls15 (K:Φρ) (mg:Str->Option Value) (C:Cl K mg) (cc:Addr) (bs:List Bool):Prop where
 x:Xk K cc
 v:PySem.W.kitOne K (.ref cc) (.type "ValueError")=some true
 q0:PySem.W.kitOne K (.ref cc) (.ref C.NoGraph)=some (bs.getD 0 false)
 q1:PySem.W.kitOne K (.ref cc) (.ref C.NoPlace)=some (bs.getD 1 false)
 q2:PySem.W.kitOne K (.ref cc) (.ref C.NoTie)=some (bs.getD 2 false)
 q3:PySem.W.kitOne K (.ref cc) (.ref C.NoBag)=some (bs.getD 3 false)
 q4:PySem.W.kitOne K (.ref cc) (.ref C.NoTree)=some (bs.getD 4 false)
 q5:PySem.W.kitOne K (.ref cc) (.ref C.NoOrder)=some (bs.getD 5 false)
 q6:PySem.W.kitOne K (.ref cc) (.ref C.NoPart)=some (bs.getD 6 false)
 q7:PySem.W.kitOne K (.ref cc) (.ref C.NoSteps)=some (bs.getD 7 false)
 q8:PySem.W.kitOne K (.ref cc) (.ref C.TooWide)=some (bs.getD 8 false)
 q9:PySem.W.kitOne K (.ref cc) (.ref C.NoColours)=some (bs.getD 9 false)
 q10:PySem.W.kitOne K (.ref cc) (.ref C.NoWeights)=some (bs.getD 10 false)
 q11:PySem.W.kitOne K (.ref cc) (.ref C.NoNumber)=some (bs.getD 11 false)
 q12:PySem.W.kitOne K (.ref cc) (.ref C.NoName)=some (bs.getD 12 false)
 q13:PySem.W.kitOne K (.ref cc) (.ref C.NoText)=some (bs.getD 13 false)
 q14:PySem.W.kitOne K (.ref cc) (.ref C.NoRow)=some (bs.getD 14 false)
theorem c3Q {K:Φρ} {mg:Str->Option Value} (C:Cl K mg):Cls15 K mg C C.NoTree (a9G 4):=⟨C.k_NoTree,C.v_NoTree,C.q_NoTree_NoGraph,C.q_NoTree_NoPlace,C.q_NoTree_NoTie,C.q_NoTree_NoBag,C.q_NoTree_NoTree,C.q_NoTree_NoOrder,C.q_NoTree_NoPart,C.q_NoTree_NoSteps,C.q_NoTree_TooWide,C.q_NoTree_NoColours,C.q_NoTree_NoWeights,C.q_NoTree_NoNumber,C.q_NoTree_NoName,C.q_NoTree_NoText,C.q_NoTree_NoRow⟩
theorem c0U {K:Φρ} {mg:Str->Option Value} (C:Cl K mg):Cls15 K mg C C.NoSteps (a9G 7):=⟨C.k_NoSteps,C.v_NoSteps,C.q_NoSteps_NoGraph,C.q_NoSteps_NoPlace,C.q_NoSteps_NoTie,C.q_NoSteps_NoBag,C.q_NoSteps_NoTree,C.q_NoSteps_NoOrder,C.q_NoSteps_NoPart,C.q_NoSteps_NoSteps,C.q_NoSteps_TooWide,C.q_NoSteps_NoColours,C.q_NoSteps_NoWeights,C.q_NoSteps_NoNumber,C.q_NoSteps_NoName,C.q_NoSteps_NoText,C.q_NoSteps_NoRow⟩
theorem c3R {K:Φρ} {mg:Str->Option Value} (C:Cl K mg):Cls15 K mg C C.TooWide (a9G 8):=⟨C.k_TooWide,C.v_TooWide,C.q_TooWide_NoGraph,C.q_TooWide_NoPlace,C.q_TooWide_NoTie,C.q_TooWide_NoBag,C.q_TooWide_NoTree,C.q_TooWide_NoOrder,C.q_TooWide_NoPart,C.q_TooWide_NoSteps,C.q_TooWide_TooWide,C.q_TooWide_NoColours,C.q_TooWide_NoWeights,C.q_TooWide_NoNumber,C.q_TooWide_NoName,C.q_TooWide_NoText,C.q_TooWide_NoRow⟩
theorem b5Y {K:Φρ} {H:Hp}:∀ bs:List Bool,IsDs K H (bs.map V.bl) (bs.map PyData.bool)
 | []=>.nil
 | b::r=>.cons (.bl b) (b5Y r)
theorem c7S {X:Cx} {i:Nat} {x:Str} {es:List Expr} {t:TA} {p1 pos' pos:Pos} (hN:X.N.Nodup) (hi:X.N[i]?=some x) (hx:Loc X.env.scope x) (ha:PAw X es t) (hf:X.fn x=true):PS X (.Assign [.Name x pos'] (.List es p1) pos) (tAsg (c1S t) (b0B i)) :=
 a0Q hN hi hx (a0O ha.h) (by rfl) (.inl hf)
structure PSw (X:Cx) (s:Stmt) (t:TS):Prop where
 h:PS X s t
theorem c3S {X:Cx} {i:Nat} {x:Str} {es:List Expr} {t:TA} {p1 pos' pos:Pos} (hN:X.N.Nodup) (hi:X.N[i]?=some x) (hx:Loc X.env.scope x) (ha:PAw X es t) (hf:X.fn x=true):PSw X (.Assign [.Name x pos'] (.List es p1) pos) (tAsg (c1S t) (b0B i)):=⟨c7S hN hi hx ha hf⟩
structure PSsw (X:Cx) (ss:List Stmt) (t:TS):Prop where
 h:PSs X ss t
theorem b0X {X:Cx}:PSsw X [] b7I:=⟨a0N⟩
theorem a1F {X:Cx} {s:Stmt} {ss:List Stmt} {t:TS} {ts:TS} (h:PSw X s t) (hs:PSsw X ss ts):PSsw X (s::ss) (tSeq t ts):=⟨a0C h.h hs.h⟩
theorem c0V {K:Φρ} {H:Hp} {Q:VK} {σ:St} {a p:Addr} {bs:List Bool} (hA:SqL K H a (bs.map V.bl)) (hp:∃ C,H p=some (ExcO p C)) (l:bs.length<=100) (h:∀ r H',New H r (.lst ((bs.filter id).map V.bl)) H'->Q (.ref r) H') :
  a3J [none] (b0B 0) (tTru K (tVar 0)) (tVar 0) σ H Q (ItlH K a p):=by
 refine ⟨λ i m ys G=>G=H/\i<=bs.length/\m=bs.length - i/\ys=((bs.take i).filter id).map V.bl,⟨_,rfl,Nat.zero_le _,rfl,rfl⟩,?_⟩
 rintro i m ys G ⟨rfl,il,em,ey⟩
 have ly:ys.length<=sizeLine:=by
  rw [ey,List.length_map]
  have h1:=List.length_filter_le id (bs.take i)
  rw [List.length_take] at h1
  exact Nat.le_of_lt (a0W (by omega))
 by_cases c:i=bs.length
 ·refine .inl ⟨⟨⟨_,hA,by rw [List.length_map]; omega⟩,hp⟩,ly,λ r hr=>?_⟩
  rw [c,List.take_length] at ey
  subst ey
  exact h r _ (New.mk0 hr)
 ·have il':i < bs.length:=by omega
  refine .inr ⟨⟨_,V.bl bs[i],hA,by rw [List.getElem?_map,List.getElem?_eq_getElem il']; rfl⟩,ly,λ ys' G'=>G'=G/\ys'=((bs.take (i+1)).filter id).map V.bl,λ ys' G' e=>⟨bs.length - (i+1),by omega,e.1,by omega,rfl,e.2⟩,?_⟩
  rintro x G' ⟨rfl,hx⟩
  have ex:V.bl bs[i]=x:=by
   have:=hx _ hA
   rw [List.getElem?_map,List.getElem?_eq_getElem il'] at this
   exact Option.some.inj this
  subst ex
  have et:bs.take (i+1)=bs.take i++[bs[i]]:=List.take_succ_eq_append_getElem il'
  refine ⟨_,rfl,_,rfl,?_⟩
  rw [et,List.filter_append,List.map_append,<- ey]
  cases b:bs[i] with
  | true=>exact iteT ⟨_,rfl,rfl,rfl⟩
  | false=>exact iteF ⟨rfl,by simp⟩
theorem a7S {X:Cx} {s:Stmt} {ss:List Stmt} {t:TS} {ts:TS} (h:PSw X s t) (hs:PSsw X ss ts):PSsw X (s::ss) (tCut t ts):=⟨a3K h.h hs.h⟩
def c0W (K:Φρ) (mg:Str->Option Value) (C:Cl K mg):Sp:=λ vs H Q _=>∃ (p cc:Addr) (k:Nat) (z:Str),vs=[.ref p]/\H p=some (ExcO p cc)/\Cls15 K mg C cc (a9G k)/\(k=4/\z=Str.ofString "tree" \/ k=7/\z=Str.ofString "steps" \/ k=8/\z=Str.ofString "wide")/\∀ H',Same H H'->Q (.str z) H'
section
variable {P:Program} {w:World} {K:Φρ} {mg:Str->Option Value} {base:Heap}
abbrev DZ2 (K:PySem.W.Frag) (mg:Str->Option Value):=Dn K mg "_law_class" a4U ["_law_error"]
set_option maxHeartbeats 2000000 in
theorem a5F (B:Bl mg) (C:Cl K mg) (dZ2:DZ2 K mg):FnOkG P w K mg base 1 dZ2.f dZ2.fd ["_law_error"] (c0W K mg C):=by
 refine dZ2.F.okG sc__law_class (λ vs H Q E h=>?_) (λ cdv A outer s H vs Q E p hh hx hr h=>?_)
 ·obtain ⟨p,cc,k,z,rfl,_⟩:=h
  rfl
 obtain ⟨p',cc,k,z,rfl,hp,R,kz,q⟩:=h
 have hv:(A.deeper (PyProof.Rows.envOfC "_law_class" (a0F a4U) s.heap.objs.size dZ2.f cdv)).units+65 < cLine:=by have:=hr.un; omega
 refine ⟨_,(PSsw.h (a1F ⟨(a0Q (i:=1) sc__law_class.nd rfl (Or.inl rfl) (a0O (a0A (a0G (a1H (K:=K) rfl) rfl B.isinstance (by decide +kernel) (a0A (pv 0) (a0A (a2F (v:=.ref C.NoGraph) (u:=.ref C.NoGraph) rfl C.m_NoGraph rfl) a0B))) (a0A (a0G (a1H (K:=K) rfl) rfl B.isinstance (by decide +kernel) (a0A (pv 0) (a0A (a2F (v:=.ref C.NoPlace) (u:=.ref C.NoPlace) rfl C.m_NoPlace rfl) a0B))) (a0A (a0G (a1H (K:=K) rfl) rfl B.isinstance (by decide +kernel) (a0A (pv 0) (a0A (a2F (v:=.ref C.NoTie) (u:=.ref C.NoTie) rfl C.m_NoTie rfl) a0B))) (a0A (a0G (a1H (K:=K) rfl) rfl B.isinstance (by decide +kernel) (a0A (pv 0) (a0A (a2F (v:=.ref C.NoBag) (u:=.ref C.NoBag) rfl C.m_NoBag rfl) a0B))) a0B))))))⟩
   (a1F ⟨(a0Q (i:=1) sc__law_class.nd rfl (Or.inl rfl) (a0R a1R (pv 1) (a0O (a0A (a0G (a1H (K:=K) rfl) rfl B.isinstance (by decide +kernel) (a0A (pv 0) (a0A (a2F (v:=.ref C.NoTree) (u:=.ref C.NoTree) rfl C.m_NoTree rfl) a0B))) (a0A (a0G (a1H (K:=K) rfl) rfl B.isinstance (by decide +kernel) (a0A (pv 0) (a0A (a2F (v:=.ref C.NoOrder) (u:=.ref C.NoOrder) rfl C.m_NoOrder rfl) a0B))) (a0A (a0G (a1H (K:=K) rfl) rfl B.isinstance (by decide +kernel) (a0A (pv 0) (a0A (a2F (v:=.ref C.NoPart) (u:=.ref C.NoPart) rfl C.m_NoPart rfl) a0B))) a0B))))))⟩
   (a1F ⟨(a0Q (i:=1) sc__law_class.nd rfl (Or.inl rfl) (a0R a1R (pv 1) (a0O (a0A (a0G (a1H (K:=K) rfl) rfl B.isinstance (by decide +kernel) (a0A (pv 0) (a0A (a2F (v:=.ref C.NoSteps) (u:=.ref C.NoSteps) rfl C.m_NoSteps rfl) a0B))) (a0A (a0G (a1H (K:=K) rfl) rfl B.isinstance (by decide +kernel) (a0A (pv 0) (a0A (a2F (v:=.ref C.TooWide) (u:=.ref C.TooWide) rfl C.m_TooWide rfl) a0B))) (a0A (a0G (a1H (K:=K) rfl) rfl B.isinstance (by decide +kernel) (a0A (pv 0) (a0A (a2F (v:=.ref C.NoColours) (u:=.ref C.NoColours) rfl C.m_NoColours rfl) a0B))) a0B))))))⟩
   (a1F ⟨(a0Q (i:=1) sc__law_class.nd rfl (Or.inl rfl) (a0R a1R (pv 1) (a0O (a0A (a0G (a1H (K:=K) rfl) rfl B.isinstance (by decide +kernel) (a0A (pv 0) (a0A (a2F (v:=.ref C.NoWeights) (u:=.ref C.NoWeights) rfl C.m_NoWeights rfl) a0B))) (a0A (a0G (a1H (K:=K) rfl) rfl B.isinstance (by decide +kernel) (a0A (pv 0) (a0A (a2F (v:=.ref C.NoNumber) (u:=.ref C.NoNumber) rfl C.m_NoNumber rfl) a0B))) (a0A (a0G (a1H (K:=K) rfl) rfl B.isinstance (by decide +kernel) (a0A (pv 0) (a0A (a2F (v:=.ref C.NoName) (u:=.ref C.NoName) rfl C.m_NoName rfl) a0B))) a0B))))))⟩
   (a1F ⟨(a0Q (i:=1) sc__law_class.nd rfl (Or.inl rfl) (a0R a1R (pv 1) (a0O (a0A (a0G (a1H (K:=K) rfl) rfl B.isinstance (by decide +kernel) (a0A (pv 0) (a0A (a2F (v:=.ref C.NoText) (u:=.ref C.NoText) rfl C.m_NoText rfl) a0B))) (a0A (a0G (a1H (K:=K) rfl) rfl B.isinstance (by decide +kernel) (a0A (pv 0) (a0A (a2F (v:=.ref C.NoRow) (u:=.ref C.NoRow) rfl C.m_NoRow rfl) a0B))) a0B)))))⟩
   (a1F ⟨(a1O (PW.pt (c1G (a5B (a1L (K:=K) rfl (a0G (a1H (K:=K) rfl) rfl B.isinstance (by decide +kernel) (a0A (pv 0) (a0A (b3E (v:=.ty "ValueError") (u:=.type "ValueError") rfl B.ValueError (by decide +kernel) rfl) a0B))) (λ _=>rfl))) (b4K (a0J b7P (a0G (a0L (K:=K) rfl) rfl B.len (by decide +kernel) (a0A (d0A ["_law_one"] [none]  (by kernel_rfl) hh (c2R (K:=K) rfl (pv 1)) (λ _ _ _ _ _=>(a0H (i:=0) (show (["_law_one"]:List Str).Nodup by decide +kernel) rfl (Or.inl rfl))) (λ _ _ _ _ _=>(a2U (a1L (K:=K) rfl (pv 0) (λ _=>rfl)))) (λ _ _ _ _ _=>(pv 0))) a0B)) a0D (a0S _)))))
   (a0E (a0P a1D))
   a0N)⟩
   (a1F (c3S (i:=2) sc__law_class.nd rfl (Or.inl rfl) (a3O (a3O (a3O (a3O (a3O (a3O (a3O (a3O (a3O (a3O (a3O c6S))))))))))) rfl)
   (a1F ⟨(a0P (a1B (a0V (K:=K) rfl) (a0R a1R (pv 2) (a0O (a0A a1D (a0A a1D (a0A a1D (a0A a1D a0B)))))) (a5V (K:=K) rfl PySem.F.plainAttrs_list PySem.F.slot_list_index PySem.F.type_list_index (c6L (K:=K) rfl hv) (pv 1) (a0A b7H a0B)) (λ _ _=>rfl)))⟩
   b0X))))))))),?_⟩
 refine ⟨_,rfl,p',_,_,_,_,rfl,hp,R.x,rfl,R.q0,_,rfl,p',_,_,_,_,rfl,hp,R.x,rfl,R.q1,_,rfl,p',_,_,_,_,rfl,hp,R.x,rfl,R.q2,_,rfl,p',_,_,_,_,rfl,hp,R.x,rfl,R.q3,(by show 4<=1000; decide),λ r1 H1 n1=>?_⟩
 have h1:=n1.same _ _ hp
 refine ⟨_,rfl,_,rfl,p',_,_,_,_,rfl,h1,R.x,rfl,R.q4,_,rfl,p',_,_,_,_,rfl,h1,R.x,rfl,R.q5,_,rfl,p',_,_,_,_,rfl,h1,R.x,rfl,R.q6,(by show 3<=1000; decide),λ r2 H2 n2=>⟨r1,r2,_,_,rfl,rfl,n2.same _ _ n1.here,n2.here,(by show 7<=1000; decide),λ r3 H3 n3=>?_⟩⟩
 have h3:=n3.same _ _ (n2.same _ _ h1)
 refine ⟨_,rfl,_,rfl,p',_,_,_,_,rfl,h3,R.x,rfl,R.q7,_,rfl,p',_,_,_,_,rfl,h3,R.x,rfl,R.q8,_,rfl,p',_,_,_,_,rfl,h3,R.x,rfl,R.q9,(by show 3<=1000; decide),λ r4 H4 n4=>⟨r3,r4,_,_,rfl,rfl,n4.same _ _ n3.here,n4.here,(by show 10<=1000; decide),λ r5 H5 n5=>?_⟩⟩
 have h5:=n5.same _ _ (n4.same _ _ h3)
 refine ⟨_,rfl,_,rfl,p',_,_,_,_,rfl,h5,R.x,rfl,R.q10,_,rfl,p',_,_,_,_,rfl,h5,R.x,rfl,R.q11,_,rfl,p',_,_,_,_,rfl,h5,R.x,rfl,R.q12,(by show 3<=1000; decide),λ r6 H6 n6=>⟨r5,r6,_,_,rfl,rfl,n6.same _ _ n5.here,n6.here,(by show 13<=1000; decide),λ r7 H7 n7=>?_⟩⟩
 have h7:=n7.same _ _ (n6.same _ _ h5)
 refine ⟨_,rfl,_,rfl,p',_,_,_,_,rfl,h7,R.x,rfl,R.q13,_,rfl,p',_,_,_,_,rfl,h7,R.x,rfl,R.q14,(by show 2<=1000; decide),λ r8 H8 n8=>⟨r7,r8,_,_,rfl,rfl,n8.same _ _ n7.here,n8.here,(by show 15<=1000; decide),λ r9 H9 n9=>?_⟩⟩
 have s09:=n1.same.trans (n2.same.trans (n3.same.trans (n4.same.trans (n5.same.trans (n6.same.trans (n7.same.trans (n8.same.trans n9.same)))))))
 have h9:H9 r9=some (.lst ((a9G k).map V.bl)):=n9.here
 refine ⟨_,rfl,p',_,_,_,_,rfl,s09 _ _ hp,R.x,rfl,R.v,_,rfl,iteF ?_⟩
 refine ⟨_,rfl,r9,rfl,⟨_,SqL.of h9⟩,?_⟩
 refine c0V (bs:=a9G k) (SqL.of h9) (hx.imp λ C h=>s09 _ _ h) (by show 15<=100; decide) λ ra Ha na=>?_
 refine ⟨ra,_,rfl,.inl (SqL.of na.here),rfl,_,rfl,?_⟩
 have one:(((a9G k).filter id).map V.bl).length=1:=by rcases kz with ⟨rfl,_⟩ | ⟨rfl,_⟩ | ⟨rfl,_⟩ <;> rfl
 rw [one]
 refine iteF ?_
 refine ⟨(by show 11<=1000; decide),λ rb Hb nb=>?_⟩
 refine ⟨_,rfl,(by show 4<=1000; decide),λ rc Hc nc=>⟨rb,rc,_,_,rfl,rfl,nc.same _ _ nb.here,nc.here,(by show 15<=1000; decide),λ rd Hd nd=>?_⟩⟩
 have sd:=na.same.trans (nb.same.trans (nc.same.trans nd.same))
 have hd:=sd _ _ h9
 have k15:k < 15:=by rcases kz with ⟨rfl,_⟩ | ⟨rfl,_⟩ | ⟨rfl,_⟩ <;> decide
 have at_:PyData.eqv (((a9G k).map PyData.bool).getD k .none) (.bool true)=true:=by rcases kz with ⟨rfl,_⟩ | ⟨rfl,_⟩ | ⟨rfl,_⟩ <;> decide
 have be_:∀ m,m < k->PyData.eqv (((a9G k).map PyData.bool).getD m .none) (.bool true)=false:=by rcases kz with ⟨rfl,_⟩ | ⟨rfl,_⟩ | ⟨rfl,_⟩ <;> decide
 refine ⟨_,rfl,.inl ⟨rfl,_,SqL.of hd⟩,r9,_,_,.bool true,(a9G k).map PyData.bool,k,rfl,rfl,hd,.bl true,b5Y _,rfl,(λ e he=>?_),(by show 15<=1000; decide),(by show k < 15; exact k15),at_,be_,?_⟩
 ·obtain ⟨b,_,rfl⟩:=List.mem_map.mp he
  cases b <;> rfl
 have fin:=q Hd (s09.trans sd)
 refine ⟨rd,_,_,V.str z,rfl,rfl,SqL.of nd.here,?_,fin⟩
 rcases kz with ⟨rfl,rfl⟩ | ⟨rfl,rfl⟩ | ⟨rfl,rfl⟩ <;> rfl
end
end K
namespace K
open PySem L2 Lw Bg
def b5Z (K:Φρ) (nb:Addr):Sp:=λ vs H Q E=>∃ (g:V) (n:Nat) (ts:List ζζ) (a:Addr) (xs:List V) (ss:List Stp),vs=[g,.ref a]/\GraphV K H g n ts/\n<=10/\SqL K H a xs/\Paired (StpV K H) xs ss/\ss.length<=900/\sfF n ts ss (endR n ts ss) ≠ .ok/\∀ p H',Same H H'->H' p=none->E (.ref p) (some nb) H'
def c3T (K:Φρ) (nb:Addr):Sp:=λ vs H Q E=>∃ (g:V) (n:Nat) (ts:List ζζ) (a:Addr) (rs:List Row),vs=[g,.ref a]/\n<=1000/\GraphV K H g n ts/\RowsAt K H a rs/\a2T n ts rs ≠ .ok/\∀ p H',Same H H'->H' p=none->E (.ref p) (some nb) H'
def d0Z (K:Φρ) (nb:Addr):Sp:=λ vs H Q E=>∃ (a:Addr) (xs:List V) (rs:List Row),vs=[.ref a]/\SqL K H a xs/\Paired (λ v r=>∃ q,v = .ref q/\SqL K H q (r.2.map V.int)) xs rs/\rs.length<=900/\(∃ r∈rs,4 < r.2.length)/\∀ p H',Same H H'->H' p=none->E (.ref p) (some nb) H'
def c7T (K:Φρ) (nb:Addr):Sp:=λ vs H Q E=>∃ (g:V) (n:Nat) (ts:List ζζ) (a:Addr) (rs:List Row),vs=[g,.ref a]/\n<=10/\GraphV K H g n ts/\RowsAt K H a rs/\rs.length<=900/\a2T n ts rs = .ok/\(∃ r∈rs,4 < r.2.length)/\∀ p H',Same H H'->H' p=none->E (.ref p) (some nb) H'
theorem c3U {H:Hp} {v:V} {f:Flt} (h:f ≠ .ok) (hv:FltV H v f):v ≠ .non:=λ z=>by
 subst z
 cases f with
 | ok=>exact h rfl
 | _ =>
  obtain ⟨p,e,_⟩:=hv
  cases e
theorem c0X {H:Hp} {v:V} {f:SFlt} (h:f ≠ .ok) (hv:d0P H v f):v ≠ .non:=λ z=>by
 subst z
 cases f with
 | ok=>exact h rfl
 | _ =>
  obtain ⟨p,e,_⟩:=hv
  cases e
section
variable {P:Program} {w:World} {K:Φρ} {mg:Str->Option Value} {base:Heap}
set_option maxHeartbeats 4000000 in
theorem b0Y (B:Bl mg) (C:Cl K mg) (U:Used w K mg) (dZ19:DZ19 K mg) (dZ15:DZ15 K mg) (dZ20:DZ20 K mg) (dZ22:DZ22 K mg) (dZ11:DZ11 K mg) (dZ26:DZ26 K mg) (dZ14:DZ14 K mg) (dZ27:DZ27 K mg):FnOk P w K mg base (CXE P w) 5 dZ27.f dZ27.fd ["graph", "steps"] (b5Z K C.NoSteps):=by
 have gZ26:FnOk P w K mg base CX0 4 _ _ _ _:=c4P B U dZ19 dZ15 dZ20 dZ22 dZ11 dZ26
 have gZ14:FnOk P w K mg base CX0 4 _ _ _ _:=(a4R B dZ14).mono (by decide)
 refine dZ27.F.okE sc_run_whole (λ vs H Q E h=>?_) (λ cdv A outer s H vs Q E hr h=>?_)
 ·obtain ⟨g,n,ts,a,xs,ss,rfl,_⟩:=h
  rfl
 obtain ⟨g,n,ts,a,xs,ss,rfl,hG,n10,hA,pA,l900,bad,q⟩:=h
 refine ⟨_,(a0C (a6U (a0K gZ26 hr rfl dZ26.m dZ26.F.kp dZ26.b .nil a1I (a0A (pv 0) (a0A (pv 1) a0B))) (a2A (K:=K) (n:=3) rfl rfl (a0M (a0H (i:=2) sc_run_whole.nd rfl (Or.inl rfl)) (a0M (a0H (i:=3) sc_run_whole.nd rfl (Or.inl rfl)) (a0M (a0H (i:=4) sc_run_whole.nd rfl (Or.inl rfl)) a1X)))))
   (a0C (a1O (a0J a5I (a0K gZ14 hr rfl dZ14.m dZ14.F.kp dZ14.b .nil a1I (a0A (pv 0) (a0A (pv 1) (a0A (pv 2) (a0A (pv 4) a0B))))) a1N (a0S _))
   (a0E (a7P hr.hd rfl C.m_NoSteps C.k_NoSteps (a0A a1D a0B)))
   a0N)
   a4K)),?_⟩
 obtain ⟨i,il,I,_⟩:=c0B (n:=n) (ts:=ts) (ss:=ss) n10
 have pl:=I.pl
 refine ⟨_,rfl,_,rfl,g,n,ts,a,xs,ss,rfl,hG,n10,hA,pA,l900,λ r pt pf pp vt fs H1 s1 hr1 ft ff fp ht hf hp pv pf'=>?_⟩
 refine ⟨r,_,rfl,SqT.of hr1,rfl,_,_,rfl,_,_,rfl,_,_,rfl,rfl,?_⟩
 refine ⟨_,rfl,_,rfl,_,rfl,_,rfl,g,n,ts,a,pt,pp,xs,vt,ss,endR n ts ss,rfl,hG.same s1,n10,s1.seq hA,Paired.mapP pA λ _ _ h=>h.same s1,SqL.of ht,Paired.mapP pv λ _ _ h=>h.l,SqL.of hp.1,(λ j hj=>by rw [I.tl]; exact I.lt j hj),by omega,λ v H2 s2 fv=>?_⟩
 have vn:v ≠ .non:=c0X bad fv
 refine ⟨rfl,_,rfl,?_⟩
 rw [show (!decide (v=V.non))=true by rw [decide_eq_false vn]; rfl]
 exact iteT ⟨Nat.le_of_lt (a0W (by decide)),λ p hp=>q p H2 (s1.trans s2) hp⟩
set_option maxHeartbeats 4000000 in
theorem b4I (B:Bl mg) (C:Cl K mg) (U:Used w K mg) (dZ19:DZ19 K mg) (dZ15:DZ15 K mg) (dZ20:DZ20 K mg) (dZ22:DZ22 K mg) (dZ11:DZ11 K mg) (dZ26:DZ26 K mg) (dZ14:DZ14 K mg) (dZ27:DZ27 K mg) (dZ12:DZ12 K mg):FnOk P w K mg base (CXE P w) 6 dZ12.f dZ12.fd ["graph", "steps"] (b5Z K C.NoSteps):=by
 have GX_run_whole:FnOk P w K mg base (CXE P w) 5 _ _ _ _:=b0Y B C U dZ19 dZ15 dZ20 dZ22 dZ11 dZ26 dZ14 dZ27
 refine dZ12.F.okE sc_bags_of (λ vs H Q E h=>?_) (λ cdv A outer s H vs Q E hr h=>?_)
 ·obtain ⟨g,n,ts,a,xs,ss,rfl,_⟩:=h
  rfl
 obtain ⟨g,n,ts,a,xs,ss,rfl,hG,n10,hA,pA,l900,bad,q⟩:=h
 refine ⟨_,(a0C (a6U (a0K GX_run_whole hr rfl dZ27.m dZ27.F.kp dZ27.b .nil c6O (a0A (pv 0) (a0A (pv 1) a0B))) (a2A (K:=K) (n:=2) rfl rfl (a0M (a0H (i:=2) sc_bags_of.nd rfl (Or.inr rfl)) (a0M (a0H (i:=3) sc_bags_of.nd rfl (Or.inl rfl)) a1X))))
   a4K),?_⟩
 exact ⟨_,rfl,_,rfl,g,n,ts,a,xs,ss,rfl,hG,n10,hA,pA,l900,bad,q⟩
set_option maxHeartbeats 4000000 in
theorem a4V (B:Bl mg) (Ct:Cts mg) (C:Cl K mg) (dZ24:DZ24 K mg):FnOk P w K mg base (CXE P w) 1 dZ24.f dZ24.fd ["bags"] (d0Z K C.TooWide):=by
 refine dZ24.F.okE a5D (λ vs H Q E h=>?_) (λ cdv A outer s H vs Q E hr h=>?_)
 ·obtain ⟨a,xs,rs,rfl,_⟩:=h
  rfl
 obtain ⟨a,xs,rs,rfl,hx,hp,l9,⟨r0,hr0,w0⟩,q⟩:=h
 have lx:=Paired.length hp
 refine ⟨_,(a0C (a1O (a1L (K:=K) rfl (a0G (a5U (K:=K) rfl rfl) rfl B.any (by decide +kernel) (a0A (a2P ["bag"] [none]  (by kernel_rfl) rfl (a1A (K:=K) rfl (pv 0)) (λ _ _ _ _ _=>(a0H (i:=0) (show (["bag"]:List Str).Nodup by decide +kernel) rfl (Or.inl rfl))) (λ _ _ _ _ _=>a1V) (λ _ _ _ _ _=>(a3S a4Y (a0G (a0L (K:=K) rfl) rfl B.len (by decide +kernel) (a0A (pv 0) a0B)) (a2F (v:=.int 4) rfl Ct.m_MOST_IN_A_BAG Ct.r_MOST_IN_A_BAG) (a0S _)))) a0B)) (λ _=>rfl))
   (a0E (a7P hr.hd rfl C.m_TooWide C.k_TooWide (a0A a1D a0B)))
   a0N)
   a4K),?_⟩
 refine ⟨_,rfl,a,rfl,⟨_,hx⟩,?_⟩
 refine a9O (λ j=>some (.bl (decide (4 < (rs.getD j (none,[])).2.length)))) hx (by omega) (λ j x H3 N hj s3 hN=>?_) (λ H3 p H4 s3 nw=>?_)
 ·obtain ⟨r,hr1,⟨b,rfl,hb⟩⟩:=a0U hp hj
  refine ⟨_,rfl,b,_,rfl,.inl (s3.seq hb),_,_,rfl,rfl,?_⟩
  dsimp only
  have e:decide ((4:Int) < (((r.2.map V.int).length:Nat):Int))=decide (4 < (rs.getD j (none,[])).2.length):=by
   rw [τα,hr1,List.length_map]
   exact decide_eq_decide.mpr (by show _↔4 < r.2.length; omega)
  rw [e]
  exact hN H3 s3
 have e1:(List.range xs.length).filterMap (λ j=>some (V.bl (decide (4 < (rs.getD j (none,[])).2.length))))=((List.range rs.length).map λ j=>decide (4 < (rs.getD j (none,[])).2.length)).map V.bl:=by
  rw [lx,List.map_map]
  exact a4C λ _ _=>rfl
 rw [e1] at nw
 refine ⟨p,_,_,rfl,SqL.of nw.here,Truths.bls _,_,rfl,?_⟩
 have e2:((List.range rs.length).map λ j=>decide (4 < (rs.getD j (none,[])).2.length)).any id=true:=by
  obtain ⟨j,hj,rfl⟩:=List.getElem_of_mem hr0
  refine List.any_eq_true.mpr ⟨_,List.mem_map.mpr ⟨j,List.mem_range.mpr hj,rfl⟩,?_⟩
  rw [τα,List.getElem?_eq_getElem hj]
  exact decide_eq_true w0
 rw [e2]
 exact iteT ⟨Nat.le_of_lt (a0W (by decide)),λ p hp=>q p H4 (s3.trans nw.same) hp⟩
end
end K
namespace K
open PySem L2 Lw Bg
section
variable {P:Program} {w:World} {K:Φρ} {mg:Str->Option Value} {base:Heap}
set_option maxHeartbeats 4000000 in
theorem a9H (B:Bl mg) (Ct:Cts mg) (C:Cl K mg) (dZ19:DZ19 K mg) (dZ15:DZ15 K mg) (dZ17:DZ17 K mg) (dZ18:DZ18 K mg) (dZ25:DZ25 K mg) (dZ23:DZ23 K mg) (dZ32:DZ32 K mg) (dZ16:DZ16 K mg) (dZ9:DZ9 K mg) (dZ13:DZ13 K mg) (dZ24:DZ24 K mg) (dZ29:DZ29 K mg):FnOk P w K mg base (CXE P w) 14 dZ29.f dZ29.fd ["graph", "tree"] (c3T K C.NoTree):=by
 have gZ13:FnOk P w K mg base CX0 13 _ _ _ _:=(b0P B dZ19 dZ15 dZ17 dZ18 dZ25 dZ23 dZ32 dZ16 dZ9 dZ13).mono (by decide)
 have GX_refuse_wide:FnOk P w K mg base (CXE P w) 13 _ _ _ _:=(a4V B Ct C dZ24).mono (by decide)
 refine dZ29.F.okE sc_steps_of (λ vs H Q E h=>?_) (λ cdv A outer s H vs Q E hr h=>?_)
 ·obtain ⟨g,n,ts,a,rs,rfl,_⟩:=h
  rfl
 obtain ⟨g,n,ts,a,rs,rfl,nz,hG,hR,bad,q⟩:=h
 refine ⟨_,(a0C (a1O (a0J a5I (a0K gZ13 hr rfl dZ13.m dZ13.F.kp dZ13.b .nil a1I (a0A (pv 0) (a0A (pv 1) a0B))) a1N (a0S _))
   (a0E (a7P hr.hd rfl C.m_NoTree C.k_NoTree (a0A a1D a0B)))
   a0N)
   (a0C (a3C (a0K GX_refuse_wide hr rfl dZ24.m dZ24.F.kp dZ24.b .nil c6O (a0A (a2P ["up", "places"] [none,none]  (by kernel_rfl) rfl (a1A (K:=K) rfl (pv 1)) (λ _ _ _ _ _=>(a2A (K:=K) (n:=2) rfl rfl (a0M (a0H (i:=0) (show (["up", "places"]:List Str).Nodup by decide +kernel) rfl (Or.inl rfl)) (a0M (a0H (i:=1) (show (["up", "places"]:List Str).Nodup by decide +kernel) rfl (Or.inl rfl)) a1X)))) (λ _ _ _ _ _=>a1V) (λ _ _ _ _ _=>(pv 1))) a0B)))
   a4K)),?_⟩
 refine ⟨_,rfl,_,rfl,g,n,ts,a,rs,rfl,nz,hG,hR,λ v H1 s1 fv=>?_⟩
 have vn:v ≠ .non:=c3U bad fv
 refine ⟨rfl,_,rfl,?_⟩
 rw [show (!decide (v=V.non))=true by rw [decide_eq_false vn]; rfl]
 exact iteT ⟨Nat.le_of_lt (a0W (by decide)),λ p hp=>q p H1 s1 hp⟩
set_option maxHeartbeats 4000000 in
theorem a9I (B:Bl mg) (Ct:Cts mg) (C:Cl K mg) (dZ19:DZ19 K mg) (dZ15:DZ15 K mg) (dZ17:DZ17 K mg) (dZ18:DZ18 K mg) (dZ25:DZ25 K mg) (dZ23:DZ23 K mg) (dZ32:DZ32 K mg) (dZ16:DZ16 K mg) (dZ9:DZ9 K mg) (dZ13:DZ13 K mg) (dZ24:DZ24 K mg) (dZ29:DZ29 K mg):FnOk P w K mg base (CXE P w) 14 dZ29.f dZ29.fd ["graph", "tree"] (c7T K C.TooWide):=by
 have gZ13:FnOk P w K mg base CX0 13 _ _ _ _:=(b0P B dZ19 dZ15 dZ17 dZ18 dZ25 dZ23 dZ32 dZ16 dZ9 dZ13).mono (by decide)
 have GX_refuse_wide:FnOk P w K mg base (CXE P w) 13 _ _ _ _:=(a4V B Ct C dZ24).mono (by decide)
 refine dZ29.F.okE sc_steps_of (λ vs H Q E h=>?_) (λ cdv A outer s H vs Q E hr h=>?_)
 ·obtain ⟨g,n,ts,a,rs,rfl,_⟩:=h
  rfl
 obtain ⟨g,n,ts,a,rs,rfl,n10,hG,hR,l9,okF,big,q⟩:=h
 refine ⟨_,(a0C (a1O (a0J a5I (a0K gZ13 hr rfl dZ13.m dZ13.F.kp dZ13.b .nil a1I (a0A (pv 0) (a0A (pv 1) a0B))) a1N (a0S _))
   (a0E (a7P hr.hd rfl C.m_NoTree C.k_NoTree (a0A a1D a0B)))
   a0N)
   (a0C (a3C (a0K GX_refuse_wide hr rfl dZ24.m dZ24.F.kp dZ24.b .nil c6O (a0A (a2P ["up", "places"] [none,none]  (by kernel_rfl) rfl (a1A (K:=K) rfl (pv 1)) (λ _ _ _ _ _=>(a2A (K:=K) (n:=2) rfl rfl (a0M (a0H (i:=0) (show (["up", "places"]:List Str).Nodup by decide +kernel) rfl (Or.inl rfl)) (a0M (a0H (i:=1) (show (["up", "places"]:List Str).Nodup by decide +kernel) rfl (Or.inl rfl)) a1X)))) (λ _ _ _ _ _=>a1V) (λ _ _ _ _ _=>(pv 1))) a0B)))
   a4K)),?_⟩
 refine ⟨_,rfl,_,rfl,g,n,ts,a,rs,rfl,by omega,hG,hR,λ v H1 s1 fv=>?_⟩
 rw [okF] at fv
 obtain rfl:v = .non:=fv
 refine ⟨rfl,_,rfl,iteF ?_⟩
 obtain ⟨xs,hx,hp,hz⟩:=id hR
 have lx:=Paired.length hp
 refine ⟨_,rfl,a,rfl,⟨_,s1.seq hx⟩,?_⟩
 refine a3T (K:=K) (a:=a) (xs:=xs) (λ i ys H'=>Same H1 H'/\Paired (λ v r=>∃ q,v = .ref q/\SqL K H' q (r.2.map V.int)) ys (rs.take i)) ⟨Same.refl _,.nil⟩ (λ i ys H' hi ⟨s,p⟩=>⟨(s1.trans s).seq hx,?_⟩) (λ i x ys H' hi ⟨s,p⟩=>?_) (λ ys H2 ⟨s2,p2⟩ pb hpb=>?_)
 ·rw [Paired.length p,List.length_take]
  exact Nat.le_of_lt (a0W (by omega))
 ·obtain ⟨r,hr1,⟨pr,b,rfl,hT,hb,hbl⟩⟩:=a0U hp hi
  have et:rs.take (i+1)=rs.take i++[r]:=by rw [List.take_succ,hr1]; rfl
  refine ⟨pr,_,rfl,(s1.trans s).tupq hT,rfl,_,_,rfl,_,_,rfl,rfl,_,rfl,s,?_⟩
  rw [et]
  exact a0Z p ⟨b,rfl,(s1.trans s).seq hb⟩
 rw [lx,List.take_length] at p2
 have n3:New H2 pb (.lst ys) (upd H2 pb (.lst ys)):=New.mk0 hpb
 generalize upd H2 pb (.lst ys)=H3 at n3 ⊢
 exact ⟨pb,ys,rs,rfl,SqL.of n3.here,Paired.mapP p2 λ _ _ ⟨q,e,h⟩=>⟨q,e,n3.same.seq h⟩,l9,big,λ p H' s hp=>q p H' (s1.trans (s2.trans (n3.same.trans s))) hp⟩
end
end K
namespace K
open PySem L2 Lw Bg
theorem c4S {P:Program} {w:World} {K:Φρ} {mg:Str->Option Value} {base:Heap} {k:Nat} {f:Addr} {fd:FuncData} {ps:List Str} {sp:Sp} (F:FnOk P w K mg base CX0 k f fd ps sp):FnOk P w K mg base (CXE P w) k f fd ps sp :=
 ⟨F.len,λ A outer s H args us vs Q E hr he hb hv hs=>codeAny_mono (F.run A outer s H args us vs Q E hr he hb hv hs) λ r s' hq=>by
  cases r with
  | ok o=>cases o <;> exact hq
  | error e=>exact hq.elim⟩
theorem c7U {P:Program} {w:World} {K:Φρ} {mg:Str->Option Value} {base:Heap} {CX:CXT} {k:Nat} {f:Addr} {fd:FuncData} {ps:List Str} {sp sp':Sp} (F:FnOk P w K mg base CX k f fd ps sp) (G:FnOk P w K mg base CX k f fd ps sp'):FnOk P w K mg base CX k f fd ps (λ vs H Q E=>sp vs H Q E\/sp' vs H Q E) :=
 ⟨λ vs H Q E h=>h.elim (F.len vs H Q E) (G.len vs H Q E),λ A outer s H args us vs Q E hr he hb hv hs=>hs.elim (F.run A outer s H args us vs Q E hr he hb hv) (G.run A outer s H args us vs Q E hr he hb hv)⟩
abbrev a3F:Stmt:=top 53
theorem sc__law_steps_refused:FnScope ["_law_web", "_law_rows_here", "_law_refused", "_law_error"] ["_law_web", "_law_rows_here"] (a0F a3F):=⟨rfl,rfl,rfl,by decide +kernel,rfl,by decide +kernel,by decide +kernel⟩
abbrev a3P:Stmt:=top 54
theorem sc__law_bags_refused:FnScope ["_law_web", "_law_steps", "_law_refused", "_law_error"] ["_law_web", "_law_steps"] (a0F a3P):=⟨rfl,rfl,rfl,by decide +kernel,rfl,by decide +kernel,by decide +kernel⟩
def d1A (K:Φρ):Sp:=λ vs H Q _=>∃ (g:V) (n:Nat) (ts:List ζζ) (a:Addr) (rs:List Row),vs=[g,.ref a]/\GraphV K H g n ts/\n<=10/\RowsAt K H a rs/\rs.length<=900 /\
 ((a2T n ts rs ≠ .ok/\∀ H',Same H H'->Q (.str (Str.ofString "tree")) H')\/(a2T n ts rs = .ok/\(∃ r∈rs,4 < r.2.length)/\∀ H',Same H H'->Q (.str (Str.ofString "wide")) H')\/(Tree n rs/\(∀ r∈rs,r.2.length<=4)/\ts.length<=100/\(∀ t∈ts,∃ r∈rs,t.1∈r.2/\t.2∈r.2)/\∀ H',Same H H'->Q .non H'))
def d1B (K:Φρ):Sp:=λ vs H Q _=>∃ (g:V) (n:Nat) (ts:List ζζ) (a:Addr) (xs:List V) (ss:List Stp),vs=[g,.ref a]/\GraphV K H g n ts/\n<=10/\SqL K H a xs/\Paired (StpV K H) xs ss/\ss.length<=900 /\
 ((sfF n ts ss (endR n ts ss) ≠ .ok/\∀ H',Same H H'->Q (.str (Str.ofString "steps")) H')\/(sfF n ts ss (endR n ts ss) = .ok/\∀ H',Same H H'->Q .non H'))
section
variable {P:Program} {w:World} {K:Φρ} {mg:Str->Option Value} {base:Heap}
abbrev DZ7 (K:PySem.W.Frag) (mg:Str->Option Value):=Dn K mg "_law_steps_refused" a3F ["_law_web", "_law_rows_here"]
set_option maxHeartbeats 4000000 in
theorem a4W (B:Bl mg) (Ct:Cts mg) (C:Cl K mg) (dZ19:DZ19 K mg) (dZ15:DZ15 K mg) (dZ17:DZ17 K mg) (dZ18:DZ18 K mg) (dZ25:DZ25 K mg) (dZ23:DZ23 K mg) (dZ32:DZ32 K mg) (dZ16:DZ16 K mg) (dZ9:DZ9 K mg) (dZ13:DZ13 K mg) (dZ24:DZ24 K mg) (dZ22:DZ22 K mg) (dZ10:DZ10 K mg) (dZ31:DZ31 K mg) (dZ28:DZ28 K mg) (dZ30:DZ30 K mg) (dZ29:DZ29 K mg) (dZ2:DZ2 K mg) (dZ7:DZ7 K mg):FnOk P w K mg base CX0 15 dZ7.f dZ7.fd ["_law_web", "_law_rows_here"] (d1A K):=by
 have GX_steps_of:FnOk P w K mg base (CXE P w) 14 _ _ _ _:=c7U (a9H B Ct C dZ19 dZ15 dZ17 dZ18 dZ25 dZ23 dZ32 dZ16 dZ9 dZ13 dZ24 dZ29) (c7U (a9I B Ct C dZ19 dZ15 dZ17 dZ18 dZ25 dZ23 dZ32 dZ16 dZ9 dZ13 dZ24 dZ29) (c4S (b4E B Ct dZ19 dZ15 dZ17 dZ18 dZ25 dZ23 dZ32 dZ16 dZ9 dZ13 dZ24 dZ22 dZ10 dZ31 dZ28 dZ30 dZ29)))
 have GG__law_class:FnOkG P w K mg base 14 _ _ _ _:=(a5F B C dZ2).mono (by decide)
 refine dZ7.F.ok sc__law_steps_refused (λ vs H Q E h=>?_) (λ cdv A outer s H vs Q E hr h=>?_)
 ·obtain ⟨g,n,ts,a,rs,rfl,_⟩:=h
  rfl
 obtain ⟨g,n,ts,a,rs,rfl,hG,n10,hR,l9,cs⟩:=h
 refine ⟨_,(a0C (a0Q (i:=2) sc__law_steps_refused.nd rfl (Or.inl rfl) a1N)
   (a0C (c4J ⟨rfl,rfl,rfl⟩ (b5E (b5F (b5G (λ _ _ z=>z) GX_steps_of hr rfl dZ29.m dZ29.F.kp dZ29.b .nil (a0A (pv 0) (a0A (pv 1) a0B))))) (λ p cc (hc:PySem.W.exmOne K (.ref cc) (.ref C.BagError)=some true)=>(c9X (i:=3) rfl C.m_BagError hc sc__law_steps_refused.nd rfl rfl (a0E (a0Q (i:=2) sc__law_steps_refused.nd rfl (Or.inl rfl) (b5H GG__law_class (hr.h.mark _) rfl rfl dZ2.m dZ2.F.kp dZ2.b .nil (a0A (pv 3) a0B)))))))
   (a0E (a0P (pv 2))))),?_⟩
 refine ⟨_,rfl,_,rfl,?_⟩
 rcases cs with ⟨bad,q⟩ | ⟨okF,big,q⟩ | ⟨T,h4,t100,inb,q⟩
 ·refine .inl ⟨g,n,ts,a,rs,rfl,by omega,hG,hR,bad,λ p H1 s1 hp p' cc e1 e2=>?_⟩
  cases e1
  cases e2
  refine ⟨C.x_NoTree_BagError,?_⟩
  have he:upd H1 p (ExcO p C.NoTree) p=some (ExcO p C.NoTree):=a2X
  have hs:Same H1 (upd H1 p (ExcO p C.NoTree)):=b0G hp _
  generalize upd H1 p (ExcO p C.NoTree)=G1 at he hs ⊢
  exact ⟨_,rfl,⟨_,he⟩,p,C.NoTree,4,_,rfl,he,c3Q C,.inl ⟨rfl,rfl⟩,λ H2 s2=>⟨_,rfl,q H2 (s1.trans (hs.trans s2))⟩⟩
 ·refine .inr (.inl ⟨g,n,ts,a,rs,rfl,n10,hG,hR,l9,okF,big,λ p H1 s1 hp p' cc e1 e2=>?_⟩)
  cases e1
  cases e2
  refine ⟨C.x_TooWide_BagError,?_⟩
  have he:upd H1 p (ExcO p C.TooWide) p=some (ExcO p C.TooWide):=a2X
  have hs:Same H1 (upd H1 p (ExcO p C.TooWide)):=b0G hp _
  generalize upd H1 p (ExcO p C.TooWide)=G1 at he hs ⊢
  exact ⟨_,rfl,⟨_,he⟩,p,C.TooWide,8,_,rfl,he,c3R C,.inr (.inr ⟨rfl,rfl⟩),λ H2 s2=>⟨_,rfl,q H2 (s1.trans (hs.trans s2))⟩⟩
 ·exact .inr (.inr ⟨g,n,ts,a,rs,rfl,hG,n10,hR,T,h4,t100,inb,λ p us H1 R sp s1 _ _ _ _=>⟨_,rfl,q H1 s1⟩⟩)
abbrev DZ1 (K:PySem.W.Frag) (mg:Str->Option Value):=Dn K mg "_law_bags_refused" a3P ["_law_web", "_law_steps"]
set_option maxHeartbeats 4000000 in
theorem a5A (B:Bl mg) (C:Cl K mg) (U:Used w K mg) (dZ19:DZ19 K mg) (dZ15:DZ15 K mg) (dZ20:DZ20 K mg) (dZ22:DZ22 K mg) (dZ11:DZ11 K mg) (dZ26:DZ26 K mg) (dZ14:DZ14 K mg) (dZ27:DZ27 K mg) (dZ12:DZ12 K mg) (dZ2:DZ2 K mg) (dZ1:DZ1 K mg):FnOk P w K mg base CX0 7 dZ1.f dZ1.fd ["_law_web", "_law_steps"] (d1B K):=by
 have GX_bags_of:FnOk P w K mg base (CXE P w) 6 _ _ _ _:=c7U (b4I B C U dZ19 dZ15 dZ20 dZ22 dZ11 dZ26 dZ14 dZ27 dZ12) (c4S (b7B B U dZ19 dZ15 dZ20 dZ22 dZ11 dZ26 dZ14 dZ27 dZ12))
 have GG__law_class:FnOkG P w K mg base 6 _ _ _ _:=(a5F B C dZ2).mono (by decide)
 refine dZ1.F.ok sc__law_bags_refused (λ vs H Q E h=>?_) (λ cdv A outer s H vs Q E hr h=>?_)
 ·obtain ⟨g,n,ts,a,xs,ss,rfl,_⟩:=h
  rfl
 obtain ⟨g,n,ts,a,xs,ss,rfl,hG,n10,hA,pA,l9,cs⟩:=h
 refine ⟨_,(a0C (a0Q (i:=2) sc__law_bags_refused.nd rfl (Or.inl rfl) a1N)
   (a0C (c4J ⟨rfl,rfl,rfl⟩ (b5E (b5F (b5G (λ _ _ z=>z) GX_bags_of hr rfl dZ12.m dZ12.F.kp dZ12.b .nil (a0A (pv 0) (a0A (pv 1) a0B))))) (λ p cc (hc:PySem.W.exmOne K (.ref cc) (.ref C.BagError)=some true)=>(c9X (i:=3) rfl C.m_BagError hc sc__law_bags_refused.nd rfl rfl (a0E (a0Q (i:=2) sc__law_bags_refused.nd rfl (Or.inl rfl) (b5H GG__law_class (hr.h.mark _) rfl rfl dZ2.m dZ2.F.kp dZ2.b .nil (a0A (pv 3) a0B)))))))
   (a0E (a0P (pv 2))))),?_⟩
 refine ⟨_,rfl,_,rfl,?_⟩
 rcases cs with ⟨bad,q⟩ | ⟨okF,q⟩
 ·refine .inl ⟨g,n,ts,a,xs,ss,rfl,hG,n10,hA,pA,l9,bad,λ p H1 s1 hp p' cc e1 e2=>?_⟩
  cases e1
  cases e2
  refine ⟨C.x_NoSteps_BagError,?_⟩
  have he:upd H1 p (ExcO p C.NoSteps) p=some (ExcO p C.NoSteps):=a2X
  have hs:Same H1 (upd H1 p (ExcO p C.NoSteps)):=b0G hp _
  generalize upd H1 p (ExcO p C.NoSteps)=G1 at he hs ⊢
  exact ⟨_,rfl,⟨_,he⟩,p,C.NoSteps,7,_,rfl,he,c0U C,.inr (.inl ⟨rfl,rfl⟩),λ H2 s2=>⟨_,rfl,q H2 (s1.trans (hs.trans s2))⟩⟩
 ·exact .inr ⟨g,n,ts,a,xs,ss,rfl,hG,n10,hA,pA,l9,okF,λ r ps bs H1 s1 _ _ _ _ _ _ _ _=>⟨_,rfl,q H1 s1⟩⟩
end
end K
namespace K
open PySem L2 Lw Bg
def c0Y (j:Nat):List Stp:=[.inn ((j+1:Nat):Int),.tie (j:Int) ((j+1:Nat):Int),.out (j:Int)]
def preS (i:Nat):List Stp:=[.leaf,.inn 0]++(List.range i).flatMap c0Y
def a9J (m:Nat):List Stp:=preS (m - 1)++[.out ((m - 1:Nat):Int)]
def a6H (m:Nat):List ζζ:=(List.range (m - 1)).map λ j:Nat=>((j:Int),((j+1:Nat):Int))
def isOk:SFlt->Bool
 | .ok=>true
 | _=>false
theorem d1C {f:SFlt} (h:isOk f=true):f = .ok:=by cases f <;> first | rfl | cases h
theorem d1D {f:SFlt} (h:isOk f=false):f ≠ .ok:=λ z=>by rw [z] at h; cases h
def b4J (m:Nat) (ss:List Stp):Bool:=isOk (sfF m (a6H m) ss (endR m (a6H m) ss))
def badB (m at_:Nat):Bool:=b4J m ((a9J m).take (at_+1)++(a9J m).drop at_)
theorem b0Z (m:Nat) (h1:1<=m):(a9J m).length=3*m:=by
 unfold a9J preS
 rw [List.length_append,List.length_append,List.length_flatMap]
 have:((List.range (m - 1)).map λ j=>(c0Y j).length).sum=3*(m - 1):=by
  generalize m - 1=k
  induction k with
  | zero=>rfl
  | succ k ih =>
   rw [List.range_succ,List.map_append,List.sum_append,ih]
   show _+(3+0)=_
   omega
 rw [this]
 show 2+_+1=_
 omega
set_option maxHeartbeats 4000000
theorem c0Z:∀ m:Fin 10,b4J (m.val+1) (a9J (m.val+1))=true:=by decide +kernel
theorem c1A:∀ m:Fin 10,b4J (m.val+1) ((a9J (m.val+1)).dropLast)=false:=by decide +kernel
theorem c3V:∀ m:Fin 10,b4J (m.val+1) []=false:=by decide +kernel
theorem c1B:∀ m:Fin 10,b4J (m.val+1) [.leaf,.join]=false:=by decide +kernel
theorem b7D:∀ m:Fin 10,∀ k:Fin 29,k.val+1 < 3*(m.val+1)->badB (m.val+1) (k.val+1)=false:=by decide +kernel
end K
namespace K
open PySem L2 Lw Bg
abbrev a8W:Stmt:=top 55
theorem sc__law_path:FnScope ["_law_script", "_law_many", "_law_steps", "_law_v"] ["_law_script"] (a0F a8W):=⟨rfl,rfl,rfl,by decide +kernel,rfl,by decide +kernel,by decide +kernel⟩
def c3W (K:Φρ):Sp:=λ vs H Q _=>∃ (a:Addr) (ns:List Int),vs=[.ref a]/\Scr K H a ns/\ns.length<=63/\∀ r pw pt ps xs us m H',Same H H'->1<=m->m<=10->H' r=some (.lst [.ref pw,.ref ps])->H' pw=some (.tup [.int (m:Nat),.ref pt])->H' pt=some (.lst xs)->Paired (TieL H') xs (a6H m)->H' ps=some (.lst us)->Paired (StpL H') us (a9J m)->Q (.ref r) H'
theorem c1C (i:Nat):(preS i).length=2+3*i:=by
 unfold preS
 rw [List.length_append,List.length_flatMap]
 have:((List.range i).map λ j=>(c0Y j).length).sum=3*i:=by
  induction i with
  | zero=>rfl
  | succ k ih =>
   rw [List.range_succ,List.map_append,List.sum_append,ih]
   show _+(3+0)=_
   omega
 rw [this]
 rfl
theorem c3X (i:Nat):preS (i+1)=preS i++c0Y i:=by
 unfold preS
 rw [List.range_succ,List.flatMap_append,<- List.append_assoc]
 show _++([i].flatMap c0Y)=_
 rw [List.flatMap_cons,List.flatMap_nil,List.append_nil]
theorem StpL.keep {H H':Hp} {v:V} {s:Stp} (k:Same H H') (h:StpL H v s):StpL H' v s:=by
 obtain ⟨p,e,h⟩:=h
 exact ⟨p,e,k _ _ h⟩
theorem TieL.keep {H H':Hp} {v:V} {s:Int × Int} (k:Same H H') (h:TieL H v s):TieL H' v s:=by
 obtain ⟨p,e,h⟩:=h
 exact ⟨p,e,k _ _ h⟩
section
variable {P:Program} {w:World} {K:Φρ} {mg:Str->Option Value} {base:Heap}
abbrev DZ4 (K:PySem.W.Frag) (mg:Str->Option Value):=Dn K mg "_law_path" a8W ["_law_script"]
set_option maxHeartbeats 4000000 in
theorem b3C (B:Bl mg) (dZ0:DZ0 K mg) (dZ4:DZ4 K mg):FnOk P w K mg base CX0 2 dZ4.f dZ4.fd ["_law_script"] (c3W K):=by
 have gZ0:FnOk P w K mg base CX0 1 _ _ _ _:=a4A B dZ0
 refine dZ4.F.ok sc__law_path (λ vs H Q E h=>?_) (λ cdv A outer s H vs Q E hr h=>?_)
 ·obtain ⟨a,ns,rfl,_⟩:=h
  rfl
 obtain ⟨a,ns,rfl,hS,h63,q⟩:=h
 refine ⟨_,(PSsw.h (a1F ⟨(a0Q (i:=1) sc__law_path.nd rfl (Or.inl rfl) (a0R a2I a0D (a0R a2E (a0K gZ0 hr rfl dZ0.m dZ0.F.kp dZ0.b .nil a1I (a0A (pv 0) (a0A a0D a0B))) a0D)))⟩
   (a1F ⟨(a0Q (i:=2) sc__law_path.nd rfl (Or.inl rfl) (a0O (a0A (a0T (a0A a1D a0B)) (a0A (a0T (a0A a1D (a0A a0D a0B))) a0B))))⟩
   (a1F ⟨(a2Z PassesOwn.never rfl (a4M rfl B.range (a0A a0D (a0A (pv 1) a0B))) (a0H (i:=3) sc__law_path.nd rfl (Or.inl rfl))
   (a0E (a0Q (i:=2) sc__law_path.nd rfl (Or.inl rfl) (a0R a1R (pv 2) (a0O (a0A (a0T (a0A a1D (a0A (pv 3) a0B))) (a0A (a0T (a0A a1D (a0A (a0R a4N (pv 3) a0D) (a0A (pv 3) a0B)))) (a0A (a0T (a0A a1D (a0A (a0R a4N (pv 3) a0D) a0B))) a0B))))))))⟩
   (a1F ⟨(a0P (a0O (a0A (a0T (a0A (pv 1) (a0A (a2P ["_law_v"] [none]  (by kernel_rfl) rfl (a4M rfl B.range (a0A a0D (a0A (pv 1) a0B))) (λ _ _ _ _ _=>(a0H (i:=0) (show (["_law_v"]:List Str).Nodup by decide +kernel) rfl (Or.inl rfl))) (λ _ _ _ _ _=>a1V) (λ _ _ _ _ _=>(a0T (a0A (a0R a4N (pv 0) a0D) (a0A (pv 0) a0B))))) a0B))) (a0A (a0R a1R (pv 2) (a0O (a0A (a0T (a0A a1D (a0A (a0R a4N (pv 1) a0D) a0B))) a0B))) a0B))))⟩
   b0X))))),?_⟩
 refine ⟨_,rfl,a,ns,6,rfl,hS,h63,by decide,by decide,λ z=>⟨_,_,rfl,rfl,(show (0:Int) < 10 by decide),_,_,rfl,rfl,?_⟩⟩
 obtain ⟨m,em,m1,m10⟩:∃ m:Nat,1+z % 10=(m:Int)/\1<=m/\m<=10:=⟨(1+z % 10).toNat,by omega,by omega,by omega⟩
 dsimp only
 rw [em]
 refine ⟨(by show 1<=1000; decide),λ p1 H1 n1=>⟨(by show 2<=1000; decide),λ p2 H2 n2=>⟨(by show 2<=1000; decide),λ p3 H3 n3=>?_⟩⟩⟩
 have s3:=n1.same.trans (n2.same.trans n3.same)
 refine ⟨_,rfl,_,_,rfl,⟨by omega,by omega,by omega,by omega⟩,?_⟩
 have er:(((m:Nat):Int) - 1).toNat=m - 1:=by omega
 rw [er]
 refine a3A (n:=m - 1) (λ i σ G=>∃ (ps:Addr) (us:List V) (o:Option V),σ=[some (.ref a),some (.int (m:Nat)),some (.ref ps),o]/\Same H G/\G ps=some (.lst us)/\Paired (StpL G) us (preS i)) ⟨p3,_,none,rfl,s3,n3.here,.cons ⟨p1,rfl,n3.same _ _ (n2.same _ _ n1.here)⟩ (.cons ⟨p2,rfl,n3.same _ _ n2.here⟩ .nil)⟩ ?_ ?_
 ·rintro i σ G hi ⟨ps,us,o,rfl,sG,hp,pp⟩
  have lu:=Paired.length pp
  rw [c1C] at lu
  have ei:(1:Int)+(i:Int)=((i+1:Nat):Int):=by omega
  have ej:((i+1:Nat):Int) - 1=((i:Nat):Int):=by omega
  rw [ei]
  refine ⟨_,rfl,_,rfl,(by show 2<=1000; decide),λ q1 G1 m1'=>?_⟩
  refine ⟨_,rfl,_,_,rfl,rfl,_,rfl,(by show 3<=1000; decide),λ q2 G2 m2=>?_⟩
  refine ⟨_,rfl,_,_,rfl,rfl,(by show 2<=1000; decide),λ q3 G3 m3=>?_⟩
  refine ⟨(by show 3<=1000; decide),λ q4 G4 m4=>?_⟩
  dsimp only at m2 m3
  rw [ej] at m2 m3
  have k34:=m3.same.trans m4.same
  have k24:=m2.same.trans k34
  have k14:=m1'.same.trans k24
  refine ⟨ps,q4,us,_,rfl,rfl,k14 _ _ hp,m4.here,by show us.length+3<=1000; omega,λ q5 G5 m5=>?_⟩
  refine ⟨q5,_,_,rfl,sG.trans (k14.trans m5.same),m5.here,?_⟩
  rw [c3X]
  have k5:=m5.same
  refine paired_app (Paired.mapP pp λ _ _ h=>StpL.keep (k14.trans k5) h) (.cons ⟨q1,rfl,k5 _ _ (k24 _ _ m1'.here)⟩ (.cons ⟨q2,rfl,k5 _ _ (k34 _ _ m2.here)⟩ (.cons ⟨q3,rfl,k5 _ _ (m4.same _ _ m3.here)⟩ .nil)))
 ·rintro σ G ⟨ps,us,o,rfl,sG,hp,pp⟩
  have lu:=Paired.length pp
  rw [c1C] at lu
  refine ⟨_,rfl,_,rfl,_,_,rfl,⟨by omega,by omega,by omega,by omega⟩,?_⟩
  rw [er]
  refine a5T (λ i ys G'=>Same G G'/\Paired (TieL G') ys ((List.range i).map λ j:Nat=>((j:Int),((j+1:Nat):Int)))) ⟨Same.refl _,.nil⟩ (λ i ys G' hi ⟨_,p⟩=>?_) (λ i ys G' hi ⟨s,p⟩=>?_) (λ ys G1 ⟨s1,p1⟩ pt hpt=>?_)
  ·rw [Paired.length p,List.length_map,List.length_range]
   exact Nat.le_of_lt (a0W (by omega))
  ·have ei:(1:Int)+(i:Int)=((i+1:Nat):Int):=by omega
   have ej:((i+1:Nat):Int) - 1=((i:Nat):Int):=by omega
   rw [ei]
   refine ⟨_,rfl,_,_,rfl,rfl,_,rfl,(by show 2<=1000; decide),λ q1 G1 m1=>?_⟩
   dsimp only at m1
   rw [ej] at m1
   refine ⟨s.trans m1.same,?_⟩
   rw [List.range_succ,List.map_append]
   exact a0Z (Paired.mapP p λ _ _ h=>TieL.keep m1.same h) ⟨q1,rfl,m1.here⟩
  have n2:=New.mk0 (o:=.lst ys) hpt
  generalize upd G1 pt (.lst ys)=G2 at n2 ⊢
  refine ⟨(by show 2<=1000; decide),λ pw G3 n3=>?_⟩
  refine ⟨_,rfl,_,rfl,_,_,rfl,rfl,(by show 2<=1000; decide),λ q1 G4 n4=>⟨(by show 1<=1000; decide),λ q2 G5 n5=>?_⟩⟩
  have ej:((m:Nat):Int) - 1=((m - 1:Nat):Int):=by omega
  dsimp only at n4
  rw [ej] at n4
  have s25:=n3.same.trans (n4.same.trans n5.same)
  have sG5:=s1.trans (n2.same.trans s25)
  refine ⟨ps,q2,us,_,rfl,rfl,sG5 _ _ hp,n5.here,by show us.length+1<=1000; omega,λ q6 G6 n6=>⟨(by show 2<=1000; decide),λ r G7 n7=>?_⟩⟩
  have s67:=n6.same.trans n7.same
  have s57:=n5.same.trans s67
  exact q r pw pt q6 ys _ m G7 (sG.trans (sG5.trans s67)) m1 m10 n7.here ((n4.same.trans s57) _ _ n3.here) ((s25.trans s67) _ _ n2.here) (Paired.mapP p1 λ _ _ h=>TieL.keep (n2.same.trans (s25.trans s67)) h) (n7.same _ _ n6.here) (a0Z (Paired.mapP pp λ _ _ h=>StpL.keep (sG5.trans s67) h) ⟨q1,rfl,s57 _ _ n4.here⟩)
end
abbrev c7V:Stmt:=top 56
theorem sc_law:FnScope ["_law_script", "_law_n", "_law_rows_here", "_law_ties_here", "_law_wide", "_law_spoiled_here", "_law_web", "_law_steps", "_law_at_here", "_law_bad"] ["_law_script"] (a0F c7V):=⟨rfl,rfl,rfl,by decide +kernel,rfl,by decide +kernel,by decide +kernel⟩
theorem d2Q {l:Addr} {H:Hp} {v:V} {r:Row} (h:RowL l H v r):RowE H v r:=by
 obtain ⟨p,b,e,h1,h2,_,z⟩:=h
 exact ⟨p,b,e,h1,h2,z⟩
theorem c1D (xs:List V):cutV xs none (some (-1))=xs.dropLast:=by
 unfold cutV
 have e0:HT.sIx xs.length 0 none=0:=rfl
 have e:HT.sIx xs.length xs.length (some (-1))=xs.length - 1:=by
  show (if (-1:Int) < 0 then ((-1:Int)+(xs.length:Int)).toNat else min (-1:Int).toNat xs.length)=_
  rw [if_pos (by decide)]
  omega
 rw [e0,e,List.drop_zero,Nat.sub_zero,List.dropLast_eq_take]
theorem a8X {α β:Type} {R:α->β->Prop}:∀ {xs:List α} {ys:List β},Paired R xs ys->Paired R xs.dropLast ys.dropLast
 | _,_,.nil=>.nil
 | _,_,.cons a .nil=>.nil
 | _,_,.cons a (.cons b p)=>.cons a (a8X (.cons b p))
def c1E (rs:List Row):Bool:=rs.any λ r=>decide (4 < r.2.length)
def a9K (rs:List Row):V:=if c1E rs=true then .str (Str.ofString "wide") else .non
theorem d1E {m:Nat} {ss:List Stp} (h:b4J m ss=true):sfF m (a6H m) ss (endR m (a6H m) ss) = .ok:=d1C h
theorem b6A {m:Nat} {ss:List Stp} (h:b4J m ss=false):sfF m (a6H m) ss (endR m (a6H m) ss) ≠ .ok:=d1D h
section
variable {P:Program} {w:World} {K:Φρ} {mg:Str->Option Value} {base:Heap}
set_option maxHeartbeats 8000000 in
theorem d2S (B:Bl mg) (C:Cl K mg) (U:Used w K mg) (Ct:Cts mg) (dZ19:DZ19 K mg) (dZ15:DZ15 K mg) (dZ17:DZ17 K mg) (dZ18:DZ18 K mg) (dZ25:DZ25 K mg) (dZ23:DZ23 K mg) (dZ32:DZ32 K mg) (dZ16:DZ16 K mg) (dZ9:DZ9 K mg) (dZ13:DZ13 K mg) (dZ20:DZ20 K mg) (dZ22:DZ22 K mg) (dZ11:DZ11 K mg) (dZ26:DZ26 K mg) (dZ14:DZ14 K mg) (dZ27:DZ27 K mg) (dZ12:DZ12 K mg) (dZ24:DZ24 K mg) (dZ10:DZ10 K mg) (dZ31:DZ31 K mg) (dZ28:DZ28 K mg) (dZ30:DZ30 K mg) (dZ29:DZ29 K mg) (dZ0:DZ0 K mg) (dZ5:DZ5 K mg) (dZ8:DZ8 K mg) (dZ3:DZ3 K mg) (dZ6:DZ6 K mg) (dZ2:DZ2 K mg) (dZ7:DZ7 K mg) (dZ1:DZ1 K mg) (dZ4:DZ4 K mg) (dZ21:Dn K mg "law" c7V ["_law_script"]):FnOk P w K mg base CX0 16 dZ21.f dZ21.fd ["_law_script"] (spLaw K):=by
 have gZ0:FnOk P w K mg base CX0 15 _ _ _ _:=(a4A B dZ0).mono (by decide)
 have gZ5:FnOk P w K mg base CX0 15 _ _ _ _:=(b2X B dZ0 dZ5).mono (by decide)
 have gZ8:FnOk P w K mg base CX0 15 _ _ _ _:=(b2Z B dZ0 dZ8).mono (by decide)
 have gZ6:FnOk P w K mg base CX0 15 _ _ _ _:=(a8V B dZ0 dZ3 dZ6).mono (by decide)
 have gZ4:FnOk P w K mg base CX0 15 _ _ _ _:=(b3C B dZ0 dZ4).mono (by decide)
 have gZ7:FnOk P w K mg base CX0 15 _ _ _ _:=a4W B Ct C dZ19 dZ15 dZ17 dZ18 dZ25 dZ23 dZ32 dZ16 dZ9 dZ13 dZ24 dZ22 dZ10 dZ31 dZ28 dZ30 dZ29 dZ2 dZ7
 have gZ1:FnOk P w K mg base CX0 15 _ _ _ _:=(a5A B C U dZ19 dZ15 dZ20 dZ22 dZ11 dZ26 dZ14 dZ27 dZ12 dZ2 dZ1).mono (by decide)
 refine dZ21.F.ok sc_law (λ vs H Q E h=>?_) (λ cdv A outer s H vs Q E hr h=>?_)
 ·obtain ⟨a,ns,rfl,_⟩:=h
  rfl
 obtain ⟨a,ns,rfl,hScr,h63,q⟩:=h
 have hu:(A.deeper (PyProof.Rows.envOfC "law" (a0F c7V) s.heap.objs.size dZ21.f cdv)).units+64 < cLine:=by have:=hr.un; omega
 refine ⟨_,(PSsw.h (a1F ⟨(a0Q (i:=1) sc_law.nd rfl (Or.inl rfl) (a0R a2E (a0K gZ0 hr rfl dZ0.m dZ0.F.kp dZ0.b .nil a1I (a0A (pv 0) (a0A a0D a0B))) a0D))⟩
   (a1F ⟨(a0Q (i:=2) sc_law.nd rfl (Or.inl rfl) (a0K gZ5 hr rfl dZ5.m dZ5.F.kp dZ5.b .nil a1I (a0A (pv 0) (a0A (pv 1) (a0A (a1B (a0V (K:=K) rfl) (a0O (a0A a0D (a0A a0D (a0A a0D a0B)))) (a0R a2E (a0K gZ0 hr rfl dZ0.m dZ0.F.kp dZ0.b .nil a1I (a0A (pv 0) (a0A a0D a0B))) a0D) (λ _ _=>rfl)) a0B)))))⟩
   (a1F ⟨(a0Q (i:=3) sc_law.nd rfl (Or.inl rfl) (a0K gZ8 hr rfl dZ8.m dZ8.F.kp dZ8.b .nil a1I (a0A (pv 0) (a0A (pv 2) (a0A (pv 1) a0B)))))⟩
   (a1F ⟨(a0Q (i:=4) sc_law.nd rfl (Or.inl rfl) a1N)⟩
   (a7S ⟨(a1O (a0J a4Y (a0G (b8L (K:=K) rfl rfl) rfl B.max (by decide +kernel) (a0A (a2P ["_law_row"] [none]  (by kernel_rfl) rfl (a1A (K:=K) rfl (pv 2)) (λ _ _ _ _ _=>(a0H (i:=0) (show (["_law_row"]:List Str).Nodup by decide +kernel) rfl (Or.inl rfl))) (λ _ _ _ _ _=>a1V) (λ _ _ _ _ _=>(a0G (a0L (K:=K) rfl) rfl B.len (by decide +kernel) (a0A (a1B (a0X (K:=K) rfl) (pv 0) a0D (λ _ _=>rfl)) a0B)))) a0B)) a0D (a0S _))
   (a0E (a0Q (i:=4) sc_law.nd rfl (Or.inl rfl) a1D))
   a0N)⟩
   (a7S ⟨(a0Q (i:=5) sc_law.nd rfl (Or.inl rfl) (a0K gZ6 hr rfl dZ6.m dZ6.F.kp dZ6.b .nil a1I (a0A (pv 0) (a0A (pv 1) (a0A (pv 3) (a0A (pv 2) a0B))))))⟩
   (a7S ⟨(a1O (PW.pt (a3I (a0J a5I (pv 5) a1N (a0S _)) (a3B (a0J b7P (a0K gZ7 hr rfl dZ7.m dZ7.F.kp dZ7.b .nil a1I (a0A (a0T (a0A (pv 1) (a0A (a1B (a0V (K:=K) rfl) (pv 5) a0D (λ _ _=>rfl)) a0B))) (a0A (a1B (a0V (K:=K) rfl) (pv 5) a0D (λ _ _=>rfl)) a0B))) a1D (a0S _)))))
   (a0E (a0P b7H))
   a0N)⟩
   (a7S ⟨(a1O (a0J b7P (a0K gZ7 hr rfl dZ7.m dZ7.F.kp dZ7.b .nil a1I (a0A (a0T (a0A (pv 1) (a0A (pv 3) a0B))) (a0A (pv 2) a0B))) (pv 4) (a0S _))
   (a0E (a0P b7H))
   a0N)⟩
   (a1F ⟨(a6U (a0K gZ4 hr rfl dZ4.m dZ4.F.kp dZ4.b .nil a1I (a0A (pv 0) a0B)) (c2T (K:=K) (n:=2) rfl rfl (a0M (a0H (i:=6) sc_law.nd rfl (Or.inl rfl)) (a0M (a0H (i:=7) sc_law.nd rfl (Or.inl rfl)) a1X))))⟩
   (a1F ⟨(a0Q (i:=8) sc_law.nd rfl (Or.inl rfl) (a0R a2I a0D (a0R a2E (a0K gZ0 hr rfl dZ0.m dZ0.F.kp dZ0.b .nil a1I (a0A (pv 0) (a0A a0D a0B))) (a0R a4N (a0G (a0L (K:=K) rfl) rfl B.len (by decide +kernel) (a0A (pv 7) a0B)) a0D))))⟩
   (a1F ⟨(a2Z PassesOwn.never rfl (a1A (K:=K) rfl (a0O (a0A (a1Z (a2J (K:=K) rfl) (pv 7) a2K (a2L (c1J b4N a0D))) (a0A (a0O a0B) (a0A (a0R a1R (a1Z (a2J (K:=K) rfl) (pv 7) a2K (a2L (a0R a2I (pv 8) a0D))) (a1Z (a2J (K:=K) rfl) (pv 7) (a2L (pv 8)) a2K)) (a0A (a0O (a0A (a0T (a0A a1D a0B)) (a0A (a0T (a0A a1D a0B)) a0B))) a0B)))))) (a0H (i:=9) sc_law.nd rfl (Or.inl rfl))
   (a0E (a1O (a0J b7P (a0K gZ1 hr rfl dZ1.m dZ1.F.kp dZ1.b .nil a1I (a0A (pv 6) (a0A (pv 9) a0B))) a1D (a0S _))
   (a0E (a0P b7H))
   a0N)))⟩
   (a1F ⟨(a0P (a3S a5Q (a0K gZ1 hr rfl dZ1.m dZ1.F.kp dZ1.b .nil a1I (a0A (pv 6) (a0A (pv 7) a0B))) a1N (a0S _)))⟩
   b0X))))))))))))),?_⟩
 refine ⟨_,rfl,a,ns,0,rfl,hScr,h63,by decide,by decide,λ z0=>⟨_,_,rfl,rfl,(show (0:Int) < 11 by decide),?_⟩⟩
 obtain ⟨n,en⟩:∃ n:Nat,z0 % 11=(n:Int):=⟨(z0 % 11).toNat,by omega⟩
 have n10:n<=10:=by omega
 dsimp only
 rw [en]
 refine ⟨_,rfl,_,rfl,(by show 3<=1000; decide),λ p1 H1 n1=>⟨_,rfl,a,ns,7,rfl,hScr.same n1.same,h63,by decide,by decide,λ z1=>⟨_,_,rfl,rfl,(show (0:Int) < 3 by decide),?_⟩⟩⟩
 obtain ⟨most,at_,mo2,mo6⟩:∃ most:Nat,atI [V.int 4,V.int 5,V.int 6] (z1 % 3)=some (.int (most:Nat))/\2<=most/\most<=6:=by
  rcases (show z1 % 3=0\/z1 % 3=1\/z1 % 3=2 by omega) with e | e | e <;> rw [e]
  ·exact ⟨4,rfl,by decide,by decide⟩
  ·exact ⟨5,rfl,by decide,by decide⟩
  ·exact ⟨6,rfl,by decide,by decide⟩
 refine ⟨p1,_,_,_,rfl,rfl,SqL.of n1.here,at_,?_⟩
 refine ⟨a,ns,n,most,rfl,hScr.same n1.same,h63,n10,mo2,mo6,λ l xs rs H2 s2 fl hl pr W asc l13=>?_⟩
 have T:Tree n rs:=c7Q W asc (by omega)
 have s02:=n1.same.trans s2
 have lx:=Paired.length pr
 refine ⟨_,rfl,_,rfl,_,rfl,a,l,ns,xs,rs,n,rfl,hScr.same s02,h63,hl,pr,by omega,n10,λ r ys ts H3 s3 fr hr pt rg nd both l45=>?_⟩
 have s03:=s02.trans s3
 have hl3:=s3 _ _ hl
 have E3:RowsE H3 l rs:=⟨xs,hl3,Paired.mapP pr λ _ _ h=>RowE.same s3 (d2Q h)⟩
 have inb:∀ t∈ts,∃ r∈rs,t.1∈r.2/\t.2∈r.2:=λ t ht=>by
  obtain ⟨k,h1,h2⟩:=both t ht
  by_cases kl:k < rs.length
  ·exact ⟨_,List.mem_of_getElem? (a1W kl),h1,h2⟩
  ·unfold bagR at h1
   rw [a4G (by omega)] at h1
   cases h1
 refine ⟨λ σ' G=>σ'=[some (.ref a),some (.int n),some (.ref l),some (.ref r),some (a9K rs),none,none,none,none,none]/\Same H3 G,?_,?_⟩
 ·refine ⟨_,rfl,l,rfl,⟨_,SqL.of hl3⟩,?_⟩
  refine a3T (K:=K) (a:=l) (xs:=xs) (λ i ys G=>G=H3/\ys=((rs.take i).map λ r=>((r.2.length:Nat):Int)).map V.int) ⟨rfl,rfl⟩ (λ i ys G hi ⟨e,ey⟩=>⟨by rw [e]; exact SqL.of hl3,?_⟩) (λ i x ys G hx ⟨e,ey⟩=>?_) (λ ys G ⟨e,ey⟩ p4 hp4=>?_)
  ·rw [ey,List.length_map,List.length_map,List.length_take]
   exact Nat.le_of_lt (a0W (by omega))
  ·obtain ⟨rr,hr1,pp,b,rfl,hT,hb,_⟩:=a0U pr hx
   subst e
   have et:rs.take (i+1)=rs.take i++[rr]:=by rw [List.take_succ,hr1]; rfl
   refine ⟨_,rfl,pp,_,_,_,rfl,rfl,SqT.of (s3 _ _ hT),rfl,b,_,rfl,.inl (SqL.of (s3 _ _ hb)),rfl,?_⟩
   rw [ey,et,List.map_append,List.map_append,List.length_map]
   rfl
  subst e
  rw [lx,List.take_length] at ey
  subst ey
  have n4:=New.mk0 (o:=.lst ((rs.map λ r=>((r.2.length:Nat):Int)).map V.int)) hp4
  generalize upd G p4 (.lst ((rs.map λ r=>((r.2.length:Nat):Int)).map V.int))=G4 at n4 ⊢
  refine ⟨p4,_,rfl,SqL.of n4.here,by rw [List.length_map]; exact T.pos,λ M hM hmax=>⟨_,_,rfl,rfl,_,rfl,?_⟩⟩
  have eb:decide ((4:Int) < M)=c1E rs:=by
   rw [Bool.eq_iff_iff,decide_eq_true_iff]
   unfold c1E
   rw [List.any_eq_true]
   constructor
   ·intro h
    obtain ⟨rr,hr1,rfl⟩:=List.mem_map.mp hM
    exact ⟨rr,hr1,decide_eq_true (by omega)⟩
   ·rintro ⟨rr,hr1,h⟩
    have:=hmax _ (List.mem_map.mpr ⟨rr,hr1,rfl⟩)
    have:=of_decide_eq_true h
    omega
  rw [eb]
  unfold a9K
  cases wb:c1E rs with
  | true=>exact iteT ⟨rfl,n4.same⟩
  | false=>exact iteF ⟨rfl,n4.same⟩
 rintro σ' G4 ⟨rfl,s34⟩
 have s04:=s03.trans s34
 have hr4:=s34 _ _ hr
 have E4:=RowsE.same s34 E3
 have pt4:=Paired.mapP pt λ _ _ h=>TieL.keep s34 h
 refine ⟨λ σ' G=>∃ v5:V,σ'=[some (.ref a),some (.int n),some (.ref l),some (.ref r),some (a9K rs),some v5,none,none,none,none]/\Same G4 G/\(v5 = .non\/∃ p t' l' ts' rs',v5 = .ref p/\G p=some (.lst [.ref t',.ref l'])/\TiesAt K G t' ts'/\ts'.length<=60/\RowsAt K G l' rs'/\rs'.length<=100/\a2T n ts' rs' ≠ .ok),?_,?_⟩
 ·exact ⟨_,rfl,_,rfl,_,rfl,_,rfl,a,r,l,ns,n,ys,ts,rs,rfl,hScr.same s04,h63,hr4,pt4,l45,E4,T,l13,n10,λ G s=>⟨.non,rfl,s,.inl rfl⟩,λ p t' l' ts' rs' G s h1 h2 h3 h4 h5 h6=>⟨.ref p,rfl,s,.inr ⟨p,t',l',ts',rs',rfl,h1,h2,h3,h4,h5,h6⟩⟩⟩
 rintro σ' G5 ⟨v5,rfl,s45,c5⟩
 refine ⟨λ σ' G=>σ'=[some (.ref a),some (.int n),some (.ref l),some (.ref r),some (a9K rs),some v5,none,none,none,none]/\Same G4 G,?_,?_⟩
 ·rcases c5 with rfl | ⟨p,t',l',ts',rs',rfl,h1,h2,h3,h4,h5,h6⟩
  ·exact ⟨_,rfl,rfl,_,rfl,iteF (iteF ⟨rfl,s45⟩)⟩
  ·refine ⟨_,rfl,rfl,_,rfl,iteT ?_⟩
   refine ⟨_,rfl,_,rfl,p,_,_,_,rfl,rfl,SqL.of h1,rfl,(by show 2<=1000; decide),λ pg G6 n6=>?_⟩
   refine ⟨_,rfl,p,_,_,_,rfl,rfl,SqL.of (n6.same _ _ h1),rfl,?_⟩
   exact ⟨.ref pg,n,ts',l',rs',rfl,⟨pg,t',rfl,SqT.of n6.here,TiesAt.same n6.same h2⟩,n10,RowsAt.same n6.same h4,by omega,.inl ⟨h6,λ G7 s7=>⟨rfl,_,rfl,iteF ⟨rfl,s45.trans (n6.same.trans s7)⟩⟩⟩⟩
 rintro σ' G6 ⟨rfl,s46⟩
 have s36:=s34.trans s46
 refine ⟨λ σ' G=>σ'=[some (.ref a),some (.int n),some (.ref l),some (.ref r),some (a9K rs),some v5,none,none,none,none]/\Same G6 G,?_,?_⟩
 ·refine ⟨_,rfl,_,rfl,(by show 2<=1000; decide),λ pg G7 n7=>⟨_,rfl,?_⟩⟩
  have s37:=s36.trans n7.same
  have tA:TiesAt K G7 r ts:=⟨ys,SqL.of (s37 _ _ hr),Paired.mapP pt λ _ _ ⟨q,e,h⟩=>⟨q,e,SqT.of (s37 _ _ h)⟩,by omega⟩
  have gV:GraphV K G7 (.ref pg) n ts:=⟨pg,r,rfl,SqT.of n7.here,tA⟩
  have rA:RowsAt K G7 l rs:=(RowsE.same s37 E3).at (by omega)
  refine ⟨.ref pg,n,ts,l,rs,rfl,gV,n10,rA,by omega,?_⟩
  cases wb:c1E rs with
  | true =>
   obtain ⟨rr,hr1,h⟩:=List.any_eq_true.mp wb
   refine .inr (.inl ⟨a9U T inb,⟨rr,hr1,of_decide_eq_true h⟩,λ G8 s8=>⟨_,rfl,?_⟩⟩)
   have ev:a9K rs = .str (Str.ofString "wide"):=by unfold a9K; rw [wb]; rfl
   rw [ev]
   exact ⟨rfl,_,rfl,iteF ⟨rfl,n7.same.trans s8⟩⟩
  | false =>
   refine .inr (.inr ⟨T,λ rr hr1=>?_,by omega,inb,λ G8 s8=>⟨_,rfl,?_⟩⟩)
   ·have:=List.any_eq_false.mp wb rr hr1
    have:=of_decide_eq_false (Bool.eq_false_iff.mpr this)
    omega
   have ev:a9K rs = .non:=by unfold a9K; rw [wb]; rfl
   rw [ev]
   exact ⟨rfl,_,rfl,iteF ⟨rfl,n7.same.trans s8⟩⟩
 rintro σ' G8 ⟨rfl,s68⟩
 have s08:=s04.trans (s46.trans s68)
 refine ⟨_,rfl,a,ns,rfl,hScr.same s08,h63,λ rr pw pt' ps xs' us m G9 s9 m1 m10 hrr hw ht' pT hs pS=>?_⟩
 refine ⟨rr,_,rfl,SqL.of hrr,rfl,_,_,rfl,_,_,rfl,rfl,?_⟩
 have lS:=Paired.length pS
 rw [b0Z m m1] at lS
 refine ⟨_,rfl,a,ns,8,rfl,hScr.same (s08.trans s9),h63,by decide,by decide,λ z8=>⟨_,rfl,ps,_,rfl,.inl (SqL.of hs),_,_,rfl,rfl,_,_,rfl,rfl,?_,_,_,rfl,rfl,?_⟩⟩
 ·show (0:Int) < ((us.length:Nat):Int) - 1
  omega
 obtain ⟨at_,ea,a1,a2⟩:∃ m':Nat,1+z8 % (((us.length:Nat):Int) - 1)=(m':Int)/\1<=m'/\m' < 3*m:=by
  have h0:=Int.emod_nonneg z8 (show ((us.length:Nat):Int) - 1≠0 by omega)
  have h1:=Int.emod_lt_of_pos z8 (show (0:Int) < ((us.length:Nat):Int) - 1 by omega)
  exact ⟨(1+z8 % (((us.length:Nat):Int) - 1)).toNat,by omega,by omega,by omega⟩
 dsimp only
 rw [ea]
 have e1:(((at_:Nat):Int)+1)=((at_+1:Nat):Int):=by omega
 refine ⟨_,rfl,_,rfl,_,rfl,ps,us,rfl,SqL.of hs,λ q1 K1 m1'=>?_⟩
 refine ⟨(by show 0<=1000; decide),λ q2 K2 m2=>?_⟩
 refine ⟨_,rfl,_,rfl,_,_,rfl,rfl,_,rfl,ps,us,rfl,SqL.of (m2.same _ _ (m1'.same _ _ hs)),λ q3 K3 m3=>?_⟩
 refine ⟨_,rfl,_,rfl,_,rfl,ps,us,rfl,SqL.of (m3.same _ _ (m2.same _ _ (m1'.same _ _ hs))),λ q4 K4 m4=>?_⟩
 rw [show cutV us none (some (-1))=us.dropLast from c1D us] at m1'
 try dsimp only at m3
 rw [e1,b4F] at m3
 rw [b4G] at m4
 refine ⟨q3,q4,_,_,rfl,rfl,m4.same _ _ m3.here,m4.here,by rw [List.length_take,List.length_drop]; omega,λ q5 K5 m5=>?_⟩
 refine ⟨(by show 1<=1000; decide),λ q6 K6 m6=>⟨(by show 1<=1000; decide),λ q7 K7 m7=>⟨(by show 2<=1000; decide),λ q8 K8 m8=>⟨(by show 4<=1000; decide),λ q9 K9 m9=>?_⟩⟩⟩⟩
 refine ⟨q9,rfl,⟨_,SqL.of m9.here⟩,?_⟩
 have k89:=m9.same
 have k79:=m8.same.trans k89
 have k69:=m7.same.trans k79
 have k59:=m6.same.trans k69
 have k49:=m5.same.trans k59
 have k39:=m4.same.trans k49
 have k29:=m3.same.trans k39
 have k19:=m2.same.trans k29
 have k09:=m1'.same.trans k19
 have P9:=Paired.mapP pS λ _ _ h=>StpL.keep k09 h
 have fm:∃ f:Fin 10,m=f.val+1:=⟨⟨m - 1,by omega⟩,by show m=m - 1+1; omega⟩
 have all:∀ x∈[V.ref q1,V.ref q2,V.ref q5,V.ref q8],∃ b zs ss,x=V.ref b/\K9 b=some (.lst zs)/\Paired (StpL K9) zs ss/\ss.length<=100/\sfF m (a6H m) ss (endR m (a6H m) ss) ≠ .ok:=by
  have pl:=b0Z m m1
  obtain ⟨f,hf⟩:=fm
  intro x hx
  rcases List.mem_cons.mp hx with rfl | hx
  ·refine ⟨q1,_,_,rfl,k19 _ _ m1'.here,a8X P9,by rw [List.length_dropLast]; omega,b6A ?_⟩
   rw [hf]
   exact c1A f
  rcases List.mem_cons.mp hx with rfl | hx
  ·refine ⟨q2,_,[],rfl,k29 _ _ m2.here,.nil,by decide,b6A ?_⟩
   rw [hf]
   exact c3V f
  rcases List.mem_cons.mp hx with rfl | hx
  ·refine ⟨q5,_,_,rfl,k59 _ _ m5.here,paired_app (Sm.paired_take (at_+1) P9) (Sm.paired_drop at_ P9),by rw [List.length_append,List.length_take,List.length_drop]; omega,b6A ?_⟩
   have:=b7D f ⟨at_ - 1,by omega⟩ (by show at_ - 1+1 < _; omega)
   unfold badB at this
   rw [<- hf] at this
   have ee:(⟨at_ - 1,by omega⟩:Fin 29).val+1=at_:=by show at_ - 1+1=at_; omega
   rw [ee] at this
   exact this
  ·rw [List.mem_singleton.mp hx]
   refine ⟨q8,_,[.leaf,.join],rfl,k89 _ _ m8.here,.cons ⟨q6,rfl,k69 _ _ m6.here⟩ (.cons ⟨q7,rfl,k79 _ _ m7.here⟩ .nil),by show 2<=100; decide,b6A ?_⟩
   rw [hf]
   exact c1B f
 have gV:∀ G,Same K9 G->GraphV K G (.ref pw) m (a6H m):=λ G s=>⟨pw,pt',rfl,SqT.of ((k09.trans s) _ _ hw),xs',SqL.of ((k09.trans s) _ _ ht'),Paired.mapP pT λ _ _ ⟨q,e,h⟩=>⟨q,e,SqT.of ((k09.trans s) _ _ h)⟩,by
  show ((List.range (m - 1)).map _).length<=1000
  rw [List.length_map,List.length_range]
  omega⟩
 refine a5O (xs:=[V.ref q1,V.ref q2,V.ref q5,V.ref q8]) (λ i σ G=>(∃ o9:Option V,σ=[some (.ref a),some (.int n),some (.ref l),some (.ref r),some (a9K rs),some v5,some (.ref pw),some (.ref ps),some (.int (at_:Nat)),o9])/\Same K9 G) ⟨⟨none,rfl⟩,Same.refl _⟩ (λ i σ G _ ⟨_,s⟩=>SqL.of (s _ _ m9.here)) ?_ ?_
 ·rintro i x σ G hx ⟨⟨o9,rfl⟩,s⟩
  obtain ⟨b,zs,ss,rfl,hb,pz,lz,bad⟩:=all x (List.mem_of_getElem? hx)
  exact ⟨_,rfl,_,rfl,.ref pw,m,a6H m,b,zs,ss,rfl,gV G s,m10,SqL.of (s _ _ hb),Paired.mapP pz λ _ _ ⟨q,e,h⟩=>⟨q,e,SqT.of (s _ _ h)⟩,by omega,.inl ⟨bad,λ G' s'=>⟨rfl,_,rfl,iteF ⟨⟨_,rfl⟩,s.trans s'⟩⟩⟩⟩
 ·rintro σ G ⟨⟨o9,rfl⟩,s⟩
  obtain ⟨f,hf⟩:=fm
  have okS:sfF m (a6H m) (a9J m) (endR m (a6H m) (a9J m)) = .ok:=d1E (by rw [hf]; exact c0Z f)
  exact ⟨_,rfl,_,rfl,.ref pw,m,a6H m,ps,us,a9J m,rfl,gV G s,m10,SqL.of ((k09.trans s) _ _ hs),Paired.mapP pS λ _ _ ⟨q,e,h⟩=>⟨q,e,SqT.of ((k09.trans s) _ _ h)⟩,by rw [b0Z m m1]; omega,.inr ⟨okS,λ G' s'=>⟨rfl,q G'⟩⟩⟩
end
end K
open PySem PySem.W PyProof.Rows
def PySem.W.Fast.tw10105669426068100373 : Unit := ()
def PySem.W.Fast.tw11506779265698173525 : Unit := ()
def PySem.W.Fast.tw2810361429501940596 : Unit := ()
def PySem.W.Fast.tw15582048914031317321 : Unit := ()
def PySem.W.Fast.tw11897148614897323588 : Unit := ()
def PySem.W.Fast.tw16341622288528319661 : Unit := ()
def PySem.W.Fast.tw5874034711756195055 : Unit := ()
def PySem.W.Fast.tw2020311169669609608 : Unit := ()
def PySem.W.Fast.tw10590694238609489299 : Unit := ()
def PySem.W.Fast.tw460454552999201065 : Unit := ()
def PySem.W.Fast.tw4727085957718933116 : Unit := ()
def PySem.W.Fast.tw11676834292176373255 : Unit := ()
def PySem.W.Fast.tw5922321057338268177 : Unit := ()
def PySem.W.Fast.tw15295146742871180509 : Unit := ()
def PySem.W.Fast.tw1353838888430370977 : Unit := ()
def PySem.W.Fast.tw6185597584218573996 : Unit := ()
def PySem.W.Fast.tw12009974577086824656 : Unit := ()
def PySem.W.Fast.tw1797192821442870507 : Unit := ()
def PySem.W.Fast.tw16953585674965149039 : Unit := ()
def PySem.W.Fast.tw3565126186521920913 : Unit := ()
def PySem.W.Fast.tw17846064160949436541 : Unit := ()
def PySem.W.Fast.tw479680578199876347 : Unit := ()
def PySem.W.Fast.tw11967223129044361291 : Unit := ()
def PySem.W.Fast.tw11098137110806916895 : Unit := ()
def PySem.W.Fast.tw12985037445996540961 : Unit := ()
def PySem.W.Fast.tw1689024348969216630 : Unit := ()
def PySem.W.Fast.tw11197079982528747193 : Unit := ()
def PySem.W.Fast.tw16997277149195297157 : Unit := ()
def PySem.W.Fast.tw1588200841735944291 : Unit := ()
def PySem.W.Fast.tw1122879790768976153 : Unit := ()
def PySem.W.Fast.tw4475440474086086062 : Unit := ()
def PySem.W.Fast.tw7387531295561589136 : Unit := ()
def PySem.W.Fast.tw3381753949748135895 : Unit := ()
def PySem.W.Fast.tw3880457746031149469 : Unit := ()
def PySem.W.Fast.tw4881384863627389848 : Unit := ()
def PySem.W.Fast.tw2506712579118533058 : Unit := ()
def PySem.W.Fast.tw15579221467415061893 : Unit := ()
def PySem.W.Fast.tw8582961315714653842 : Unit := ()
set_option maxRecDepth 100000 in
set_option maxHeartbeats 0 in
theorem PySem.Challenge.cw_bagwood_k56_steps_refused_holds : PySem.Challenge.rw_bagwood_k56_steps_refused.Holds := by
 w_on; o_law; k_head; (case hw => w_witness2)
 k_fill
 refine L2.walk_ofK (l := PySem.Challenge.rw_bagwood_k56_steps_refused) (n := 63) (k := 16) (x := "_law_script") (CX := L2.CX0) (sp := Lw.spLaw) rfl (by decide) rfl ⟨rfl, by decide, by decide⟩ (fun w h Y => PySem.W.kIn_of Y) ?F ?S ?C
 case F =>
  intro w mg fa h KX G hmg
  have B : L2.Bl mg := by
   refine' L2.bl_mk KX G ?z1 ?z2 ?z3 ?z4 ?z5 ?z6 ?z7 ?z8 ?z9 ?z10 ?z11 ?z12 ?z13 ?z14 ?z15 ?z16 ?z17
   all_goals k_is
  have dZ19 : Nonempty (L2.Dn (L2.KOf KX) mg "is_whole" K.a9S ["thing"]) := by
   dsimp only [L2.KOf]
   refine' L2.dn_mk1 KX G ?a ?l ?c ?k rfl (fun _ _ _ _ _ _ _ => rfl)
   (case a => k_is); (case l => k_is); (case c => k_is); (case k => k_is)
  obtain ⟨dZ19⟩ := dZ19
  have dZ15 : Nonempty (L2.Dn (L2.KOf KX) mg "is_below" K.a9T ["n", "thing"]) := by
   dsimp only [L2.KOf]
   refine' L2.dn_mk2 KX G ?a ?l ?c ?k rfl (fun _ _ _ _ _ _ _ _ => rfl)
   (case a => k_is); (case l => k_is); (case c => k_is); (case k => k_is)
  obtain ⟨dZ15⟩ := dZ15
  have dZ17 : Nonempty (L2.Dn (L2.KOf KX) mg "is_set" K.b5I ["n", "places"]) := by
   dsimp only [L2.KOf]
   refine' L2.dn_mk2 KX G ?a ?l ?c ?k rfl (fun _ _ _ _ _ _ _ _ => rfl)
   (case a => k_is); (case l => k_is); (case c => k_is); (case k => k_is)
  obtain ⟨dZ17⟩ := dZ17
  have dZ18 : Nonempty (L2.Dn (L2.KOf KX) mg "is_up" K.b9L ["k", "up"]) := by
   dsimp only [L2.KOf]
   refine' L2.dn_mk2 KX G ?a ?l ?c ?k rfl (fun _ _ _ _ _ _ _ _ => rfl)
   (case a => k_is); (case l => k_is); (case c => k_is); (case k => k_is)
  obtain ⟨dZ18⟩ := dZ18
  have dZ25 : Nonempty (L2.Dn (L2.KOf KX) mg "row_fault" K.a8H ["n", "rows"]) := by
   dsimp only [L2.KOf]
   refine' L2.dn_mk2 KX G ?a ?l ?c ?k rfl (fun _ _ _ _ _ _ _ _ => rfl)
   (case a => k_is); (case l => k_is); (case c => k_is); (case k => k_is)
  obtain ⟨dZ25⟩ := dZ25
  have dZ23 : Nonempty (L2.Dn (L2.KOf KX) mg "place_fault" K.a4E ["n", "rows"]) := by
   dsimp only [L2.KOf]
   refine' L2.dn_mk2 KX G ?a ?l ?c ?k rfl (fun _ _ _ _ _ _ _ _ => rfl)
   (case a => k_is); (case l => k_is); (case c => k_is); (case k => k_is)
  obtain ⟨dZ23⟩ := dZ23
  have dZ32 : Nonempty (L2.Dn (L2.KOf KX) mg "tie_fault" K.a5L ["ties", "rows"]) := by
   dsimp only [L2.KOf]
   refine' L2.dn_mk2 KX G ?a ?l ?c ?k rfl (fun _ _ _ _ _ _ _ _ => rfl)
   (case a => k_is); (case l => k_is); (case c => k_is); (case k => k_is)
  obtain ⟨dZ32⟩ := dZ32
  have dZ16 : Nonempty (L2.Dn (L2.KOf KX) mg "is_held" K.a8I ["rows", "up", "v"]) := by
   dsimp only [L2.KOf]
   refine' L2.dn_mk3 KX G ?a ?l ?c ?k rfl (fun _ _ _ _ _ _ _ _ _ => rfl)
   (case a => k_is); (case l => k_is); (case c => k_is); (case k => k_is)
  obtain ⟨dZ16⟩ := dZ16
  have dZ9 : Nonempty (L2.Dn (L2.KOf KX) mg "apart_fault" K.a4F ["n", "rows"]) := by
   dsimp only [L2.KOf]
   refine' L2.dn_mk2 KX G ?a ?l ?c ?k rfl (fun _ _ _ _ _ _ _ _ => rfl)
   (case a => k_is); (case l => k_is); (case c => k_is); (case k => k_is)
  obtain ⟨dZ9⟩ := dZ9
  have dZ13 : Nonempty (L2.Dn (L2.KOf KX) mg "fault" K.b9K ["graph", "rows"]) := by
   dsimp only [L2.KOf]
   refine' L2.dn_mk2 KX G ?a ?l ?c ?k rfl (fun _ _ _ _ _ _ _ _ => rfl)
   (case a => k_is); (case l => k_is); (case c => k_is); (case k => k_is)
  obtain ⟨dZ13⟩ := dZ13
  have dZ20 : Nonempty (L2.Dn (L2.KOf KX) mg "joint" K.b9T ["one", "other"]) := by
   dsimp only [L2.KOf]
   refine' L2.dn_mk2 KX G ?a ?l ?c ?k rfl (fun _ _ _ _ _ _ _ _ => rfl)
   (case a => k_is); (case l => k_is); (case c => k_is); (case k => k_is)
  obtain ⟨dZ20⟩ := dZ20
  have dZ22 : Nonempty (L2.Dn (L2.KOf KX) mg "less" K.b5J ["one", "other"]) := by
   dsimp only [L2.KOf]
   refine' L2.dn_mk2 KX G ?a ?l ?c ?k rfl (fun _ _ _ _ _ _ _ _ => rfl)
   (case a => k_is); (case l => k_is); (case c => k_is); (case k => k_is)
  obtain ⟨dZ22⟩ := dZ22
  have dZ11 : Nonempty (L2.Dn (L2.KOf KX) mg "bag_behind" K.a3R ["graph", "done", "step", "used"]) := by
   dsimp only [L2.KOf]
   refine' L2.dn_mk4 KX G ?a ?l ?c ?k rfl (fun _ _ _ _ _ _ _ _ _ _ => rfl)
   (case a => k_is); (case l => k_is); (case c => k_is); (case k => k_is)
  obtain ⟨dZ11⟩ := dZ11
  have dZ26 : Nonempty (L2.Dn (L2.KOf KX) mg "run" K.d0N ["graph", "steps"]) := by
   dsimp only [L2.KOf]
   refine' L2.dn_mk2 KX G ?a ?l ?c ?k rfl (fun _ _ _ _ _ _ _ _ => rfl)
   (case a => k_is); (case l => k_is); (case c => k_is); (case k => k_is)
  obtain ⟨dZ26⟩ := dZ26
  have dZ14 : Nonempty (L2.Dn (L2.KOf KX) mg "fault_behind" K.a2Y ["graph", "steps", "tops", "pile"]) := by
   dsimp only [L2.KOf]
   refine' L2.dn_mk4 KX G ?a ?l ?c ?k rfl (fun _ _ _ _ _ _ _ _ _ _ => rfl)
   (case a => k_is); (case l => k_is); (case c => k_is); (case k => k_is)
  obtain ⟨dZ14⟩ := dZ14
  have dZ27 : Nonempty (L2.Dn (L2.KOf KX) mg "run_whole" K.a8O ["graph", "steps"]) := by
   dsimp only [L2.KOf]
   refine' L2.dn_mk2 KX G ?a ?l ?c ?k rfl (fun _ _ _ _ _ _ _ _ => rfl)
   (case a => k_is); (case l => k_is); (case c => k_is); (case k => k_is)
  obtain ⟨dZ27⟩ := dZ27
  have dZ12 : Nonempty (L2.Dn (L2.KOf KX) mg "bags_of" K.b2Q ["graph", "steps"]) := by
   dsimp only [L2.KOf]
   refine' L2.dn_mk2 KX G ?a ?l ?c ?k rfl (fun _ _ _ _ _ _ _ _ => rfl)
   (case a => k_is); (case l => k_is); (case c => k_is); (case k => k_is)
  obtain ⟨dZ12⟩ := dZ12
  have dZ24 : Nonempty (L2.Dn (L2.KOf KX) mg "refuse_wide" K.a6F ["bags"]) := by
   dsimp only [L2.KOf]
   refine' L2.dn_mk1 KX G ?a ?l ?c ?k rfl (fun _ _ _ _ _ _ _ => rfl)
   (case a => k_is); (case l => k_is); (case c => k_is); (case k => k_is)
  obtain ⟨dZ24⟩ := dZ24
  have dZ10 : Nonempty (L2.Dn (L2.KOf KX) mg "are_crossed" K.a6C ["one", "other"]) := by
   dsimp only [L2.KOf]
   refine' L2.dn_mk2 KX G ?a ?l ?c ?k rfl (fun _ _ _ _ _ _ _ _ => rfl)
   (case a => k_is); (case l => k_is); (case c => k_is); (case k => k_is)
  obtain ⟨dZ10⟩ := dZ10
  have dZ31 : Nonempty (L2.Dn (L2.KOf KX) mg "tidied" K.b5O ["tree"]) := by
   dsimp only [L2.KOf]
   refine' L2.dn_mk1 KX G ?a ?l ?c ?k rfl (fun _ _ _ _ _ _ _ => rfl)
   (case a => k_is); (case l => k_is); (case c => k_is); (case k => k_is)
  obtain ⟨dZ31⟩ := dZ31
  have dZ28 : Nonempty (L2.Dn (L2.KOf KX) mg "steps_between" K.a4T ["lower", "upper"]) := by
   dsimp only [L2.KOf]
   refine' L2.dn_mk2 KX G ?a ?l ?c ?k rfl (fun _ _ _ _ _ _ _ _ => rfl)
   (case a => k_is); (case l => k_is); (case c => k_is); (case k => k_is)
  obtain ⟨dZ28⟩ := dZ28
  have dZ30 : Nonempty (L2.Dn (L2.KOf KX) mg "steps_up_to" K.a4H ["graph", "rows", "k"]) := by
   dsimp only [L2.KOf]
   refine' L2.dn_mk3 KX G ?a ?l ?c ?k rfl (fun _ _ _ _ _ _ _ _ _ => rfl)
   (case a => k_is); (case l => k_is); (case c => k_is); (case k => k_is)
  obtain ⟨dZ30⟩ := dZ30
  have dZ29 : Nonempty (L2.Dn (L2.KOf KX) mg "steps_of" K.a9X ["graph", "tree"]) := by
   dsimp only [L2.KOf]
   refine' L2.dn_mk2 KX G ?a ?l ?c ?k rfl (fun _ _ _ _ _ _ _ _ => rfl)
   (case a => k_is); (case l => k_is); (case c => k_is); (case k => k_is)
  obtain ⟨dZ29⟩ := dZ29
  have dZ0 : Nonempty (L2.Dn (L2.KOf KX) mg "_law_at" K.b2W ["_law_script", "_law_k"]) := by
   dsimp only [L2.KOf]
   refine' L2.dn_mk2 KX G ?a ?l ?c ?k rfl (fun _ _ _ _ _ _ _ _ => rfl)
   (case a => k_is); (case l => k_is); (case c => k_is); (case k => k_is)
  obtain ⟨dZ0⟩ := dZ0
  have dZ5 : Nonempty (L2.Dn (L2.KOf KX) mg "_law_rows" K.a8R ["_law_script", "_law_n", "_law_most"]) := by
   dsimp only [L2.KOf]
   refine' L2.dn_mk3 KX G ?a ?l ?c ?k rfl (fun _ _ _ _ _ _ _ _ _ => rfl)
   (case a => k_is); (case l => k_is); (case c => k_is); (case k => k_is)
  obtain ⟨dZ5⟩ := dZ5
  have dZ8 : Nonempty (L2.Dn (L2.KOf KX) mg "_law_ties" K.a5M ["_law_script", "_law_rows_here", "_law_n"]) := by
   dsimp only [L2.KOf]
   refine' L2.dn_mk3 KX G ?a ?l ?c ?k rfl (fun _ _ _ _ _ _ _ _ _ => rfl)
   (case a => k_is); (case l => k_is); (case c => k_is); (case k => k_is)
  obtain ⟨dZ8⟩ := dZ8
  have dZ3 : Nonempty (L2.Dn (L2.KOf KX) mg "_law_lost" K.a8S ["_law_rows_here", "_law_v"]) := by
   dsimp only [L2.KOf]
   refine' L2.dn_mk2 KX G ?a ?l ?c ?k rfl (fun _ _ _ _ _ _ _ _ => rfl)
   (case a => k_is); (case l => k_is); (case c => k_is); (case k => k_is)
  obtain ⟨dZ3⟩ := dZ3
  have dZ6 : Nonempty (L2.Dn (L2.KOf KX) mg "_law_spoiled" K.a3X ["_law_script", "_law_n", "_law_ties_here", "_law_rows_here"]) := by
   dsimp only [L2.KOf]
   refine' L2.dn_mk4 KX G ?a ?l ?c ?k rfl (fun _ _ _ _ _ _ _ _ _ _ => rfl)
   (case a => k_is); (case l => k_is); (case c => k_is); (case k => k_is)
  obtain ⟨dZ6⟩ := dZ6
  have dZ2 : Nonempty (L2.Dn (L2.KOf KX) mg "_law_class" K.a4U ["_law_error"]) := by
   dsimp only [L2.KOf]
   refine' L2.dn_mk1 KX G ?a ?l ?c ?k rfl (fun _ _ _ _ _ _ _ => rfl)
   (case a => k_is); (case l => k_is); (case c => k_is); (case k => k_is)
  obtain ⟨dZ2⟩ := dZ2
  have dZ7 : Nonempty (L2.Dn (L2.KOf KX) mg "_law_steps_refused" K.a3F ["_law_web", "_law_rows_here"]) := by
   dsimp only [L2.KOf]
   refine' L2.dn_mk2 KX G ?a ?l ?c ?k rfl (fun _ _ _ _ _ _ _ _ => rfl)
   (case a => k_is); (case l => k_is); (case c => k_is); (case k => k_is)
  obtain ⟨dZ7⟩ := dZ7
  have dZ1 : Nonempty (L2.Dn (L2.KOf KX) mg "_law_bags_refused" K.a3P ["_law_web", "_law_steps"]) := by
   dsimp only [L2.KOf]
   refine' L2.dn_mk2 KX G ?a ?l ?c ?k rfl (fun _ _ _ _ _ _ _ _ => rfl)
   (case a => k_is); (case l => k_is); (case c => k_is); (case k => k_is)
  obtain ⟨dZ1⟩ := dZ1
  have dZ4 : Nonempty (L2.Dn (L2.KOf KX) mg "_law_path" K.a8W ["_law_script"]) := by
   dsimp only [L2.KOf]
   refine' L2.dn_mk1 KX G ?a ?l ?c ?k rfl (fun _ _ _ _ _ _ _ => rfl)
   (case a => k_is); (case l => k_is); (case c => k_is); (case k => k_is)
  obtain ⟨dZ4⟩ := dZ4
  have dZ21 : Nonempty (L2.Dn (L2.KOf KX) mg "law" K.c7V ["_law_script"]) := by
   dsimp only [L2.KOf]
   refine' L2.dn_mk1 KX G ?a ?l ?c ?k rfl (fun _ _ _ _ _ _ _ => rfl)
   (case a => k_is); (case l => k_is); (case c => k_is); (case k => k_is)
  obtain ⟨dZ21⟩ := dZ21
  have U : Nonempty (L2.Used w (L2.KOf KX) mg) := by
   dsimp only [L2.KOf]
   refine' L2.used_mk KX G ?a ?l ?c
   (case a => k_is); (case l => k_is); (case c => exact ⟨_, _, _, _, _, _, _, _, _, _, rfl⟩)
  obtain ⟨U⟩ := U
  have Cn : Nonempty (K.Cl (L2.KOf KX) mg) := by
   dsimp only [L2.KOf]
   refine' K.d2T KX G ?aBagError ?aNoGraph ?aNoPlace ?aNoTie ?aNoBag ?aNoTree ?aNoOrder ?aNoPart ?aNoSteps ?aTooWide ?aNoColours ?aNoWeights ?aNoNumber ?aNoName ?aNoText ?aNoRow ⟨?gNoTree1, ?gNoTree2, ?gNoTree3, ?gNoTree4, ?gNoTree5, ?gNoTree6, ?gNoTree7, ?gNoTree8⟩ ?vNoTree ⟨?gNoSteps1, ?gNoSteps2, ?gNoSteps3, ?gNoSteps4, ?gNoSteps5, ?gNoSteps6, ?gNoSteps7, ?gNoSteps8⟩ ?vNoSteps ⟨?gTooWide1, ?gTooWide2, ?gTooWide3, ?gTooWide4, ?gTooWide5, ?gTooWide6, ?gTooWide7, ?gTooWide8⟩ ?vTooWide
   (case aBagError => k_is)
   (case aNoGraph => k_is)
   (case aNoPlace => k_is)
   (case aNoTie => k_is)
   (case aNoBag => k_is)
   (case aNoTree => k_is)
   (case aNoOrder => k_is)
   (case aNoPart => k_is)
   (case aNoSteps => k_is)
   (case aTooWide => k_is)
   (case aNoColours => k_is)
   (case aNoWeights => k_is)
   (case aNoNumber => k_is)
   (case aNoName => k_is)
   (case aNoText => k_is)
   (case aNoRow => k_is)
   (case gNoTree1 => k_is)
   (case gNoTree2 => k_is)
   (case gNoTree3 => k_is)
   (case gNoTree4 => k_is)
   (case gNoTree5 => k_is)
   (case gNoTree6 => k_is)
   (case gNoTree7 => k_is)
   (case gNoTree8 => kernel_rfl!)
   (case vNoTree => kernel_rfl!)
   (case gNoSteps1 => k_is)
   (case gNoSteps2 => k_is)
   (case gNoSteps3 => k_is)
   (case gNoSteps4 => k_is)
   (case gNoSteps5 => k_is)
   (case gNoSteps6 => k_is)
   (case gNoSteps7 => k_is)
   (case gNoSteps8 => kernel_rfl!)
   (case vNoSteps => kernel_rfl!)
   (case gTooWide1 => k_is)
   (case gTooWide2 => k_is)
   (case gTooWide3 => k_is)
   (case gTooWide4 => k_is)
   (case gTooWide5 => k_is)
   (case gTooWide6 => k_is)
   (case gTooWide7 => k_is)
   (case gTooWide8 => kernel_rfl!)
   (case vTooWide => kernel_rfl!)
  obtain ⟨C⟩ := Cn
  have Ct : Nonempty (K.Cts mg) := by
   refine' K.d2R KX G ?aMOST_IN_A_BAG
   (case aMOST_IN_A_BAG => k_is)
  obtain ⟨Ct⟩ := Ct
  exact L2.law_at hmg dZ21 fun base => K.d2S B C U Ct dZ19 dZ15 dZ17 dZ18 dZ25 dZ23 dZ32 dZ16 dZ9 dZ13 dZ20 dZ22 dZ11 dZ26 dZ14 dZ27 dZ12 dZ24 dZ10 dZ31 dZ28 dZ30 dZ29 dZ0 dZ5 dZ8 dZ3 dZ6 dZ2 dZ7 dZ1 dZ4 dZ21
 case S => exact fun K H a ns hl hO hS => ⟨a, ns, rfl, Lw.Scr.of hO hS, hl, fun _ => rfl⟩
 case C => exact fun _ _ _ _ z => z
