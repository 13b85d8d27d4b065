import PyProof.Rows.All
import Wide.All
import OpenK.AllK
import Wide.FinOn
import PySem.Challenge.RW_bagwood_k63_bags_laid_together
set_option Elab.async false
set_option linter.all false
set_option compiler.extract_closed false
set_option genSizeOf false
set_option tactic.hygienic false
set_option maxRecDepth 100000
local macro_rules | `(tactic| omega) => `(tactic| first | lia | omega (config := {}))
set_option maxHeartbeats 16000000
local macro_rules | `(tactic| decide) => `(tactic| decide +kernel)
local macro_rules | `(()) => `(by first|decide|omega|exact Nat.le_of_ble_eq_true rfl|grind)
local macro_rules | `($x⁻¹) => `(($x).heap.objs.size)
noncomputable section
def Q_(_:0=0:=by first|rfl|decide):=0
local macro_rules|`(@&$x)=>`(autoParam $x Q_._auto_1)
def Q0_(_:0=0:=by intro _;rfl):=0
def Q1_(_:0=0:=by first|exact Or.inl rfl|exact Or.inr Z):=0
def Q2_(_:0=0:=by first|exact .inl rfl|exact .inr rfl|assumption):=0
def Z{α:Sort _}{a:α}:a=a:=rfl
def M:=@PySem.wpAny_bind
def ao:=@PySem.wpAny_pure
def aU:=@List.mem_cons_self
def aK:=@List.length_map
def bR:=@List.getElem?_eq_getElem
def bJ:=@PySem.Heap.get?_push_of_some
def bD:=@List.mem_cons_of_mem
def bL:=@List.mem_singleton
def bU:=@PySem.Heap.get?_push_size
def aV:=@PySem.Paired.length
def aL:=@Nat.le_refl
def bB:=@decide_eq_true
def cC:=@List.length_append
def aX:=@PySem.Heap.lt_size
def fO:=@List.getElem?_eq_some_iff
def aA:=@if_neg
def cY:=@Bool.false_ne_true
def cM:=@decide_eq_false
def b7:=@List.mem_cons
def dU:=@decide_eq_true_iff
def cN:=@List.mem_append
def aG:=@if_pos
def bW:=@Nat.ne_of_lt
def d7:=@List.getElem?_map
def cH:=@List.map_cons
def gB:=@List.mem_append_right
def dW:=@List.not_mem_nil
def dM:=@Option.some.inj
def eO:=@List.map_append
def fP:=@List.length_take
def iU:=@List.mem_of_getElem?
def cZ:=@Nat.le_trans
def gC:=@PySem.wpAny_call_entry
def iV:=@PySem.wpAny_setField_rec
def dh:=@Nat.zero_le
def gO:=@List.take_length
def iH:=@List.size_toArray
def iI:=@of_decide_eq_true
def eE:=@Nat.le_of_lt
def mR:=@PySem.F.plainAttrs_list
def fL:=@PySem.wpAny_holding
def jy:=@Nat.lt_of_lt_of_le
def mU:=@Option.map_eq_some_iff
def lH:=@List.mem_of_mem_take
def jz:=@Int.toNat_natCast
def oJ:=@PySem.wpAny_callSpecial?_slot
def jf:=@PySem.PassesOwn.never
def lK:=@PySem.W.mg_none_of
def kI:=@PySem.wpAny_newObj_type
def gD:=@Nat.ne_of_gt
def gF:=@List.mem_map
def jP:=@List.nodup_cons
def gk:=@PySem.wpAny_field
def lN:=@List.length_cons
def lQ:=@List.length_drop
def kJ:=@List.mem_filter
def jQ:=@List.take_succ
def lR:=@List.append_nil
def kW:=@PySem.Heap.size_push
def zR:=@List.take_succ_eq_append_getElem
def rR:=@List.getElem_of_mem
def rT:=@PySem.Heap.SameBut.update
def tD:=@PySem.Around.under_plainId
def oK:=@List.getElem_mem
def mV:=@List.mem_range
def xr:=@List.getElem?_append_right
def eZ:=@PyProof.Rows.wpS_bind
def rU:=@Int.emod_lt_of_pos
def iJ:=@PySem.wpAny_mono
def xu:=@Array.getElem?_eq_getElem
def ql:=@Bool.and_eq_true
def uK:=@List.mem_append_left
def jA:=@PySem.sizeLine_eq
def rW:=@List.length_range
def zT:=@PyProof.Rows.callWith_type1
def qp:=@Int.emod_nonneg
def oM:=@PySem.wpAny_seqItems
def xG:=@PySem.F.plainAttrs_dict
def tE:=@PySem.wpAny_dictEntries
def vM:=@List.mem_of_mem_drop
def zU:=@List.getElem?_append_left
def rY:=@PySem.codeAny_builtin
def vN:=@beq_eq_false_iff_ne
def vP:=@Array.length_toList
def xH:=@List.filterMap_append
def xK:=@List.take_append_drop
def kY:=@PySem.wpAny_rule
def tG:=@Bool.eq_iff_iff
def tH:=@PySem.W.kia_one
def zV:=@List.find?_cons_of_pos
def zW:=@List.find?_cons_of_neg
def vQ:=@PySem.wpAny_pyIter_list
def vR:=@List.append_assoc
def zX:=@List.length_singleton
def jR:=@PySem.wpAny_ite
def qt:=@List.map_map
def xM:=@PySem.wpAny_Call_Name_kw
def jg:=@PyProof.Rows.wpS_pure
def vU:=@PySem.wpAny_isInstance
def Du:=@List.pairwise_singleton
def tK:=@List.any_cons
def tL:=@PySem.wpAny_attempt
def nO:=@True.intro
def HN:=@List.perm_ext_iff_of_nodup
def xO:=@List.nodup_append
def xP:=@Bool.eq_false_iff
def Nb:=@PySem.F.slot_tuple_iterator_next
def zY:=@List.map_congr_left
def vV:=@List.range_succ
def Nf:=@PyProof.Rows.slot_tuple_getitem
def HS:=@List.drop_eq_getElem_cons
def Dv:=@PySem.Heap.get?_update_self
def Dw:=@List.length_filter_le
def xQ:=@Nat.lt_succ_self
def zZ:=@List.pairwise_cons
def Aa:=@PySem.tupleKind_room_in1
def Ng:=@PySem.wpAny_typeNameOfWhole_itemiter
def uL:=@PySem.plainId_quiet
def HW:=@PySem.SetTable.toList_insertAt
def Nh:=@PySem.wpAny_typeNameOfWhole_keyiter
def Ni:=@PySem.F.slot_dict_itemiterator_next
def Dz:=@List.dropLast_concat
def HX:=@PySem.F.slot_dict_items
def HY:=@PySem.F.type_dict_items
def Nj:=@PySem.F.slot_dict_keyiterator_next
def xR:=@PySem.wpAny_dictEpoch
def DG:=@PySem.mem_of_lookup
def DK:=@List.length_reverse
def Ia:=@PySem.SeqAt.canLay_of_shaped
def Ib:=@List.take_of_length_le
def vW:=@List.sum_cons
def DN:=@PySem.wpAny_pyIter_tuple
def DP:=@List.find?_eq_none
def Ie:=@Array.getElem?_toList
def Ig:=@PySem.wpAny_notOrdered_dict
def Ih:=@PySem.F.slot_dict_get
def Ab:=@PySem.wpAny_passesOwn
def Ac:=@Nat.not_lt_zero
def DQ:=@PySem.wpAny_truthy_bool
def vX:=@PySem.wpAny_typeOf
def Ii:=@List.Pairwise.filter
def DR:=@List.pairwise_map
def DW:=@PySem.typeIs_bool
def xT:=@Nat.lt_irrefl
def Nk:=@PySem.F.args_tuple_add_2
def Nm:=@List.filterMap_cons_some
def Np:=@PySem.F.entry_tuple_add
def DY:=@List.all_eq_true
def Nq:=@List.length_eq_zero_iff
def Ad:=@List.nodup_nil
def Ss:=@List.eq_nil_iff_forall_not_mem
def vY:=@Nat.le_succ
def Nr:=@PySem.F.slot_tuple_add
def xU:=@Nat.lt_trans
def xV:=@Nat.lt_or_ge
def Nt:=@Array.getElem?_eq_none
def Ij:=@List.filter_append
def Ae:=@PySem.wpAny_onRaise
def ZW:=@PySem.wpAny_callSpecialIfBoundUnlessNone?_slot
def Nu:=@PySem.F.slot_zip_next
def Ik:=@Nat.lt_succ_of_lt
def Il:=@PySem.wpAny_storeSet_of
def Im:=@PySem.wpAny_pyIter_slot
def xW:=@PySem.wpAny_letGo
def Ea:=@List.Perm.refl
def Eb:=@PySem.wpAny_fieldsOf
def Io:=@List.lookup_cons
def Af:=@Nat.sub_zero
def Ip:=@decide_eq_decide
def Ag:=@Nat.sub_self
def Nv:=@PySem.Heap.get?_update_ne
def Nx:=@List.getElem?_range
def Sv:=@List.length_filterMap_le
def Ec:=@List.cons.inj
def Ir:=@PySem.wpAny_specialOf
def Ny:=@PySem.W.callWith_K
def ZX:=@PySem.F.args_tuple_iterator_next_1
def Sw:=@PyProof.Rows.F.plain_set_update_loop
def Sx:=@List.filter_cons_of_pos
def Z0:=@PySem.F.entry_tuple_iterator_next
def Sy:=@PySem.wpAny_pyNext_list_item
def Ed:=@PySem.codeAny_mono
def Nz:=@List.take_sublist
def SJ:=@PySem.Calls.callWith_builtin
def SM:=@PySem.Heap.get?_update_other
def NK:=@PySem.wpAny_pyIter_enum
def Ef:=@PyProof.Rows.wpS_forRange
def Iu:=@PySem.wpAny_newTuple
def NP:=@PySem.Heap.get?_push_ne
def SN:=@Nat.lt_of_succ_lt_succ
def Iw:=@PySem.isSubtype_stop
def SQ:=@PySem.wpAny_isOneOf_itemiter
def SX:=@PySem.wpAny_nextOf_list_item
def Z1:=@PySem.F.args_dict_itemiterator_next_1
def S5:=@PySem.F.type_dict_get
def S6:=@PySem.F.slot_list_pop
def S7:=@PySem.F.type_list_pop
def NQ:=@PySem.noFill_tuple_add
def NT:=@PySem.F.plain_all_loop
def NZ:=@PySem.F.plain_any_loop
def N5:=@List.filter_cons
def N6:=@PySem.wpAny_askSetting
def N7:=@PySem.F.slot_bool_hash
def Z2:=@PySem.F.entry_dict_itemiterator_next
def N8:=@beq_self_eq_true
def Iz:=@PySem.W.mg_of
def IK:=@Bool.true_and
def S8:=@List.length_dropLast
def S9:=@List.pairwise_append
def Z4:=@PySem.F.entry_dict_keyiterator_next
def Tc:=@List.getLast?_concat
def Oa:=@PySem.wpAny_execs_nil
def Ob:=@PySem.F.slot_zip_next
def Td:=@List.filterMap_cons
def Tf:=@PySem.W.plainGet_of
def Tg:=@List.filter_sublist
def Z5:=@List.idxOf_lt_length_of_mem
def Z6:=@PySem.Calls.Name_function_global
def Tj:=@List.mem_filterMap
def Tn:=@List.filterMap_map
def Tp:=@Nat.lt_of_le_of_lt
def Z7:=@PySem.wpAny_letOwnedTupleGo_enum
def Tq:=@of_decide_eq_false
def Tr:=@Array.forIn_toList
def Tt:=@List.map_singleton
def Tv:=@List.sum_singleton
def Z8:=@PySem.Calls.call_function_entry
def Z9:=@List.pairwise_iff_getElem
def À:=@Classical.byContradiction
def Á:=@List.getElem?_zip_eq_some
def Â:=@List.getLastD_eq_getLast?
def Tw:=@PySem.Heap.SameBut.refl
def IV:=@PySem.wpAny_of_eq
def Oc:=@PySem.wpAny_standAt
def Od:=@PySem.seq_tuple_add
def Ã:=@PySem.wpAny_comprehension_free
def Oe:=@PySem.wpAny_handled
def Ä:=@List.find?_range_eq_some
def TF:=@PySem.wpAny_execs_cons
def TJ:=@Nat.min_le_right
def TQ:=@PySem.Heap.size_update
def TV:=@Nat.le_add_right
def TX:=@PySem.Heap.IsList.push
def IW:=@beq_iff_eq
def Og:=@Nat.le_of_eq
def Oh:=@PySem.concat_meets
def Ja:=@PySem.call_meets
def TY:=@List.of_mem_zip
def T7:=@PyProof.Rows.get?_update_seq
def T8:=@PySem.wpAny_updateSeq
def T9:=@PySem.size_of_entries
def Ua:=@PySem.wpAny_loadPart'
def Ub:=@PySem.isSubtype_type
def Uc:=@PySem.entryFor_alias
def Oi:=@PySem.wpAny_throw
def Ud:=@List.drop_zero
def Ue:=@PyProof.Rows.listUpdate_at
def Ug:=@PySem.wpAny_newList
def Uh:=@List.map_drop
def Ui:=@List.map_take
def Oj:=@PyProof.Rows.wpS_modify
def Ol:=@PyProof.Rows.size_push'
def Eg:=@PyProof.Rows.wpS_get
def Jb:=@PyProof.Rows.wpS_mono
open PySem PySem.Spec
abbrev aH:=PySem.W.Frag
abbrev bY:=Int×Int
def gw{α:Type}{l:List α}{i:Nat}{a:α}:l.getD i a=l[i]?.getD a:=List.getD_eq_getElem?_getD ..
namespace L2
open PyProof.Rows
abbrev Key:=Sum Int Str
def Jc:Key->Value->Bool
 |.inl k,v=>Value.isInt k v
 |.inr x,v=>Value.isStrOf x v
def a5P(w:World):Key->Int
 |.inl k=>hashInt k
 |.inr x=>hashStr w x
def iZ:∀{k:Key}{v:Value},Jc k v=true->(∃i t,k=Sum.inl i/\v=Value.int i t)\/(∃x t,k=Sum.inr x/\v=Value.str x t)
 |.inl i,v,h=>by
  obtain⟨t,e⟩:=Value.isInt_shape (k:=i) (v:=v) h
  exact .inl ⟨i,t,Z,e⟩
 |.inr x,v,h=>by
  obtain⟨t,e⟩:=Value.isStrOf_shape (x:=x) (v:=v) h
  exact .inr ⟨x,t,Z,e⟩
def X8(i:Int)(t:Tok):Jc (.inl i) (.int i t)=true:=by simp[Jc,Value.isInt]
def Yb(x:Str)(t:Tok):Jc (.inr x) (.str x t)=true:=by simp[Jc,Value.isStrOf]
def a1w(a b:Int):decide ((Sum.inl a:Key)=Sum.inl b)=(a==b):=by
 by_cases e:a=b
 ·subst e;simp
 ·have h:¬(Sum.inl a:Key)=Sum.inl b:=λq=>e (Sum.inl.inj q);rw[cM h];exact(vN.mpr e).symm
def a1x(a b:Str):decide ((Sum.inr a:Key)=Sum.inr b)=decide (a=b):=by
 by_cases e:a=b
 ·subst e;simp
 ·have h:¬(Sum.inr a:Key)=Sum.inr b:=λq=>e (Sum.inr.inj q);rw[cM h,cM e]
def a1y(a:Int)(b:Str):decide ((Sum.inl a:Key)=Sum.inr b)=false:=cM (λq=>nomatch q)
def a1z(a:Str)(b:Int):decide ((Sum.inr a:Key)=Sum.inl b)=false:=cM (λq=>nomatch q)
def cO(prog:Program)(w:World):PySem.KeyKind prog w Key where
 is:=Jc
 hash:=a5P w
 inj:=λv a b ha hb=>by
  rcases iZ ha with⟨i,t,rfl,rfl⟩|⟨x,t,rfl,rfl⟩
  ·rcases iZ hb with⟨j,u,rfl,e⟩|⟨y,u,rfl,e⟩
   ·injection e with e1 _;rw[e1]
   ·exact nomatch e
  ·rcases iZ hb with⟨j,u,rfl,e⟩|⟨y,u,rfl,e⟩
   ·exact nomatch e
   ·injection e with e1 _;rw[e1]
 byValue:=λk v h=>by
  rcases iZ h with⟨i,t,rfl,rfl⟩|⟨x,t,rfl,rfl⟩<;>rfl
 pyHash:=λhv h=>by
  rcases iZ hv with⟨i,t,rfl,rfl⟩|⟨x,t,rfl,rfl⟩
  ·exact wpAny_pyHash_int h
  ·exact wpAny_pyHash_str h
 eqBool:=λhu hv h=>by
  rcases iZ hu with⟨i,t,rfl,rfl⟩|⟨x,t,rfl,rfl⟩
  ·rcases iZ hv with⟨j,u,rfl,rfl⟩|⟨y,u,rfl,rfl⟩
   ·rw[a1w]at h;exact wpAny_eqBool_int h
   ·rw[a1y]at h;exact SeqAt.EqAt.int_str i t y u _ _ _ _ h
  ·rcases iZ hv with⟨j,u,rfl,rfl⟩|⟨y,u,rfl,rfl⟩
   ·rw[a1z]at h;exact SeqAt.EqAt.str_int x t j u _ _ _ _ h
   ·rw[a1x]at h;exact wpAny_eqBool_str h
 «strs» := λk x t v h=>by
  rcases iZ h with⟨i,u,rfl,e⟩|⟨y,u,rfl,e⟩
  ·exact nomatch e
  ·injection e with e1 _
   subst e1
   cases v<;>rfl
def Uj(prog:Program)(w:World)(k:Key)(v:Value):(cO prog w).is k v=Jc k v:=rfl
def QB(prog:Program)(w:World)(i:Int)(t:Tok):(cO prog w).is (.inl i) (.int i t)=true:=X8 i t
def gG(prog:Program)(w:World)(x:Str)(t:Tok):(cO prog w).is (.inr x) (.str x t)=true:=Yb x t
inductive V where
 |non|bl (b:Bool)|int (i:Int)|str (x:Str)|Wc (b:Array UInt8)|flt (b:UInt64)|ref (a:Addr)|ty (n:String)
 deriving DecidableEq
variable{pos p:Pos}{K:aH}{A:Around}{h h' base:Heap}{e tg c:Expr}{es:List Expr}{k t' n:Nat}{Z98:Model}{op:CmpOp}{ch fp:List Addr}{N:List Str}{body:List Stmt}{mA mg:Str->Option Value}{pl:Sem Bool}{kw:List (Str×Value)}
def cV:V->Value->Prop
 |.non,u=>u=Value.none
 |.bl b,u=>u=Value.bool b
 |.int i,u=>∃t,u=Value.int i t
 |.str x,u=>∃t,u=Value.str x t
 |.Wc b,u=>∃t,u=Value.bytes b t
 |.flt b,u=>∃t,u=Value.float b t
 |.ref a,u=>u=Value.ref a
 |.ty n,u=>u=Value.type n
abbrev dz:List V->List Value->Prop:=Paired cV
def dz.length{xs:List V}{us:List Value}(r:dz xs us):xs.length=us.length:=aV r
theorem dz.get:∀{xs:List V}{us:List Value}{i:Nat}{x:V},dz xs us->xs[i]?=some x->∃u,us[i]?=some u/\cV x u
 |_,_,_,_,.nil,e=>by simp at e
 |_,_,0,_,.cons r _,e=>by simp at e;subst e;exact⟨_,Z,r⟩
 |_,_,i+1,x,.cons _ t,e=>by
  obtain⟨u,h1,h2⟩:=dz.get (i:=i) (x:=x) t (by simpa using e)
  exact⟨u,by simpa using h1,h2⟩
def dz.append{xs ys:List V}{us ws:List Value}(h:dz xs us)(s:dz ys ws):dz (xs++ys) (us++ws):=by
 induction h with
 |nil=>exact s
 |cons r _ ih=>exact .cons r ih
theorem dz.take:∀{xs:List V}{us:List Value} (n:Nat),dz xs us->dz (xs.take n) (us.take n)
 |_,_,0,_=>.nil
 |_,_,_+1,.nil=>.nil
 |_,_,n+1,.cons r t=>.cons r (dz.take n t)
theorem dz.drop:∀{xs:List V}{us:List Value} (n:Nat),dz xs us->dz (xs.drop n) (us.drop n)
 |_,_,0,r=>r
 |_,_,_+1,.nil=>.nil
 |_,_,n+1,.cons _ t=>dz.drop n t
def sJ:Option V->Option Value->Prop
 |some v,some u=>cV v u
 |none,none=>True
 |_,_=>False
def KV{κ:Type}:List (κ×V)->List (κ×Value)->Prop:=Paired λ(p:κ×V) (q:κ×Value)=>p.1=q.1/\cV p.2 q.2
def kV:Key->V
 |.inl i=>.int i
 |.inr x=>.str x
inductive HO where
 |lst (xs:List V)
 |tup (xs:List V)
 |dK (O:List (Key×V))|dT (O:List (List Key×V))
 |set (S:Int->Bool) (n:Nat)
 |ins (C dx:Addr) (fs:List (Str×V))
 |own (x:Addr)
 |xd (fs:List (Str×V))
 |met (f x:Addr)
 |rng (lo hi:Int)
 |iC (o:Obj) (u:HO)
 |tbl (ps:Array Value)
 |ext (φ:Heap->Prop)
abbrev Hp:=Addr->Option HO
def cI(H:Hp)(a:Addr)(o:HO):Hp:=λb=>if b=a then some o else H b
def cP{H:Hp}{a:Addr}{o:HO}:cI H a o a=some o:=by unfold cI;rw[aG rfl]
def aO{H:Hp}{a b:Addr}{o:HO}(h:b≠a):cI H a o b=H b:=by unfold cI;rw[aA h]
def a1b{H:Hp}{a b:Addr}{o u:HO}(h:H a=some o)(h':H b=some u)(d:o≠u):a≠b:=by
 intro e;subst e;rw[h]at h';exact d (dM h')
def eU{H:Hp}{a b:Addr}{o:HO}(h:H a=some o)(h':H b=none):a≠b:=by
 intro e;subst e;rw[h]at h';cases h'
section
variable(P:Program)(w:World)
def fZ(H:Hp)(h:Heap)(a:Addr):HO->Prop
 |.lst xs=>xs.length<=sizeLine/\∃(cA:List Value) (n:Nat),dz xs cA/\h.get? a=some { cls:=.type "list",data:=.seq cA.toArray n}
 |.tup xs=>xs.length<=sizeLine/\∃cA:List Value,dz xs cA/\IsTup h a cA.toArray
 |.dK O=>O.length<=sizeLine/\(a==sysModules)=false/\∃vs,KV O vs/\h.DictOf (cO P w) a vs
 |.dT O=>O.length<=sizeLine/\(a==sysModules)=false/\∃xs:List (List Key×Addr×Value),
   Paired (λ(p:List Key×V) (q:List Key×Addr×Value)=>p.1=q.1/\H q.2.1=some (.tup (p.1.map kV))/\cV p.2 q.2.2) O xs/\
   ∃o es ep,h.get? a=some o/\o.ExactDict/\o.data=.dict es ep/\es.toList=xs.map (entryOfKey (tupleKind (cO P w)))/\(xs.map (·.1)).Nodup
 |.set S n=>h.SetOf (intKind P w) a S n
 |.ins C dx fs=>H dx=some (.own a)/\fs.length<=1000/\dx≠a/\h.get? a=some (PySem.W.instObj C dx)/\
   ∃mA,h.Ns1 dx mA/\(∀f,sJ (fs.lookup f) (mA f))/\PySem.Within mA (fs.map (·.1))
 |.own _=>∃o,h.get? a=some o
 |.xd fs=>∃mA,h.Ns1 a mA/\∀f,sJ (fs.lookup f) (mA f)
 |.rng lo hi=>∃t u v,h.get? a=some { cls:=.type "range",data:=.fields #[.int lo t,.int hi u,.int 1 v]}
 |.iC o u=>h.get? a=some o/\fZ H h a u
 |.tbl ps=>h.get? a=some { cls:=.none,data:=.fields ps}
 |.met f x=>h.get? a=some (PySem.W.methodObj (.ref f) (.ref x))
 |.ext φ=>φ h/\(∃o,h.get? a=some o)/\∀h1 h2:Heap,φ h1->(∀o,h1.get? a=some o->h2.get? a=some o)->φ h2
def zE(H:Hp)(h:Heap):Prop:=∀a o,H a=some o->fZ P w H h a o
end
section
variable{P:Program}{w:World}{H H':Hp}{a:Addr}{o:HO}
def fZ.lt(x:fZ P w H h a o):a<h.objs.size:=by
 cases o with
 |lst xs=>obtain⟨_,_,_,_,e⟩:=x;exact aX e
 |tup xs=>obtain⟨_,_,_,p⟩:=x;exact p.lt
 |dK O=>obtain⟨_,_,_,_,o,_,_,e,_⟩:=x;exact aX e
 |dT O=>obtain⟨_,_,_,_,o,_,_,e,_⟩:=x;exact aX e
 |set S n=>obtain⟨o,_,_,_,e,_⟩:=x;exact aX e
 |ins C dx fs=>obtain⟨_,_,_,e,_⟩:=x;exact aX e
 |own y=>obtain⟨_,e⟩:=x;exact aX e
 |xd fs=>obtain⟨_,⟨_,_,_,e,_⟩,_⟩:=x;exact aX e
 |rng lo hi=>obtain⟨_,_,_,e⟩:=x;exact aX e
 |iC ob u=>obtain⟨e,_⟩:=x;exact aX e
 |tbl ps=>exact aX (show h.get? a=some _ from x)
 |met f y=>exact aX (show h.get? a=some _ from x)
 |ext φ=>obtain⟨_,⟨_,e⟩,_⟩:=x;exact aX e
def Paired.bV{α β:Type}{F G:α->β->Prop}{l₁:List α}{l₂:List β}(h:Paired F l₁ l₂)(f:∀a b,F a b->G a b):Paired G l₁ l₂:=by
 induction h with
 |nil=>exact .nil
 |cons r _ ih=>exact .cons (f _ _ r) ih
def fZ.stay(x:fZ P w H h a o)(k:∀b u,(b=a\/H b=some (.own a))->h.get? b=some u->h'.get? b=some u)
  (ho:∀b,H b=some (.own a)->H' b=some (.own a)) (ht:∀b xs,H b=some (.tup xs)->H' b=some (.tup xs)):fZ P w H' h' a o:=by
 induction o with
 |lst xs=>obtain⟨z,cA,n,r,e⟩:=x;exact⟨z,cA,n,r,k _ _ (.inl Z) e⟩
 |tup xs=>obtain⟨z,cA,r,ob,e,c⟩:=x;exact⟨z,cA,r,ob,k _ _ (.inl Z) e,c⟩
 |dK O=>obtain⟨z,y,vs,r,ob,es,ep,e,c⟩:=x;exact⟨z,y,vs,r,ob,es,ep,k _ _ (.inl Z) e,c⟩
 |dT O =>
  obtain⟨z,y,xs,r,ob,es,ep,e,c⟩:=x;exact⟨z,y,xs,Paired.bV r λp q z=>⟨z.1,ht _ _ z.2.1,z.2.2⟩,ob,es,ep,k _ _ (.inl Z) e,c⟩
 |set S n=>obtain⟨ob,es,ep,t,e,c⟩:=x;exact⟨ob,es,ep,t,k _ _ (.inl Z) e,c⟩
 |ins C dx fs =>
  obtain⟨d,z,ne,e,mA,⟨od,es,ep,e2,c⟩,r⟩:=x;exact⟨ho _ d,z,ne,k _ _ (.inl Z) e,mA,⟨od,es,ep,k _ _ (.inr d) e2,c⟩,r⟩
 |own y=>obtain⟨ob,e⟩:=x;exact⟨ob,k _ _ (.inl Z) e⟩
 |xd fs=>obtain⟨mA,⟨od,es,ep,e,c⟩,r⟩:=x;exact⟨mA,⟨od,es,ep,k _ _ (.inl Z) e,c⟩,r⟩
 |rng lo hi=>obtain⟨t,u,v,e⟩:=x;exact⟨t,u,v,k _ _ (.inl Z) e⟩
 |iC ob u ih=>obtain⟨e,q⟩:=x;exact⟨k _ _ (.inl Z) e,ih q⟩
 |tbl ps =>
  have e:h.get? a=some { cls:=.none,data:=.fields ps}:=x;show h'.get? a=some { cls:=.none,data:=.fields ps};exact k a _ (.inl Z) e
 |met f y =>
  have e:h.get? a=some (PySem.W.methodObj (.ref f) (.ref y)):=x;show h'.get? a=some (PySem.W.methodObj (.ref f) (.ref y));exact k a _ (.inl Z) e
 |ext φ=>obtain⟨p,⟨o,e⟩,st⟩:=x;exact⟨st _ _ p λo q=>k _ _ (.inl Z) q,⟨o,k _ _ (.inl Z) e⟩,st⟩
def zE.lt(x:zE P w H h)(e:H a=some o):a<h.objs.size:=(x a o e).lt
def zE.fresh(x:zE P w H h)(e:h.objs.size<=a):H a=none:=by
 cases q:H a with
 |none=>rfl
 |some u=>exact absurd (jy (x.lt q) e) (xT _)
def zE.kept(x:zE P w H h)(k:∀b u,h.get? b=some u->h'.get? b=some u):zE P w H h':=λa o e =>
 (x a o e).stay (λb u _ q=>k b u q) (λ_ q=>q) λ_ _ q=>q
def zE.laid(x:zE P w H h)(k:∀b u,h.get? b=some u->h'.get? b=some u)(hp:h.objs.size<=a)(new:fZ P w (cI H a o) h' a o):zE P w (cI H a o) h':=λb u e=>by
 have hn:=x.fresh hp;by_cases hb:b=a
 ·subst hb;rw[cP]at e;cases e;exact new
 ·rw[aO hb]at e;exact(x b u e).stay (λc v _ q=>k c v q) (λc q=>by rw[aO (eU q hn)];exact q) λc xs q=>by rw[aO (eU q hn)];exact q
end
def Rd(H:Hp)(a:Addr)(u:HO):Prop:=H a=some u\/∃o,H a=some (.iC o u)
def Rd.ok{P:Program}{w:World}{H:Hp}{a:Addr}{u:HO}(r:Rd H a u)(x:zE P w H h):fZ P w H h a u:=by
 rcases r with r|⟨o,r⟩
 ·exact x a u r
 ·obtain⟨_,q⟩:=x a _ r;exact q
def Mut:Option HO->Prop
 |some (.lst _)=>True
 |some (.dK _)=>True
 |some (.dT _)=>True
 |some (.set _ _)=>True
 |some (.ins _ _ _)=>True
 |some (.ext _)=>True
 |_=>False
section
variable{P:Program}{w:World}{H:Hp}{x e:Addr}{o':HO}
def zE.write(ok:zE P w H h)(mu:Mut (H x))(he:e=x\/H e=some (.own x))(k:∀b u,b≠e->h.get? b=some u->h'.get? b=some u)(heo:∃u,h'.get? e=some u)
  (new:fZ P w (cI H x o') h' x o'):zE P w (cI H x o') h':=λb u q=>by
 have a3B:∀c y,H c=some (.own y)->c≠x:=λc y r z=>by subst z;rw[r]at mu;exact mu
 have a1A:∀c xs,H c=some (.tup xs)->c≠x:=λc xs r z=>by subst z;rw[r]at mu;exact mu
 by_cases hb:b=x
 ·subst hb;rw[cP]at q;cases q;exact new
 ·rw[aO hb]at q;by_cases hbe:b=e
  ·have q':H b=some (.own x):=by
    rcases he with z|z
    ·exact absurd (hbe.trans z) hb
    ·rw[hbe];exact z
   rw[q]at q';cases q';obtain⟨v,hv⟩:=heo;exact⟨v,by rw[hbe];exact hv⟩
  ·refine(ok b u q).stay (λc v hc r=>k c v ?_ r) (λc r=>by rw[aO (a3B c b r)];exact r) λc xs r=>by rw[aO (a1A c xs r)];exact r
   rcases hc with rfl|hc
   ·exact hbe
   ·rintro rfl;rcases he with z|z
    ·exact a3B c b hc z
    ·rw[hc]at z;cases z;exact hb rfl
end
structure Un(fs ex:List Addr)(H H':Hp)(h h':Heap):Prop where
 keep:∀b o,h.get? b=some o->H b=none->b∉fs->b∉ex->h'.get? b=some o
 slot:∀b o,h.get? b=some o->H b=none->b∈fs->b∉ex->∃sl,h'.get? b=some { o with slots:=sl}
 free:∀b o,h.get? b=some o->H b=none->b∉ex->H' b=none
 there:∀b o,h.get? b=some o->b∉ex->∃o',h'.get? b=some o'
 tups:∀b xs,H b=some (.tup xs)->H' b=some (.tup xs)
 Jd:∀b o u,H b=some (.iC o u)->H' b=some (.iC o u)
 Om:∀b ps,H b=some (.tbl ps)->∃more,H' b=some (.tbl (ps++more))
section
variable{fs fs' ex ex':List Addr}{H H1 H2:Hp}{h1 h2:Heap}{a x e:Addr}{o:HO}
def Un.any(u:Un fs ex H H1 h h1){b:Addr}{ob:Obj}(q:h.get? b=some ob)(n:H b=none)(hx:b∉ex):∃sl,h1.get? b=some { ob with slots:=sl}:=by
 by_cases hb:b∈fs
 ·exact u.slot b ob q n hb hx
 ·exact⟨ob.slots,u.keep b ob q n hb hx⟩
def Un.kept(k:∀b u,h.get? b=some u->h'.get? b=some u):Un fs ex H H h h' :=
 ⟨λb ob q _ _ _=>k b ob q,λb ob q _ _ _=>⟨ob.slots,k b ob q⟩,λ_ _ _ n _=>n,λb ob q _=>⟨ob,k b ob q⟩,λ_ _ q=>q,λ_ _ _ q=>q,λ_ ps q=>⟨#[],by rw[q];simp⟩⟩
def Un.refl:Un fs ex H H h h:=Un.kept λ_ _ q=>q
def Un.laid(k:∀b u,h.get? b=some u->h'.get? b=some u)(hp:h.objs.size<=a)(hn:H a=none):Un fs ex H (cI H a o) h h' where
 keep:=λb u q _ _ _=>k b u q
 slot:=λb u q _ _ _=>⟨u.slots,k b u q⟩
 free:=λb u q n _=>by rw[aO (bW (jy (aX q) hp))];exact n
 there:=λb u q _=>⟨u,k b u q⟩
 tups:=λb xs q=>by rw[aO (eU q hn)];exact q
 Jd:=λb u xs q=>by rw[aO (eU q hn)];exact q
 Om:=λb ps q=>⟨#[],by rw[aO (eU q hn),q];simp⟩
def Un.write(mu:Mut (H x))(he:e=x\/H e=some (.own x))(k:∀b u,b≠e->h.get? b=some u->h'.get? b=some u)(heo:∃u,h'.get? e=some u):Un fs ex H (cI H x o) h h':=by
 have hx:∀b,H b=none->b≠x:=λb n z=>by subst z;rw[n]at mu;exact mu
 have hb:∀b,H b=none->b≠e:=λb n z=>by
  subst z;rcases he with r|r
  ·exact hx b n r
  ·rw[n]at r;cases r
 have hm:∀b u,H b=some u->¬Mut (some u)->b≠x:=λb u q nm z=>by subst z;rw[q]at mu;exact nm mu
 refine⟨λb u q n _ _=>k b u (hb b n) q,λb u q n _ _=>⟨u.slots,k b u (hb b n) q⟩,λb u q n _=>by rw[aO (hx b n)];exact n,λb u q _=>?_,
  λb xs q=>by rw[aO (hm b _ q λz=>z)];exact q,λb u xs q=>by rw[aO (hm b _ q λz=>z)];exact q,λb ps q=>⟨#[],by rw[aO (hm b _ q λz=>z),q];simp⟩⟩
 by_cases hbe:b=e
 ·subst hbe;exact heo
 ·exact⟨u,k b u hbe q⟩
end
def trk(h:Heap)(H:Hp):List Addr:=(List.range h.objs.size).filter λa=>(H a).isSome
def Oo(h:Heap)(H:Hp):Heap:=PySem.W.hideAll h (trk h H)
def Yc(h:Heap)(H:Hp):(Oo h H).objs.size=h.objs.size:=PySem.W.hideAll_size _ _
def Å{H:Hp}{b:Addr}{o:Obj}(e:h.get? b=some o)(n:H b=none):(Oo h H).get? b=some o :=
 PySem.W.hideAll_get _ e λhm=>by
  have q:(H b).isSome=true:=(kJ.mp hm).2;rw[n]at q;simp at q
def ű{H:Hp}{b:Addr}{o:Obj}(e:(Oo h H).get? b=some o):h.get? b=some o/\H b=none:=by
 have e':h.get? b=some o:=PySem.W.of_hideAll (trk h H) e;refine⟨e',?_⟩;cases q:H b with
 |none=>rfl
 |some x =>
  have hm:b∈trk h H:=kJ.mpr ⟨mV.mpr (aX e'),by simp[q]⟩;have z:(Oo h H).get? b=none:=PySem.W.hideAll_none (trk h H) hm;rw[z]at e;cases e
structure Mod(K:aH)(mg:Str->Option Value)(base:Heap):Prop where
 kin:K.In base
 glob:base.Ns mainGlobals mg
 blt:∃mb,base.Ns builtinsNs mb/\∀x:Str,x≠ "__name__" ->mb x=bootBuiltins x
 nolimit:base.NoLimit
set_option genInjectivity false in
structure Cx where
 prog:Program
 w:World
 K:aH
 mg:Str->Option Value
 base:Heap
 A:Around
 N:List Str
 s₀:Shared
 H₀:Hp
 env:Env
 outer:List Env
 stack:List Env
 ex:List Addr
 fn:Str->Bool
 calm:Bool
 pn:List (Addr×Obj)
 xe:Value->Shared->Prop
def frs(l:List Env):List Addr:=l.filterMap (·.frame)
abbrev Cx.fs(X:Cx):List Addr:=frs X.outer
def Vis(sc:Scope)(x:Str):Prop:=sc.names.lookup x=some .local\/sc.names.lookup x=some .cell\/sc.names.lookup x=some .free
def Loc(sc:Scope)(x:Str):Prop:=sc.names.lookup x=some .local\/sc.names.lookup x=some .cell
def Look(env:Env)(h:Heap)(m:Str->Option Value)(x:Str)(u:Value):Prop :=
 (env.kindOf x=some .local/\m x=some u)\/((env.kindOf x=some .cell\/env.kindOf x=some .free)/\∃c,env.cells.lookup x=some c/\h.IsCell c (some u))
structure Cx.Ok(X:Cx):Prop where
 mod:Mod X.K X.mg X.base
 kind:X.env.scope.kind=.function
 glob:X.env.globals=mainGlobals
 blt:X.env.builtins=builtinsNs
 above:X.s₀.heap.objs.size<=X.env.locals
 inj:∀x y c,X.env.cells.lookup x=some c->X.env.cells.lookup y=some c->x=y
 has:∀x,(X.env.kindOf x=some .cell\/X.env.kindOf x=some .free)->∃c,X.env.cells.lookup x=some c
 cab:∀x c,X.fn x=true->X.env.cells.lookup x=some c->X.s₀.heap.objs.size<=c
 hd:X.calm=true->X.A.handled=none
 frames:X.A.frames=some X.stack
 stk:X.stack=X.outer\/(X.stack=X.env::X.outer/\X.env.frame=some X.env.locals)
 exf:∀b∈X.ex,b≠X.env.locals/\∀x c,X.env.cells.lookup x=some c->c≠b
 bs:∀b o,X.base.get? b=some o->X.s₀.heap.get? b=some o/\X.H₀ b=none
 Ş:X.base.objs.size<=X.s₀.heap.objs.size
 Uk:∀b o,X.base.get? b=some o->b∉X.ex
 Yd:∀b∈X.ex,b∉X.fs
 BJ:X.s₀.heap.FunFrames X.base X.outer
 Ų:∀b∈X.fs,X.H₀ b=none
structure bI(X:Cx)(Y:List (Addr×Obj))(σ:List (Option V))(H:Hp)(s:Shared):Prop where
 ok:X.Ok
 os:s.os=X.s₀.os
 bare:AllBare s.gens
 base:Un X.fs X.ex X.H₀ H X.s₀.heap s.heap
 loc:∃m,s.heap.Ns X.env.locals m/\∀(i:Nat) (x:Str) (v:V),X.N[i]?=some x->σ[i]?=some (some v)->Vis X.env.scope x->∃u,cV v u/\Look X.env s.heap m x u
 cell:∀x c,X.env.cells.lookup x=some c->∃v,s.heap.IsCell c v
 free:H X.env.locals=none
 tM:∀x c,X.env.cells.lookup x=some c->H c=none
 pin:∀p∈X.pn++Y,s.heap.get? p.1=some p.2/\H p.1=none/\p.1≠X.env.locals/\p.1∉X.fs/\∀v,p.2.data≠.cell v
 hok:zE X.prog X.w H s.heap
 len:σ.length=X.N.length
section
variable{X:Cx}{Y:List (Addr×Obj)}{σ:List (Option V)}{H H':Hp}{s:Shared}
def Cx.Ok.a5Q(ok:X.Ok){b:Addr}{o:Obj}(e:X.base.get? b=some o):b∉X.fs:=λhb=>by
 have:=(ok.BJ.mem hb).1;rw[e]at this;cases this
def bI.bs(I:bI X Y σ H s):∀b o,X.base.get? b=some o->s.heap.get? b=some o/\H b=none:=λb o e =>
 ⟨I.base.keep b o (I.ok.bs b o e).1 (I.ok.bs b o e).2 (I.ok.a5Q e) (I.ok.Uk b o e),I.base.free b o (I.ok.bs b o e).1 (I.ok.bs b o e).2 (I.ok.Uk b o e)⟩
def bI.bk(I:bI X Y σ H s):∀b o,X.base.get? b=some o->s.heap.get? b=some o:=λb o e=>(I.bs b o e).1
def bI.mod(I:bI X Y σ H s):Mod X.K X.mg X.base:=I.ok.mod
def bI.Ds(I:bI X Y σ H s):X.K.In s.heap:=I.ok.mod.kin.keeps I.bk
def bI.lt(I:bI X Y σ H s):X.env.locals<s⁻¹:=let⟨_,hn,_⟩:=I.loc;hn.lt
def bI.sz(I:bI X Y σ H s):X.s₀.heap.objs.size<=s⁻¹:=cZ I.ok.above (eE I.lt)
def bI.a3C(I:bI X Y σ H s){a:Addr}(h:s⁻¹<=a):a∉X.fs:=λhb=>by
 obtain⟨_,o,ho,_⟩:=I.ok.BJ.mem hb;exact absurd (jy (aX ho) (cZ I.sz h)) (xT _)
def bI.cne(I:bI X Y σ H s):∀x c,X.env.cells.lookup x=some c->c≠X.env.locals:=λx c e z=>by
 obtain⟨v,o,ho,hd⟩:=I.cell x c e;obtain⟨m,⟨o',es,ep,ho',hd',_⟩,_⟩:=I.loc;rw[z,ho']at ho;cases ho;rw[hd']at hd;cases hd
def bI.BJ(I:bI X Y σ H s):s.heap.FunFrames X.base X.outer:=by
 have all:∀(l:List Env),(∀b∈frs l,b∈X.fs)->X.s₀.heap.FunFrames X.base l->s.heap.FunFrames X.base l:=by
  intro l
  induction l with
  |nil=>intro _ _;trivial
  |cons env r ih =>
   intro hs hl;obtain⟨hk,⟨L,o,hf,hn,ho,hd⟩,hr⟩:=hl;have hL:L∈X.fs:=hs L (by unfold frs;rw[Td,hf];exact aU);obtain⟨sl,e⟩:=I.base.slot L o ho (I.ok.Ų L hL) hL λz=>I.ok.Yd L z hL;exact⟨hk,⟨L,_,hf,hn,e,hd⟩,ih (λb hb=>hs b (by unfold frs;rw[Td,hf];exact bD _ hb)) hr⟩
 exact all X.outer (λ_ hb=>hb) I.ok.BJ
def bI.stack(I:bI X Y σ H s):s.heap.FunFrames X.base X.stack:=by
 rcases I.ok.stk with e|⟨e,hf⟩
 ·rw[e];exact I.BJ
 ·rw[e];obtain⟨m,hn,_⟩:=I.loc;refine .cons (by rw[I.ok.kind];decide) hf hn ?_ I.BJ;exact Heap.get?_none_of_le (cZ I.ok.Ş I.ok.above)
def bI.Eh(I:bI X Y σ H s):∀b∈frs X.stack,b∈X.env.locals::X.fs:=λb hb=>by
 rcases I.ok.stk with e|⟨e,hf⟩
 ·rw[e]at hb;exact bD _ hb
 ·rw[e]at hb;unfold frs at hb;rw[Td,hf]at hb;exact hb
def bI.Wd(I:bI X Y σ H s):∀b∈frs X.stack,H b=none:=λb hb=>by
 rcases b7.mp (I.Eh b hb)with e|hb
 ·rw[e];exact I.free
 ·obtain⟨_,o,ho,_⟩:=I.ok.BJ.mem hb;exact I.base.free b o ho (I.ok.Ų b hb) λz=>I.ok.Yd b z hb
def bI.step{g':Array GenState}{d':Drawn}(I:bI X Y σ H s)
  (hch:∀b∈ch,(b∈X.ex\/X.s₀.heap.objs.size<=b)/\b≠X.env.locals/\(∀x c,X.env.cells.lookup x=some c->c≠b)/\∀p∈X.pn++Y,p.1≠b)
  (keep:∀b o,b≠X.env.locals->b∉X.fs->b∉ch->s.heap.get? b=some o->H b=none->h'.get? b=some o)
  (slot:∀b o,b≠X.env.locals->b∈X.fs->b∉ch->s.heap.get? b=some o->H b=none->∃sl,h'.get? b=some { o with slots:=sl}) (free:∀b o,b∉ch->s.heap.get? b=some o->H b=none->H' b=none)
  (there:∀b o,b∉ch->s.heap.get? b=some o->∃o',h'.get? b=some o')
  (tups:∀b xs,H b=some (.tup xs)->H' b=some (.tup xs)) (Jd:∀b o u,H b=some (.iC o u)->H' b=some (.iC o u)) (Om:∀b ps,H b=some (.tbl ps)->∃more,H' b=some (.tbl (ps++more)))
  (ns:∀m,s.heap.Ns X.env.locals m->h'.Ns X.env.locals m) (hok:zE X.prog X.w H' h') (hg:AllBare g') :
  bI X Y σ H' { s with heap:=h',gens:=g',drawn:=d',toks:=t'}:=by
 have neL:∀b o,X.s₀.heap.get? b=some o->b≠X.env.locals:=λb o e=>bW (jy (aX e) I.ok.above);have neC:∀b o,X.s₀.heap.get? b=some o->b∉X.ex->b∉ch:=λb o e hx hb=>by
  rcases(hch b hb).1 with z|z
  ·exact hx z
  ·exact absurd (jy (aX e) z) (xT _)
 have cellK:∀x c,X.env.cells.lookup x=some c->∀v,s.heap.IsCell c v->h'.IsCell c v:=λx c e v ⟨o,ho,hd⟩=>by
  have nch:c∉ch:=λz=>(hch c z).2.2.1 x c e rfl;by_cases hc:c∈X.fs
  ·obtain⟨sl,q⟩:=slot c o (I.cne x c e) hc nch ho (I.tM x c e);exact⟨_,q,hd⟩
  ·exact⟨o,keep c o (I.cne x c e) hc nch ho (I.tM x c e),hd⟩
 refine⟨I.ok,I.os,hg,⟨λb o e n hb hx=>?_,λb o e n hb hx=>?_,λb o e n hx=>?_,λb o e hx=>?_,λb xs e=>tups b xs (I.base.tups b xs e),λb o xs e=>Jd b o xs (I.base.Jd b o xs e),λb ps e=>?_⟩,?_,λx c e=>?_,?_,λx c e=>?_,λp hp=>?_,hok,I.len⟩
 ·exact keep b o (neL b o e) hb (neC b o e hx) (I.base.keep b o e n hb hx) (I.base.free b o e n hx)
 ·obtain⟨sl,e1⟩:=I.base.slot b o e n hb hx;obtain⟨sl',e2⟩:=slot b _ (neL b o e) hb (neC b o e hx) e1 (I.base.free b o e n hx);exact⟨sl',e2⟩
 ·obtain⟨o',e1⟩:=I.base.there b o e hx;exact free b o' (neC b o e hx) e1 (I.base.free b o e n hx)
 ·obtain⟨o',e1⟩:=I.base.there b o e hx;exact there b o' (neC b o e hx) e1
 ·obtain⟨m1,e1⟩:=I.base.Om b ps e;obtain⟨m2,e2⟩:=Om b _ e1;exact⟨m1++m2,by rw[e2,Array.append_assoc]⟩
 ·obtain⟨m,hn,hl⟩:=I.loc;refine⟨m,ns m hn,λi x v e1 e2 e3=>?_⟩;obtain⟨u,r,l⟩:=hl i x v e1 e2 e3;refine⟨u,r,?_⟩;rcases l with l|⟨k,c,e,z⟩
  ·exact .inl l
  ·exact .inr ⟨k,c,e,cellK x c e _ z⟩
 ·obtain⟨v,z⟩:=I.cell x c e;exact⟨v,cellK x c e v z⟩
 ·obtain⟨m,⟨o,_,_,ho,_⟩,_⟩:=I.loc;exact free _ o (λz=>(hch _ z).2.1 Z) ho I.free
 ·obtain⟨v,o,ho,hd⟩:=I.cell x c e;exact free c o (λz=>(hch c z).2.2.1 x c e Z) ho (I.tM x c e)
 ·obtain⟨e,n,ne,nf,d⟩:=I.pin p hp;have nch:p.1∉ch:=λz=>(hch p.1 z).2.2.2 p hp rfl;exact⟨keep p.1 p.2 ne nf nch e n,free p.1 p.2 nch e n,ne,nf,d⟩
def bI.un(I:bI X Y σ H s)(u:Un X.fs [] H H' s.heap h')(hok:zE X.prog X.w H' h'):bI X Y σ H' { s with heap:=h',toks:=t'}:=by
 obtain⟨m,⟨o,es,ep,ho,r⟩,_⟩:=id I.loc;obtain⟨sl,hL⟩:=u.any ho I.free (by simp);exact I.step (g':=s.gens) (d':=s.drawn) (ch:=[]) (λ_ z=>nomatch z) (λb o _ hb _ e n=>u.keep b o e n hb (by simp)) (λb o _ hb _ e n=>u.slot b o e n hb (by simp)) (λb o _ e n=>u.free b o e n (by simp)) (λb o _ e=>u.there b o e (by simp)) u.tups u.Jd u.Om (λm' hm=>by
  obtain⟨o',es',ep',ho',r'⟩:=hm;rw[ho]at ho';cases ho';exact⟨_,es',ep',hL,r'⟩) hok I.bare
def bI.call{g':Array GenState}{d':Drawn}(I:bI X Y σ H s)(u:Un (frs X.stack) ch H H' s.heap h')(hok:zE X.prog X.w H' h')(hg:AllBare g')
  (hch:∀b∈ch,(b∈X.ex\/X.s₀.heap.objs.size<=b)/\b≠X.env.locals/\(∀x c,X.env.cells.lookup x=some c->c≠b)/\∀p∈X.pn++Y,p.1≠b) :
  bI X Y σ H' { s with heap:=h',gens:=g',drawn:=d',toks:=t'}:=by
 obtain⟨m,⟨o,es,ep,ho,r⟩,_⟩:=id I.loc;obtain⟨sl,hL⟩:=u.any ho I.free λz=>(hch _ z).2.1 rfl;exact I.step (ch:=ch) hch (λb o hL hb hc e n=>u.keep b o e n (λz=>(b7.mp (I.Eh b z)).elim hL hb) hc) (λb o _ _ hc e n=>u.any e n hc) (λb o hc e n=>u.free b o e n hc) (λb o hc e=>u.there b o e hc) u.tups u.Jd u.Om (λm' hm=>by
  obtain⟨o',es',ep',ho',r'⟩:=hm;rw[ho]at ho';cases ho';exact⟨_,es',ep',hL,r'⟩) hok hg
def bI.turned{it:Addr}(I:bI X Y σ H s)(k:∀b o,b≠it->s.heap.get? b=some o->h'.get? b=some o)(hn:H it=none)(hL:it≠X.env.locals)
  (h1:it∈X.ex\/X.s₀.heap.objs.size<=it) (h2:∀x c,X.env.cells.lookup x=some c->c≠it) (h3:∀p∈X.pn++Y,p.1≠it):bI X Y σ H { s with heap:=h',toks:=t'}:=by
 have nit:∀b u,H b=some u->b≠it:=λb u e z=>by rw[z,hn]at e;cases e
 refine I.step (g':=s.gens) (d':=s.drawn) (ch:=[it]) (λb hb=>?_) (λb o _ _ hc e _=>k b o (λz=>hc (by simp[z])) e) (λb o _ _ hc e _=>⟨o.slots,k b o (λz=>hc (by simp[z])) e⟩) (λ_ _ _ _ n=>n)
  (λb o hc e=>⟨o,k b o (λz=>hc (by simp[z])) e⟩) (λ_ _ e=>e) (λ_ _ _ e=>e) (λb ps e=>⟨#[],by rw[e];simp⟩) (λm hm=>?_) (λb u e=>?_) I.bare
 ·have e:b=it:=by simpa using hb
  subst e;exact⟨h1,hL,h2,h3⟩
 ·obtain⟨o,es,ep,ho,r⟩:=hm;exact⟨o,es,ep,k _ o (Ne.symm hL) ho,r⟩
 ·refine(I.hok b u e).stay (λc v hc q=>k c v ?_ q) (λ_ q=>q) λ_ _ q=>q;rcases hc with z|z
  ·rw[z];exact nit b u e
  ·exact nit c _ z
def bI.tok(I:bI X Y σ H s)(t:Nat):bI X Y σ H { s with toks:=t}:=I.un (h':=s.heap) (t':=t) Un.refl I.hok
def bI.kept{t':Nat}(I:bI X Y σ H s)(k:∀b u,s.heap.get? b=some u->h'.get? b=some u):bI X Y σ H { s with heap:=h',toks:=t'}:=I.un (Un.kept k) (I.hok.kept k)
def bI.laid{a:Addr}{o:HO}{t':Nat}(I:bI X Y σ H s)(k:∀b u,s.heap.get? b=some u->h'.get? b=some u)(hp:s⁻¹<=a)(new:fZ X.prog X.w (cI H a o) h' a o) :
  bI X Y σ (cI H a o) { s with heap:=h',toks:=t'}:=I.un (Un.laid k hp (I.hok.fresh hp)) (I.hok.laid k hp new)
def bI.write{x e:Addr}{o:HO}{t':Nat}(I:bI X Y σ H s)(mu:Mut (H x))(he:e=x\/H e=some (.own x))(k:∀b u,b≠e->s.heap.get? b=some u->h'.get? b=some u)(heo:∃u,h'.get? e=some u)
  (new:fZ X.prog X.w (cI H x o) h' x o):bI X Y σ (cI H x o) { s with heap:=h',toks:=t'}:=I.un (Un.write mu he k heo) (I.hok.write mu he k heo new)
def bI.GZ{a1c:List (Addr×Obj)}(I:bI X Y σ H s)(h:∀p∈a1c,s.heap.get? p.1=some p.2/\H p.1=none/\p.1≠X.env.locals/\p.1∉X.fs/\∀v,p.2.data≠.cell v):bI X a1c σ H s :=
 ⟨I.ok,I.os,I.bare,I.base,I.loc,I.cell,I.free,I.tM,λp hp=>(cN.mp hp).elim (λz=>I.pin p (uK _ z)) (h p),I.hok,I.len⟩
def QD(hN:N.Nodup){i j:Nat}{x:Str}(a:N[i]?=some x)(b:N[j]?=some x):i=j:=by
 obtain⟨h1,e1⟩:=fO.mp a;obtain⟨h2,e2⟩:=fO.mp b;exact(List.getElem_inj hN).mp (e1.trans e2.symm)
def Lp{E:Value->Shared->Prop}{i:Nat}{x:Str}{v:V}{u:Value}{Q:Unit->Shared->Prop}(I:bI X Y σ H s)(hN:X.N.Nodup)(hi:X.N[i]?=some x)(hx:Loc X.env.scope x)(r:cV v u)
  (h:∀s',bI X Y (σ.set i (some v)) H s'->(∃a,Heap.SameBut a s.heap s'.heap/\(a=X.env.locals\/X.env.cells.lookup x=some a))->Q ⟨⟩ s') (hf:autoParam (X.fn x=true\/X.env.scope.names.lookup x=some .local) Q2_._auto_1):wpAny Z98 A (storeName X.env x u) Q E s:=by
 obtain⟨m,hn,hl⟩:=id I.loc;have hcls:(X.env.scope.kind==.class||(X.env.scope.kind==.module&&X.env.locals != X.env.globals))=false:=by rw[I.ok.kind];rfl
 have a3D:i<σ.length:=by rw[I.len];exact(fO.mp hi).1
 have cne:=I.cne;have tracked:∀{a:Addr}{h':Heap},(∃o,s.heap.get? a=some o/\H a=none)->Heap.SameBut a s.heap h'->zE X.prog X.w H h':=λ{a h'} ha hs b ob e=>by
  obtain⟨_,_,hfree⟩:=ha;refine(I.hok b ob e).stay (λc w' hc q=>(hs.2 c ?_).trans q) (λ_ q=>q) λ_ _ q=>q;rintro rfl;rcases hc with rfl|hc
  ·rw[hfree]at e;cases e
  ·rw[hfree]at hc;cases hc
 rcases hx with hk|hk
 ·refine wpAny_storeName_local hk hn (λh' hn' hs=>?_) hcls;obtain⟨oL,_,_,hoL,_⟩:=id hn;refine h _ ⟨I.ok,I.os,I.bare,⟨λb o e n hb hx=>?_,λb o e n hb hx=>?_,I.base.free,λb o e hx=>?_,I.base.tups,I.base.Jd,I.base.Om⟩,⟨_,hn',λj y v' e1 e2 e3=>?_⟩,λy c e=>?_,I.free,I.tM,λp hp=>?_,tracked ⟨oL,hoL,I.free⟩ hs,by simpa using I.len⟩ ⟨_,hs,.inl Z⟩
  ·exact(hs.2 b (bW (jy (aX e) I.ok.above))).trans (I.base.keep b o e n hb hx)
  ·obtain⟨sl,e1⟩:=I.base.slot b o e n hb hx;exact⟨sl,(hs.2 b (bW (jy (aX e) I.ok.above))).trans e1⟩
  ·obtain⟨o',e1⟩:=I.base.there b o e hx;exact⟨o',(hs.2 b (bW (jy (aX e) I.ok.above))).trans e1⟩
  ·by_cases hj:j=i
   ·subst hj;rw[hi]at e1;cases e1;rw[List.getElem?_set_self a3D]at e2;cases e2;exact⟨u,r,.inl ⟨hk,by simp⟩⟩
   ·rw[List.getElem?_set_ne (Ne.symm hj)]at e2;obtain⟨u',r',q⟩:=hl j y v' e1 e2 e3;refine⟨u',r',?_⟩;rcases q with⟨k,e⟩|⟨k,c,e,z⟩
    ·refine .inl ⟨k,?_⟩;have:y≠x:=λe=>hj (QD hN e1 (e▸hi));simp[this,e]
    ·exact .inr ⟨k,c,e,z.sameBut hs (cne y c e)⟩
  ·obtain⟨w',z⟩:=I.cell y c e;exact⟨w',z.sameBut hs (cne y c e)⟩
  ·obtain⟨e,n,ne,nf,d⟩:=I.pin p hp;exact⟨(hs.2 p.1 ne).trans e,n,ne,nf,d⟩
 ·have hfn:X.fn x=true:=by
   rcases hf with z|z
   ·exact z
   ·rw[z]at hk;cases hk
  obtain⟨c,hc⟩:=I.ok.has x (.inl hk);obtain⟨w',z⟩:=I.cell x c hc;refine wpAny_storeName_cell I.ok.kind hk hc z (λh' hc' hs=>?_);obtain⟨oc,hoc,a5R⟩:=id z;refine h { s with heap:=h'} ⟨I.ok,I.os,I.bare,⟨λb o e n hb hx=>?_,λb o e n hb hx=>?_,I.base.free,λb o e hx=>?_,I.base.tups,I.base.Jd,I.base.Om⟩,⟨m,hn.sameBut hs (Ne.symm (cne x c hc)),λj y v' e1 e2 e3=>?_⟩,λy c' e=>?_,I.free,I.tM,λp hp=>?_,tracked ⟨oc,hoc,I.tM x c hc⟩ hs,by simpa using I.len⟩ ⟨c,hs,.inr hc⟩
  ·exact(hs.2 b (bW (jy (aX e) (I.ok.cab x c hfn hc)))).trans (I.base.keep b o e n hb hx)
  ·obtain⟨sl,e1⟩:=I.base.slot b o e n hb hx;exact⟨sl,(hs.2 b (bW (jy (aX e) (I.ok.cab x c hfn hc)))).trans e1⟩
  ·obtain⟨o',e1⟩:=I.base.there b o e hx;exact⟨o',(hs.2 b (bW (jy (aX e) (I.ok.cab x c hfn hc)))).trans e1⟩
  ·by_cases hj:j=i
   ·subst hj;rw[hi]at e1;cases e1;rw[List.getElem?_set_self a3D]at e2;cases e2;exact⟨u,r,.inr ⟨.inl hk,c,hc,hc'⟩⟩
   ·rw[List.getElem?_set_ne (Ne.symm hj)]at e2;obtain⟨u',r',q⟩:=hl j y v' e1 e2 e3;refine⟨u',r',?_⟩;rcases q with q|⟨k,c',e,z'⟩
    ·exact .inl q
    ·refine .inr ⟨k,c',e,z'.sameBut hs ?_⟩;rintro rfl;exact hj (QD hN e1 (I.ok.inj _ _ _ e hc▸hi))
  ·by_cases hcc:c'=c
   ·subst hcc;exact⟨_,hc'⟩
   ·obtain⟨w2,z2⟩:=I.cell y c' e;exact⟨w2,z2.sameBut hs hcc⟩
  ·obtain⟨e,n,ne,nf,d⟩:=I.pin p hp;refine⟨(hs.2 p.1 ?_).trans e,n,ne,nf,d⟩;intro q;rw[q,hoc]at e;have q':oc=p.2:=dM e;exact d w' (by rw[<-q'];exact a5R)
def QF{E:Value->Shared->Prop}{i:Nat}{x:Str}{v:V}{u:Value}{Q:Unit->Shared->Prop}(I:bI X Y σ H s)(hN:X.N.Nodup)(hi:X.N[i]?=some x)(hx:Loc X.env.scope x)(r:cV v u)
  (h:∀s',bI X Y (σ.set i (some v)) H s'->Q ⟨⟩ s') (hf:autoParam (X.fn x=true\/X.env.scope.names.lookup x=some .local) Q2_._auto_1):wpAny Z98 A (storeName X.env x u) Q E s :=
 Lp I hN hi hx r (λs' I' _=>h s' I') hf
def bI.call'{s':Shared}(I:bI X Y σ H s)(ho:s'.os=s.os)(u:Un (frs X.stack) ch H H' s.heap s'.heap)(hok:zE X.prog X.w H' s'.heap)(hg:AllBare s'.gens)
  (hch:∀b∈ch,(b∈X.ex\/X.s₀.heap.objs.size<=b)/\b≠X.env.locals/\(∀x c,X.env.cells.lookup x=some c->c≠b)/\∀p∈X.pn++Y,p.1≠b):bI X Y σ H' s':=by
 obtain⟨h',g',d',t',o'⟩:=s';have e:o'=s.os:=ho;subst e;exact I.call (g':=g') (t':=t') (d':=d') u hok hg hch
end
abbrev XK:=Value->Option Addr->Hp->Prop
abbrev St:=List (Option V)
abbrev VK:=V->Hp->Prop
abbrev TE:=St->Hp->VK->Prop
variable{ta te:TE}
abbrev TT:=St->Hp->(Bool->Hp->Prop)->Prop
abbrev TA:=St->Hp->(List V->Hp->Prop)->Prop
structure Ends where
 nx:St->Hp->Prop
 rt:VK
 bk:St->Hp->Prop:=λ_ _=>False
 ct:St->Hp->Prop:=λ_ _=>False
variable{D:Ends}
abbrev TS:=Ends->St->Hp->Prop
variable{tb:TS}
inductive EP(X:Cx)(Y:List (Addr×Obj))(σ:St)(Q:VK)(u:Value)(s':Shared):Prop
 |mk (v H':_) (_:bI X Y σ H' s') (_:cV v u) (_:Q v H')
def TP(X:Cx)(Y:List (Addr×Obj))(σ:St)(Q:Bool->Hp->Prop)(b:Bool)(s':Shared):Prop:=∃H',bI X Y σ H' s'/\Q b H'
inductive AP(X:Cx)(Y:List (Addr×Obj))(σ:St)(Q:List V->Hp->Prop)(us:List Value)(s':Shared):Prop
 |mk (vs H':_) (_:bI X Y σ H' s') (_:dz vs us) (_:Q vs H')
def SP(X:Cx)(Y:List (Addr×Obj))(D:Ends)(f:Flow)(s':Shared):Prop :=
 match f with
 |.next=>∃σ' H',bI X Y σ' H' s'/\D.nx σ' H'
 |.brk=>∃σ' H',bI X Y σ' H' s'/\D.bk σ' H'
 |.cont=>∃σ' H',bI X Y σ' H' s'/\D.ct σ' H'
 |.ret u=>∃v σ' H',bI X Y σ' H' s'/\cV v u/\D.rt v H'
def PE(X:Cx)(e:Expr)(t:TE):Prop :=
 ∀(Y:List (Addr×Obj)) (s:Shared) (σ:St) (H:Hp) (Q:VK),bI X Y σ H s->t σ H Q->wpAny (model X.prog X.w) X.A (eval e X.env) (EP X Y σ Q) X.xe s
def PT(X:Cx)(e:Expr)(t:TT):Prop :=
 ∀(Y:List (Addr×Obj)) (s:Shared) (σ:St) (H:Hp) (Q:Bool->Hp->Prop),bI X Y σ H s->t σ H Q->wpAny (model X.prog X.w) X.A (isTrue e X.env (eval e X.env)) (TP X Y σ Q) X.xe s
def PW(X:Cx)(e:Expr)(t:TT):Prop :=
 ∀(whole:Sem Value) (Y:List (Addr×Obj)) (s:Shared) (σ:St) (H:Hp) (Q:Bool->Hp->Prop),bI X Y σ H s->t σ H Q->wpAny (model X.prog X.w) X.A (isTrue e X.env whole) (TP X Y σ Q) X.xe s
def PW.pt{X:Cx}{t:TT}(h:PW X e t):PT X e t:=h _
def PA(X:Cx)(es:List Expr)(t:TA):Prop :=
 ∀(pos:Pos) (Y:List (Addr×Obj)) (s:Shared) (σ:St) (H:Hp) (Q:List V->Hp->Prop),bI X Y σ H s->t σ H Q->wpAny (model X.prog X.w) X.A (spliced (backTo pos (starEach es X.env))) (AP X Y σ Q) X.xe s
def PS(X:Cx)(st:Stmt)(t:TS):Prop :=
 ∀(Y:List (Addr×Obj)) (s:Shared) (σ:St) (H:Hp) (D:Ends),bI X Y σ H s->t D σ H->wpAny (model X.prog X.w) X.A (exec st X.env) (SP X Y D) X.xe s
def QG(X:Cx)(st:List Stmt)(t:TS):Prop :=
 ∀(Y:List (Addr×Obj)) (s:Shared) (σ:St) (H:Hp) (D:Ends),bI X Y σ H s->t D σ H->wpAny (model X.prog X.w) X.A (execs st X.env) (SP X Y D) X.xe s
def jJ{α:Type}{t:Sem α}{Q Q':α->Shared->Prop}{E:Value->Shared->Prop}{s:Shared}(h:wpAny Z98 A t Q E s)(hQ:∀a s,Q a s->Q' a s):wpAny Z98 A t Q' E s:=iJ h hQ λ_ _ x=>x
section
variable{X:Cx}
inductive EA{α:Type}(P Q:α->Prop):Prop
 |mk (v:α) (p:P v) (q:Q v)
inductive EC{α:Type}(P R Q:α->Prop):Prop
 |mk (v:α) (p:P v) (r:R v) (q:Q v)
inductive Æ(i:Nat)(σ:St)(H:Hp)(Q:VK):Prop
 |mk (v:_) (_:σ[i]?=some (some v)) (_:Q v H)
def tC(v:V):TE:=λ_ H Q=>Q v H
def a1B{i:Nat}{x:Str}(hN:X.N[i]?=some x)(hv:Vis X.env.scope x)(hd:@&((x==("__debug__" : Str))=false))(hcd:@&((x==("__classdict__" : Str))=false)):PE X (.Name x pos) (Æ i):=by
 intro Y s σ H Q I h;obtain⟨v,e,h⟩:=h;obtain⟨m,hn,hl⟩:=I.loc;obtain⟨u,r,l⟩:=hl i x v hN e hv;have fin:EP X Y σ Q u s:=⟨v,H,I,r,h⟩;rcases l with⟨hk,hm⟩|⟨hk,c,hc,hcell⟩
 ·exact wpAny_Name (wpAny_loadName_local I.ok.kind hk hn hm fin) hd
 ·rcases hk with hk|hk
  ·exact wpAny_Name (wpAny_loadName_cell I.ok.kind hk hc hcell fin) hd
  ·exact wpAny_Name (wpAny_loadName_free I.ok.kind hk hc hcell fin hcd) hd
def aq{i j pos}:PE X (.Constant (.int i) j pos) (tC (.int i)):=λ_ _ _ H _ I h=>wpAny_Constant_int ⟨.int i,H,I.tok _,⟨_,Z⟩,h⟩
def BK{b j pos}:PE X (.Constant (.bool b) j pos) (tC (.bl b)):=λ_ _ _ H _ I h=>Constant_bool ⟨.bl b,H,I,Z,h⟩
def uM{j pos}:PE X (.Constant .none j pos) (tC .non):=λ_ _ _ H _ I h=>Constant_none ⟨.non,H,I,Z,h⟩
def gn{x j pos}:PE X (.Constant (.str x) j pos) (tC (.str x)):=λ_ _ _ H _ I h=>Calls.Constant_str ⟨.str x,H,I.tok _,⟨_,Z⟩,h⟩
def Gl(X:Cx)(x:Str):Prop:=X.env.kindOf x=some .globalImplicit
def BL{E:Value->Shared->Prop}{Y:List (Addr×Obj)}{s:Shared}{σ:St}{H:Hp}{x:Str}{u:Value}{Q:Value->Shared->Prop}(I:bI X Y σ H s)(hg:Gl X x)(hm:X.mg x=some u)(h:Q u s)
  (hd:@&((x==("__debug__" : Str))=false)):wpAny (model X.prog X.w) X.A (eval (.Name x pos) X.env) Q E s :=
 Z6 I.ok.kind hg (Calls.loadGlobal_global (by rw[I.ok.glob];exact I.mod.glob.keeps I.bk) hm h) hd
def vZ{E:Value->Shared->Prop}{Y:List (Addr×Obj)}{s:Shared}{σ:St}{H:Hp}{x:Str}{u:Value}{Q:Value->Shared->Prop}(I:bI X Y σ H s)(hg:Gl X x)(hm:X.mg x=none)(hv:bootBuiltins x=some u)(h:Q u s)
  (hn:@&(x≠ "__name__")) (hd:@&((x==("__debug__" : Str))=false)):wpAny (model X.prog X.w) X.A (eval (.Name x pos) X.env) Q E s:=by
 obtain⟨mb,h1,h2⟩:=I.mod.blt;exact Z6 I.ok.kind hg (Calls.loadGlobal_builtin (by rw[I.ok.glob];exact I.mod.glob.keeps I.bk) hm (by rw[I.ok.blt];exact h1.keeps I.bk) ((h2 x hn).trans hv) h) hd
def Oq{x:Str}{v:V}{u:Value}(hg:Gl X x)(hm:X.mg x=some u)(r:cV v u)(hd:@&((x==("__debug__" : Str))=false)):PE X (.Name x pos) (tC v) :=
 λ_ _ _ H _ I h=>BL I hg hm ⟨v,H,I,r,h⟩ hd
def uy{x:Str}{v:V}{u:Value}(hg:Gl X x)(hm:X.mg x=none)(hv:bootBuiltins x=some u)(r:cV v u)(hn:@&(x≠ "__name__"))(hd:@&((x==("__debug__" : Str))=false)):PE X (.Name x pos) (tC v) :=
 λ_ _ _ H _ I h=>vZ I hg hm hv ⟨v,H,I,r,h⟩ hn hd
variable{a b:Expr}{tb:TE}
variable{tA tB':TT}{rest:List Expr}
def a3E(t u:TT):TT:=λσ H Q=>t σ H λc H1=>if c=true then u σ H1 Q else Q false H1
def tOr(t u:TT):TT:=λσ H Q=>t σ H λc H1=>if c=true then Q true H1 else u σ H1 Q
def a5S(t:TT):TT:=λσ H Q=>t σ H λc H1=>Q (!c) H1
def uz(ha:PT X a tA):PW X (.BoolOp .And [a] pos) tA:=by
 intro wh Y s σ H Q I h;refine isTrue_and (jJ (ha Y s σ H Q I h) λc s1 e=>?_);cases c with
 |true=>exact isTrue_and_nil e
 |false=>exact e
def Je(ha:PT X a tA):PW X (.BoolOp .Or [a] pos) tA:=by
 intro wh Y s σ H Q I h;refine isTrue_or (jJ (ha Y s σ H Q I h) λc s1 e=>?_);cases c with
 |false=>exact isTrue_or_nil e
 |true=>exact e
def tO(ha:PT X a tA)(hb:PW X (.BoolOp .And (b::rest) pos) tB'):PW X (.BoolOp .And (a::b::rest) pos) (a3E tA tB'):=by
 intro wh Y s σ H Q I h;refine isTrue_and (jJ (ha Y s σ H _ I h) λc s1 ⟨H1,I1,q1⟩=>?_);cases c with
 |true=>exact hb wh Y s1 σ H1 Q I1 q1
 |false=>exact⟨H1,I1,q1⟩
def Jf(ha:PT X a tA)(hb:PW X (.BoolOp .Or (b::rest) pos) tB'):PW X (.BoolOp .Or (a::b::rest) pos) (tOr tA tB'):=by
 intro wh Y s σ H Q I h;refine isTrue_or (jJ (ha Y s σ H _ I h) λc s1 ⟨H1,I1,q1⟩=>?_);cases c with
 |true=>exact⟨H1,I1,q1⟩
 |false=>exact hb wh Y s1 σ H1 Q I1 q1
def tQ(ha:PT X a tA):PT X (.UnaryOp .Not a pos) (a5S tA):=by
 intro Y s σ H Q I h;exact isTrue_not (ha Y s σ H (λc H1=>Q (!c) H1) I h)
def a3F(ta tb:TE):TE:=λσ H Q=>ta σ H λx H1=>EA (λc=>x=.bl c) λc=>if c=true then tb σ H1 Q else Q (.bl false) H1
def a3G(ta:TE):TE:=λσ H Q=>ta σ H λx H1=>EA (λc=>x=.bl c) λc=>Q (.bl (!c)) H1
def Ç{op}{t:TE}(h:PE X a t):PE X (.BoolOp op [a] pos) t:=λY s σ H Q I hw=>BoolOp_one (h Y s σ H Q I hw)
def È(ha:PE X a ta)(hb:PE X (.BoolOp .And (b::rest) pos) tb):PE X (.BoolOp .And (a::b::rest) pos) (a3F ta tb):=by
 intro Y s σ H Q I h;refine BoolOp_and (jJ (ha Y s σ H _ I h) λv s1 ⟨x,H1,I1,r1,q1⟩=>?_);obtain⟨c,rfl,q1⟩:=q1;cases r1;refine DQ ?_;cases c with
 |true=>exact hb Y s1 σ H1 Q I1 q1
 |false=>exact⟨.bl false,H1,I1,Z,q1⟩
def a1C(ha:PE X a ta):PE X (.UnaryOp .Not a pos) (a3G ta):=by
 intro Y s σ H Q I h;refine UnaryOp_ (jJ (ha Y s σ H _ I h) λv s1 ⟨x,H1,I1,r1,q1⟩=>?_);obtain⟨c,rfl,q1⟩:=q1;cases r1;exact not_of (DQ ⟨.bl (!c),H1,I1,Z,q1⟩)
def tIf(t:TT)(ta tb:TE):TE:=λσ H Q=>t σ H λc H1=>if c=true then ta σ H1 Q else tb σ H1 Q
def oN(hc:PT X c tA)(ha:PE X a ta)(hb:PE X b tb):PE X (.IfExp c a b pos) (tIf tA ta tb):=by
 intro Y s σ H Q I h;refine wpAny_IfExp (jJ (hc Y s σ H _ I h) λd s1 ⟨H1,I1,q1⟩=>?_);cases d with
 |true=>exact ha Y s1 σ H1 Q I1 q1
 |false=>exact hb Y s1 σ H1 Q I1 q1
end
def bM(K:aH)(H:Hp)(a:Addr)(xs:List V):Prop :=
 Rd H a (.lst xs)\/
  ∃(o:Obj) (cA:Array Value) (n:Nat),K.lookup a=some o/\o.cls=.type "list" /\o.dict=none/\o.data=.seq cA n/\cA.size<=sizeLine/\dz xs cA.toList
def cL(K:aH)(H:Hp)(a:Addr)(xs:List V):Prop :=
 Rd H a (.tup xs)\/
  ∃(o:Obj) (cA:Array Value) (n:Nat),K.lookup a=some o/\o.cls=.type "tuple" /\o.data=.seq cA n/\cA.size<=sizeLine/\dz xs cA.toList
def a5T:Value->Option V
 |.none=>some .non
 |.bool b=>some (.bl b)
 |.int i _=>some (.int i)
 |.str x _=>some (.str x)
 |.bytes b _=>some (.Wc b)
 |.float b _=>some (.flt b)
 |.ref a=>some (.ref a)
 |.type n=>some (.ty n)
 |_=>none
def cV.abs{x:V}{u:Value}(r:cV x u):a5T u=some x:=by
 cases x with
 |non=>cases r;rfl
 |bl _=>cases r;rfl
 |int _=>obtain⟨t,rfl⟩:=r;rfl
 |str _=>obtain⟨t,rfl⟩:=r;rfl
 |Wc _=>obtain⟨t,rfl⟩:=r;rfl
 |flt _=>obtain⟨t,rfl⟩:=r;rfl
 |ref _=>cases r;rfl
 |ty _=>cases r;rfl
def cV.inj{x y:V}{u:Value}(r:cV x u)(q:cV y u):x=y:=dM (r.abs.symm.trans q.abs)
def dz.inj{xs ys:List V}{us:List Value}(h:dz xs us)(g:dz ys us):xs=ys:=by
 induction h generalizing ys with
 |nil=>cases g;rfl
 |cons r _ ih =>
  cases g with
  |cons q t=>rw[r.inj q,ih t]
section
variable{X:Cx}{Y:List (Addr×Obj)}{σ:St}{H:Hp}{s:Shared}{a:Addr}{xs ys:List V}
def bM.of(h:H a=some (.lst xs)):bM K H a xs:=.inl (.inl h)
def cL.of(h:H a=some (.tup xs)):cL K H a xs:=.inl (.inl h)
def bI.list(I:bI X Y σ H s)(h:bM X.K H a xs):∃cA:List Value,dz xs cA/\PlainL s.heap a cA.toArray/\xs.length<=sizeLine:=by
 rcases h with h|⟨o,cA,n,hk,hc,hd,hs,hz,r⟩
 ·obtain⟨z,cA,n,r,e⟩:=h.ok I.hok;exact⟨cA,r,⟨_,n,e,Z,Z,Z⟩,z⟩
 ·refine⟨cA.toList,r,⟨o,n,I.Ds a o hk,hc,hd,by simpa using hs⟩,?_⟩;have e:=r.length;simp only[Array.length_toList]at e;omega
def bI.tuple(I:bI X Y σ H s)(h:cL X.K H a xs):∃cA:List Value,dz xs cA/\IsTup s.heap a cA.toArray/\xs.length<=sizeLine:=by
 rcases h with h|⟨o,cA,n,hk,hc,hs,hz,r⟩
 ·obtain⟨z,cA,r,p⟩:=h.ok I.hok;exact⟨cA,r,p,z⟩
 ·refine⟨cA.toList,r,⟨o,I.Ds a o hk,hc,n,by simpa using hs⟩,?_⟩;have e:=r.length;simp only[Array.length_toList]at e;omega
def bI.xX(I:bI X Y σ H s)(h:bM X.K H a xs)(h':bM X.K H a ys):xs=ys:=by
 obtain⟨cA,r,⟨o,n,e,_,_,d⟩,_⟩:=I.list h;obtain⟨its',r',⟨o',n',e',_,_,d'⟩,_⟩:=I.list h';rw[e]at e';cases e';rw[d]at d';injection d' with d1 _
 have:cA=its':=by simpa using congrArg Array.toList d1
 subst this;exact r.inj r'
def bI.yW(I:bI X Y σ H s)(h:cL X.K H a xs)(h':cL X.K H a ys):xs=ys:=by
 obtain⟨cA,r,⟨o,e,_,n,d⟩,_⟩:=I.tuple h;obtain⟨its',r',⟨o',e',_,n',d'⟩,_⟩:=I.tuple h';rw[e]at e';cases e';rw[d]at d';injection d' with d1 _
 have:cA=its':=by simpa using congrArg Array.toList d1
 subst this;exact r.inj r'
end
abbrev Cx.wish(X:Cx)(E:Value->Shared->Prop):Cx:={ X with xe:=E}
abbrev Cx.nox(X:Cx):Cx:=X.wish λ_ _=>False
def Cx.Ok.wish{X:Cx}(ok:X.Ok)(E:Value->Shared->Prop):(X.wish E).Ok :=
 ⟨ok.mod,ok.kind,ok.glob,ok.blt,ok.above,ok.inj,ok.has,ok.cab,ok.hd,ok.frames,ok.stk,ok.exf,ok.bs,ok.Ş,ok.Uk,ok.Yd,ok.BJ,ok.Ų⟩
def Cx.Ok.uN{X:Cx}{E:Value->Shared->Prop}(ok:(X.wish E).Ok):X.Ok :=
 ⟨ok.mod,ok.kind,ok.glob,ok.blt,ok.above,ok.inj,ok.has,ok.cab,ok.hd,ok.frames,ok.stk,ok.exf,ok.bs,ok.Ş,ok.Uk,ok.Yd,ok.BJ,ok.Ų⟩
section
variable{X:Cx}{Y:List (Addr×Obj)}{σ:St}{H:Hp}{s:Shared}{E:Value->Shared->Prop}
def bI.wish(I:bI X Y σ H s)(E:Value->Shared->Prop):bI (X.wish E) Y σ H s:=⟨I.ok.wish E,I.os,I.bare,I.base,I.loc,I.cell,I.free,I.tM,I.pin,I.hok,I.len⟩
def bI.uN(I:bI (X.wish E) Y σ H s):bI X Y σ H s:=⟨I.ok.uN,I.os,I.bare,I.base,I.loc,I.cell,I.free,I.tM,I.pin,I.hok,I.len⟩
def SP.uN{D:Ends}{f:Flow}{s':Shared}(h:SP (X.wish E) Y D f s'):SP X Y D f s':=by
 cases f with
 |next=>obtain⟨σ',H',I,q⟩:=h;exact⟨σ',H',I.uN,q⟩
 |brk=>obtain⟨σ',H',I,q⟩:=h;exact⟨σ',H',I.uN,q⟩
 |cont=>obtain⟨σ',H',I,q⟩:=h;exact⟨σ',H',I.uN,q⟩
 |ret u=>obtain⟨v,σ',H',I,r,q⟩:=h;exact⟨v,σ',H',I.uN,r,q⟩
def QG.nox{st:List Stmt}{t:TS}(h:QG X.nox st t):QG X st t:=λY s σ H D I hw =>
 iJ (h Y s σ H D (I.wish _) hw) (λ_ _ q=>q.uN) λ_ _ z=>False.elim z
end
section
variable{X:Cx}{st:Stmt}{rest:List Stmt}{t u:TS}
def a1d:TS:=λD σ H=>D.nx σ H
def a3H(t u:TS):TS:=λD σ H=>t { D with nx:=u D} σ H
def bO:QG X [] a1d:=λ_ _ σ H _ I h=>Oa ⟨σ,H,I,h⟩
def aD(h1:PS X st t)(h2:QG X rest u):QG X (st::rest) (a3H t u):=by
 intro Y s σ H D I h;refine TF (jJ (h1 Y s σ H { D with nx:=u D} I h) λf s1 q=>?_);cases f with
 |next =>
  obtain⟨σ',H',I',q⟩:=q;exact h2 Y s1 σ' H' D I' q
 |ret v=>exact q
 |brk=>exact q
 |cont=>exact q
def aB(h1:PS X st t):QG X [st] t:=by
 intro Y s σ H D I h;refine TF (jJ (h1 Y s σ H D I h) λf s1 q=>?_);cases f with
 |next=>exact Oa q
 |ret v=>exact q
 |brk=>exact q
 |cont=>exact q
def a1D:TS:=λD σ H=>D.bk σ H
def É:PS X (.Break pos) a1D:=λ_ _ σ H _ I h=>wpAny_Break ⟨σ,H,I,h⟩
def bI.quiet{Y:List (Addr×Obj)}{σ:St}{H:Hp}{s:Shared}(I:bI X Y σ H s):interactive X.env=false:=by simp[interactive,I.ok.kind]
def a3I(te:TE):TS:=λD σ H=>te σ H λ_ H1=>D.nx σ H1
def gY(he:PE X e te)(hs:@&(swapsWith e none pos.line X.env=pure false)):PS X (.Expr e pos) (a3I te):=by
 intro Y s σ H D I h;exact wpAny_Expr_any (jJ (he Y s σ H _ I h) λv s1 ⟨x,H1,I1,r1,q1⟩=>⟨σ,H1,I1,q1⟩) I.quiet hs
def a3J(te:TE):TS:=λD σ H=>te σ H D.rt
def bF(he:PE X e te):PS X (.Return (some e) pos) (a3J te):=by
 intro Y s σ H D I h;exact wpAny_Return_some (jJ (he Y s σ H _ I h) λv s1 ⟨x,H1,I1,r1,q1⟩=>⟨x,σ,H1,I1,r1,q1⟩)
def a5U(c:TT)(t u:TS):TS:=λD σ H=>c σ H λb H1=>if b=true then t D σ H1 else u D σ H1
def dD{a b:List Stmt}{tc:TT}(hc:PT X c tc)(ha:QG X a t)(hb:QG X b u):PS X (.If c a b pos) (a5U tc t u):=by
 intro Y s σ H D I h;refine wpAny_If (jJ (hc Y s σ H _ I h) λd s1 ⟨H1,I1,q1⟩=>?_);cases d with
 |true=>exact ha Y s1 σ H1 D I1 q1
 |false=>exact hb Y s1 σ H1 D I1 q1
def a1E:TS:=λ_ _ _=>False
def BP:PS X st a1E:=λ_ _ _ _ _ _ h=>h.elim
end
abbrev TG:=V->St->Hp->(St->Hp->Prop)->Prop
abbrev Ê:=List V->St->Hp->(St->Hp->Prop)->Prop
def PG(X:Cx)(target:Expr)(t:TG):Prop :=
 ∀(Y:List (Addr×Obj)) (s:Shared) (σ:St) (H:Hp) (v:V) (u:Value) (Q:St->Hp->Prop),bI X Y σ H s->cV v u->t v σ H Q->
  wpAny (model X.prog X.w) X.A (assign target X.env u) (λ_ s'=>∃σ' H',bI X Y σ' H' s'/\Q σ' H') X.xe s
def PGs(X:Cx)(ts:List Expr)(t:Ê):Prop :=
 ∀(Y:List (Addr×Obj)) (s:Shared) (σ:St) (H:Hp) (vs:List V) (us:List Value) (Q:St->Hp->Prop),bI X Y σ H s->dz vs us->t vs σ H Q->
  wpAny (model X.prog X.w) X.A (assignInOrder ((assignEach ts X.env).map (·.2)) us) (λ_ s'=>∃σ' H',bI X Y σ' H' s'/\Q σ' H') X.xe s
abbrev a1F:=V->V->V->Hp->(Hp->Prop)->Prop
def a3K(X:Cx)(t:a1F):Prop :=
 ∀(Y:List (Addr×Obj)) (s:Shared) (σ:St) (H:Hp) (o i v:V) (ov iv u:Value) (Q:Hp->Prop),bI X Y σ H s->cV o ov->cV i iv->cV v u->t o i v H Q->
  wpAny (model X.prog X.w) X.A (setItem ov iv u) (λ_ s'=>∃H',bI X Y σ H' s'/\Q H') X.xe s
section
variable{X:Cx}
def Wf(i:Nat):TG:=λv σ H Q=>Q (σ.set i (some v)) H
def aM(i:Nat){x:Str}(hN:X.N.Nodup)(hi:@&(X.N[i]?=some x))(hx:autoParam (Loc X.env.scope x) Q1_._auto_1)(hf:autoParam (X.fn x=true\/X.env.scope.names.lookup x=some .local) Q2_._auto_1):PG X (.Name x pos) (Wf i):=by
 intro Y s σ H v u Q I r h;exact wpAny_assign_Name (QF I hN hi hx r (λs' I'=>⟨_,H,I',h⟩) hf)
def a5V:Ê:=λvs σ H Q=>vs=[]/\Q σ H
def a3L(t:TG)(u:Ê):Ê:=λvs σ H Q=>∃v r,vs=v::r/\t v σ H λσ' H'=>u r σ' H' Q
def jw:PGs X [] a5V:=by
 intro Y s σ H vs us Q I r h;obtain⟨e,h⟩:=h;subst e;cases r;exact assignInOrder_nil ⟨σ,H,I,h⟩
def bZ{t:TG}{u:Ê}(h1:PG X e t)(h2:PGs X es u)
  (hs:@&((assignEach (e::es) X.env).map (·.2)=assign e X.env::(assignEach es X.env).map (·.2))):PGs X (e::es) (a3L t u):=by
 intro Y s σ H vs us Q I r h;obtain⟨v,vr,e1,h⟩:=h;subst e1;cases r with
 |cons r rr =>
  rw[hs];exact assignInOrder_cons (jJ (h1 Y s σ H _ _ _ I r h) λ_ s1 ⟨σ1,H1,I1,q1⟩=>h2 Y s1 σ1 H1 _ _ Q I1 rr q1)
inductive a3M(K:aH)(n:Nat)(t:Ê)(v:V)(σ:St)(H:Hp)(Q:St->Hp->Prop):Prop
 |mk (a xs:_) (_:v=.ref a) (_:cL K H a xs) (_:xs.length=n) (_:t xs σ H Q)
def a1G{t:Ê}(hc:X.calm=true)(h:PGs X es t)
  (hn:@&((assignEach es X.env).length=n)) (hst:@&((assignEach es X.env).findIdx? (·.1)=none)):PG X (.Tuple es k pos) (a3M X.K n t):=by
 intro Y s σ H v u Q I r hw;obtain⟨a,xs,e1,hq,hl,hw⟩:=hw;subst e1;cases r;obtain⟨cA,rv,ht,hz⟩:=I.tuple hq;refine assign_Tuple_tuple (I.ok.hd hc) ht (by simp[hn,<-hl,rv.length]) hst λh' hx=>?_;have I1:bI X Y σ H { s with heap:=h'}:=I.kept (t':=s.toks) λb o e=>hx b o (bW (aX e)) e;exact h Y _ σ H xs _ Q I1 (by simpa using rv) hw
def a5W(to ti:TE)(t:a1F):TG:=λv σ H Q=>to σ H λo H1=>ti σ H1 λi H2=>t o i v H2 λH3=>Q σ H3
def Ul{o i:Expr}{to ti:TE}{t:a1F}(ho:PE X o to)(hi:PE X i ti)(hs:a3K X t)
  (ha:autoParam (∀v,assign (.Subscript o i pos) X.env v=(do
   let ov <-holding [v] (eval o X.env)
   let iv <-holding [v,ov] (eval i X.env)
   standAt pos
   holding [v,ov,iv] (setItem ov iv v)
   release [v,ov,iv] [])) Q0_._auto_1):PG X (.Subscript o i pos) (a5W to ti t):=by
 intro Y s σ H v u Q I r h;rw[ha];exact M (fL (jJ (ho Y s σ H _ I h) λov s1 ⟨x,H1,I1,r1,q1⟩=>M (fL (jJ (hi Y s1 σ H1 _ I1 q1) λiv s2 ⟨y,H2,I2,r2,q2⟩=>M (Oc (M (fL (jJ (hs Y s2 σ H2 x y v ov iv u _ I2 r1 r2 r q2) λ_ s3 ⟨H3,I3,q3⟩=>wpAny_release ⟨σ,H3,I3,q3⟩))))))))
def a1H(te:TE)(g:TG):TS:=λD σ H=>te σ H λx H1=>g x σ H1 D.nx
def Ah{g:TG}(he:PE X e te)(hg:PG X tg g)(hs:@&(swapsWithSole [tg] e pos.line X.env=pure false))(hw:@&(swappedStores [tg] e X.env=pure none))
  (h1:@&((assignEach [tg] X.env).map (·.2)=[assign tg X.env])):PS X (.Assign [tg] e pos) (a1H te g):=by
 intro Y s σ H D I h;refine wpAny_Assign_stores (jJ (he Y s σ H _ I h) λv s1 ⟨x,H1,I1,r1,q1⟩=>?_) hs hw;rw[h1];exact jJ (hg Y s1 σ H1 x v _ I1 r1 q1) λ_ s2 q=>q
def aY(i:Nat){x:Str}{pos':Pos}(hN:X.N.Nodup)(he:PE X e te)(hi:@&(X.N[i]?=some x))(hx:autoParam (Loc X.env.scope x) Q1_._auto_1)(hs:@&(swapsWith e (some (.Name x pos')) pos.line X.env=pure false))(hf:autoParam (X.fn x=true\/X.env.scope.names.lookup x=some .local) Q2_._auto_1) :
  PS X (.Assign [.Name x pos'] e pos) (a1H te (Wf i)):=by
 intro Y s σ H D I h;exact wpAny_Assign_Name (jJ (he Y s σ H _ I h) λv s1 ⟨y,H1,I1,r1,q1⟩=>QF I1 hN hi hx r1 (λs2 I2=>⟨_,H1,I2,q1⟩) hf) hs
end
section
variable{X:Cx}
def a1I(c:TT)(tb:TS):TS:=λD σ H=>∃W:Nat->St->Hp->Prop,(∃m,W m σ H)/\∀m σ H,W m σ H->
 c σ H λb H1=>if b=true then ∃N:St->Hp->Prop,(∀σ' H',N σ' H'->∃m',m'<m/\W m' σ' H')/\tb { D with nx:=N,ct:=N,bk:=D.nx} σ H1 else D.nx σ H1
def Ë{tc:TT}(hp:PassesOwn (model X.prog X.w) X.A X.env X.xe)(hc:PT X c tc)(hb:QG X body tb):PS X (.While c body [] pos) (a1I tc tb):=by
 intro Y s σ H D I h;obtain⟨W,⟨m0,w0⟩,turn⟩:=h;refine wpAny_While (codeAny_whileLoop (λn s'=>∃σ' H',bI X Y σ' H' s'/\W n σ' H') ?_ m0 ⟨σ,H,I,w0⟩);rintro n s1 ⟨σ1,H1,I1,w1⟩;refine Ab hp (jJ (hc Y s1 σ1 H1 _ I1 (turn n σ1 H1 w1)) λb s2 ⟨H2,I2,q2⟩=>?_);cases b with
 |true =>
  obtain⟨N,hN,q2⟩:=q2;rw[aG rfl];refine Ab hp (jJ (hb Y s2 σ1 H2 _ I2 q2) λf s3 q3=>?_);cases f with
  |next =>
   obtain⟨σ3,H3,I3,n3⟩:=q3;obtain⟨m',hm,w3⟩:=hN σ3 H3 n3;exact⟨m',hm,σ3,H3,I3,w3⟩
  |cont =>
   obtain⟨σ3,H3,I3,n3⟩:=q3;obtain⟨m',hm,w3⟩:=hN σ3 H3 n3;exact⟨m',hm,σ3,H3,I3,w3⟩
  |brk=>exact q3
  |ret v=>exact q3
 |false =>
  rw[aA cY];exact Oa ⟨σ1,H2,I2,q2⟩
end
structure It where
 go:Nat->Hp->Prop
 ZK:Nat->Hp->V->Hp->Prop
 stop:Nat->Hp->Prop
def Gm(X:Cx)(Y:List (Addr×Obj))(H:Hp)(b:Addr):Prop :=
 H b=none/\b≠X.env.locals/\b∉X.fs/\(b∈X.ex\/X.s₀.heap.objs.size<=b)/\(∀x c,X.env.cells.lookup x=some c->c≠b)/\∀p∈X.pn++Y,p.1≠b
def bI.Gn{X:Cx}{Y:List (Addr×Obj)}{σ:St}{H H':Hp}{s:Shared}{b:Addr}(I:bI X Y σ H s)(hb:s⁻¹<=b)(hn:H' b=none):Gm X Y H' b:=by
 refine⟨hn,gD (jy I.lt hb),I.a3C hb,.inr (cZ I.sz hb),λx c e z=>?_,λp hp z=>?_⟩
 ·obtain⟨v,q⟩:=I.cell x c e;exact absurd (jy q.lt (by rw[z];exact hb)) (xT _)
 ·exact absurd (jy (aX (I.pin p hp).1) (by rw[z];exact hb)) (xT _)
structure Turn(P:Program)(w:World)(K:aH)(tg:Expr)(Z97:It)(fp:List Addr)(it:Addr)(tn:Nat->Heap->Prop):Prop where
 mem:it∈fp
 obj:∀i h,tn i h->∀b∈fp,∃o,h.get? b=some o/\∀v,o.data≠.cell v
 keep:∀i h h',tn i h->(∀b∈fp,∀o,h.get? b=some o->h'.get? b=some o)->tn i h'
 item:∀(X:Cx),X.prog=P->X.w=w->X.K=K->X.calm=true->∀(i:Nat) (Y:List (Addr×Obj)) (s:Shared) (σ:St) (H:Hp) (E:Value->Shared->Prop),bI X Y σ H s->(∀b∈fp,Gm X Y H b)->tn i s.heap->Z97.go i H->
  wpAny (model P w) X.A (pyNext (.ref it)) (λr s1=>∃u,r=some u/\
   wpAny (model P w) X.A (letOwnedTupleGo tg (.ref it) u) (λ_ s2=>∃x H',bI X Y σ H' s2/\cV x u/\Z97.ZK i H x H'/\tn (i+1) s2.heap/\∀b∈fp,H' b=none) E s1) E s
 done:∀(X:Cx),X.prog=P->X.w=w->X.K=K->X.calm=true->∀(i:Nat) (Y:List (Addr×Obj)) (s:Shared) (σ:St) (H:Hp) (E:Value->Shared->Prop),bI X Y σ H s->(∀b∈fp,Gm X Y H b)->tn i s.heap->Z97.stop i H->
  wpAny (model P w) X.A (pyNext (.ref it)) (λr s1=>r=none/\bI X Y σ H s1) E s
 self:∀(A:Around) (i:Nat) (s:Shared) (Q:Value->Shared->Prop) (E:Value->Shared->Prop),tn i s.heap->Q (.ref it) s->wpAny (model P w) A (pyIter (.ref it)) Q E s
abbrev TI:=St->Hp->(It->Hp->Prop)->Prop
inductive PIE(X:Cx)(Y:List (Addr×Obj))(σ:St)(tg:Expr)(R:It->Hp->Prop)(itv:Value)(s2:Shared):Prop
 |mk (it:Addr) (fp:List Addr) (tn:Nat->Heap->Prop) (Z97:It) (H':Hp) (_:itv=.ref it) (_:bI X Y σ H' s2) (_:Turn X.prog X.w X.K tg Z97 fp it tn) (_:tn 0 s2.heap) (_:(∀b∈fp,Gm X Y H' b)) (_:R Z97 H')
def PI(X:Cx)(tg iter:Expr)(wi:TI):Prop :=
 ∀(Y:List (Addr×Obj)) (s:Shared) (σ:St) (H:Hp) (R:It->Hp->Prop),bI X Y σ H s->wi σ H R->
  wpAny (model X.prog X.w) X.A (eval iter X.env) (λv s1=>wpAny (model X.prog X.w) X.A (pyIter v) (PIE X Y σ tg R) X.xe s1) X.xe s
def Wg{E : Value → Shared → Prop}{s : Shared}{it : Addr}{u : Value}{o : Obj}{n : String}{vs : Array Value}{Q : Unit → Shared → Prop}(ho : s.heap.get? it = some o)(hc : o.cls = .type n)(hd : o.data = .fields vs)
    (hn : ["enumerate", "zip", "dict_itemiterator", "dict_reverseitemiterator", "odict_iterator", "itertools.zip_longest", "itertools.pairwise"].contains n = false) (hQ : Q ⟨⟩ s) : wpAny Z98 A (letOwnedTupleGo tg (.ref it) u) Q E s := by
  unfold letOwnedTupleGo;cases tg <;> first
    | exact ao hQ
    | (cases u <;> first
        | exact ao hQ
        | (refine M (wpAny_load ho ?_)
           rw [hc, hd];show wpAny Z98 A (if (["enumerate", "zip", "dict_itemiterator", "dict_reverseitemiterator", "odict_iterator", "itertools.zip_longest", "itertools.pairwise"].contains n && vs[0]? == some (rawInt _)) = true then _ else _) Q E s;rw [aA (by intro h; rw [hn, Bool.false_and] at h; cases h)];exact ao hQ))
def ş(K:aH)(a:Addr):It :=
 ⟨λi H=>∃xs x,bM K H a xs/\xs[i]?=some x,λi H x H'=>H'=H/\∀xs,bM K H a xs->xs[i]?=some x,λi H=>∃xs,bM K H a xs/\xs.length<=i⟩
def Itt(K:aH)(a:Addr):It :=
 ⟨λi H=>∃xs x,cL K H a xs/\xs[i]?=some x,λi H x H'=>H'=H/\∀xs,cL K H a xs->xs[i]?=some x,λi H=>∃xs,cL K H a xs/\xs.length<=i⟩
def Wh(lo:Int)(n:Nat):It:=⟨λi _=>i<n,λi H x H'=>H'=H/\x=.int (lo+i),λi _=>n<=i⟩
def Ye{P:Program}{w:World}(a it:Addr):Turn P w K tg (ş K a) [it] it (λi h=>h.IsListIter it a i) where
 mem:=by simp
 obj:=λi h st b hb=>by
  have e:b=it:=by simpa using hb
  subst e
  obtain⟨o,e,c,d⟩:=st
  exact⟨o,e,λv z=>by rw[d]at z;cases z⟩
 keep:=λi h h' st k=>st.at λo e=>k it (by simp) o e
 item:=by
  intro X hP hw hK hc i Y s σ H E I hf st hg
  subst hP hw hK
  obtain⟨xs,x,hq,hx⟩:=hg
  obtain⟨cA,rv,p,hz⟩:=I.list hq
  obtain⟨u,hu,ru⟩:=rv.get hx
  obtain⟨f0,f1,f2,f3,f4,f5⟩:=hf it (by simp)
  refine Sy st p.isList (x:=u) (by simpa using hu) λh' st' sb=>?_
  have I1:bI X Y σ H { s with heap:=h'}:=I.turned (t':=s.toks) (λb o hb e=>(sb.2 b hb).trans e) f0 f1 f3 f4 f5
  obtain⟨o,e,c,d⟩:=id st'
  exact⟨u,Z,Wg (s:={ s with heap:=h'}) e c d () ⟨x,H,I1,ru,⟨rfl,λys hy=>by rw[I.xX hy hq];exact hx⟩,st',λb hb=>(hf b hb).1⟩⟩
 done:=by
  intro X hP hw hK hc i Y s σ H E I hf st hg
  subst hP hw hK
  obtain⟨xs,hq,hx⟩:=hg
  obtain⟨cA,rv,p,hz⟩:=I.list hq
  obtain⟨f0,f1,f2,f3,f4,f5⟩:=hf it (by simp)
  have hl:=rv.length
  exact wpAny_pyNext_list_end (I.ok.hd hc) st p.isList (by simp;omega) λh' eb=>⟨Z,I.turned (t':=s.toks) (λb o hb e=>eb b o hb e) f0 f1 f3 f4 f5⟩
 self:=λ_ _ _ _ _ st h=>wpAny_pyIter_listiter st h
def Um{P:Program}{w:World}(a it:Addr):Turn P w K tg (Itt K a) [it] it (λi h=>h.IsTupleIter it a i) where
 mem:=by simp
 obj:=λi h st b hb=>by
  have e:b=it:=by simpa using hb
  subst e
  obtain⟨o,e,c,d⟩:=st
  exact⟨o,e,λv z=>by rw[d]at z;cases z⟩
 keep:=λi h h' st k=>st.at λo e=>k it (by simp) o e
 item:=by
  intro X hP hw hK hc i Y s σ H E I hf st hg
  subst hP hw hK
  obtain⟨xs,x,hq,hx⟩:=hg
  obtain⟨cA,rv,p,hz⟩:=I.tuple hq
  obtain⟨u,hu,ru⟩:=rv.get hx
  obtain⟨f0,f1,f2,f3,f4,f5⟩:=hf it (by simp)
  refine wpAny_pyNext_tuple_item st (show s.heap.IsTuple a cA.toArray from p) (x:=u) (by simpa using hu) λh' st' sb=>?_
  have I1:bI X Y σ H { s with heap:=h'}:=I.turned (t':=s.toks) (λb o hb e=>(sb.2 b hb).trans e) f0 f1 f3 f4 f5
  obtain⟨o,e,c,d⟩:=id st'
  exact⟨u,Z,Wg (s:={ s with heap:=h'}) e c d () ⟨x,H,I1,ru,⟨rfl,λys hy=>by rw[I.yW hy hq];exact hx⟩,st',λb hb=>(hf b hb).1⟩⟩
 done:=by
  intro X hP hw hK hc i Y s σ H E I hf st hg
  subst hP hw hK
  obtain⟨xs,hq,hx⟩:=hg
  obtain⟨cA,rv,p,hz⟩:=I.tuple hq
  obtain⟨f0,f1,f2,f3,f4,f5⟩:=hf it (by simp)
  have hl:=rv.length
  exact wpAny_pyNext_tuple_end (I.ok.hd hc) st (show s.heap.IsTuple a cA.toArray from p) (by simp;omega) λh' eb=>⟨Z,I.turned (t':=s.toks) (λb o hb e=>eb b o hb e) f0 f1 f3 f4 f5⟩
 self:=λ_ _ _ _ _ st h=>wpAny_pyIter_tupleiter st h
def Uo{P:Program}{w:World}(it:Addr)(lo:Int)(n:Nat):Turn P w K tg (Wh lo n) [it] it (λi h=>IsRangeIter h it (lo+(i:Nat)*1) ((n:Int)-(i:Nat)) 1) where
 mem:=by simp
 obj:=λi h st b hb=>by
  have e:b=it:=by simpa using hb
  subst e
  exact⟨_,st,λv z=>by
   have z':Data.fields _=Data.cell v:=z
   cases z'⟩
 keep:=λi h h' st k=>k it (by simp) _ st
 item:=by
  intro X hP hw hK hc i Y s σ H E I hf st hg
  subst hP hw hK
  obtain⟨f0,f1,f2,f3,f4,f5⟩:=hf it (by simp)
  have W:=Walks.range (prog:=X.prog) (w:=X.w) (I.ok.hd hc) it lo 1 n
  refine W.item i s _ _ hg st λv h' tk hv st' kk=>?_
  obtain⟨t,rfl⟩:=hv
  have I1:bI X Y σ H { s with heap:=h',toks:=tk}:=I.turned (λb o hb e=>kk b o (by simpa using hb) e) f0 f1 f3 f4 f5
  refine⟨_,Z,Wg (s:={ s with heap:=h',toks:=tk}) (n:="range_iterator") st' rfl rfl () ⟨.int (lo+i),H,I1,⟨t,?_⟩,⟨rfl,rfl⟩,st',λb hb=>(hf b hb).1⟩⟩
  rw[Int.mul_one]
 done:=by
  intro X hP hw hK hc i Y s σ H E I hf st hg
  subst hP hw hK
  obtain⟨f0,f1,f2,f3,f4,f5⟩:=hf it (by simp)
  exact wpAny_pyNext_range_end (I.ok.hd hc) st (by have:n<=i:=hg;omega) λh' eb=>⟨Z,I.turned (t':=s.toks) (λb o hb e=>eb b o hb e) f0 f1 f3 f4 f5⟩
 self:=λ_ _ _ _ _ st h=>wpAny_pyIter_rangeiter st h
section
variable{X:Cx}
def a1e(K:aH)(tl:TE):TI:=λσ H R=>tl σ H λx H1=>EC (λa=>x=.ref a) (λa=>(∃xs,bM K H1 a xs)) λa=>R (ş K a) H1
def a3N(K:aH)(tl:TE):TI:=λσ H R=>tl σ H λx H1=>EC (λa=>x=.ref a) (λa=>(∃xs,cL K H1 a xs)) λa=>R (Itt K a) H1
def ų{l:Expr}{tl:TE}(hl:PE X l tl):PI X tg l (a1e X.K tl):=by
 intro Y s σ H R I h;refine jJ (hl Y s σ H _ I h) λv s1 ⟨x,H1,I1,r1,q1⟩=>?_;obtain⟨a,e,⟨xs,hq⟩,q⟩:=q1;subst e;cases r1;obtain⟨cA,rv,p,hz⟩:=I1.list hq;refine vQ p.isList ⟨s1⁻¹,[s1⁻¹],_,_,H1,Z,I1.kept (t':=s1.toks) λb o e=>bJ _ e,Ye a _,⟨_,bU _ Z,Z,Z⟩,λb hb=>?_,q⟩;have e:b=s1⁻¹:=by simpa using hb
 subst e;exact I1.Gn (aL _) (I1.hok.fresh (aL _))
def a1J{l:Expr}{tl:TE}(hl:PE X l tl):PI X tg l (a3N X.K tl):=by
 intro Y s σ H R I h;refine jJ (hl Y s σ H _ I h) λv s1 ⟨x,H1,I1,r1,q1⟩=>?_;obtain⟨a,e,⟨xs,hq⟩,q⟩:=q1;subst e;cases r1;obtain⟨cA,rv,p,hz⟩:=I1.tuple hq;refine DN (show s1.heap.IsTuple a cA.toArray from p) ⟨s1⁻¹,[s1⁻¹],_,_,H1,Z,I1.kept (t':=s1.toks) λb o e=>bJ _ e,Um a _,⟨_,bU _ Z,Z,Z⟩,λb hb=>?_,q⟩;have e:b=s1⁻¹:=by simpa using hb
 subst e;exact I1.Gn (aL _) (I1.hok.fresh (aL _))
def QH{Y:List (Addr×Obj)}{σ:St}{H:Hp}{s:Shared}{R:It->Hp->Prop}{E:Value->Shared->Prop}{lo hi:Int}{t u v:Tok}{tk:Nat}(I:bI X Y σ H s)(h1 : -(2^62)<=lo)(h2:lo<2^62)(h3 : -(2^62)<=hi)(h4:hi<2^62)
  (q:R (Wh lo (hi-lo).toNat) H):wpAny (model X.prog X.w) X.A (pyIter (.ref s⁻¹)) (PIE X Y σ tg R) E { s with heap:=s.heap.push { cls:=.type "range",data:=.fields #[.int lo t,.int hi u,.int 1 v]},toks:=tk}:=by
 refine wpAny_pyIter_range (IsRange.new ..) (small_one h1 h2 h3 h4) ?_;have I1:bI X Y σ H { s with heap:=s.heap.push { cls:=.type "range",data:=.fields #[.int lo t,.int hi u,.int 1 v]},toks:=tk}:=I.kept λb o e=>bJ _ e;refine⟨(s.heap.push { cls:=.type "range",data:=.fields #[.int lo t,.int hi u,.int 1 v]}).objs.size,[(s.heap.push { cls:=.type "range",data:=.fields #[.int lo t,.int hi u,.int 1 v]}).objs.size],_,_,H,Z,
  I1.kept (t':=tk) λb o e=>bJ _ e,Uo _ lo (hi-lo).toNat,?_,λb hb=>?_,q⟩
 ·have e1:lo+((0:Nat):Int)*1=lo:=by simp
  have e2:(((hi-lo).toNat:Nat):Int)-((0:Nat):Int)=Builtin.Range.rangeSize lo hi 1:=by rw[rangeSize_one];split<;>omega
  show IsRangeIter _ _ (lo+((0:Nat):Int)*1) ((((hi-lo).toNat:Nat):Int)-((0:Nat):Int)) 1;rw[e1,e2];exact bU _ rfl
 ·have e:b=(s.heap.push { cls:=.type "range",data:=.fields #[.int lo t,.int hi u,.int 1 v]}).objs.size:=by simpa using hb
  subst e;exact I1.Gn (aL _) (I1.hok.fresh (aL _))
def a3O(ta:TA):TI:=λσ H R=>ta σ H λvs H1=>EA (λj:Int=>vs=[.int j]) λj=>-(2^62)<=j/\j<2^62/\R (Wh 0 j.toNat) H1
def a3P(ta:TA):TI:=λσ H R=>ta σ H λvs H1=>∃i j:Int,vs=[.int i,.int j]/\(-(2^62)<=i/\i<2^62/\ -(2^62)<=j/\j<2^62)/\R (Wh i (j-i).toNat) H1
def jB{a:Expr}{ta:TA}(hg:Gl X "range")(hm:X.mg "range" = none)(ha:PA X [a] ta)(hs:@&(starEach [a] X.env=[(false,eval a X.env)])):PI X tg (.Call (.Name "range" p) [a] [] pos) (a3O ta):=by
 intro Y s σ H R I h;refine Call_ (vZ I hg hm boot_range (zT (jJ (ha pos Y s σ H _ I h) λus s1 ⟨vs,H1,I1,r1,q1⟩=>?_) hs Z));obtain⟨j,e,q1,q2,q⟩:=q1;subst e;cases r1 with
 |cons r rr =>
  cases rr;obtain⟨t,rfl⟩:=r;exact call_range_1 (QH I1 () () q1 q2 (by simpa using q))
def Lq{a b:Expr}{ta:TA}(hg:Gl X "range")(hm:X.mg "range" = none)(ha:PA X [a,b] ta)(hs:@&(starEach [a,b] X.env=[(false,eval a X.env),(false,eval b X.env)]))(hs2:@&(starEach [b] X.env=[(false,eval b X.env)])) :
  PI X tg (.Call (.Name "range" p) [a,b] [] pos) (a3P ta):=by
 intro Y s σ H R I h;refine Call_ (vZ I hg hm boot_range (zT (jJ (ha pos Y s σ H _ I h) λus s1 ⟨vs,H1,I1,r1,q1⟩=>?_) (by rw[hs,hs2]) (by rw[hs2];rfl)));obtain⟨i,j,e,⟨q1,q2,q3,q4⟩,q⟩:=q1;subst e;cases r1 with
 |cons r rr =>
  cases rr with
  |cons r' rr =>
   cases rr;obtain⟨t,rfl⟩:=r;obtain⟨t',rfl⟩:=r';exact call_range_2 (QH I1 q1 q2 q3 q4 q)
def a5X(wi:TI)(g:TG)(tb:TS):TS:=λD σ H=>wi σ H λZ97 H1=>∃W:Nat->Nat->St->Hp->Prop,(∃m,W 0 m σ H1)/\∀i m σ H,W i m σ H->
 (Z97.stop i H/\D.nx σ H)\/(Z97.go i H/\∃N:St->Hp->Prop,(∀σ' H',N σ' H'->∃m',m'<m/\W (i+1) m' σ' H')/\∀x H',Z97.ZK i H x H'->g x σ H' λσ2 H2=>tb { D with nx:=N,ct:=N,bk:=D.nx} σ2 H2)
def v5(fp:List Addr)(h:Heap):List (Addr×Obj):=fp.filterMap λb=>(h.get? b).map λo=>(b,o)
def tR{b:Addr}{o:Obj}(hb:b∈fp)(e:h.get? b=some o):(b,o)∈v5 fp h:=Tj.mpr ⟨b,hb,by rw[e];rfl⟩
def Yg{p:Addr×Obj}(hp:p∈v5 fp h):p.1∈fp/\h.get? p.1=some p.2:=by
 obtain⟨b,hb,e⟩:=Tj.mp hp;cases q:h.get? b with
 |none=>rw[q]at e;cases e
 |some o =>
  rw[q]at e;have e':(b,o)=p:=dM e;subst e';exact⟨hb,q⟩
def bI.pinned{Y:List (Addr×Obj)}{σ:St}{H:Hp}{s:Shared}(I:bI X Y σ H s)(hf:∀b∈fp,Gm X Y H b)(ho:∀b∈fp,∃o,s.heap.get? b=some o/\∀v,o.data≠.cell v):bI X (Y++v5 fp s.heap) σ H s :=
 I.GZ λp hp=>(cN.mp hp).elim (λz=>I.pin p (gB _ z)) λz=>by
  obtain⟨hb,e⟩:=Yg z;obtain⟨f0,f1,f2,_⟩:=hf p.1 hb;obtain⟨o,e',d⟩:=ho p.1 hb;rw[e]at e';cases e';exact⟨e,f0,f1,f2,d⟩
def bI.xY{Y pl:List (Addr×Obj)}{σ:St}{H:Hp}{s:Shared}(I:bI X (Y++pl) σ H s):bI X Y σ H s:=I.GZ λp hp=>I.pin p (gB _ (uK _ hp))
def jC{iter:Expr}{wi:TI}{g:TG}(hp:PassesOwn (model X.prog X.w) X.A X.env X.xe)(hc:X.calm=true)(hi:PI X tg iter wi)(hg:PG X tg g)(hb:QG X body tb)
  (hs:autoParam (∀x,foldedSetIterable iter X.env x=pure x) Q0_._auto_1):PS X (.For tg iter body [] pos) (a5X wi g tb):=by
 intro Y s σ H D I h;refine wpAny_For (jJ (hi Y s σ H _ I h) λv s1 h1=>jJ h1 λitv s2 h2=>?_) hs;obtain⟨it,fp,tn,Z97,H2,e,I2,T,st2,f2,W,⟨m0,w0⟩,turn⟩:=h2;subst e;have stat:∀{H':Hp},(∀b∈fp,H' b=none)->∀b∈fp,Gm X Y H' b:=λhn b hb=>⟨hn b hb,(f2 b hb).2⟩;refine codeAny_forLoop_any (λn s'=>∃i σ' H',bI X Y σ' H' s'/\tn i s'.heap/\(∀b∈fp,H' b=none)/\W i n σ' H') ?_ m0 ⟨0,σ,H2,I2,st2,λb hb=>(f2 b hb).1,w0⟩;rintro n s3 ⟨i,σ3,H3,I3,st3,fr3,w3⟩;rcases turn i n σ3 H3 w3 with⟨stop,qn⟩|⟨go,N,hN,step⟩
 ·refine Ab hp (jJ (T.done X Z Z Z hc i Y s3 σ3 H3 X.xe I3 (stat fr3) st3 stop) λr s4 ⟨hr,I4⟩=>?_);subst hr;exact Oa ⟨σ3,H3,I4,qn⟩
 ·refine Ab hp (jJ (T.item X Z Z Z hc i Y s3 σ3 H3 X.xe I3 (stat fr3) st3 go) λr s4 ⟨u,hr,h4⟩=>?_);subst hr;refine Ab hp (jJ h4 λ_ s5 ⟨x,H5,I5,r5,y5,st5,fr5⟩=>?_);have I5':=I5.pinned (stat fr5) (T.obj _ _ st5);refine Ab hp (jJ (hg _ s5 σ3 H5 x u _ I5' r5 (step x H5 y5)) λ_ s6 ⟨σ6,H6,I6,q6⟩=>Ab hp (jJ (hb _ s6 σ6 H6 _ I6 q6) λf s7 q7=>?_));have again:∀{Wi:St}{H7:Hp},bI X (Y++v5 fp s5.heap) Wi H7 s7->N Wi H7->∃m,m<n/\∃i σ' H',bI X Y σ' H' s7/\tn i s7.heap/\(∀b∈fp,H' b=none)/\W i m σ' H':=λ{Wi H7} I7 n7=>by
   obtain⟨m',hm,w7⟩:=hN Wi H7 n7;refine⟨m',hm,i+1,Wi,H7,I7.xY,T.keep _ _ _ st5 λb hb o e=>(I7.pin (b,o) (gB _ (gB _ (tR hb e)))).1,λb hb=>?_,w7⟩;obtain⟨o,e,d⟩:=T.obj _ _ st5 b hb;exact(I7.pin (b,o) (gB _ (gB _ (tR hb e)))).2.1
  cases f with
  |next=>obtain⟨Wi,H7,I7,n7⟩:=q7;exact again I7 n7
  |cont=>obtain⟨Wi,H7,I7,n7⟩:=q7;exact again I7 n7
  |brk=>obtain⟨Wi,H7,I7,q7⟩:=q7;exact⟨Wi,H7,I7.xY,q7⟩
  |ret v=>obtain⟨x7,Wi,H7,I7,r7,q7⟩:=q7;exact⟨x7,Wi,H7,I7.xY,r7,q7⟩
end
def xZ{a:Addr}{xs:List V}{g:TG}{σ:St}{H:Hp}(Pv:Nat->St->Hp->Prop)(h0:Pv 0 σ H)(hl:∀i σ H,i<=xs.length->Pv i σ H->bM K H a xs)
  (hs:∀i x σ H,xs[i]?=some x->Pv i σ H->g x σ H λσ2 H2=>tb { D with nx:=Pv (i+1),ct:=Pv (i+1),bk:=D.nx} σ2 H2) (hd:∀σ H,Pv xs.length σ H->D.nx σ H) :
  ∃W:Nat->Nat->St->Hp->Prop,(∃m,W 0 m σ H)/\∀i m σ H,W i m σ H->
   ((ş K a).stop i H/\D.nx σ H)\/((ş K a).go i H/\∃N:St->Hp->Prop,(∀σ' H',N σ' H'->∃m',m'<m/\W (i+1) m' σ' H')/\∀x H',(ş K a).ZK i H x H'->g x σ H' λσ2 H2=>tb { D with nx:=N,ct:=N,bk:=D.nx} σ2 H2):=by
 refine⟨λi m σ H=>m=xs.length-i/\i<=xs.length/\Pv i σ H,⟨xs.length,by simp,dh _,h0⟩,?_⟩;rintro i m σ H ⟨rfl,hi,p⟩;have q:=hl i σ H hi p;by_cases hlt:i<xs.length
 ·refine .inr ⟨⟨xs,xs[i],q,by simp[hlt]⟩,Pv (i+1),λσ' H' p'=>⟨xs.length-(i+1),(),Z,hlt,p'⟩,λx H' y=>?_⟩;obtain⟨e,y⟩:=y;subst e;exact hs i x σ _ (y xs q) p
 ·have e:i=xs.length:=()
  subst e;exact .inl ⟨⟨xs,q,aL _⟩,hd σ H p⟩
def Ŵ{a:Addr}{xs:List V}{g:TG}{σ:St}{H:Hp}(Pv:Nat->St->Hp->Prop)(h0:Pv 0 σ H)(hl:∀i σ H,i<=xs.length->Pv i σ H->cL K H a xs)
  (hs:∀i x σ H,xs[i]?=some x->Pv i σ H->g x σ H λσ2 H2=>tb { D with nx:=Pv (i+1),ct:=Pv (i+1),bk:=D.nx} σ2 H2) (hd:∀σ H,Pv xs.length σ H->D.nx σ H) :
  ∃W:Nat->Nat->St->Hp->Prop,(∃m,W 0 m σ H)/\∀i m σ H,W i m σ H->
   ((Itt K a).stop i H/\D.nx σ H)\/((Itt K a).go i H/\∃N:St->Hp->Prop,(∀σ' H',N σ' H'->∃m',m'<m/\W (i+1) m' σ' H')/\∀x H',(Itt K a).ZK i H x H'->g x σ H' λσ2 H2=>tb { D with nx:=N,ct:=N,bk:=D.nx} σ2 H2):=by
 refine⟨λi m σ H=>m=xs.length-i/\i<=xs.length/\Pv i σ H,⟨xs.length,by simp,dh _,h0⟩,?_⟩;rintro i m σ H ⟨rfl,hi,p⟩;have q:=hl i σ H hi p;by_cases hlt:i<xs.length
 ·refine .inr ⟨⟨xs,xs[i],q,by simp[hlt]⟩,Pv (i+1),λσ' H' p'=>⟨xs.length-(i+1),(),Z,hlt,p'⟩,λx H' y=>?_⟩;obtain⟨e,y⟩:=y;subst e;exact hs i x σ _ (y xs q) p
 ·have e:i=xs.length:=()
  subst e;exact .inl ⟨⟨xs,q,aL _⟩,hd σ H p⟩
def Ei{lo:Int}{g:TG}{σ:St}{H:Hp}(Pv:Nat->St->Hp->Prop)(h0:Pv 0 σ H)
  (hs:∀i σ H,i<n->Pv i σ H->g (.int (lo+i)) σ H λσ2 H2=>tb { D with nx:=Pv (i+1),ct:=Pv (i+1),bk:=D.nx} σ2 H2) (hd:∀σ H,Pv n σ H->D.nx σ H) :
  ∃W:Nat->Nat->St->Hp->Prop,(∃m,W 0 m σ H)/\∀i m σ H,W i m σ H->
   ((Wh lo n).stop i H/\D.nx σ H)\/((Wh lo n).go i H/\∃N:St->Hp->Prop,(∀σ' H',N σ' H'->∃m',m'<m/\W (i+1) m' σ' H')/\∀x H',(Wh lo n).ZK i H x H'->g x σ H' λσ2 H2=>tb { D with nx:=N,ct:=N,bk:=D.nx} σ2 H2):=by
 refine⟨λi m σ H=>m=n-i/\i<=n/\Pv i σ H,⟨n,by simp,dh _,h0⟩,?_⟩;rintro i m σ H ⟨rfl,hi,p⟩;by_cases hlt:i<n
 ·refine .inr ⟨hlt,Pv (i+1),λσ' H' p'=>⟨n-(i+1),(),Z,hlt,p'⟩,λx H' y=>?_⟩;obtain⟨e,y⟩:=y;subst e y;exact hs i σ _ hlt p
 ·have e:i=n:=()
  subst e;exact .inl ⟨aL _,hd σ H p⟩
abbrev R2:=V->V->Hp->VK->Prop
def sX(X:Cx)(f:Value->Value->Sem Value)(r:R2):Prop :=
 ∀(Y:List (Addr×Obj)) (s:Shared) (σ:St) (H:Hp) (x y:V) (v u:Value) (Q:VK),bI X Y σ H s->cV x v->cV y u->r x y H Q->
  wpAny (model X.prog X.w) X.A (f v u) (EP X Y σ Q) X.xe s
def jL(X:Cx)(f:Value)(r:List V->Hp->VK->Prop):Prop :=
 ∀(Y:List (Addr×Obj)) (s:Shared) (σ:St) (H:Hp) (xs:List V) (us:List Value) (Q:VK),bI X Y σ H s->dz xs us->r xs H Q->
  wpAny (model X.prog X.w) X.A (call f us) (EP X Y σ Q) X.xe s
def a5Y(X:Cx)(r:V->Hp->(Bool->Hp->Prop)->Prop):Prop :=
 ∀(Y:List (Addr×Obj)) (s:Shared) (σ:St) (H:Hp) (x:V) (v:Value) (Q:Bool->Hp->Prop),bI X Y σ H s->cV x v->r x H Q->
  wpAny (model X.prog X.w) X.A (truthy v) (TP X Y σ Q) X.xe s
def tOp(r:R2)(ta tb:TE):TE:=λσ H Q=>ta σ H λx H1=>tb σ H1 λy H2=>r x y H2 Q
inductive rI(C:Int->Int->Prop)(g:Int->Int->V)(x:V)(y:V)(H:Hp)(Q:VK):Prop
 |mk (i j:_) (_:x=.int i) (_:y=.int j) (_:C i j) (_:Q (g i j) H)
inductive rI0(g:Int->Int->V)(x:V)(y:V)(H:Hp)(Q:VK):Prop
 |mk (i j:_) (_:x=.int i) (_:y=.int j) (_:Q (g i j) H)
section
variable{X:Cx}{a b:Expr}{tb tc:TE}
def a1K(ha:PE X a ta)(hb:PE X b tb){Y:List (Addr×Obj)}{s:Shared}{σ:St}{H:Hp}{R:V->V->Hp->Prop}(I:bI X Y σ H s)
  (h:ta σ H λx H1=>tb σ H1 λy H2=>R x y H2) {Q:Value->Shared->Prop}{f:Value->Value->Sem Value}
  (hf:∀v u s2 x y H2,bI X Y σ H2 s2->cV x v->cV y u->R x y H2->wpAny (model X.prog X.w) X.A (f v u) Q X.xe s2) :
  wpAny (model X.prog X.w) X.A (eval a X.env) (λv s₁=>wpAny (model X.prog X.w) X.A (eval b X.env) (λu s₂=>wpAny (model X.prog X.w) X.A (f v u) Q X.xe s₂) X.xe s₁) X.xe s:=by
 exact jJ (ha Y s σ H _ I h) λv s1 ⟨x,H1,I1,r1,q1⟩=>jJ (hb Y s1 σ H1 _ I1 q1) λu s2 ⟨y,H2,I2,r2,q2⟩=>hf v u s2 x y H2 I2 r1 r2 q2
def bH{op:Operator}{r:R2}(ho:sX X (binaryOp op) r)(ha:PE X a ta)(hb:PE X b tb):PE X (.BinOp a op b pos) (tOp r ta tb):=by
 intro Y s σ H Q I h;exact wpAny_BinOp (a1K ha hb I h λv u s2 x y H2 I2 rx ry q=>ho Y s2 σ H2 x y v u Q I2 rx ry q)
def opI{f:Value->Value->Sem Value}{C:Int->Int->Prop}{g:Int->Int->Int}
  (rule:∀(i j:Int) (t u:Tok) (s:Shared) (Q:Value->Shared->Prop) (E:Value->Shared->Prop),C i j->Q (.int (g i j) s.toks) { s with toks:=s.toks+1}->wpAny (model X.prog X.w) X.A (f (.int i t) (.int j u)) Q E s) :
  sX X f (rI C λi j=>.int (g i j)):=by
 intro Y s σ H x y v u Q I rx ry h;obtain⟨i,j,rfl,rfl,hc,q⟩:=h;obtain⟨t,rfl⟩:=rx;obtain⟨t',rfl⟩:=ry;exact rule i j t t' s _ _ hc ⟨.int (g i j),H,I.tok _,⟨_,Z⟩,q⟩
def a3Q{f:Value->Value->Sem Value}{g:Int->Int->Int}
  (rule:∀(i j:Int) (t u:Tok) (s:Shared) (Q:Value->Shared->Prop) (E:Value->Shared->Prop),Q (.int (g i j) s.toks) { s with toks:=s.toks+1}->wpAny (model X.prog X.w) X.A (f (.int i t) (.int j u)) Q E s) :
  sX X f (rI0 λi j=>.int (g i j)):=by
 intro Y s σ H x y v u Q I rx ry h;obtain⟨i,j,rfl,rfl,q⟩:=h;obtain⟨t,rfl⟩:=rx;obtain⟨t',rfl⟩:=ry;exact rule i j t t' s _ _ ⟨.int (g i j),H,I.tok _,⟨_,Z⟩,q⟩
def ŵ{f:Value->Value->Sem Value}{g:Int->Int->Bool}
  (rule:∀(i j:Int) (t u:Tok) (s:Shared) (Q:Value->Shared->Prop) (E:Value->Shared->Prop),Q (.bool (g i j)) s->wpAny (model X.prog X.w) X.A (f (.int i t) (.int j u)) Q E s) :
  sX X f (rI0 λi j=>.bl (g i j)):=by
 intro Y s σ H x y v u Q I rx ry h;obtain⟨i,j,rfl,rfl,q⟩:=h;obtain⟨t,rfl⟩:=rx;obtain⟨t',rfl⟩:=ry;exact rule i j t t' s _ _ ⟨.bl (g i j),H,I,Z,q⟩
def a5Z(i j:Int):Prop:=0<j/\j<1073741824
def a6a(i j:Int):Prop:=0<=j/\j<=1000000/\i.natAbs<2^64
def a1L(i j:Int):Prop:=(-(2^64)<i/\i<2^64)\/(-(2^64)<j/\j<2^64)
def a1L.ok{i j:Int}(h:a1L i j):IntMulOk i j:=by
 rcases h with⟨h1,h2⟩|⟨h1,h2⟩
 ·exact .of_left (intBits_le_64 h1 h2)
 ·exact .of_right (intBits_le_64 h1 h2)
def fD:sX X (binaryOp .Add) (rI0 λi j=>.int (i+j)):=a3Q λ_ _ _ _ _ _ _ q=>add_int q
def Ot:sX X (binaryOp .Sub) (rI0 λi j=>.int (i-j)):=a3Q λ_ _ _ _ _ _ _ q=>sub_int q
def wg:sX X (binaryOp .Mult) (rI a1L λi j=>.int (i*j)):=opI λ_ _ _ _ _ _ _ hc q=>mul_int q hc.ok
def Ŷ:sX X (binaryOp .FloorDiv) (rI a5Z λi j=>.int (i/j)):=opI λi j _ _ _ _ _ hc q=>by
 have h1:(0:Int)<j:=hc.1;have h2:j<1073741824:=hc.2;exact floordiv_int () (by rw[Int.fdiv_eq_ediv_of_nonneg i ()];exact q) (.inl (PyProof.noPylong_small ()))
def jD:sX X (binaryOp .Mod) (rI (λ_ j=>0<j) λi j=>.int (i%j)):=opI λi j _ _ _ _ _ hc q=>by
 have h1:(0:Int)<j:=hc;exact mod_int' () (by rw[Int.fmod_eq_emod_of_nonneg i ()];exact q)
def a1M:sX X (binaryOp .Pow) (rI a6a λi j=>.int (i^j.toNat)):=opI λ_ _ _ _ _ _ _ hc q=>pow_int_small hc.1 hc.2.1 hc.2.2 q
end
def a3R:V->V->Bool
 |.non,.non=>true |.non,.int _=>true |.int _,.non=>true |.non,.bl _=>true |.bl _,.non=>true |.non,.str _=>true |.str _,.non=>true
 |.int _,.int _=>true |.bl _,.bl _=>true |.str _,.str _=>true |.Wc _,.Wc _=>true
 |.int _,.str _=>true |.str _,.int _=>true |.bl _,.str _=>true |.str _,.bl _=>true
 |_,_=>false
def rEq:R2:=λx y H Q=>a3R x y=true/\Q (.bl (decide (x=y))) H
def rNe:R2:=λx y H Q=>a3R x y=true/\Q (.bl (!decide (x=y))) H
def Wj{i j:Int}:decide (V.int i=V.int j)=(i==j):=by
 rw[tG];simp
def Ì{i j:Bool}:decide (V.bl i=V.bl j)=(i==j):=by
 rw[tG];simp
def Wk{i j:Str}:decide (V.str i=V.str j)=(i==j):=by
 rw[tG];simp
def Wl{i j:Array UInt8}:decide (V.Wc i=V.Wc j)=(i.toList==j.toList):=by
 rw[tG];cases i;cases j;simp
section
variable{X:Cx}{a b:Expr}{tb tc:TE}
def fj{Y:List (Addr×Obj)}{σ:St}{H:Hp}{s:Shared}{Q:VK}{k k':Bool}(I:bI X Y σ H s)(q:Q (.bl k) H)(e:k=k'):EP X Y σ Q (.bool k') s:=by
 subst e;exact⟨.bl k,H,I,Z,q⟩
def jM:sX X (compareOp .Eq) rEq:=by
 intro Y s σ H x y v u Q I rx ry h;obtain⟨hs,q⟩:=h;cases x with
 |non =>
  cases rx;cases y with
  |non=>cases ry;exact PySem.EqNone.eq_none_none (fj I q (by simp))
  |bl j=>cases ry;exact PySem.EqNone.eq_none_bool (fj I q (by simp))
  |int j=>obtain⟨t',rfl⟩:=ry;exact PySem.EqNone.eq_none_int (fj I q (by simp))
  |str j=>obtain⟨t',rfl⟩:=ry;exact PySem.EqNone.eq_none_str (fj I q (by simp))
  |_=>exact absurd (show false=true from hs) cY
 |bl i =>
  cases rx;cases y with
  |non=>cases ry;exact PySem.EqNone.eq_bool_none (fj I q (by simp))
  |bl j=>cases ry;exact eq_bool (fj I q Ì)
  |str j=>obtain⟨t',rfl⟩:=ry;exact PySem.EqMixed.eq_bool_str (fj I q (by simp))
  |_=>exact absurd (show false=true from hs) cY
 |int i =>
  obtain⟨t,rfl⟩:=rx;cases y with
  |non=>cases ry;exact PySem.EqNone.eq_int_none (fj I q (by simp))
  |int j=>obtain⟨t',rfl⟩:=ry;exact eq_int (fj I q Wj)
  |str j=>obtain⟨t',rfl⟩:=ry;exact PySem.EqMixed.eq_int_str (fj I q (by simp))
  |_=>exact absurd (show false=true from hs) cY
 |str i =>
  obtain⟨t,rfl⟩:=rx;cases y with
  |non=>cases ry;exact PySem.EqNone.eq_str_none (fj I q (by simp))
  |bl j=>cases ry;exact PySem.EqMixed.eq_str_bool (fj I q (by simp))
  |int j=>obtain⟨t',rfl⟩:=ry;exact PySem.EqMixed.eq_str_int (fj I q (by simp))
  |str j=>obtain⟨t',rfl⟩:=ry;exact eq_str (fj I q Wk)
  |_=>exact absurd (show false=true from hs) cY
 |Wc i =>
  obtain⟨t,rfl⟩:=rx;cases y with
  |Wc j=>obtain⟨t',rfl⟩:=ry;exact PySem.W.eq_bytes (fj I q Wl)
  |_=>exact absurd (show false=true from hs) cY
 |_=>cases y<;>exact absurd (show false=true from hs) cY
def Lr:sX X (compareOp .NotEq) rNe:=by
 intro Y s σ H x y v u Q I rx ry h;obtain⟨hs,q⟩:=h;cases x with
 |non =>
  cases rx;cases y with
  |non=>cases ry;exact PySem.EqNone.ne_none_none (fj I q (by simp))
  |bl j=>cases ry;exact PySem.EqNone.ne_none_bool (fj I q (by simp))
  |int j=>obtain⟨t',rfl⟩:=ry;exact PySem.EqNone.ne_none_int (fj I q (by simp))
  |str j=>obtain⟨t',rfl⟩:=ry;exact PySem.EqNone.ne_none_str (fj I q (by simp))
  |_=>exact absurd (show false=true from hs) cY
 |bl i =>
  cases rx;cases y with
  |non=>cases ry;exact PySem.EqNone.ne_bool_none (fj I q (by simp))
  |bl j=>cases ry;exact ne_bool (fj I q (congrArg not Ì))
  |str j=>obtain⟨t',rfl⟩:=ry;exact PySem.EqMixed.ne_bool_str (fj I q (by simp))
  |_=>exact absurd (show false=true from hs) cY
 |int i =>
  obtain⟨t,rfl⟩:=rx;cases y with
  |non=>cases ry;exact PySem.EqNone.ne_int_none (fj I q (by simp))
  |int j=>obtain⟨t',rfl⟩:=ry;exact ne_int (fj I q (congrArg not Wj))
  |str j=>obtain⟨t',rfl⟩:=ry;exact PySem.EqMixed.ne_int_str (fj I q (by simp))
  |_=>exact absurd (show false=true from hs) cY
 |str i =>
  obtain⟨t,rfl⟩:=rx;cases y with
  |non=>cases ry;exact PySem.EqNone.ne_str_none (fj I q (by simp))
  |bl j=>cases ry;exact PySem.EqMixed.ne_str_bool (fj I q (by simp))
  |int j=>obtain⟨t',rfl⟩:=ry;exact PySem.EqMixed.ne_str_int (fj I q (by simp))
  |str j=>obtain⟨t',rfl⟩:=ry;exact ne_str (fj I q (congrArg not Wk))
  |_=>exact absurd (show false=true from hs) cY
 |Wc i =>
  obtain⟨t,rfl⟩:=rx;cases y with
  |Wc j=>obtain⟨t',rfl⟩:=ry;exact PySem.W.ne_bytes (fj I q (congrArg not Wl))
  |_=>exact absurd (show false=true from hs) cY
 |_=>cases y<;>exact absurd (show false=true from hs) cY
def BR:sX X (compareOp .Lt) (rI0 λi j=>.bl (decide (i<j))):=ŵ λ_ _ _ _ _ _ _ q=>lt_int q
def a3S:sX X (compareOp .LtE) (rI0 λi j=>.bl (decide (i<=j))):=ŵ λ_ _ _ _ _ _ _ q=>le_int q
def BV:sX X (compareOp .Gt) (rI0 λi j=>.bl (decide (j<i))):=ŵ λ_ _ _ _ _ _ _ q=>gt_int q
def a3T:sX X (compareOp .GtE) (rI0 λi j=>.bl (decide (j<=i))):=ŵ λ_ _ _ _ _ _ _ q=>ge_int q
def Í : sX X (compareOp .Is) (fun x y H Q => y = .non ∧ Q (.bl (decide (x = .non))) H) := by
  intro Y s σ H x y v u Q I rx ry h;obtain ⟨rfl, q⟩ := h;cases ry;refine is_none_gen (fj I q ?_);cases x <;> first
    | (cases rx; rfl)
    | (obtain ⟨t, rfl⟩ := rx; rfl)
def ŷ : sX X (compareOp .IsNot) (fun x y H Q => y = .non ∧ Q (.bl (!decide (x = .non))) H) := by
  intro Y s σ H x y v u Q I rx ry h;obtain ⟨rfl, q⟩ := h;cases ry;refine isnot_none_gen (fj I q ?_);cases x <;> first
    | (cases rx; rfl)
    | (obtain ⟨t, rfl⟩ := rx; rfl)
def Î(b:Expr)(h:@&(op≠.In))(h2:@&(op≠.NotIn)):behindInMarks op b=false:=by
 have e1:(op==CmpOp.In)=false:=by cases op<;>first|rfl|exact absurd Z h
 have e2:(op==CmpOp.NotIn)=false:=by cases op<;>first|rfl|exact absurd Z h2
 cases b with|Set=>(show (_&&(_||_)&&_)=false;rw[e1,e2,Bool.or_self,Bool.and_false,Bool.false_and])|_=>rfl
def qM{r:R2}(ho:sX X (compareOp op) r)(ha:PE X a ta)(hb:PE X b tb)(hm:behindInMarks op b=false:=by exact Î _):PE X (.Compare a [op] [b] pos) (tOp r ta tb):=by
 intro Y s σ H Q I h;exact wpAny_Compare1 (a1K ha hb I h λv u s2 x y H2 I2 rx ry q=>ho Y s2 σ H2 x y v u Q I2 rx ry q) hm
def a3U(t:TE):TT:=λσ H Q=>t σ H λx H'=>EA (λk=>x=.bl k) λk=>Q k H'
def aP{r:R2}(ho:sX X (compareOp op) r)(ha:PE X a ta)(hb:PE X b tb)(hm:behindInMarks op b=false:=by exact Î _):PT X (.Compare a [op] [b] pos) (a3U (tOp r ta tb)):=by
 intro Y s σ H Q I h;refine wpAny_isTrue_Compare1 (jJ (ha Y s σ H _ I h) λv s1 ⟨x,H1,I1,r1,q1⟩=>jJ (hb Y s1 σ H1 _ I1 q1) λu s2 ⟨y,H2,I2,r2,q2⟩ =>
  jJ (ho Y s2 σ H2 x y v u _ I2 r1 r2 q2) λc s3 ⟨z,H3,I3,r3,k,e,q3⟩=>?_) hm
 subst e;cases r3;exact DQ ⟨H3,I3,q3⟩
def a1N(r r':R2)(ta tb tc:TE):TE:=λσ H Q=>ta σ H λx H1=>tb σ H1 λy H2=>r x y H2 λz H3=>∃k,z=.bl k/\
 (if k=true then tc σ H3 λw' H4=>r' y w' H4 Q else Q (.bl false) H3)
def Ï{op':CmpOp}{r r':R2}(ho:sX X (compareOp op) r)(ho':sX X (compareOp op') r')(ha:PE X a ta)(hb:PE X b tb)(hc:PE X c tc)
  (hm:lastMarks [op,op'] [b,c]=false:=by with_unfolding_all rfl):PE X (.Compare a [op,op'] [b,c] pos) (a1N r r' ta tb tc):=by
 intro Y s σ H Q I h;refine Compare_chain (jJ (ha Y s σ H _ I h) λv s1 ⟨x,H1,I1,r1,q1⟩=>chain_link (jJ (hb Y s1 σ H1 _ I1 q1) λu s2 ⟨y,H2,I2,r2,q2⟩ =>
  jJ (ho Y s2 σ H2 x y v u _ I2 r1 r2 q2) λd s3 ⟨z,H3,I3,r3,k,e,q3⟩=>?_)) hm
 subst e;cases r3;refine DQ ?_;cases k with
 |false=>exact ite_ff ⟨.bl false,H3,I3,Z,q3⟩
 |true=>exact ite_tt (chain_last (jJ (hc Y s3 σ H3 _ I3 q3) λw' s4 ⟨z',H4,I4,r4,q4⟩=>ho' Y s4 σ H4 y z' u w' Q I4 r2 r4 q4))
def Ð(K:aH)(x:V)(H:Hp)(k:Bool):Prop :=
 match x with
 |.non=>k=false
 |.bl b=>k=b
 |.int i=>k=(i != 0)
 |.str y=>y.length<=sizeLine/\k=((y.length:Int) != 0)
 |.Wc y=>y.size<=sizeLine/\k=((y.size:Int) != 0)
 |.ref p=>(∃xs,bM K H p xs/\k = !xs.isEmpty)\/(∃xs,cL K H p xs/\k = !xs.isEmpty)\/∃O,H p=some (.dK O)/\k = !O.isEmpty
 |_=>False
def Uq{κ:Type}{O:List (κ×V)}{vs:List (κ×Value)}(r:KV O vs):(!vs.isEmpty) = !O.isEmpty:=by
 cases r<;>rfl
def Jg{xs:List V}{cA:List Value}(r:dz xs cA):(!cA.toArray.isEmpty) = !xs.isEmpty:=by
 cases r<;>simp
def Ou:(sizeLine:Nat)<2^63:=by rw[jA];decide
def Ur:a5Y X (λx H Q=>∃k,Ð X.K x H k/\Q k H):=by
 intro Y s σ H x v Q I rx h;obtain⟨k,e,q⟩:=h;have hl:=Ou;have hs:sizeLine=16777216:=jA;cases x with
 |non =>
  cases rx;have e':k=false:=e;subst e';exact truthy_none ⟨H,I,q⟩
 |bl b =>
  cases rx;have e':k=b:=e;subst e';exact DQ ⟨H,I,q⟩
 |int i =>
  obtain⟨t,rfl⟩:=rx;have e':k=(i != 0):=e;subst e';exact PySem.P.truthy_int ⟨H,I,q⟩
 |str y =>
  obtain⟨t,rfl⟩:=rx;obtain⟨hy,e'⟩:y.length<=sizeLine/\k=((y.length:Int) != 0):=e;subst e';exact PySem.P.truthy_str () ⟨H,I.tok _,q⟩
 |Wc y =>
  obtain⟨t,rfl⟩:=rx;obtain⟨hy,e'⟩:y.size<=sizeLine/\k=((y.size:Int) != 0):=e;subst e';exact PySem.W.truthy_bytes () ⟨H,I.tok _,q⟩
 |ref p =>
  cases rx;have e':(∃xs,bM X.K H p xs/\k = !xs.isEmpty)\/(∃xs,cL X.K H p xs/\k = !xs.isEmpty)\/∃O,H p=some (.dK O)/\k = !O.isEmpty:=e;rcases e' with⟨xs,hx,e'⟩|⟨xs,hx,e'⟩|⟨O,hx,e'⟩
  ·subst e';obtain⟨cA,r,pl,hz⟩:=I.list hx;have hlen:=r.length;exact wpAny_truthy_list pl.isList (by simp only[List.size_toArray];omega) ⟨H,I.tok _,by rw[Jg r];exact q⟩
  ·subst e';obtain⟨cA,r,pl,hz⟩:=I.tuple hx;have hlen:=r.length;exact truthy_tuple pl (by simp only[List.size_toArray];omega) ⟨H,I.tok _,by rw[Jg r];exact q⟩
  ·subst e';obtain⟨hz,hS,vs,r,m⟩:O.length<=sizeLine/\(p==sysModules)=false/\∃vs,KV O vs/\s.heap.DictOf (cO X.prog X.w) p vs:=I.hok p _ hx;have hlen:O.length=vs.length:=aV r;exact wpAny_truthy_dict hS m () ⟨H,I.tok _,by rw[Uq r];exact q⟩
 |_=>exact(show False from e).elim
def Ñ(ha:PE X a ta)(he:∀whole,isTrue a X.env whole=(do let v <-whole;standAt a.pos;holding [v] (truthy v))) :
  PT X a (λσ H Q=>ta σ H λx H'=>∃k,Ð X.K x H' k/\Q k H'):=by
 intro Y s σ H Q I h;exact isTrue_plain (jJ (ha Y s σ H _ I h) λv s1 ⟨x,H1,I1,r1,q1⟩=>Ur Y s1 σ H1 x v Q I1 r1 q1) (he _)
def vals1{x:V}{us:List Value}(r:dz [x] us):∃u,us=[u]/\cV x u:=by
 cases r with
 |cons r1 r2=>cases r2;exact⟨_,Z,r1⟩
def vals2{x y:V}{us:List Value}(r:dz [x,y] us):∃u w',us=[u,w']/\cV x u/\cV y w':=by
 cases r with
 |cons r1 r2 =>
  cases r2 with
  |cons r3 r4=>cases r4;exact⟨_,_,Z,r1,r3⟩
def Ls(hc:X.calm=true):jL X (.builtin "max") (λxs H Q=>∃i j,xs=[.int i,.int j]/\Q (.int (if j>i then j else i)) H):=by
 intro Y s σ H xs us Q I r h;obtain⟨i,j,rfl,q⟩:=h;obtain⟨u,w',rfl,⟨t,rfl⟩,⟨t',rfl⟩⟩:=vals2 r;refine max_two_ints (I.ok.hd hc) λh' tk k=>⟨_,H,I.kept k,?_,q⟩;by_cases hj:j>i
 ·rw[aG hj,aG hj];exact⟨_,Z⟩
 ·rw[aA hj,aA hj];exact⟨_,Z⟩
def Lx(hc:X.calm=true):jL X (.builtin "min") (λxs H Q=>∃i j,xs=[.int i,.int j]/\Q (.int (if j<i then j else i)) H):=by
 intro Y s σ H xs us Q I r h;obtain⟨i,j,rfl,q⟩:=h;obtain⟨u,w',rfl,⟨t,rfl⟩,⟨t',rfl⟩⟩:=vals2 r;refine min_two_ints (I.ok.hd hc) λh' tk k=>⟨_,H,I.kept k,?_,q⟩;by_cases hj:j<i
 ·rw[aG hj,aG hj];exact⟨_,Z⟩
 ·rw[aA hj,aA hj];exact⟨_,Z⟩
def Ej:jL X (.type "int") (λxs H Q=>(∃i,xs=[.int i]/\Q (.int i) H)\/∃k,xs=[.bl k]/\Q (.int (if k then 1 else 0)) H):=by
 intro Y s σ H xs us Q I r h;rcases h with⟨i,rfl,q⟩|⟨k,rfl,q⟩
 ·obtain⟨u,rfl,t,rfl⟩:=vals1 r;exact call_int_int ⟨.int i,H,I,⟨_,Z⟩,q⟩
 ·obtain⟨u,rfl,r1⟩:=vals1 r;cases r1;exact call_int_bool ⟨.int (if k then 1 else 0),H,I.tok _,⟨_,Z⟩,q⟩
end
structure Us(h:Heap)(x dx C:Addr)(mA:Str->Option Value):Prop where
 obj:h.get? x=some (PySem.W.instObj C dx)
 ns:h.Ns1 dx mA
 ne:dx≠x
set_option tactic.hygienic true in
def Yh{dx:Addr}(n:h.Ns1 dx mA):∃od,h.get? dx=some od/\∀name,PySem.W.lookIn name od=some (mA name):=by
 obtain⟨o,es,ep,ho,hd,hk,_,hm⟩:=n;refine⟨o,ho,λname=>?_⟩;have e:=hm name;unfold nsFind findBy at e;rw[<-Array.find?_toList]at e;unfold PySem.W.lookIn;rw[hd];dsimp only;split
 ·rename_i y q;rw[q]at e;exact congrArg some e
 ·rename_i q;rw[q]at e;have a:es.toList.any (·.refKey)=false:=by
   rw[List.any_eq_false];intro y hy;obtain⟨z,t,hkey⟩:=hk y (Array.mem_toList_iff.mp hy);simp[DictEntry.refKey,hkey]
  have a':¬es.toList.any (·.refKey)=true:=by rw[a];exact cY
  rw[aA a'];exact congrArg some e
def Us.look{x dx C:Addr}(I:Us h x dx C mA):∃od,PySem.W.InstAt h x (PySem.W.instObj C dx) C (some od)/\∀name,PySem.W.lookIn name od=some (mA name) :=
 let⟨od,ho,hl⟩:=Yh I.ns
 ⟨od,⟨I.obj,Z,Z,ho⟩,hl⟩
section
variable{prog:Program}{w:World}{E:Value->Shared->Prop}{s:Shared}{x dx C f:Addr}{name:Str}{v:Value}
def get_map{expr:Bool}{Q:Value->Shared->Prop}(X:K.In s.heap)(I:Us s.heap x dx C mA)(hg:PySem.W.plainGet K C name=true)(hh:PySem.W.hasDictIn K C=true)
  (ha:PySem.W.findIn K (.ref C) name=some none) (hv:mA name=some v) (hv':PySem.W.handedIn v=true) (h:Q v { s with toks:=s.toks+1}) :
  wpAny (model prog w) A (getAttr (.ref x) name expr) Q E s:=by
 obtain⟨od,Z97,hl⟩:=I.look;exact PySem.W.get_value X Z97 (Tf hg).1 (PySem.W.findObj_own hh ha Z (by rw[hl,hv])) hv' h
def Ò{Q:Value×List Value->Shared->Prop}(X:K.In s.heap)(I:Us s.heap x dx C mA)(hg:PySem.W.plainGet K C name=true)
  (hf:PySem.W.findIn K (.ref C) name=some (some (.ref f))) (ht:PySem.W.isFn K (.ref f)=true) (hv:mA name=none) (h:Q (.ref f,[.ref x]) s) :
  wpAny (model prog w) A (getMethod (.ref x) name pl) Q E s:=by
 obtain⟨od,Z97,hl⟩:=I.look;exact PySem.W.method_fn X Z97 (Tf hg).1 (Tf hg).2 hf (IW.mp ht) (by show(PySem.W.lookIn name od).map (·.isSome)=some false;rw[hl,hv];rfl) h
def Ÿ{ns:List Str}{Q:Unit->Shared->Prop}(X:K.In s.heap)(I:Us s.heap x dx C mA)
  (hs:PySem.W.findIn K (.ref C) "__setattr__" = some (some (.builtin "object.__setattr__"))) (hp:PySem.W.plainOver K C=true) (ht:PySem.W.takerIn K C name=some none) (hh:PySem.W.hasDictIn K C=true)
  (hw:PySem.Within mA ns) (hsz:ns.length<=sizeLine)
  (h:∀h',Us h' x dx C (λy=>if y=name then some v else mA y)->Heap.SameBut dx s.heap h'->Q ⟨⟩ { s with heap:=h',toks:=s.toks+2}) :
  wpAny (model prog w) A (setAttr (.ref x) name v) Q E s:=by
 obtain⟨od,Z97,hl⟩:=I.look;refine PySem.W.set_plain X Z97 hs (PySem.W.osa_open (s:={ s with toks:=s.toks+1}) (r:=none) X Z97 hp ht λb=>?_);obtain⟨cd,hc,hd'⟩:=PySem.W.any_some hh;have hx:s.heap.get? x=some ⟨.ref C,some dx,.plain,#[]⟩:=I.obj;refine M (ao (M (M (wpAny_loadPart hx (M (PySem.W.Looks.here (s:={ s with toks:=s.toks+1}) (PySem.W.looks_clsIn X hc) ?_))))));rw[hd'];refine ao (a:=some dx) (M (ao (M (wpAny_nsSet1 (s:={ s with toks:=s.toks+1}) I.ns λh' hn2 hs2=>?_))));obtain⟨oD,esD,epD,hoD,hdD,hcD⟩:=hn2.count (PySem.Within.cons name v hw);refine M (wpAny_lookBehind hoD (by rw[hdD];exact pastItsLine_dict (cZ hcD (by rw[lN];omega))) ?_);exact ao (h _ ⟨(hs2.2 _ (Ne.symm I.ne)).trans I.obj,hn2,I.ne⟩ hs2)
def Ó{R:Result->Shared->Prop}{vs:List Value}(X:K.In s.heap)(hm:PySem.W.makesIn K C=true)
  (hi:PySem.W.findIn K (.ref C) "__init__" = some (some (.ref f))) (hf:PySem.W.typeIn K (.ref f)=some (.type "function"))
  (h:codeAny (model prog w) (A.under (.builtin "type.__call__" ⟨.ref C::vs,kw⟩)) (.call (.ref f) ⟨.ref (s⁻¹+1)::vs,kw⟩) (PySem.W.InitBack (s⁻¹+1) R)
   { s with heap:=(s.heap.push PySem.W.emptyDict).push (PySem.W.instObj C s⁻¹)}) :
  codeAny (model prog w) A (.call (.ref C) ⟨vs,kw⟩) R s:=by
 obtain⟨hh,g,d,t,os⟩:=s;exact PySem.W.make_core (PySem.W.makes_of X hm) (PySem.W.looks_findIn X hi) (λself=>PySem.W.bind_fn X self hf) (.inl Z) h
end
def wj(f:Str)(v:V):List (Str×V)->List (Str×V)
 | []=>[(f,v)]
 |(g,x)::r=>if g=f then(g,v)::r else(g,x)::wj f v r
theorem Fv(f g:Str)(v:V):∀fs:List (Str×V),(wj f v fs).lookup g=if g=f then some v else fs.lookup g
 | []=>by
  show List.lookup g [(f,v)]=_
  by_cases h:g=f
  ·have hb:(g==f)=true:=IW.mpr h
   simp only[List.lookup,hb,if_pos h]
  ·have hb:(g==f)=false:=vN.mpr h
   simp only[List.lookup,hb,if_neg h]
 |(k,x)::r=>by
  have ih:=Fv f g v r
  rw[show wj f v ((k,x)::r)=(if k=f then(k,v)::r else(k,x)::wj f v r)from rfl]
  by_cases hk:k=f
  ·rw[aG hk]
   by_cases h:g=k
   ·have hb:(g==k)=true:=IW.mpr h
    simp only[List.lookup,hb,if_pos (h.trans hk)]
   ·have hb:(g==k)=false:=vN.mpr h
    simp only[List.lookup,hb,if_neg (λe:g=f=>h (e.trans hk.symm))]
  ·rw[aA hk]
   by_cases h:g=k
   ·have hb:(g==k)=true:=IW.mpr h
    simp only[List.lookup,hb,if_neg (λe:g=f=>hk (h.symm.trans e))]
   ·have hb:(g==k)=false:=vN.mpr h
    simp only[List.lookup,hb]
    exact ih
theorem Ek(f:Str)(v:V):∀fs:List (Str×V),f∈(wj f v fs).map (·.1)/\∀g,g∈fs.map (·.1)->g∈(wj f v fs).map (·.1)
 | []=>⟨by simp[wj],λg h=>by simp at h⟩
 |(k,x)::r=>by
  obtain⟨i1,i2⟩:=Ek f v r
  rw[show wj f v ((k,x)::r)=(if k=f then(k,v)::r else(k,x)::wj f v r)from rfl]
  by_cases hk:k=f
  ·rw[aG hk]
   subst hk
   exact⟨by simp,λg h=>by simpa using h⟩
  ·rw[aA hk]
   refine⟨?_,λg h=>?_⟩
   ·rw[cH]
    exact bD _ i1
   ·rw[cH]at h ⊢
    rcases b7.mp h with e|e
    ·exact b7.mpr (.inl e)
    ·exact bD _ (i2 g e)
theorem Fw(f:Str)(v:V):∀fs:List (Str×V),(wj f v fs).length<=fs.length+1
 | []=>by simp[wj]
 |(k,x)::r=>by
  have ih:=Fw f v r
  rw[show wj f v ((k,x)::r)=(if k=f then(k,v)::r else(k,x)::wj f v r)from rfl]
  by_cases hk:k=f
  ·rw[aG hk,lN,lN];omega
  ·rw[aA hk,lN,lN];omega
def sJ.some_of{v:V}{o:Option Value}(r:sJ (some v) o):∃u,o=some u/\cV v u:=by
 cases o with
 |none=>exact(show False from r).elim
 |some u=>exact⟨u,Z,r⟩
def sJ.none_of{o:Option Value}(r:sJ none o):o=none:=by
 cases o with
 |none=>rfl
 |some u=>exact(show False from r).elim
def Yi{v:V}{u:Value}(r:cV v u):PySem.W.handedIn u=true:=by
 cases v with
 |non=>cases(show u=Value.none from r);rfl
 |bl b=>cases(show u=Value.bool b from r);rfl
 |int i=>obtain⟨t,e⟩:=(show ∃t,u=Value.int i t from r);cases e;rfl
 |str x=>obtain⟨t,e⟩:=(show ∃t,u=Value.str x t from r);cases e;rfl
 |Wc b=>obtain⟨t,e⟩:=(show ∃t,u=Value.bytes b t from r);cases e;rfl
 |flt b=>obtain⟨t,e⟩:=(show ∃t,u=Value.float b t from r);cases e;rfl
 |ref a=>cases(show u=Value.ref a from r);rfl
 |ty n=>cases(show u=Value.type n from r);rfl
section
variable{P:Program}{w:World}{H H':Hp}{a C dx:Addr}{fs fs':List (Str×V)}
def G9(hok:zE P w H h)(e:H a=some (.ins C dx fs)):∃mA,Us h a dx C mA/\(∀f,sJ (fs.lookup f) (mA f))/\PySem.Within mA (fs.map (·.1))/\fs.length<=1000/\H dx=some (.own a):=by
 obtain⟨d,z,ne,ob,mA,n,r,q⟩:=(show fZ P w H h a (.ins C dx fs)from hok a _ e);exact⟨mA,⟨ob,n,ne⟩,r,q,z,d⟩
end
structure Cls(K:aH)(C:Addr):Prop where
 pg:PySem.W.plainGet K C Str.empty=true
 hd:PySem.W.hasDictIn K C=true
 po:PySem.W.plainOver K C=true
 sa:PySem.W.findIn K (.ref C) "__setattr__" = some (some (.builtin "object.__setattr__"))
def Cls.get{C:Addr}(c:Cls K C)(f:Str):PySem.W.plainGet K C f=true:=c.pg
def fu(K:aH)(C:Addr)(f:Str):Prop:=PySem.W.findIn K (.ref C) f=some none
def fu.taker{C:Addr}{f:Str}(n:fu K C f):PySem.W.takerIn K C f=some none:=by
 unfold PySem.W.takerIn;rw[show PySem.W.findIn K (.ref C) f=some none from n];rfl
structure Meth(K:aH)(C:Addr)(m:Str)(f:Addr):Prop where
 at_:PySem.W.findIn K (.ref C) m=some (some (.ref f))
 fn:PySem.W.isFn K (.ref f)=true
 kp:PySem.W.keepIn K (.ref f)=true
section
variable{X:Cx}{Y:List (Addr×Obj)}{σ:St}{H:Hp}{s:Shared}{a C dx:Addr}{fs:List (Str×V)}{f:Str}{v:V}{E:Value->Shared->Prop}
def Ut{b:Bool}{Q:Value->Shared->Prop}(I:bI X Y σ H s)(e:H a=some (.ins C dx fs))(c:Cls X.K C)(n:fu X.K C f)(l:fs.lookup f=some v)
  (h:∀u s',bI X Y σ H s'->cV v u->Q u s'):wpAny (model X.prog X.w) A (getAttr (.ref a) f b) Q E s:=by
 obtain⟨mA,Z96,r,_,_,_⟩:=G9 I.hok e;obtain⟨u,hu,ru⟩:=sJ.some_of (v:=v) (o:=mA f) (by rw[<-l];exact r f);exact get_map I.Ds Z96 (c.get f) c.hd n hu (Yi ru) (h u _ (I.tok _) ru)
def Uu{m:Str}{g:Addr}{Q:Value×List Value->Shared->Prop}(I:bI X Y σ H s)(e:H a=some (.ins C dx fs))(c:Cls X.K C)(k:Meth X.K C m g)(l:fs.lookup m=none)
  (h:Q (.ref g,[.ref a]) s):wpAny (model X.prog X.w) A (getMethod (.ref a) m pl) Q E s:=by
 obtain⟨mA,Z96,r,_,_,_⟩:=G9 I.hok e;have hn:mA m=none:=sJ.none_of (by rw[<-l];exact r m);exact Ò I.Ds Z96 (c.get m) k.at_ k.fn hn h
def Uv{y:V}{u:Value}{Q:Unit->Shared->Prop}(I:bI X Y σ H s)(e:H a=some (.ins C dx fs))(c:Cls X.K C)(n:fu X.K C f)(hl:fs.length<1000)(ry:cV y u)
  (h:∀s',bI X Y σ (cI H a (.ins C dx (wj f y fs))) s'->Q ⟨⟩ s'):wpAny (model X.prog X.w) A (setAttr (.ref a) f u) Q E s:=by
 obtain⟨mA,Z96,r,wi,_,ho⟩:=G9 I.hok e;have hz:(fs.map (·.1)).length<=sizeLine:=by rw[aK,jA];omega
 refine Ÿ I.Ds Z96 c.sa c.po n.taker c.hd wi hz λh' O' sb=>h _ ?_;have hd:∃o,h'.get? dx=some o:=let⟨o,_,_,e',_⟩:=O'.ns;⟨o,e'⟩
 refine I.write (x:=a) (e:=dx) (by rw[e];exact nO) (.inr ho) (λb q hb z=>(sb.2 b hb).trans z) hd ?_;refine⟨by rw[aO Z96.ne];exact ho,?_,Z96.ne,O'.obj,_,O'.ns,λg=>?_,λg hg=>?_⟩
 ·have:=Fw f y fs;omega
 ·show sJ ((wj f y fs).lookup g) (if g=f then some u else mA g);rw[Fv];by_cases q:g=f
  ·rw[aG q,aG q];exact ry
  ·rw[aA q,aA q];exact r g
 ·by_cases q:g=f
  ·rw[q];exact(Ek f y fs).1
  ·refine(Ek f y fs).2 g (wi g λz=>hg ?_);show(if g=f then some u else mA g)=none;rw[aA q];exact z
def bI.made(I:bI X Y σ H s):bI X Y σ (cI (cI H s⁻¹ (.own (s⁻¹+1))) (s⁻¹+1) (.ins C s⁻¹ []))
  { s with heap:=(s.heap.push PySem.W.emptyDict).push (PySem.W.instObj C s⁻¹)}:=by
 have e1:(s.heap.push PySem.W.emptyDict).get? s⁻¹=some PySem.W.emptyDict:=bU s.heap rfl;have e2:((s.heap.push PySem.W.emptyDict).push (PySem.W.instObj C s⁻¹)).get? (s⁻¹+1)=some (PySem.W.instObj C s⁻¹):=by
  have:=bU (s.heap.push PySem.W.emptyDict) (o:=PySem.W.instObj C s⁻¹) rfl
  rwa [kW]at this
 have e3:(s.heap.push PySem.W.emptyDict).Ns s⁻¹ (λ_=>none):=⟨PySem.W.emptyDict,#[],_,e1,Z,(λe he=>absurd he (by simp)),λ_=>rfl⟩;have I1:=I.laid (a:=s⁻¹) (o:=.own (s⁻¹+1)) (h':=s.heap.push PySem.W.emptyDict) (t':=s.toks) (λb u q=>bJ _ q) (aL _) ⟨_,e1⟩;refine I1.laid (a:=s⁻¹+1) (o:=.ins C s⁻¹ []) (t':=s.toks) (λb u q=>bJ _ q) (Og (kW _ _)) ?_;have ne:s⁻¹≠s⁻¹+1:=bW (xQ _);refine⟨by rw[aO ne,cP],dh _,ne,e2,λ_=>none,(Heap.Ns1.of_empty e3).at λo q=>bJ _ q,λ_=>nO,λy hy=>absurd Z hy⟩
def Ź{prog:Program}{w:World}{env:Env}{f:Str}{s:Shared}{Q:Value->Shared->Prop}(hb:attributeBase e f env (eval e env)=eval e env)
  (h:wpAny (model prog w) A (eval e env) (λo s₁=>wpAny (model prog w) A (getAttr o f true) Q E s₁) E s):wpAny (model prog w) A (eval (.Attribute e f pos) env) Q E s :=
 Attribute_any_ h (by rw[arm_eval_Attribute,hb])
end
inductive a3V(K:aH)(f:Str)(x:V)(H1:Hp)(Q:VK):Prop
 |mk (a C dx fs v:_) (_:x=.ref a) (_:H1 a=some (.ins C dx fs)) (_:Cls K C) (_:fu K C f) (_:fs.lookup f=some v) (_:Q v H1)
def a3W(K:aH)(ta:TE)(f:Str):TE:=λσ H Q=>ta σ H λx H1=>a3V K f x H1 Q
inductive a3X(K:aH)(f:Str)(y x:V)(σ:St)(H2:Hp)(Q:St->Hp->Prop):Prop
 |mk (a C dx fs:_) (_:x=.ref a) (_:H2 a=some (.ins C dx fs)) (_:Cls K C) (_:fu K C f) (_:fs.length<1000) (_:Q σ (cI H2 a (.ins C dx (wj f y fs))))
def a6b(K:aH)(ta tv:TE)(f:Str):TS:=λD σ H=>tv σ H λy H1=>ta σ H1 λx H2=>a3X K f y x σ H2 D.nx
section
variable{X:Cx}{o value:Expr}{f:Str}{pos' tpos:Pos}{tv:TE}
def a1O(he:PE X e ta)(hb:attributeBase e f X.env (eval e X.env)=eval e X.env):PE X (.Attribute e f pos) (a3W X.K ta f):=by
 intro Y s σ H Q I h;refine Ź hb (jJ (he Y s σ H _ I h) λu s1 ⟨x,H1,I1,rx,a,C,dx,fs,v,ex,ea,c,n,l,q⟩=>?_);subst ex;obtain rfl:u=Value.ref a:=rx;exact Ut I1 ea c n l λu' s2 I2 ru=>⟨v,H1,I2,ru,q⟩
def Ai(ha:PE X o ta)(hv:PE X value tv)(hs:swapsWith value (some (.Attribute o f pos')) pos.line X.env=pure false):PS X (.Assign [.Attribute o f pos'] value pos) (a6b X.K ta tv f):=by
 intro Y s σ H D I h;refine plainObj_wpAny_Assign_Attribute (jJ (hv Y s σ H _ I h) λu s1 ⟨y,H1,I1,ry,q⟩=>jJ (ha Y s1 σ H1 _ I1 q) λov s2 ⟨x,H2,I2,rx,a,C,dx,fs,ex,ea,c,n,l,q2⟩=>?_) hs;subst ex;obtain rfl:ov=Value.ref a:=rx;exact Uv I2 ea c n l ry λs3 I3=>⟨σ,_,I3,q2⟩
end
section
variable{X:Cx}{Y:List (Addr×Obj)}{σ:St}{H:Hp}{s:Shared}{E:Value->Shared->Prop}{Q:Value->Shared->Prop}{c:Value}{b:Bool}
inductive tU(K:aH)(H:Hp):V->Value->Prop where
 |non:tU K H .non (.type "NoneType")
 |bl (x:Bool):tU K H (.bl x) (.type "bool")
 |int (i:Int):tU K H (.int i) (.type "int")
 |str (x:Str):tU K H (.str x) (.type "str")
 |flt (x:UInt64):tU K H (.flt x) (.type "float")
 |lst {a:Addr}{xs:List V} (e:H a=some (.lst xs)):tU K H (.ref a) (.type "list")
 |iC {a:Addr}{o:Obj}{xs:List V} (e:H a=some (.iC o (.lst xs))):tU K H (.ref a) (.type "list")
 |tup {a:Addr}{xs:List V} (e:H a=some (.tup xs)):tU K H (.ref a) (.type "tuple")
 |dK {a:Addr}{O:List (Key×V)} (e:H a=some (.dK O)):tU K H (.ref a) (.type "dict")
 |dT {a:Addr}{O:List (List Key×V)} (e:H a=some (.dT O)):tU K H (.ref a) (.type "dict")
 |ins {a C dx:Addr}{fs:List (Str×V)} (e:H a=some (.ins C dx fs)) (cl:Cls K C) (ha:PySem.W.findIn K (.ref C) "__class__" = some (some (.builtin "object.__class__")))
   (hn:PySem.W.specialIn K (.builtin "object.__class__") "__get__" = some (some (.builtin "getset_descriptor.__get__"))) (htk:PySem.W.takesIn K (.builtin "object.__class__")=some true)
   (hm:PySem.W.mroIn K C (.type "object")=some true):tU K H (.ref a) (.ref C)
def Yj{x:V}{u t:Value}(I:bI X Y σ H s)(rx:cV x u)(ty:tU X.K H x t)(e:PySem.W.kitOne X.K t c=some b)(h:∀tk,Q (.bool b) { s with toks:=tk}) :
  wpAny (model X.prog X.w) A (call (.builtin "isinstance") [u,c]) Q E s:=by
 cases ty with
 |non=>cases(show u=Value.none from rx);exact tH PySem.W.kitx_none I.Ds nO e (λz=>nomatch z) h
 |bl y=>cases(show u=Value.bool y from rx);exact tH PySem.W.kitx_bool I.Ds nO e (λz=>nomatch z) h
 |int i=>obtain⟨t,q⟩:=(show ∃t,u=Value.int i t from rx);cases q;exact tH PySem.W.kitx_int I.Ds nO e (λz=>nomatch z) h
 |str y=>obtain⟨t,q⟩:=(show ∃t,u=Value.str y t from rx);cases q;exact tH PySem.W.kitx_str I.Ds nO e (λz=>nomatch z) h
 |flt y=>obtain⟨t,q⟩:=(show ∃t,u=Value.float y t from rx);cases q;exact tH PySem.W.kitx_float I.Ds nO e (λz=>nomatch z) h
 | @lst a xs ea =>
  cases(show u=Value.ref a from rx);obtain⟨_,_,n,_,h1⟩:=(show fZ X.prog X.w H s.heap a (.lst xs)from I.hok a _ ea);exact tH PySem.W.kitx_list I.Ds ⟨_,h1,Z⟩ e (λz=>nomatch z) h
 | @iC a ob xs ea =>
  cases(show u=Value.ref a from rx);obtain⟨_,_,_,n,_,h1⟩:=(show fZ X.prog X.w H s.heap a (.iC ob (.lst xs))from I.hok a _ ea);exact tH PySem.W.kitx_list I.Ds ⟨_,h1,Z⟩ e (λz=>nomatch z) h
 | @tup a xs ea =>
  cases(show u=Value.ref a from rx);obtain⟨_,_,_,p⟩:=(show fZ X.prog X.w H s.heap a (.tup xs)from I.hok a _ ea);obtain⟨o,h1,h2,_⟩:=p;exact tH PySem.W.kitx_tuple I.Ds ⟨o,h1,h2⟩ e (λz=>nomatch z) h
 | @dK a O ea =>
  cases(show u=Value.ref a from rx);obtain⟨_,_,vs,_,p⟩:=(show fZ X.prog X.w H s.heap a (.dK O)from I.hok a _ ea);obtain⟨o,es,ep,h1,h2,_⟩:=p;exact tH PySem.W.kitx_dict I.Ds ⟨o,h1,h2.1⟩ e (λz=>nomatch z) h
 | @dT a O ea =>
  cases(show u=Value.ref a from rx);obtain⟨_,_,xs,_,o,es,ep,h1,h2,_⟩:=(show fZ X.prog X.w H s.heap a (.dT O)from I.hok a _ ea);exact tH PySem.W.kitx_dict I.Ds ⟨o,h1,h2.1⟩ e (λz=>nomatch z) h
 | @ins a C dx fs ea cl ha hn htk hm =>
  cases(show u=Value.ref a from rx);obtain⟨mA,Z96,_⟩:=G9 I.hok ea;obtain⟨od,Z97,_⟩:=Z96.look;exact tH (PySem.W.kitx_own (cl.get _) cl.hd ha hn htk hm) I.Ds Z97 e (λz=>nomatch z) h
end
structure sO(k:Nat)(A:Around):Prop where
 hd:A.handled=none
 dp:A.depth+3*k+5<recursionLimit
 un:A.units+16*k+200<cLine
def sO.mono{j:Nat}(r:sO k A)(h:j<=k):sO j A:=⟨r.hd,by have:=r.dp;omega,by have:=r.un;omega⟩
def sO.deeper{k:Nat}{A:Around}(r:sO (k+1) A)(env:Env):sO k (A.deeper env) :=
 ⟨r.hd,by have:=r.dp;show A.depth+1+3*k+5<_;omega,by have:=r.un;show A.units+3+16*k+200<_;omega⟩
def Uw{C:Addr}{us:List Value}:(A.under (.builtin "type.__call__" ⟨.ref C::us,kw⟩)).depth=A.depth+1:=by
 first|rfl|simp[Around.under,Code.weight,Code.isCreation,Code.isGuard,Code.isCaller,Code.frames,Code.isFrame,guardIds]
def Ux{C:Addr}{us:List Value}:(A.under (.builtin "type.__call__" ⟨.ref C::us,kw⟩)).units=A.units+1:=by
 first|rfl|simp[Around.under,Code.cUnits,Code.frames,Code.isFrame]
def sO.make(r:sO (k+1) A)(C:Addr)(us:List Value)(kw:List (Str×Value)):sO k (A.under (.builtin "type.__call__" ⟨.ref C::us,kw⟩)) :=
 ⟨r.hd,by have:=r.dp;rw[Uw];omega,by have:=r.un;rw[Ux];omega⟩
def sO.depth{k:Nat}{A:Around}(r:sO k A):A.depth<recursionLimit:=by have:=r.dp;omega
def a3Y:TA:=λ_ H Q=>Q [] H
def Wm(ta:TE)(tr:TA):TA:=λσ H Q=>ta σ H λx H1=>tr σ H1 λxs H2=>Q (x::xs) H2
section
variable{X:Cx}{t:TA}
def aj:PA X [] a3Y:=λ_ _ _ _ H Q I h=>Calls.spliced_nil ⟨[],H,I,.nil,h⟩
def J(ha:PE X e te)(hr:PA X es t)(hs:@&(starEach (e::es) X.env=(false,eval e X.env)::starEach es X.env)):PA X (e::es) (Wm te t):=by
 intro pos Y s σ H Q I h;rw[hs];show wpAny _ _ (spliced ((false,eval e X.env)::backTo pos (starEach es X.env))) _ _ s;exact Calls.spliced_cons (jJ (ha Y s σ H _ I h) λu s1 ⟨x,H1,I1,r1,q1⟩=>jJ (hr pos Y s1 σ H1 _ I1 q1) λus s2 ⟨xs,H2,I2,r2,q2⟩=>⟨x::xs,H2,I2,.cons r1 r2,q2⟩)
end
abbrev Sp:=List V->Hp->VK->XK->Prop
abbrev R9:=List Env->Hp->Shared->XK->Value->Shared->Prop
structure Uy(P:Program)(w:World)(K:aH)(mg:Str->Option Value)(base:Heap)(A:Around)(outer:List Env)(s:Shared)(H:Hp):Prop where
 frames:A.frames=some outer
 mod:Mod K mg base
 bs:∀b o,base.get? b=some o->s.heap.get? b=some o/\H b=none
 Ş:base.objs.size<=s⁻¹
 BJ:s.heap.FunFrames base outer
 Ų:∀b∈frs outer,H b=none
 hok:zE P w H s.heap
 bare:AllBare s.gens
inductive CE(outer:List Env)(P:Program)(w:World)(H:Hp)(s:Shared)(Q:VK)(u:Value)(s':Shared):Prop
 |mk (v H':_) (_:s'.os=s.os) (_:AllBare s'.gens) (_:Un (frs outer) [] H H' s.heap s'.heap) (_:zE P w H' s'.heap) (_:cV v u) (_:Q v H')
def CR(CX:R9)(outer:List Env)(P:Program)(w:World)(H:Hp)(s:Shared)(Q:VK)(E:XK)(r:Result)(s':Shared):Prop :=
 match r with
 |.ok (.ret u)=>CE outer P w H s Q u s'
 |.ok _=>False
 |.error e=>CX outer H s E e s'
structure bf(P:Program)(w:World)(K:aH)(mg:Str->Option Value)(base:Heap)(CX:R9)(k:Nat)(f:Addr)(fd:FuncData)(ps:List Str)(sp:Sp):Prop where
 len:∀vs H Q E,sp vs H Q E->vs.length=ps.length
 run:∀(A:Around) (outer:List Env) (s:Shared) (H:Hp) (args:Args) (us:List Value) (vs:List V) (Q:VK) (E:XK),sO k A->Uy P w K mg base A outer s H->BindsTo s fd args (ps.zip us)->dz vs us->sp vs H Q E->
  codeAny (model P w) A (.call (.ref f) args) (CR CX outer P w H s Q E) s
def bf.mono{P:Program}{w:World}{K:aH}{mg:Str->Option Value}{base:Heap}{CX:R9}{j k:Nat}{f:Addr}{fd:FuncData}{ps:List Str}{sp:Sp}(F:bf P w K mg base CX j f fd ps sp)(h:j<=k) :
  bf P w K mg base CX k f fd ps sp:=⟨F.len,λA outer s H args us vs Q E hr=>F.run A outer s H args us vs Q E (hr.mono h)⟩
def Uy.make{P:Program}{w:World}{outer:List Env}{s:Shared}{H:Hp}(e:Uy P w K mg base A outer s H)(C:Addr)(us:List Value)(kw:List (Str×Value)) :
  Uy P w K mg base (A.under (.builtin "type.__call__" ⟨.ref C::us,kw⟩)) outer s H:=⟨by first|exact e.frames|(simpa [Around.under,Code.envs,Code.isFrame,pushEnvs]using e.frames),e.mod,e.bs,e.Ş,e.BJ,e.Ų,e.hok,e.bare⟩
section
variable{X:Cx}{Y:List (Addr×Obj)}{σ:St}{H:Hp}{s s':Shared}
def bI.env0(I:bI X Y σ H s):Uy X.prog X.w X.K X.mg X.base X.A X.stack s H :=
 ⟨I.ok.frames,I.ok.mod,I.bs,cZ I.ok.Ş I.sz,I.stack,I.Wd,I.hok,I.bare⟩
def bI.after{Q:VK}{u:Value}(I:bI X Y σ H s)(h:CE X.stack X.prog X.w H s Q u s'):EP X Y σ Q u s':=by
 obtain⟨v,H',os,bare,un,hok,r,q⟩:=h;obtain⟨hh,g,d,t,os'⟩:=s';obtain rfl:os'=s.os:=os;exact⟨v,H',I.call (h':=hh) (g':=g) (d':=d) (t':=t) (ch:=[]) un hok bare (λb z=>absurd z (by simp)),r,q⟩
end
def a1f(sp:Sp)(KH:List V)(E:XK)(t:TA):TE:=λσ H Q=>t σ H λvs H1=>sp (vs++KH) H1 Q E
inductive a1P(C:Addr)(m:Str)(x:V)(H1:Hp)(Q:Prop):Prop
 |mk (a dx fs:_) (_:x=.ref a) (_:H1 a=some (.ins C dx fs)) (_:fs.lookup m=none) (_:Q)
def a3Z(C:Addr)(m:Str)(sp:Sp)(KH:List V)(E:XK)(ta:TE)(t:TA):TE:=λσ H Q=>ta σ H λx H1=>a1P C m x H1 (t σ H1 λvs H2=>sp (x::(vs++KH)) H2 Q E)
def a4a(C:Addr)(sp:Sp)(KH:List V)(E:XK)(t:TA):TE:=λσ H Q=>t σ H λvs H1=>∀x dx,H1 x=none->H1 dx=none->dx≠x->
 sp (.ref x::(vs++KH)) (cI (cI H1 dx (.own x)) x (.ins C dx [])) (λv H2=>v=.non/\Q (.ref x) H2) E
def Binds(K:aH)(fd:FuncData)(ps:List Str)(ds:List Value):Prop :=
 ∀(s:Shared) (us:List Value),K.In s.heap->(us++ds).length=ps.length->BindsTo s fd ⟨us,[]⟩ (ps.zip (us++ds))
def Binds.all{fd:FuncData}{ps:List Str}(h:∀us:List Value,us.length=ps.length->bindArgs fd ⟨us,[]⟩=pure (ps.zip us)):Binds K fd ps []:=λs us _ hl=>by
 rw[lR]at hl ⊢;exact .of_eq (h us hl)
def Aj(CX:R9)(X:Cx)(E:XK):Prop:=∀(Y:List (Addr×Obj)) (σ:St) (H:Hp) (s:Shared) (e:Value) (s':Shared),bI X Y σ H s->CX X.stack H s E e s'->X.xe e s'
section
variable{X:Cx}{CX:R9}{f C:Addr}{fd:FuncData}{ps:List Str}{sp:Sp}{KH:List V}{ds:List Value}{E:XK}{x m:Str}{apos:Pos}{o:Expr}{t:TA}
def Uz{Y:List (Addr×Obj)}{σ:St}{H:Hp}{s:Shared}{Q:VK}{us:List Value}{vs:List V}(F:bf X.prog X.w X.K X.mg X.base CX k f fd ps sp)(hr:sO k X.A)(hb:Binds X.K fd ps ds)(hd:dz KH ds)(hx:Aj CX X E)
  (I:bI X Y σ H s) (r:dz vs us) (h:sp (vs++KH) H Q E):wpAny (model X.prog X.w) X.A (call (.ref f) us) (EP X Y σ Q) X.xe s:=by
 have r2:dz (vs++KH) (us++ds):=r.append hd;have hl:(us++ds).length=ps.length:=by rw[<-r2.length];exact F.len _ _ _ _ h
 refine wpAny_call (Ed (F.run X.A X.stack s H ⟨us,[]⟩ (us++ds) (vs++KH) Q E hr I.env0 (hb s us I.Ds hl) r2 h) λr s' hq=>?_);cases r with
 |error e=>exact hx Y σ H s e s' I hq
 |ok fl =>
  cases fl with
  |ret u=>exact I.after hq
  |next=>exact False.elim hq
  |brk=>exact False.elim hq
  |cont=>exact False.elim hq
def bh(F:bf X.prog X.w X.K X.mg X.base CX k f fd ps sp)(hr:sO k X.A)(hg:Gl X x)(hm:X.mg x=some (.ref f))(hk:PySem.W.keepIn X.K (.ref f)=true)(hb:Binds X.K fd ps ds)(hd:dz KH ds)(hx:Aj CX X E)
  (ha:PA X (e::es) t) (hdb:@&((x==("__debug__" : Str))=false)) (he:@&(starEach (e::es) X.env=(false,eval e X.env)::starEach es X.env)) (hpl:@&((backTo pos (starEach es X.env)).any (·.1)=false)) :
  PE X (.Call (.Name x p) (e::es) [] pos) (a1f sp KH E t):=by
 intro Y s σ H Q I h;exact xM (BL I hg hm (Ny (h₀:=X.base) I.ok.mod.kin hk (jJ (ha pos Y s σ H _ I h) λus s1 ⟨vs,H1,I1,r,q⟩=>⟨I1.Ds,Uz F hr hb hd hx I1 r q⟩) he hpl) hdb)
def wu(he:PE X o ta)(c:Cls X.K C)(hm:Meth X.K C m f)(F:bf X.prog X.w X.K X.mg X.base CX k f fd ps sp)(hr:sO k X.A)(hb:Binds X.K fd ps ds)(hd:dz KH ds)(hx:Aj CX X E)(ha:PA X (e::es) t)
  (hst:@&(starEach (e::es) X.env=(false,eval e X.env)::starEach es X.env)) (hpl:@&((backTo pos (starEach es X.env)).any (·.1)=false))
  (ht:@&(eval (.Call (.Attribute o m apos) (e::es) [] pos) X.env=(do
   let ov <-eval o X.env
   standAt apos.atName
   let(f,first) <-holding [ov] (getMethod ov m pl)
   callWith pos f first (backTo pos (starEach (e::es) X.env)) (backToKw pos (keywordEach [] X.env))))) :
  PE X (.Call (.Attribute o m apos) (e::es) [] pos) (a3Z C m sp KH E ta t):=by
 intro Y s σ H Q I h;refine PySem.W.methodCall_KW (pl:=pl) (jJ (he Y s σ H _ I h) λu s1 ⟨x,H1,I1,rx,a,dx,fs,ex,ea,l,q⟩=>?_) ht;subst ex;obtain rfl:u=Value.ref a:=rx;exact Uu I1 ea c hm l (Ny (first:=[.ref a]) (h₀:=X.base) I.ok.mod.kin hm.kp (jJ (ha pos Y s1 σ H1 _ I1 q) λus s2 ⟨vs,H2,I2,r,q2⟩=>⟨I2.Ds,Uz (us:=.ref a::us) (vs:=.ref a::vs) F hr hb hd hx I2 (.cons Z r) q2⟩) hst hpl)
structure Mk(K:aH)(C f:Addr):Prop where
 makes:PySem.W.makesIn K C=true
 init:PySem.W.findIn K (.ref C) "__init__" = some (some (.ref f))
 fn:PySem.W.isFn K (.ref f)=true
 kp:PySem.W.keepIn K (.ref C)=true
def Ô{Y:List (Addr×Obj)}{σ:St}{H:Hp}{s:Shared}{Q:VK}{us:List Value}{vs:List V}(Z98:Mk X.K C f)(F:bf X.prog X.w X.K X.mg X.base CX k f fd ps sp)(hr:sO (k+1) X.A)(hb:Binds X.K fd ps ds)(hd:dz KH ds)
  (hx:Aj CX X E) (I:bI X Y σ H s) (r:dz vs us)
  (h:∀x dx,H x=none->H dx=none->dx≠x->sp (.ref x::(vs++KH)) (cI (cI H dx (.own x)) x (.ins C dx [])) (λv H2=>v=.non/\Q (.ref x) H2) E) :
  wpAny (model X.prog X.w) X.A (call (.ref C) us) (EP X Y σ Q) X.xe s:=by
 have hq:=h (s⁻¹+1) s⁻¹ (I.hok.fresh (vY _)) (I.hok.fresh (aL _)) (bW (xQ _));have I2:=bI.made (C:=C) I;have r2:dz (V.ref (s⁻¹+1)::(vs++KH)) (Value.ref (s⁻¹+1)::(us++ds)):=.cons Z (r.append hd);have hl:(Value.ref (s⁻¹+1)::us++ds).length=ps.length:=by
  have e:=r2.length;rw[F.len _ _ _ _ hq]at e;exact e.symm
 refine wpAny_call (Ó (f:=f) I.Ds Z98.makes Z98.init (IW.mp Z98.fn) (Ed (F.run _ X.stack _ _ ⟨Value.ref (s⁻¹+1)::us,[]⟩ (Value.ref (s⁻¹+1)::(us++ds)) _ _ E (hr.make C us [])
  (I2.env0.make C us []) (hb _ (Value.ref (s⁻¹+1)::us) I2.Ds hl) r2 hq) λr s' hq'=>?_))
 cases r with
 |error e=>exact hx Y σ _ _ e s' I2 hq'
 |ok fl =>
  cases fl with
  |ret u =>
   obtain⟨v,H',I3,rv,ev,q3⟩:=I2.after hq';subst ev;exact⟨rv,⟨V.ref (s⁻¹+1),H',I3,Z,q3⟩⟩
  |next=>exact False.elim hq'
  |brk=>exact False.elim hq'
  |cont=>exact False.elim hq'
def Ov(Z98:Mk X.K C f)(F:bf X.prog X.w X.K X.mg X.base CX k f fd ps sp)(hr:sO (k+1) X.A)(hg:Gl X x)(hm:X.mg x=some (.ref C))(hb:Binds X.K fd ps ds)(hd:dz KH ds)(hx:Aj CX X E)
  (ha:PA X (e::es) t) (hdb:@&((x==("__debug__" : Str))=false)) (he:@&(starEach (e::es) X.env=(false,eval e X.env)::starEach es X.env)) (hpl:@&((backTo pos (starEach es X.env)).any (·.1)=false)) :
  PE X (.Call (.Name x p) (e::es) [] pos) (a4a C sp KH E t):=by
 intro Y s σ H Q I h;exact xM (BL I hg hm (Ny (h₀:=X.base) I.ok.mod.kin Z98.kp (jJ (ha pos Y s σ H _ I h) λus s1 ⟨vs,H1,I1,r,q⟩=>⟨I1.Ds,Ô Z98 F hr hb hd hx I1 r q⟩) he hpl) hdb)
end
structure bC(N P:List Str)(sc:Scope):Prop where
 kind:sc.kind=.function:=by rfl
 co:sc.isCoroutine=false:=by rfl
 gen:sc.isGenerator=false:=by rfl
 nd:N.Nodup:=by decide
 pre:N.take P.length=P:=by rfl
 par:∀x∈P,sc.names.lookup x=some .local\/sc.names.lookup x=some .cell:=by decide
 a1Q:∀y∈sc.names,y.2≠.free:=by decide
theorem Ly{kindOf:Str->Option NameKind}{x:Str}:∀{binds:List (Str×Value)}{m:Str->Option Value},(∀v,(x,v)∉binds)->bindL kindOf binds m x=m x
 | [],_,_=>rfl
 |(n,v)::r,m,h=>by
  unfold bindL
  rw[Ly λw hw=>h w (bD _ hw)]
  split
  ·have:x≠n:=by rintro rfl;exact h v aU
   simp[this]
  ·rfl
theorem Lz{kindOf:Str->Option NameKind}{x:Str}:∀{binds:List (Str×Value)}{m:Str->Option Value},(∀v,(x,v)∉binds)->bindC kindOf binds m x=m x
 | [],_,_=>rfl
 |(n,v)::r,m,h=>by
  unfold bindC
  rw[Lz λw hw=>h w (bD _ hw)]
  split
  ·rfl
  ·have:x≠n:=by rintro rfl;exact h v aU
   simp[this]
theorem LC{kindOf:Str->Option NameKind}{x:Str}{v:Value}:∀{P:List Str}{vs:List Value}{i:Nat}{m:Str->Option Value},P.Nodup->P[i]?=some x->vs[i]?=some v->kindOf x=some .local->
  bindL kindOf (P.zip vs) m x=some v
 | [],_,_,_,_,h,_,_=>by simp at h
 |_::_,[],_,_,_,_,h,_=>by simp at h
 |p::P,w::vs,0,m,nd,h1,h2,hk=>by
  simp at h1 h2;subst h1;subst h2
  show bindL kindOf ((p,w)::P.zip vs) m p=_
  unfold bindL
  rw[Ly λv hv=>(jP.mp nd).1 (TY hv).1,aG hk]
  simp
 |p::P,w::vs,i+1,m,nd,h1,h2,hk=>by
  show bindL kindOf ((p,w)::P.zip vs) m x=_
  unfold bindL
  exact LC (i:=i) (jP.mp nd).2 (by simpa using h1) (by simpa using h2) hk
theorem LK{kindOf:Str->Option NameKind}{x:Str}{v:Value}:∀{P:List Str}{vs:List Value}{i:Nat}{m:Str->Option Value},P.Nodup->P[i]?=some x->vs[i]?=some v->kindOf x≠some .local->
  bindC kindOf (P.zip vs) m x=some v
 | [],_,_,_,_,h,_,_=>by simp at h
 |_::_,[],_,_,_,_,h,_=>by simp at h
 |p::P,w::vs,0,m,nd,h1,h2,hk=>by
  simp at h1 h2;subst h1;subst h2
  show bindC kindOf ((p,w)::P.zip vs) m p=_
  unfold bindC
  rw[Lz λv hv=>(jP.mp nd).1 (TY hv).1,aA hk]
  simp
 |p::P,w::vs,i+1,m,nd,h1,h2,hk=>by
  show bindC kindOf ((p,w)::P.zip vs) m x=_
  unfold bindC
  exact LK (i:=i) (jP.mp nd).2 (by simpa using h1) (by simpa using h2) hk
def start(N:List Str)(vs:List V):St:=vs.map some++List.replicate (N.length-vs.length) none
def UG(CX:R9)(P:Program)(w:World)(K:aH)(mg:Str->Option Value)(base:Heap)(N:List Str)(qual:Str)(scope:Scope)(f:Addr)(cd:Value)(A:Around)(outer:List Env)(s:Shared)(H:Hp)(E:XK):Cx where
 prog:=P
 w:=w
 K:=K
 mg:=mg
 base:=base
 A:=A.deeper (envOfC qual scope s⁻¹ f cd)
 N:=N
 s₀:=s
 H₀:=H
 env:=envOfC qual scope s⁻¹ f cd
 outer:=outer
 stack:=envOfC qual scope s⁻¹ f cd::outer
 ex:=[]
 calm:=true
 fn:=λ_=>true
 pn:=[]
 xe:=λe s'=>wpAny (model P w) (A.deeper (envOfC qual scope s⁻¹ f cd)) (leaving (envOfC qual scope s⁻¹ f cd) e) (λ_ s''=>CX outer H s E e s'') (λe' s''=>CX outer H s E e' s'') s'
def QJ{sc:Scope}{x:Str}(h:sc.names.lookup x=some .cell):∃c,(cellsFrom n sc.names []).lookup x=some c:=by
 have q:=PySem.W.cellsFrom_some sc.names n [] (.inl h);exact Option.isSome_iff_exists.mp q
def Yk{CX:R9}{P:Program}{w:World}{ps:List Str}{qual:Str}{scope:Scope}{f:Addr}{cd:Value}{outer:List Env}{s s1:Shared}{H:Hp}{E:XK}{us:List Value}{vs:List V}
  (S:bC N ps scope) (hd:A.handled=none) (e0:Uy P w K mg base A outer s H) (hl:vs.length=ps.length) (r:dz vs us)
  (x:InCallC s s⁻¹ (bindL (envOfC qual scope s⁻¹ f cd).kindOf (ps.zip us) λ_=>none) (cellsFrom (s⁻¹+1) scope.names []) (bindC (envOfC qual scope s⁻¹ f cd).kindOf (ps.zip us) λ_=>none) s1) :
  bI (UG CX P w K mg base N qual scope f cd A outer s H E) [] (start N vs) H s1:=by
 have hpl:ps.length<=N.length:=by have:=congrArg List.length S.pre;rw[fP]at this;omega
 obtain⟨h1,tk,rfl,hk⟩:=x.done;have noA:∀b:Addr,b∉(UG CX P w K mg base N qual scope f cd A outer s H E).ex:=λb z=>absurd (show b∈([]:List Addr)from z) (by simp);refine⟨⟨e0.mod,S.kind,Z,Z,aL _,λy z c h1 h2=>?_,λy hy=>?_,λy c _ h=>?_,λ_=>hd,Around.frames_deeper e0.frames,.inr ⟨Z,Z⟩,λb z=>absurd z (noA b),e0.bs,e0.Ş,λb _ _=>noA b,λb z=>absurd z (noA b),e0.BJ,e0.Ų⟩,
  rfl,e0.bare,Un.kept hk,⟨_,x.toInCall.ns,λi y v h1 h2 h3=>?_⟩,λy c h=>⟨_,x.cell y c h⟩,e0.hok.fresh (aL _),λy c h=>?_,λp hp=>absurd (show p∈([]:List (Addr×Obj))from hp) (by simp),e0.hok.kept hk,?_⟩
 ·exact name_of_addr x.apart (DG h1) (DG h2)
 ·have hy:scope.names.lookup y=some .cell\/scope.names.lookup y=some .free:=hy;rcases hy with hy|hy
  ·exact QJ hy
  ·exact absurd Z (S.a1Q _ (DG hy))
 ·exact eE (x.above y c (DG h))
 ·have hi:i<vs.length:=by
   unfold start at h2;by_cases hi:i<vs.length
   ·exact hi
   ·rw[xr (by simpa using hi)]at h2;rw[List.getElem?_replicate]at h2;split at h2<;>cases h2
  have ha:vs[i]?=some v:=by
   unfold start at h2;rw[zU (by simpa using hi),d7]at h2;cases e:vs[i]? with
   |none=>rw[e]at h2;cases h2
   |some a=>rw[e]at h2;cases h2;rfl
  obtain⟨u,hu,rv⟩:=r.get ha;have hp:ps[i]?=some y:=by
   rw[<-S.pre,List.getElem?_take_of_lt ()];exact h1
  have ndP:ps.Nodup:=by rw[<-S.pre];exact S.nd.sublist (Nz _ _)
  refine⟨u,rv,?_⟩;rcases S.par y (iU hp)with k|k
  ·exact .inl ⟨k,LC ndP hp hu k⟩
  ·obtain⟨c,e⟩:=QJ (n:=s⁻¹+1) k;refine .inr ⟨.inl k,c,e,?_⟩;have q:=x.cell y c e;rw[LK ndP hp hu (by show scope.names.lookup y≠_;rw[k];decide)]at q;exact q
 ·exact e0.hok.fresh (eE (x.above y c (DG h)))
 ·unfold start;show _=N.length;rw[cC,aK,List.length_replicate];omega
def a1g{CX:R9}{P:Program}{w:World}{f:Addr}{name qual:Str}{params:Arguments}{scope:Scope}{dV kV doc pm eV ct oc:Value}{an od:Option Addr}
  {osl:Array (Option Value)}{ps:List Str}{sp:Sp} (lk:K.lookup f=some ⟨oc,od,.func (PySem.W.fnOf name qual params body scope dV kV doc pm an eV ct),osl⟩) (hcd:PySem.W.codeIn K eV qual=true) (S:bC N ps scope)
  (len:∀vs H Q E,sp vs H Q E->vs.length=ps.length)
  (hbody:∀(A:Around) (outer:List Env) (s:Shared) (H:Hp) (vs:List V) (Q:VK) (E:XK),sO k (A.deeper (envOfC qual scope s⁻¹ f eV))->sp vs H Q E->
   ∃t,QG (UG CX P w K mg base N qual scope f eV A outer s H E) body t/\t { nx:=λ_ H'=>Q .non H',rt:=Q} (start N vs) H) :
  bf P w K mg base CX (k+1) f (PySem.W.fnOf name qual params body scope dV kV doc pm an eV ct) ps sp:=by
 refine⟨len,λA outer s H args us vs Q E hr e0 hb r hsp=>?_⟩;have hl:=len _ _ _ _ hsp;have KX:K.In s.heap:=e0.mod.kin.keeps λb o e=>(e0.bs b o e).1;have lim:s.heap.NoLimit:=e0.mod.nolimit.keeps λb o e=>(e0.bs b o e).1;have hkind:∀y∈ps.zip us,scope.names.lookup y.1=some .local\/(scope.names.lookup y.1=some .cell/\((cellsFrom (s⁻¹+1) scope.names []).lookup y.1).isSome=true):=λ⟨n,v⟩ hy=>by
  rcases S.par n (TY hy).1 with q|q
  ·exact .inl q
  ·exact .inr ⟨q,PySem.W.cellsFrom_some _ _ _ (.inl q)⟩
 refine codeAny_call_function hr.depth (KX _ _ lk) Z S.co S.gen Z (PySem.W.codeRec_of KX hcd) (hb _ _ _ _ (wpAny_newFunctionEnv_cells S.kind hkind λenv he s1 x=>?_));subst he;refine⟨lim.keeps x.toInCall.keep,codeAny_func ?_⟩;obtain⟨t,ht,hq⟩:=hbody A outer s H vs Q E (hr.deeper _) hsp;have I:bI (UG CX P w K mg base N qual scope f eV A outer s H E) [] (start N vs) H s1:=Yk S hr.hd e0 hl r x;refine iJ (ht [] s1 (start N vs) H _ I hq) (λfl s' hs=>?_) λe s' hs=>hs;have fin:∀{σ':St}{H':Hp}{v:V}{u:Value},bI (UG CX P w K mg base N qual scope f eV A outer s H E) [] σ' H' s'->cV v u->Q v H'->CE outer P w H s Q u s' :=
  λ{σ' H' v u} Z97 rv q=>⟨v,H',Z97.os,Z97.bare,Z97.base,Z97.hok,rv,q⟩
 cases fl with
 |ret u =>
  obtain⟨v,σ',H',Z97,rv,q⟩:=hs;exact fin Z97 rv q
 |next =>
  obtain⟨σ',H',Z97,q⟩:=hs;exact fin (v:=V.non) (u:=Value.none) Z97 Z q
 |brk =>
  obtain⟨_,_,_,q⟩:=hs;exact False.elim q
 |cont =>
  obtain⟨_,_,_,q⟩:=hs;exact False.elim q
section
variable{X:Cx}{x:Str}{t:TA}{id T:String}{r:List V->Hp->VK->Prop}
def tCB(r:List V->Hp->VK->Prop)(t:TA):TE:=λσ H Q=>t σ H λvs H1=>r vs H1 Q
def bG(hc:jL X (.builtin id) r)(hg:Gl X x)(hm:X.mg x=none)(hv:bootBuiltins x=some (.builtin id))(ha:PA X (e::es) t)(hn:@&(x≠ "__name__"))(hdb:@&((x==("__debug__" : Str))=false))
  (he:@&(starEach (e::es) X.env=(false,eval e X.env)::starEach es X.env)) (hpl:@&((backTo pos (starEach es X.env)).any (·.1)=false)):PE X (.Call (.Name x p) (e::es) [] pos) (tCB r t):=by
 intro Y s σ H Q I h;exact xM (vZ I hg hm hv (PyProof.Rows.callWith_builtin1 (jJ (ha pos Y s σ H _ I h) λus s1 ⟨vs,H1,I1,r1,q1⟩=>hc Y s1 σ H1 vs us Q I1 r1 q1) he hpl) hn hdb)
def gq(hc:jL X (.type T) r)(hg:Gl X x)(hm:X.mg x=none)(hv:bootBuiltins x=some (.type T))(ha:PA X (e::es) t)(hn:@&(x≠ "__name__"))(hdb:@&((x==("__debug__" : Str))=false))
  (he:@&(starEach (e::es) X.env=(false,eval e X.env)::starEach es X.env)) (hpl:@&((backTo pos (starEach es X.env)).any (·.1)=false)):PE X (.Call (.Name x p) (e::es) [] pos) (tCB r t):=by
 intro Y s σ H Q I h;exact xM (vZ I hg hm hv (zT (jJ (ha pos Y s σ H _ I h) λus s1 ⟨vs,H1,I1,r1,q1⟩=>hc Y s1 σ H1 vs us Q I1 r1 q1) he hpl) hn hdb)
end
end L2
namespace HT
open PyProof.Rows
section
variable{prog:Program}{w:World}{A:Around}{E:Value->Shared->Prop}{s:Shared}
def ź{t b:Addr}{vs ws:List Value}{Q:Value->Shared->Prop}(ht:IsTup s.heap t vs.toArray)(hb:IsTup s.heap b ws.toArray)(hv:vs≠[])
  (h1:ws=[]->Q (.ref t) s) (h2:ws≠[]->Q (.ref s⁻¹) { s with heap:=s.heap.push { cls:=.type "tuple",data:=.seq (vs++ws).toArray}})
  (hsz:vs.length+ws.length<=sizeLine):wpAny (model prog w) A (binaryOp .Add (.ref t) (.ref b)) Q E s:=by
 obtain⟨⟨cls,dd,data,sl⟩,ho,hc,n,hd⟩:=id ht;obtain⟨⟨cls2,dd2,data2,sl2⟩,ho2,hc2,n2,hd2⟩:=id hb;simp only at hc hd hc2 hd2;subst hc hd hc2 hd2;have e:vs.toArray++ws.toArray=(vs++ws).toArray:=by simp
 by_cases hw:ws=[]
 ·exact Oh ⟨_,ho,Z⟩ ⟨_,ho2,Z⟩ NQ Od Nr Np (Nk _ _)
   (tuple_addW1 t b vs.toArray ws.toArray n n2 dd dd2 sl sl2 (by simpa using hv) (by simp[hw])) ⟨ho,ho2,h1 hw⟩
 ·refine Oh ⟨_,ho,Z⟩ ⟨_,ho2,Z⟩ NQ Od Nr Np (Nk _ _)
   (tuple_addW2 t b vs.toArray ws.toArray n n2 dd dd2 sl sl2 (by simpa using hv) (by simpa using hw) (by rw[iH,iH];exact hsz)) ⟨ho,ho2,?_⟩
  rw[e];exact h2 hw
def lU(n d:Nat):Option Int->Nat
 |none=>d
 |some v=>if v<0 then(v+(n:Int)).toNat else min v.toNat n
def QK(n d:Nat):lU n d none=d:=rfl
def Ow(n d k:Nat):lU n d (some (k:Int))=min k n:=by
 show(if(k:Int)<0 then((k:Int)+(n:Int)).toNat else min (k:Int).toNat n)=min k n;rw[aA (),jz]
def a1R(n d:Nat)(hd:d<=n)(o:Option Int):lU n d o<=n:=by
 cases o with
 |none=>exact hd
 |some v =>
  show(if v<0 then(v+(n:Int)).toNat else min v.toNat n)<=n;by_cases hv:v<0
  ·rw[aG hv];omega
  ·rw[aA hv];exact TJ _ _
def Wn(v:Int)(n d:Nat):(if v<0 then max (v+(n:Int)) 0 else min v (n:Int))=((lU n d (some v):Nat):Int):=by
 show(if v<0 then max (v+(n:Int)) 0 else min v (n:Int))=(((if v<0 then(v+(n:Int)).toNat else min v.toNat n):Nat):Int);by_cases hv:v<0
 ·simp only[if_pos hv];omega
 ·simp only[if_neg hv];omega
def UJ(lo hi:Option Int)(n:Nat):Builtin.Slice.sliceAdjust lo hi 1 (n:Int)=(((lU n 0 lo:Nat):Int),((lU n n hi:Nat):Int)):=by
 have h1:¬((1:Int)<0):=()
 unfold Builtin.Slice.sliceAdjust;simp only[h1,if_false];refine Prod.ext ?_ ?_
 ·cases lo with
  |none=>rfl
  |some v=>exact Wn v n 0
 ·cases hi with
  |none=>rfl
  |some v=>exact Wn v n n
def UL(i j:Nat):Builtin.Slice.slicePlaces (i:Int) (j:Int) 1=j-i:=by
 unfold Builtin.Slice.slicePlaces;have h1:(1:Int)>0:=()
 simp only[h1,if_true,Int.ediv_one];split<;>omega
def Jh{v:Value}{o:Option Int}{Q:Option Int->Shared->Prop}(p:IsPart v o)(h:Q o s):wpAny (model prog w) A (Builtin.Slice.slicePartIndex v) Q E s:=by
 cases p with
 |none=>exact slicePart_none h
 |int i t=>exact slicePart_int h
def uZ{sl:Addr}{vl vu:Value}{lo hi:Option Int}{n:Nat}{Q:Int×Int×Nat->Shared->Prop}(hs:s.heap.IsSliceOf sl vl vu .none)(pl:IsPart vl lo)(pu:IsPart vu hi)
  (h:Q (((lU n 0 lo:Nat):Int),1,lU n n hi-lU n 0 lo) s):wpAny (model prog w) A (Builtin.Slice.sliceApplied (.ref sl) (pure (n:Int))) Q E s:=by
 obtain⟨os,hos,hcs,hds⟩:=id hs;unfold Builtin.Slice.sliceApplied Builtin.Slice.sliceFields;refine M (M (gk hos hds (x:=vl) Z (M (gk hos hds (x:=vu) Z (M (gk hos hds (x:=.none) Z (ao (M (slicePart_none ?_)))))))));show wpAny _ _ (if((1:Int)==0)=true then _ else _) _ _ s;rw[aA ()];refine M (Jh pl (M (Jh pu (M (ao ?_)))));show wpAny _ _ (match Builtin.Slice.sliceAdjust lo hi 1 (n:Int)with|(lo,hi)=>pure (lo,(1:Int),Builtin.Slice.slicePlaces lo hi 1)) _ _ s;rw[UJ lo hi n];show wpAny _ _ (pure (((lU n 0 lo:Nat):Int),(1:Int),Builtin.Slice.slicePlaces ((lU n 0 lo:Nat):Int) ((lU n n hi:Nat):Int) 1)) _ _ s;rw[UL];exact ao h
def Õ(xs:Array Value)(i k:Nat):((List.range k).filterMap λ(m:Nat)=>xs[((i:Int)+(m:Int)*1).toNat]?).toArray=((xs.toList.drop i).take k).toArray:=by
 have e:(λ(m:Nat)=>xs[((i:Int)+(m:Int)*1).toNat]?)=λm=>xs[i+m]?:=by
  funext m;have:((i:Int)+(m:Int)*1).toNat=i+m:=()
  rw[this]
 rw[e];have:=pick_run xs i k;rw[Tn]at this;have e2:((λx=>xs[x]?)∘λx=>i+x)=λm=>xs[i+m]?:=rfl;rw[e2]at this;rw[this]
def BW{t sl:Addr}{items:Array Value}{vl vu:Value}{lo hi:Option Int}{Q:Value->Shared->Prop}(ht:IsTup s.heap t items)(hs:s.heap.IsSliceOf sl vl vu .none)(pl:IsPart vl lo)(pu:IsPart vu hi)
  (hw:¬(lU items.size 0 lo=0/\lU items.size items.size hi=items.size))
  (h:Q (.ref s⁻¹) { s with heap:=s.heap.push { cls:=.type "tuple",data:=.seq ((items.toList.drop (lU items.size 0 lo)).take (lU items.size items.size hi-lU items.size 0 lo)).toArray}})
  (hsz:items.size<=sizeLine):wpAny (model prog w) A (getItem (.ref t) (.ref sl)) Q E s:=by
 have Wo:sizeOk (.seq ((items.toList.drop (lU items.size 0 lo)).take (lU items.size items.size hi-lU items.size 0 lo)).toArray):=by
  show((items.toList.drop (lU items.size 0 lo)).take (lU items.size items.size hi-lU items.size 0 lo)).toArray.size<=sizeLine;rw[iH,fP,lQ,vP];omega
 have hj:lU items.size items.size hi<=items.size:=a1R _ _ (aL _) hi;obtain⟨os,hos,hcs,hds⟩:=id hs;have hTs:s.TypeIs (.ref sl) "slice" :=⟨os,hos,hcs⟩;unfold getItem;try with_reducible refine fL ?_
 first|refine M (ao ?_)|skip
 refine M (wpAny_sequenceKey ht.typeIs () ?_);refine M (oJ (name:=Str.ofString "__getitem__") ht.typeIs Nf
  (gC Nf ht.typeIs entry_tuple_getitem ?_ (args_tuple_getitem _ _)))
 show wpAny _ _ (Builtin.Tuple.tupleItemsOf (.ref t) >>= _) _ _ s;refine M (tupleItemsOf_ ht (M (vX hTs ?_)));rw[aG ()];refine M (uZ hs pl pu ?_);have hno:¬((((lU items.size 0 lo:Nat):Int)==0&&(1:Int)==1&&(lU items.size items.size hi-lU items.size 0 lo)==items.size)=true):=by
  intro q;rw[ql,ql]at q;have q1:((lU items.size 0 lo:Nat):Int)=0:=eq_of_beq q.1.1;have q2:lU items.size items.size hi-lU items.size 0 lo=items.size:=eq_of_beq q.2;exact hw ⟨(),()⟩
 show wpAny _ _ (if(((lU items.size 0 lo:Nat):Int)==0&&(1:Int)==1&&(lU items.size items.size hi-lU items.size 0 lo)==items.size)=true then _ else _) _ _ s;rw[aA hno,Õ];first
  |exact M (m:=Builtin.Tuple.tupleExact _) (kI (ao ⟨_,Z,ao h⟩) Wo)
  |exact M (m:=Builtin.Tuple.tupleExact _) (kI (M (ao (ao ⟨_,Z,ao h⟩))) Wo)
  |exact M (M (m:=Builtin.Tuple.tupleExact _) (kI (ao (ao ⟨_,Z,ao h⟩)) Wo))
  |exact M (M (m:=Builtin.Tuple.tupleExact _) (kI (ao ⟨_,Z,ao h⟩) Wo))
end
end HT
namespace L2
open PyProof.Rows
variable{X:Cx}{us:List Value}{α:Type}
abbrev TO:=St->Hp->(Option Int->Hp->Prop)->Prop
def PO(X:Cx)(e:Option Expr)(t:TO):Prop :=
 ∀(Y:List (Addr×Obj)) (s:Shared) (σ:St) (H:Hp) (Q:Option Int->Hp->Prop),bI X Y σ H s->t σ H Q->
  wpAny (model X.prog X.w) X.A (evalPart e X.env) (λu s'=>∃o H',bI X Y σ H' s'/\IsPart u o/\Q o H') X.xe s
def Ż:TO:=λ_ H Q=>Q none H
def a4b(t:TE):TO:=λσ H Q=>t σ H λx H1=>EA (λi=>x=.int i) λi=>Q (some i) H1
section
variable{e:Expr}{te:TE}{lo hi:Option Expr}{tl th:TO}{pos p2:Pos}
def mq:PO X none Ż:=by
 intro Y s σ H Q I h;rw[evalPart_none];exact ao ⟨none,H,I,.none,h⟩
def mD(h:PE X e te):PO X (some e) (a4b te):=by
 intro Y s σ H Q I hw;rw[evalPart_some];refine jJ (h Y s σ H _ I hw) λu s1 ⟨x,H1,I1,r1,q1⟩=>?_;obtain⟨i,rfl,q⟩:=q1;obtain⟨t,rfl⟩:=r1;exact⟨some i,H1,I1,.int i t,q⟩
def SlR(X:Cx)(r:V->Option Int->Option Int->Hp->VK->Prop):Prop :=
 ∀(Y:List (Addr×Obj)) (s:Shared) (σ:St) (H:Hp) (x:V) (v vl vu:Value) (lo hi:Option Int) (sl:Addr) (Q:VK),bI X Y σ H s->cV x v->s.heap.IsSliceOf sl vl vu .none->IsPart vl lo->IsPart vu hi->r x lo hi H Q->
  ∃T id,typeLookup (.type T) "__getitem__" = pure (some (.builtin id))/\s.TypeIs v T/\wpAny (model X.prog X.w) X.A (getItem v (.ref sl)) (EP X Y σ Q) X.xe s
def tSl(r:V->Option Int->Option Int->Hp->VK->Prop)(te:TE)(tl th:TO):TE:=λσ H Q=>te σ H λx H1=>tl σ H1 λl H2=>th σ H2 λu H3=>r x l u H3 Q
def jE{r:V->Option Int->Option Int->Hp->VK->Prop}(hr:SlR X r)(he:PE X e te)(hl:PO X lo tl)(hu:PO X hi th):PE X (.Subscript e (.Slice lo hi none p2) pos) (tSl r te tl th):=by
 intro Y s σ H Q I h;refine Subscript_ (jJ (he Y s σ H _ I h) λv s1 ⟨x,H1,I1,r1,q1⟩=>wpAny_Slice (jJ (hl Y s1 σ H1 _ I1 q1) λvl s2 ⟨l,H2,I2,pl,q2⟩=>jJ (hu Y s2 σ H2 _ I2 q2) λvu s3 ⟨u,H3,I3,pu,q3⟩=>?_));rw[evalPart_none];refine ao ?_;have I4:bI X Y σ H3 { s3 with heap:=s3.heap.push { cls:=.type "slice",data:=.fields #[vl,vu,.none]}}:=I3.kept (t':=s3.toks) λb ob q=>bJ _ q;obtain⟨T,id,hT,ht,hg⟩:=hr Y { s3 with heap:=s3.heap.push { cls:=.type "slice",data:=.fields #[vl,vu,.none]}} σ H3 x v vl vu l u s3⁻¹ Q I4 r1 (Heap.IsSliceOf.new ..) pl pu q3;show wpAny (model X.prog X.w) X.A (subscriptTail e (.Slice lo hi none p2) v (.ref s3⁻¹)) (EP X Y σ Q) X.xe { s3 with heap:=s3.heap.push { cls:=.type "slice",data:=.fields #[vl,vu,.none]}};exact tail_any (ops:=[.ref s3⁻¹,v]) ht hT hg (by with_unfolding_all rfl)
def uO(xs:List V)(lo hi:Option Int):List V:=(xs.drop (HT.lU xs.length 0 lo)).take (HT.lU xs.length xs.length hi-HT.lU xs.length 0 lo)
def Fx(xs:List V)(lo hi:Option Int):(uO xs lo hi).length<=xs.length:=by
 unfold uO;rw[fP,lQ];omega
inductive a6c(K:aH)(x:V)(lo:Option Int)(hi:Option Int)(H:Hp)(Q:VK):Prop
 |mk (a xs:_) (_:x=.ref a) (_:cL K H a xs) (_:¬(HT.lU xs.length 0 lo=0/\HT.lU xs.length xs.length hi=xs.length)) (_:∀p,H p=none->Q (.ref p) (cI H p (.tup (uO xs lo hi))))
def Ö:SlR X (a6c X.K):=by
 intro Y s σ H x v vl vu lo hi sl Q I rx hs pl pu h;obtain⟨a,xs,rfl,hx,hw,q⟩:=h;cases rx;obtain⟨cA,r,ht,hz⟩:=I.tuple hx;have hlen:cA.toArray.size=xs.length:=by rw[iH];exact r.length.symm
 refine⟨"tuple",_,PyProof.Rows.slot_tuple_getitem.lookup,ht.typeIs,?_⟩;refine HT.BW ht hs pl pu (by rw[hlen];exact hw) ?_ (by rw[hlen];exact hz);rw[hlen];exact⟨.ref s⁻¹,_,I.laid (t':=s.toks) (o:=.tup (uO xs lo hi)) (λb ob q=>bJ _ q) (aL _) ⟨cZ (Fx xs lo hi) hz,_,(r.drop (HT.lU xs.length 0 lo)).take (HT.lU xs.length xs.length hi-HT.lU xs.length 0 lo),IsTup.new _ _⟩,Z,q _ (I.hok.fresh (aL _))⟩
inductive a4c(K:aH)(x:V)(y:V)(H:Hp)(Q:VK):Prop
 |mk (a b xs ys:_) (_:x=.ref a) (_:y=.ref b) (_:cL K H a xs) (_:cL K H b ys) (_:xs≠[]) (_:xs.length+ys.length<=sizeLine) (_:(ys=[]->Q (.ref a) H)) (_:(ys≠[]->∀p,H p=none->Q (.ref p) (cI H p (.tup (xs++ys)))))
def dz.BX{xs:List V}(r:dz xs us):us=[]↔xs=[]:=by
 cases r with
 |nil=>simp
 |cons _ _=>simp
def Wq:sX X (binaryOp .Add) (a4c X.K):=by
 intro Y s σ H x y v u Q I rx ry h;obtain⟨a,b,xs,ys,rfl,rfl,ha,hb,hx,hz,q1,q2⟩:=h;cases rx;cases ry;obtain⟨cA,r1,p1,_⟩:=I.tuple ha;obtain⟨its2,r2,p2,_⟩:=I.tuple hb;refine HT.ź p1 p2 (λz=>hx (r1.BX.mp z)) (λz=>⟨.ref a,H,I,Z,q1 (r2.BX.mp z)⟩) (λz=>?_) (by rw[<-r1.length,<-r2.length];exact hz);refine⟨.ref s⁻¹,_,I.laid (t':=s.toks) (o:=.tup (xs++ys)) (λb ob q=>bJ _ q) (aL _) ?_,Z,q2 (λw=>z (r2.BX.mpr w)) _ (I.hok.fresh (aL _))⟩;exact⟨by rw[cC];exact hz,_,r1.append r2,IsTup.new _ _⟩
end
def ixN(n:Nat)(i:Int):Option Nat:=if 0<=i then(if i<n then some i.toNat else none)else if -(n:Int)<=i then some (i+n).toNat else none
def Sg{α:Type}(xs:List α)(i:Int):Option α:=(ixN xs.length i).bind λj=>xs[j]?
def ż{n:Nat}{i:Int}{j:Nat}(h:ixN n i=some j):seqIndex? i n=some j/\j<n/\ -(n:Int)<=i/\i<n:=by
 unfold ixN at h;by_cases h0:0<=i
 ·rw[aG h0]at h;by_cases h1:i<n
  ·rw[aG h1]at h;have e:i.toNat=j:=dM h;exact⟨by rw[seqIndex_of h0 h1,e],(),(),h1⟩
  ·rw[aA h1]at h;cases h
 ·rw[aA h0]at h;by_cases h1 : -(n:Int)<=i
  ·rw[aG h1]at h;have e:(i+n).toNat=j:=dM h;exact⟨by rw[seqIndex_neg () h1,e],(),h1,()⟩
  ·rw[aA h1]at h;cases h
def Ox{xs:List α}{i:Int}{v:α}(h:Sg xs i=some v):∃j,seqIndex? i xs.length=some j/\xs[j]?=some v/\j<xs.length/\ -(xs.length:Int)<=i/\i<xs.length:=by
 unfold Sg at h;cases e:ixN xs.length i with
 |none=>rw[e]at h;cases h
 |some j =>
  rw[e]at h;obtain⟨h1,h2,h3,h4⟩:=ż e;exact⟨j,h1,h,h2,h3,h4⟩
def cD{xs:List α}{j:Nat}{v:α}(h:xs[j]?=some v):Sg xs (j:Int)=some v:=by
 have hj:j<xs.length:=(fO.mp h).1;have e:ixN xs.length (j:Int)=some j:=by
  unfold ixN;rw[aG (),aG ()];simp
 unfold Sg;rw[e];exact h
def Ž(b:Expr):Prop:=∀o i,subscripted b false o i=operate [o,i] (getItem o i)
def IxR(X:Cx)(r:R2):Prop :=
 ∀(value slice:Expr) (Y:List (Addr×Obj)) (s:Shared) (σ:St) (H:Hp) (x y:V) (v u:Value) (Q:VK),bI X Y σ H s->cV x v->cV y u->r x y H Q->
  subscripted slice false v u=operate [v,u] (getItem v u)->wpAny (model X.prog X.w) X.A (subscriptTail value slice v u) (EP X Y σ Q) X.xe s
def MtR(X:Cx)(id:String)(r:V->List V->Hp->VK->Prop):Prop :=
 ∀(Y:List (Addr×Obj)) (s:Shared) (σ:St) (H:Hp) (x:V) (xs:List V) (v:Value) (us:List Value) (Q:VK),bI X Y σ H s->cV x v->dz xs us->r x xs H Q->
  wpAny (model X.prog X.w) X.A (call (.builtin id) (v::us)) (EP X Y σ Q) X.xe s
section
variable{a b:Expr}{ta tb:TE}{pos:Pos}
def aQ{r:R2}(hr:IxR X r)(ha:PE X a ta)(hb:PE X b tb)(hs:Ž b:=by exact λ_ _=>rfl):PE X (.Subscript a b pos) (tOp r ta tb):=by
 intro Y s σ H Q I h;exact Subscript_ (a1K ha hb I h λv u s2 x y H2 I2 rx ry q=>hr a b Y s2 σ H2 x y v u Q I2 rx ry q (hs _ _))
inductive a4d(K:aH)(x:V)(y:V)(H:Hp)(Q:VK):Prop
 |mk (p xs i v:_) (_:x=.ref p) (_:y=.int i) (_:bM K H p xs) (_:Sg xs i=some v) (_:Q v H)
inductive a4e(K:aH)(x:V)(y:V)(H:Hp)(Q:VK):Prop
 |mk (p xs i v:_) (_:x=.ref p) (_:y=.int i) (_:cL K H p xs) (_:Sg xs i=some v) (_:Q v H)
def ž:IxR X (a4d X.K):=by
 intro value slice Y s σ H x y v u Q I rx ry h hs;obtain⟨p,xs,i,z,rfl,rfl,hq,he,q⟩:=h;cases rx;obtain⟨t,rfl⟩:=ry;obtain⟨cA,r,pl,hz⟩:=I.list hq;obtain⟨j,h1,h2,h3,h4,h5⟩:=Ox he;obtain⟨w,ew,Yl⟩:=r.get h2;have hl:=r.length;have hn:=Ou;have fin:EP X Y σ Q w s:=⟨z,H,I,Yl,q⟩;by_cases h0:0<=i
 ·have hj:i.toNat=j:=by
   rw[seqIndex_of h0 h5]at h1;exact dM h1
  exact item_listR pl.isList h0 () (by rw[hj];simpa using ew) fin hs
 ·have hj:(i+(cA.toArray.size:Int)).toNat=j:=by
   rw[seqIndex_neg () h4]at h1;rw[iH,<-hl];exact dM h1
  exact subscriptTail_builtinR (x:=w) pl.isList.typeIs slot_list_getitem.lookup
   (wpAny_getItem_list_neg (Q:=λr s'=>r=w/\EP X Y σ Q r s') pl.isList () (by rw[iH]<;>omega) () (by rw[hj];simpa using ew) ⟨Z,fin⟩) hs
def a1S:IxR X (a4e X.K):=by
 intro value slice Y s σ H x y v u Q I rx ry h hs;obtain⟨p,xs,i,z,rfl,rfl,hq,he,q⟩:=h;cases rx;obtain⟨t,rfl⟩:=ry;obtain⟨cA,r,pl,hz⟩:=I.tuple hq;obtain⟨j,h1,h2,h3,h4,h5⟩:=Ox he;obtain⟨w,ew,Yl⟩:=r.get h2;have hl:=r.length;have hn:=Ou;have fin:EP X Y σ Q w s:=⟨z,H,I,Yl,q⟩;exact subscriptTail_builtinR (x:=w) pl.typeIs slot_tuple_getitem.lookup
  (getItem_tuple (j:=j) (Q:=λr s'=>r=w/\EP X Y σ Q r s') pl () () (by rw[iH,<-hl];exact h1) (by simpa using ew) ⟨Z,fin⟩) hs
def Oz(lo hi:Option Int)(n:Nat):(sliceBounds lo hi none n).1=((HT.lU n 0 lo:Nat):Int)/\(sliceBounds lo hi none n).2.1=((HT.lU n n hi:Nat):Int)/\(sliceBounds lo hi none n).2.2=1:=by
 refine⟨?_,?_,Z⟩
 ·cases lo with
  |none=>simp[sliceBounds,HT.lU]
  |some i =>
   simp only[sliceBounds,HT.lU,Option.getD_none,show(1:Int)>0 by decide,if_true];by_cases h:i<0
   ·simp only[h,if_true]<;>omega
   ·simp only[h,if_false]<;>omega
 ·cases hi with
  |none=>simp[sliceBounds,HT.lU]
  |some i =>
   simp only[sliceBounds,HT.lU,Option.getD_none,show(1:Int)>0 by decide,if_true];by_cases h:i<0
   ·simp only[h,if_true]<;>omega
   ·simp only[h,if_false]<;>omega
def KQ(cA:List Value)(lo hi:Option Int):slicePick cA.toArray lo hi none=((cA.drop (HT.lU cA.length 0 lo)).take (HT.lU cA.length cA.length hi-HT.lU cA.length 0 lo)).toArray:=by
 obtain⟨h1,h2,h3⟩:=Oz lo hi cA.toArray.size;unfold slicePick;rw[h1,h2,h3];simp only[sliceRange_one,pick_run,List.size_toArray]<;>rfl
inductive a6d(K:aH)(x:V)(lo:Option Int)(hi:Option Int)(H:Hp)(Q:VK):Prop
 |mk (a xs:_) (_:x=.ref a) (_:bM K H a xs) (_:∀p,H p=none->Q (.ref p) (cI H p (.lst (uO xs lo hi))))
def Α:SlR X (a6d X.K):=by
 intro Y s σ H x v vl vu lo hi sl Q I rx hs pl pu h;obtain⟨a,xs,rfl,hx,q⟩:=h;cases rx;obtain⟨cA,r,ht,hz⟩:=I.list hx;have hlen:=r.length;refine⟨"list",_,slot_list_getitem.lookup,ht.isList.typeIs,?_⟩;refine wpAny_getItem_list_slice ht.isList hs pl pu .none (by simp) ?_ (by rw[iH]<;>omega);rw[KQ,<-hlen];exact⟨.ref s⁻¹,_,I.laid (t':=s.toks) (o:=.lst (uO xs lo hi)) (λb ob q=>bJ _ q) (aL _) ⟨cZ (Fx xs lo hi) hz,_,0,(r.drop (HT.lU xs.length 0 lo)).take (HT.lU xs.length xs.length hi-HT.lU xs.length 0 lo),bU _ Z⟩,Z,q _ (I.hok.fresh (aL _))⟩
def BZ:V->Bool
 |.non=>true
 |.bl _=>true
 |.int _=>true
 |.str _=>true
 |_=>false
def Ø:V->V->Bool
 |.non,.non=>true
 |.bl a,.bl b=>a==b
 |.bl a,.int b=>(if a then 1 else 0)==b
 |.int a,.bl b=>a==(if b then 1 else 0)
 |.int a,.int b=>a==b
 |.str a,.str b=>a==b
 |_,_=>false
def a1T{A:Around}{s:Shared}{y x:V}{u v:Value}(ry:cV y u)(rx:cV x v)(fy:BZ y=true)(fx:BZ x=true):SeqAt.EqAt A s u v (Ø y x):=by
 cases y with
 |non =>
  cases ry;cases x with
  |non=>cases rx;exact SeqAt.EqAt.same _
  |bl b=>cases rx;exact SeqAt.EqAt.none_bool b
  |int b=>obtain⟨t,rfl⟩:=rx;exact SeqAt.EqAt.none_int b t
  |str b=>obtain⟨t,rfl⟩:=rx;exact SeqAt.EqAt.none_str b t
  |_=>exact absurd (show false=true from fx) cY
 |bl a =>
  cases ry;cases x with
  |non=>cases rx;exact SeqAt.EqAt.bool_none a
  |bl b=>cases rx;exact SeqAt.EqAt.bool_bool a b
  |int b=>obtain⟨t,rfl⟩:=rx;exact SeqAt.EqAt.bool_int a b t
  |str b=>obtain⟨t,rfl⟩:=rx;exact SeqAt.EqAt.bool_str a b t
  |_=>exact absurd (show false=true from fx) cY
 |int a =>
  obtain⟨t',rfl⟩:=ry;cases x with
  |non=>cases rx;exact SeqAt.EqAt.int_none a t'
  |bl b=>cases rx;exact SeqAt.EqAt.int_bool a t' b
  |int b=>obtain⟨t,rfl⟩:=rx;exact SeqAt.EqAt.int_int a t' b t
  |str b=>obtain⟨t,rfl⟩:=rx;exact SeqAt.EqAt.int_str a t' b t
  |_=>exact absurd (show false=true from fx) cY
 |str a =>
  obtain⟨t',rfl⟩:=ry;cases x with
  |non=>cases rx;exact SeqAt.EqAt.str_none a t'
  |bl b=>cases rx;exact SeqAt.EqAt.str_bool a t' b
  |int b=>obtain⟨t,rfl⟩:=rx;exact SeqAt.EqAt.str_int a t' b t
  |str b=>obtain⟨t,rfl⟩:=rx;exact SeqAt.EqAt.str_str a t' b t
  |_=>exact absurd (show false=true from fx) cY
 |_=>exact absurd (show false=true from fy) cY
def UW(x:V)(u:Value):Bool:=match u with
 |.none=>Ø .non x
 |.bool b=>Ø (.bl b) x
 |.int i _=>Ø (.int i) x
 |.str z _=>Ø (.str z) x
 |_=>false
def Ù{x y:V}{u:Value}(r:cV y u)(f:BZ y=true):UW x u=Ø y x:=by
 cases y with
 |non=>cases r;rfl
 |bl b=>cases r;rfl
 |int i=>obtain⟨t,rfl⟩:=r;rfl
 |str z=>obtain⟨t,rfl⟩:=r;rfl
 |_=>exact absurd (show false=true from f) cY
def Hf{x:V}{xs:List V}(h:dz xs us)(f:xs.all BZ=true):us.any (UW x)=xs.any λy=>Ø y x:=by
 induction h with
 |nil=>rfl
 |cons r t ih =>
  rw[List.all_cons,ql]at f;rw[tK,tK,Ù r f.1,ih f.2]
def Ca{A:Around}{s:Shared}{x:V}{v:Value}(rx:cV x v)(fx:BZ x=true){xs:List V}(h:dz xs us)(f:xs.all BZ=true):∀u∈us,SeqAt.EqAt A s u v (UW x u):=by
 induction h with
 |nil=>intro u hu;cases hu
 |cons r t ih =>
  intro u' hu;rw[List.all_cons,ql]at f;rcases b7.mp hu with rfl|hu
  ·rw[Ù r f.1];exact a1T r rx f.1 fx
  ·exact ih f.2 u' hu
def inV(x:V)(xs:List V):Bool:=xs.any λy=>Ø y x
inductive rIn(K:aH)(neg:Bool)(x:V)(y:V)(H:Hp)(Q:VK):Prop
 |mk (p xs:_) (_:y=.ref p) (_:(bM K H p xs\/cL K H p xs)) (_:BZ x=true) (_:xs.all BZ=true) (_:Q (.bl (if neg then !inV x xs else inV x xs)) H)
def Ym:sX X (compareOp .In) (rIn X.K false):=by
 intro Y s σ H x y v u Q I rx ry h;obtain⟨p,xs,rfl,hq,fx,fs,q⟩:=h;cases ry;rcases hq with hq|hq
 ·obtain⟨cA,r,pl,hz⟩:=I.list hq;refine SeqAt.in_listAt (UW x) pl.isList (λw hw=>Ca rx fx r fs w (by simpa using hw)) ⟨.bl _,H,I,Z,?_⟩;rw[show cA.toArray.any (UW x)=cA.any (UW x) by simp,Hf r fs];exact q
 ·obtain⟨cA,r,pl,hz⟩:=I.tuple hq;refine SeqAt.in_tupleAt (UW x) pl (λw hw=>Ca rx fx r fs w (by simpa using hw)) ⟨.bl _,H,I,Z,?_⟩;rw[show cA.toArray.any (UW x)=cA.any (UW x) by simp,Hf r fs];exact q
def OD:sX X (compareOp .NotIn) (rIn X.K true):=by
 intro Y s σ H x y v u Q I rx ry h;obtain⟨p,xs,rfl,hq,fx,fs,q⟩:=h;cases ry;rcases hq with hq|hq
 ·obtain⟨cA,r,pl,hz⟩:=I.list hq;refine SeqAt.notIn_listAt (UW x) pl.isList (λw hw=>Ca rx fx r fs w (by simpa using hw)) ⟨.bl _,H,I,Z,?_⟩;rw[show cA.toArray.any (UW x)=cA.any (UW x) by simp,Hf r fs];exact q
 ·obtain⟨cA,r,pl,hz⟩:=I.tuple hq;refine SeqAt.notIn_tupleAt (UW x) pl (λw hw=>Ca rx fx r fs w (by simpa using hw)) ⟨.bl _,H,I,Z,?_⟩;rw[show cA.toArray.any (UW x)=cA.any (UW x) by simp,Hf r fs];exact q
def OJ:jL X (.builtin "len") (λxs H Q=>∃p ys,xs=[.ref p]/\(bM X.K H p ys\/cL X.K H p ys)/\Q (.int ys.length) H):=by
 intro Y s σ H xs us Q I r h;obtain⟨p,ys,rfl,hq,q⟩:=h;obtain⟨u,rfl,rx⟩:=vals1 r;cases rx;have hn:=Ou;rcases hq with hq|hq
 ·obtain⟨cA,r',pl,hz⟩:=I.list hq;have hlen:=r'.length;exact Calls.call_len_list pl.isList (by simp only[List.size_toArray]<;>omega) ⟨.int ys.length,H,I.tok _,⟨s.toks+1,by rw[iH,hlen]⟩,q⟩
 ·obtain⟨cA,r',pl,hz⟩:=I.tuple hq;have hlen:=r'.length;exact len_tuple pl (by simp only[List.size_toArray]<;>omega) ⟨.int ys.length,H,I.tok _,⟨s.toks+1,by rw[iH,hlen]⟩,q⟩
def O1:jL X (.type "list") (λxs H Q=>∃p ys,xs=[.ref p]/\(bM X.K H p ys\/cL X.K H p ys)/\∀l,H l=none->Q (.ref l) (cI H l (.lst ys))):=by
 intro Y s σ H xs us Q I r h;obtain⟨p,ys,rfl,hq,q⟩:=h;obtain⟨u,rfl,rx⟩:=vals1 r;cases rx;have fin:∀(cA:List Value),dz ys cA->ys.length<=sizeLine->∀(h':Heap) (c':Nat),(∀b o',s.heap.get? b=some o'->h'.get? b=some o')->
   h'.get? s⁻¹=some { cls:=.type "list",dict:=none,data:=.seq cA.toArray c',slots:=#[]}->EP X Y σ Q (.ref s⁻¹) { s with heap:=h'}:=λcA r' hz h' c' kp e =>
  ⟨.ref s⁻¹,_,I.laid (t':=s.toks) kp (aL _) (show fZ X.prog X.w _ h' _ (.lst ys)from⟨hz,cA,c',r',e⟩),Z,q _ (I.hok.fresh (aL _))⟩
 rcases hq with hq|hq
 ·obtain⟨cA,r',pl,hz⟩:=I.list hq;have hlen:=r'.length;obtain⟨o,ho,hc,n,hd⟩:=pl.isList;exact call_list_seq p (.inl Z) ho hc hd (λh' c' kp e=>fin cA r' hz h' c' kp e) (by simp only[List.size_toArray]<;>omega)
 ·obtain⟨cA,r',pl,hz⟩:=I.tuple hq;have hlen:=r'.length;obtain⟨o,ho,hc,n,hd⟩:=pl;exact call_list_seq p (.inr Z) ho hc hd (λh' c' kp e=>fin cA r' hz h' c' kp e) (by simp only[List.size_toArray]<;>omega)
def j9:jL X (.type "tuple") (λxs H Q=>∃p ys,xs=[.ref p]/\((bM X.K H p ys/\∀l,H l=none->Q (.ref l) (cI H l (.tup ys)))\/(cL X.K H p ys/\Q (.ref p) H))):=by
 intro Y s σ H xs us Q I r h;obtain⟨p,ys,rfl,h⟩:=h;obtain⟨u,rfl,rx⟩:=vals1 r;cases rx;rcases h with⟨hq,q⟩|⟨hq,q⟩
 ·obtain⟨cA,r',pl,hz⟩:=I.list hq;have hlen:=r'.length;refine call_tuple_list pl.isList (λh' kp=>?_) (by simp only[List.size_toArray]<;>omega);have I1:bI X Y σ H { s with heap:=h'}:=I.kept (t':=s.toks) kp;have I2:bI X Y σ (cI H h'.objs.size (.tup ys)) { s with heap:=h'.push { cls:=.type "tuple",data:=.seq cA.toArray}} :=
   I1.laid (t':=s.toks) (λb o e=>bJ _ e) (aL _) (show fZ X.prog X.w _ _ _ (.tup ys)from⟨hz,cA,r',IsTup.new _ _⟩)
  exact⟨.ref h'.objs.size,_,I2,Z,q _ (I1.hok.fresh (aL _))⟩
 ·obtain⟨cA,r',pl,hz⟩:=I.tuple hq;exact call_tuple_same pl ⟨.ref p,H,I,Z,q⟩
def tyV(K:aH)(T:String)(x:V)(H:Hp):Prop:=match x with
 |.str _=>T = "str"
 |.int _=>T = "int"
 |.ref p=>(T = "list" /\∃xs,bM K H p xs)\/(T = "tuple" /\∃o,K.lookup p=some o/\o.cls=.type "tuple" /\o.dict=none)\/
   (T = "dict" /\((∃O,H p=some (.dK O))\/∃O,H p=some (.dT O)))\/(T = "set" /\∃S n,H p=some (.set S n))
 |_=>False
def Ú{Y:List (Addr×Obj)}{σ:St}{H:Hp}{s:Shared}{T:String}{x:V}{v:Value}(I:bI X Y σ H s)(r:cV x v)(ty:tyV X.K T x H) :
  s.TypeIs v T/\∀a,v=.ref a->∃ob,s.heap.get? a=some ob/\ob.dict=none:=by
 cases x with
 |str z =>
  obtain⟨t,rfl⟩:=r;cases(show T = "str" from ty);exact⟨typeIs_str s z t,λ_ e=>nomatch e⟩
 |int i =>
  obtain⟨t,rfl⟩:=r;cases(show T = "int" from ty);exact⟨typeIs_int s i t,λ_ e=>nomatch e⟩
 |ref p =>
  cases r;rcases ty with⟨rfl,xs,hq⟩|⟨rfl,o,hk,hc,hd⟩|⟨rfl,hk⟩|⟨rfl,S,n,hk⟩
  ·obtain⟨cA,_,pl,_⟩:=I.list hq;refine⟨pl.isList.typeIs,λa e=>?_⟩;cases e;obtain⟨o,n,e,c,hd,_⟩:=pl;exact⟨o,e,hd⟩
  ·refine⟨⟨o,I.Ds p o hk,hc⟩,λa e=>?_⟩;cases e;exact⟨o,I.Ds _ o hk,hd⟩
  ·have z:∃o,s.heap.get? p=some o/\o.ExactDict:=by
    rcases hk with⟨O,hk⟩|⟨O,hk⟩
    ·obtain⟨_,_,_,_,o,_,_,e,ex,_⟩:=I.hok p _ hk;exact⟨o,e,ex⟩
    ·obtain⟨_,_,_,_,o,_,_,e,ex,_⟩:=I.hok p _ hk;exact⟨o,e,ex⟩
   obtain⟨o,e,ex⟩:=z;refine⟨⟨o,e,ex.1⟩,λa e2=>?_⟩;cases e2;exact⟨o,e,ex.2.1⟩
  ·obtain⟨o,_,_,_,e,ex,_⟩:=I.hok p _ hk;refine⟨⟨o,e,ex.1⟩,λa e2=>?_⟩;cases e2;exact⟨o,e,ex.2.1⟩
 |_=>exact False.elim ty
def a4f(K:aH)(T:String)(r:V->List V->Hp->VK->Prop)(to:TE):TE:=λσ H Q=>to σ H λx H1=>tyV K T x H1/\r x [] H1 Q
def tBM(K:aH)(T:String)(r:V->List V->Hp->VK->Prop)(to:TE)(t:TA):TE:=λσ H Q=>to σ H λx H1=>tyV K T x H1/\t σ H1 λxs H2=>r x xs H2 Q
variable{o e:Expr}{es:List Expr}{to:TE}{t:TA}{name:Str}{apos cpos:Pos}{T id:String}{r:V->List V->Hp->VK->Prop}
def a1U(pa:PlainAttrs T)(slot:Slot T name id)(hty:typeOf (.builtin id)=pure (.type "method_descriptor"))(hm:MtR X id r)(ho:PE X o to)
  (hbase:@&(attributeBase o name X.env (eval o X.env)=eval o X.env)) (hline:@&((apos.endLine==cpos.line)=true)):PE X (.Call (.Attribute o name apos) [] [] cpos) (a4f X.K T r to):=by
 intro Y s σ H Q I h;refine wpAny_Call_method0_late hbase hline (jJ (ho Y s σ H _ I h) λv s1 ⟨x,H1,I1,r1,ty,q1⟩=>?_);obtain⟨h1,h2⟩:=Ú I1 r1 ty;exact⟨T,id,pa,slot,hty,h1,h2,SJ Z (PySem.evalArgs_none (hm Y s1 σ H1 x [] v [] Q I1 r1 .nil q1))⟩
def a4g(pa:PlainAttrs T)(slot:Slot T name id)(hty:typeOf (.builtin id)=pure (.type "method_descriptor"))(hm:MtR X id r)(ho:PE X o to)(ha:PA X (e::es) t)
  (hbase:@&(attributeBase o name X.env (eval o X.env)=eval o X.env))
  (hfew:@&(((backTo cpos (starEach (e::es) X.env)).all (λx=>!x.1)&&(backToKw cpos (keywordEach [] X.env)).all (λx=>x.1.isSome)
   && decide ((e::es).length+([]:List Keyword).length+(if([]:List Keyword).isEmpty then 0 else 1)<30))=true))
  (hline:@&((apos.endLine==cpos.line)=true)) (hs:@&(starEach (e::es) X.env=(false,eval e X.env)::starEach es X.env)) (hplain:@&((backTo cpos (starEach es X.env)).any (·.1)=false)) :
  PE X (.Call (.Attribute o name apos) (e::es) [] cpos) (tBM X.K T r to t):=by
 intro Y s σ H Q I h;refine wpAny_Call_method_late hbase hfew hline Z (jJ (ho Y s σ H _ I h) λv s1 ⟨x,H1,I1,r1,ty,q1⟩=>?_);obtain⟨h1,h2⟩:=Ú I1 r1 ty;refine⟨T,id,pa,slot,hty,h1,h2,?_⟩;have hA:=ha cpos Y s1 σ H1 _ I1 q1;rw[hs]at hA ⊢;refine SJ (by show(false||(backTo cpos (starEach es X.env)).any (·.1))=false;rw[hplain]<;>rfl) (Calls.evalArgs_plain ?_);exact jJ hA λus s2 ⟨vs,H2,I2,r2,q2⟩=>hm Y s2 σ H2 x vs v us Q I2 r1 r2 q2
end
def U4(X:Cx)(id:String)(r:V->List V->Hp->VK->Prop):Prop :=
 ∀(Y:List (Addr×Obj)) (s:Shared) (σ:St) (H:Hp) (x:V) (xs:List V) (v:Value) (us:List Value) (Q:VK),bI X Y σ H s->cV x v->dz xs us->r x xs H Q->
  wpAny (model X.prog X.w) X.A (call (.builtin id) (v::us)) (EP X Y σ Q) X.xe s
def dz.cW{x:V}(h:dz [x] us):∃u,us=[u]/\cV x u:=by
 cases h with
 |cons r t =>
  cases t;exact⟨_,Z,r⟩
def dz.zero:∀{us:List Value},dz [] us->us=[]
 |_,.nil=>rfl
def dz.dropLast{xs:List V}{us:List Value}(h:dz xs us):dz xs.dropLast us.dropLast:=by
 induction h with
 |nil=>exact .nil
 |cons r t ih =>
  cases t with
  |nil=>exact .nil
  |cons q t'=>exact .cons r ih
def U5(l:List α):l.eraseIdx (l.length-1)=l.dropLast:=by
 induction l with
 |nil=>rfl
 |cons a r ih =>
  cases r with
  |nil=>rfl
  |cons b r =>
   have e:(a::b::r).length-1=((b::r).length-1)+1:=by
    have h1:(a::b::r).length=r.length+2:=rfl;have h2:(b::r).length=r.length+1:=rfl;omega
   rw[e,List.eraseIdx_cons_succ,ih];all_goals rfl
section
variable{Y:List (Addr×Obj)}{σ:St}{H:Hp}{s:Shared}{l b:Addr}{xs ys zs:List V}
def bI.a1V{cA its':List Value}{n:Nat}{f:Array Value->Array Value}{t':Nat}(I:bI X Y σ H s)(hH:H l=some (.lst xs))
  (e:s.heap.get? l=some { cls:=.type "list",data:=.seq cA.toArray n}) (hf:f cA.toArray=its'.toArray) (hv:dz ys its') (hz:ys.length<=sizeLine) :
  bI X Y σ (cI H l (.lst ys)) { s with heap:=s.heap.update l (Obj.mapSeq f),toks:=t'}:=by
 have q:=PySem.IsL.update e f;rw[hf]at q;refine I.write (x:=l) (e:=l) (by rw[hH];exact trivial) (.inl Z) (λb' u hb hu=>(SM s.heap (Obj.mapSeq f) (Ne.symm hb)).trans hu) ⟨_,q⟩ ?_;exact⟨hz,its',_,hv,q⟩
def bI.a6e{cA:List Value}{t':Nat}(I:bI X Y σ H s)(hv:dz ys cA)(hz:ys.length<=sizeLine) :
  bI X Y σ (cI H s⁻¹ (.lst ys)) { s with heap:=s.heap.push { cls:=.type "list",data:=.seq cA.toArray},toks:=t'} :=
 I.laid (λ_ _ q=>bJ _ q) (aL _) ⟨hz,cA,0,hv,bU _ Z⟩
def bI.fresh(I:bI X Y σ H s):H s⁻¹=none:=I.hok.fresh (aL _)
def bI.Yn(I:bI X Y σ H s)(hH:H l=some (.lst xs)):xs.length<=sizeLine/\∃(cA:List Value) (n:Nat),dz xs cA/\xs.length=cA.length/\s.heap.get? l=some { cls:=.type "list",data:=.seq cA.toArray n}:=by
 obtain⟨z,cA,n,r,e⟩:=I.hok l _ hH;exact⟨z,cA,n,r,r.length,e⟩
end
inductive Β(x:V)(vs:List V)(H:Hp)(Q:VK):Prop
 |mk (l xs y:_) (_:x=.ref l) (_:vs=[y]) (_:H l=some (.lst xs)) (_:xs.length<sizeLine) (_:Q .non (cI H l (.lst (xs++[y]))))
def Yo:U4 X "list.append" Β:=by
 intro Y s σ H x vs v us Q I rx rv h;obtain⟨l,xs,y,rfl,rfl,hH,hz,q⟩:=h;cases rx;obtain⟨u,rfl,ru⟩:=rv.cW;obtain⟨z,cA,n,r,hl,e⟩:=I.Yn hH;refine Ja F.slot_list_append ⟨_,e,Z⟩ F.entry_list_append (F.args_list_append_2 _ _) (PySem.list_append l cA.toArray n u (by rw[List.size_toArray];omega)) ⟨e,?_⟩;refine⟨.non,_,I.a1V (its':=cA++[u]) hH e (by simp) (r.append (.cons ru .nil)) ?_,Z,q⟩;rw[cC,zX];omega
inductive a6f(x:V)(vs:List V)(H:Hp)(Q:VK):Prop
 |mk (l xs y:_) (_:x=.ref l) (_:vs=[]) (_:H l=some (.lst xs)) (_:xs[xs.length-1]?=some y) (_:Q y (cI H l (.lst xs.dropLast)))
def a1W:U4 X "list.pop" a6f:=by
 intro Y s σ H x vs v us Q I rx rv h;obtain⟨l,xs,y,rfl,rfl,hH,hy,q⟩:=h;cases rx;have hus:=rv.zero;subst hus;obtain⟨z,cA,n,r,hl,e⟩:=I.Yn hH;obtain⟨u,hu,ru⟩:=r.get hy;have hy':cA.toArray[cA.toArray.size-1]?=some u:=by
  show cA.toArray[cA.length-1]?=some u;rw[<-Ie,<-hl];exact hu
 refine Ja F.slot_list_pop ⟨_,e,Z⟩ F.entry_list_pop (F.args_list_pop_1 _) (MeetsSeq.list_pop_last l cA.toArray n u hy' (by rw[iH];omega)) ⟨e,?_⟩;refine⟨y,_,I.a1V (its':=cA.dropLast) hH e ?_ r.dropLast ?_,ru,q⟩
 ·show cA.toArray.eraseIdxIfInBounds (cA.toArray.size-1)=cA.dropLast.toArray;rw[iH,List.eraseIdxIfInBounds_toArray,U5]
 ·rw[S8];omega
inductive a1X(x:V)(vs:List V)(H:Hp)(Q:VK):Prop
 |mk (l xs:_) (_:x=.ref l) (_:vs=[]) (_:H l=some (.lst xs)) (_:Q .non (cI H l (.lst [])))
def Û:U4 X "list.clear" a1X:=by
 intro Y s σ H x vs v us Q I rx rv h;obtain⟨l,xs,rfl,rfl,hH,q⟩:=h;cases rx;have hus:=rv.zero;subst hus;obtain⟨z,cA,n,r,hl,e⟩:=I.Yn hH;refine Ja F.slot_list_clear ⟨_,e,Z⟩ F.entry_list_clear (F.args_list_clear_1 _) (AutoSeq1.list_clear_list_0 l cA.toArray n (by rw[iH];omega)) ⟨e,?_⟩;exact⟨.non,_,I.a1V (its':=[]) (ys:=[]) hH e Z .nil (dh _),Z,q⟩
inductive a6g(x:V)(y:V)(H:Hp)(Q:VK):Prop
 |mk (l b xs zs:_) (_:x=.ref l) (_:y=.ref b) (_:H l=some (.lst xs)) (_:H b=some (.lst zs)) (_:xs.length+zs.length<=sizeLine) (_:∀p,H p=none->Q (.ref p) (cI H p (.lst (xs++zs))))
def a1Y:sX X (binaryOp .Add) a6g:=by
 intro Y s σ H x y v u Q I rx ry h;obtain⟨l,b,xs,zs,rfl,rfl,hH,hB,hz,q⟩:=h;cases rx;cases ry;obtain⟨z,cA,n,r,hl,e⟩:=I.Yn hH;obtain⟨z2,its2,n2,r2,hl2,e2⟩:=I.Yn hB;refine PySem.P.add_list e e2 ?_ (by rw[iH,iH];omega);have ea:cA.toArray++its2.toArray=(cA++its2).toArray:=by simp
 rw[ea];exact⟨.ref _,_,I.a6e (t':=s.toks) (r.append r2) (by rw[List.length_append];omega),Z,q _ I.fresh⟩
end L2
namespace Att
open PySem.W PySem.Calls PyProof.Rows
def Gp{P:Params}{h:Heap}:∀(ns:List Int) (vs:List Value),WellAll P h vs (ns.map WData.int)->IntsAre vs ns:=by
 intro ns
 induction ns with
 |nil =>
  intro vs w;rw[List.map_nil]at w;cases w;exact .nil
 |cons n ns ih =>
  intro vs w;rw[cH]at w;cases w with
  |cons a b =>
   cases a;exact .cons _ _ (ih _ b)
def Yp{l : OpenLaw}{n : Nat}(hn : l.most = some n){P : Params}{h : Heap}{args : List WData}{vals : List Value}
    (hpre : l.row.toRowW.claim.pre args = true) (hwl : WellAll P h vals args) :
    ∃ a vs ns, vals = [Value.ref a] ∧ args = [WData.list (ns.map WData.int)] ∧ h.get? a = some { cls := .type "list", data := .seq vs.toArray } ∧ IntsAre vs ns ∧ ns.length ≤ n := by
  have hsh : WShape.hasAll [] args [.list .int] = true := (pre_splitW hpre).1;have hc : l.pre.holds [] { args := args } = true := (pre_splitW hpre).2;obtain ⟨d, r, rfl, h1, h2⟩ := hasAllW_cons hsh;obtain rfl := hasAllW_nil h2;obtain ⟨xs, rfl, h3⟩ := hasW_list h1;obtain ⟨ns, rfl⟩ := items_int h3;have hlen : ns.length ≤ n := by
    unfold OpenLaw.pre at hc;have h4 : (WTm.not (.lt (.lit (.int (n : Int))) (.len (.arg 0)))).holds [] { args := [.list (ns.map .int)] } = true := by
      have h4 := (holds_andW hc).1;rw [hn] at h4;exact h4
    have h5 := condW_of h4 (w_not (w_lt w_lit (w_len_list (w_arg Z))));rw [aK] at h5;refine Nat.le_of_not_lt fun q => ?_;have q' : (n : Int) < ((ns.length : Nat) : Int) := by omega
    first
      | (rw [bB q'] at h5; exact absurd h5 ())
      | (simp at h5; omega)
  cases hwl with
  | cons w1 w2 =>
    cases w2;cases w1 with
    | list ho hall => exact ⟨_, _, ns, Z, Z, ho, Gp ns _ hall, hlen⟩
def Yq(l : OpenLaw)(args : List WData) : l.row.toRowW.claim.post args (.bool true) args = true :=
  postW_of (r := l.row.toRowW) (X := (true == true))
    (show WShape.has [] (.bool true) .bool = true by first | rfl | decide | simp [WShape.has, WShape.arms, WShape.armsAll])
    (show (WTm.eq .res (.lit (.bool true))).value [] { args := args, res := some (.bool true), after := args } = some (.bool (true == true)) from w_eq_bool (w_res Z) w_lit) rfl
def QL{l:OpenLaw}{n:Nat}{q:Program}{loose:List Str}{XP:(Str->Option Value)->Heap->Prop}{YP:World->Heap->Prop}{d:DefRec}
  (hn:l.most=some n) (hdf:d.params.defaults=[])
  (call:∀(w:World) (s₀ s₁:Shared) (mg mb:Str->Option Value) (fa:Addr) (o:Obj) (pm cd doc:Value) (a:Addr) (vs:List Value) (ns:List Int),
   Ground q loose [] XP w s₀ mg mb s₁.heap->YP w s₁.heap->
   s₁.heap.get? fa=some o->o.data=.func (docDef d.name d.params d.body d.scope pm cd doc)->s₁.heap.CodeRec cd d.name->mg d.name=some (.ref fa)->
   s₁.heap.get? a=some { cls:=.type "list",data:=.seq vs.toArray}->IntsAre vs ns->ns.length<=n->s₁.gens = #[]->
   codeAny (model l.prog w) callerA (.call (.ref fa) ⟨[.ref a],[]⟩) (λr s'=>r=.ok (.ret (.bool true))/\OldK s₁.heap s'.heap/\s'.os=s₁.os/\AllBare s'.gens) s₁) :
  WalkO q loose XP YP l.row.toRowW d [] (λf vs=>PySem.call f vs):=by
 intro w s₀ s₁ mg mb G Z99 fa o pm cd doc dV kV ho hd hcd hD hmg hg args vals as hpre hlay hrd hwl hlo;obtain rfl:dV=.none:=Dflts.none hD hdf;obtain rfl:kV=.none:=Dflts.noKw hD;obtain⟨a,vs,ns,rfl,rfl,hobj,hints,hlen⟩:=Yp hn hpre hwl;refine enter_call (Ed (call w s₀ s₁ mg mb fa o pm cd doc a vs ns G Z99 ho (fd_plain hd) hcd hmg hobj hints hlen hg) λr s' hq=>?_);obtain⟨rfl,h2,h3,h4⟩:=hq;exact⟨.inl ⟨.bool true,.bool true,[],Z,λ_=>rfl,.bool true,Yq l _,λ_=>⟨List.Pairwise.nil,λ_ hm=>(nomatch hm)⟩⟩,h2,h3,h4⟩
end Att
namespace L2
open PyProof.Rows
variable{X:Cx}{σ:St}{ix:List (Option Nat)}{x qual:Str}{Y:List (Addr×Obj)}{a it:Addr}{n k:Nat}{scope:Scope}{g:TG}{tt:TT}{te:TE}{pos:Pos}{H1 H':Hp}{Q:VK}{o:HO}{N':List Str}{tg elt iter:Expr}{w:World}{fd:FuncData}{A B:Prop}{R:Result->Shared->Prop}{ifs es:List Expr}{r:V->List V->Hp->VK->Prop}
def LQ:∀{vs:List Value}{ns:List Int},IntsAre vs ns->dz (ns.map V.int) vs
 |_,_,.nil=>.nil
 |_,_,.cons n t h=>.cons ⟨t,Z⟩ (LQ h)
def Only(H:Hp):Prop:=∀b,H b=none\/∃o xs,H b=some (.iC o (.lst xs))
def Ü{P:Program}{K:aH}{mg mb:Str->Option Value}{CX:R9}{fa:Addr}{sp:Sp}{s₁:Shared}{vs:List Value}{ns:List Int}
  (KX:K.In s₁.heap) (hns:s₁.heap.Ns mainGlobals mg) (hb:s₁.heap.Ns builtinsNs mb) (hbb:∀x:Str,x≠ "__name__" ->mb x=bootBuiltins x) (hlim:s₁.heap.NoLimit) (hg:s₁.gens = #[])
  (ha:s₁.heap.get? a=some { cls:=.type "list",data:=.seq vs.toArray}) (hi:IntsAre vs ns) (hl:ns.length<=sizeLine) (hr:sO k callerA)
  (F:∀base:Heap,K.In base->base.Ns mainGlobals mg->bf P w K mg base CX k fa fd [x] sp) (hbind:∀(s:Shared) (u:Value),BindsTo s fd ⟨[u],[]⟩ [(x,u)])
  (hsp:∀H:Hp,Only H->bM K H a (ns.map V.int)->sp [.ref a] H (λv _=>v=.bl true) λ_ _ _=>False)
  (hCX:∀H e s',CX [] H s₁ (λ_ _ _=>False) e s'->False) :
  codeAny (model P w) callerA (.call (.ref fa) ⟨[.ref a],[]⟩) (λr s'=>r=.ok (.ret (.bool true))/\OldK s₁.heap s'.heap/\s'.os=s₁.os/\AllBare s'.gens) s₁:=by
 have rv:=LQ hi;have lenV:=hi.length;have core:∀H:Hp,Only H->bM K H a (ns.map V.int)->zE P w H s₁.heap->(∀b,H b≠none->b=a)->(H a≠none->K.lookup a=none)->
   codeAny (model P w) callerA (.call (.ref fa) ⟨[.ref a],[]⟩) (λr s'=>r=.ok (.ret (.bool true))/\OldK s₁.heap s'.heap/\s'.os=s₁.os/\AllBare s'.gens) s₁:=by
  intro H hO hS hok hA hK;have Wr:∀{b:Addr}{o:Obj},s₁.heap.get? b=some o->H b=none->(Oo s₁.heap H).get? b=some o:=λe n=>Å e n;have noA:∀{b:Addr}{o:Obj}{es:Array DictEntry}{ep:Nat},s₁.heap.get? b=some o->o.data=.dict es ep->H b=none:=λ{b o es ep} e d=>by
   cases q:H b with
   |none=>rfl
   |some u =>
    have e':b=a:=hA b (by rw[q];simp);subst e';rw[ha]at e;cases e;have d':Data.seq vs.toArray _=Data.dict es ep:=d;cases d'
  have nsK:∀{b:Addr}{m:Str->Option Value},s₁.heap.Ns b m->(Oo s₁.heap H).Ns b m:=λ{b m} ⟨o,es,ep,e,d,r⟩=>⟨o,es,ep,Wr e (noA e d),d,r⟩;have hKb:K.In (Oo s₁.heap H):=λb o e=>Wr (KX b o e) (by
   cases q:H b with
   |none=>rfl
   |some u =>
    have e':b=a:=hA b (by rw[q];simp);subst e';rw[hK (by rw[q];simp)]at e;cases e)
  have hM:Mod K mg (Oo s₁.heap H):=⟨hKb,nsK hns,⟨mb,nsK hb,hbb⟩,let⟨mc,h1,h2⟩:=hlim;⟨mc,nsK h1,h2⟩⟩;have e0:Uy P w K mg (Oo s₁.heap H) callerA [] s₁ H:=⟨Z,hM,λb o e=>ű e,Og (Yc _ _),trivial,λb hb=>absurd (show b∈([]:List Addr)from hb) (by simp),hok,.of_eq hg⟩;refine Ed ((F _ hKb (nsK hns)).run callerA [] s₁ H ⟨[.ref a],[]⟩ [.ref a] [.ref a] _ _ hr e0 (hbind s₁ (.ref a)) (.cons Z .nil) (hsp H hO hS)) λr s' h=>?_;cases r with
  |error e=>exact(hCX H e s' h).elim
  |ok fl =>
   cases fl with
   |next=>exact False.elim h
   |brk=>exact False.elim h
   |cont=>exact False.elim h
   |ret u =>
    obtain⟨v,H',os,bare,un,hok',r',q⟩:=h;have q':v=.bl true:=q;subst q';obtain rfl:u=Value.bool true:=r';refine⟨Z,OldK.of_keep λb o e=>?_,os,bare⟩;cases q:H b with
    |none=>exact un.keep b o e q (by intro z;exact absurd (show b∈([]:List Addr)from z) (by simp)) (by simp)
    |some u =>
     rcases hO b with z|⟨ob,xs,z⟩
     ·rw[q]at z;cases z
     ·have z2:=un.Jd b ob _ z;obtain⟨e1,_⟩:=hok b _ z;obtain⟨e2,_⟩:=hok' b _ z2;rw[e]at e1;cases e1;exact e2
 cases hk:K.lookup a with
 |some o =>
  have e:=KX a o hk;rw[ha]at e;cases e;refine core (λ_=>none) (λ_=>.inl Z) (.inr ⟨_,vs.toArray,_,hk,Z,Z,Z,by rw[iH,lenV];exact hl,by simpa using rv⟩) (λb u z=>by have z':(none:Option HO)=some u:=z;cases z') (λb z=>absurd Z z) λz=>absurd Z z
 |none =>
  refine core (λb=>if b=a then some (.iC { cls:=.type "list",data:=.seq vs.toArray} (.lst (ns.map V.int)))else none) (λb=>?_) (.inl (.inr ⟨{ cls:=.type "list",data:=.seq vs.toArray},aG Z⟩)) (λb u z=>?_) (λb z=>?_) λ_=>hk
  ·by_cases hb:b=a
   ·exact .inr ⟨_,_,aG hb⟩
   ·exact .inl (aA hb)
  ·by_cases hb:b=a
   ·have z':=(aG hb).symm.trans z;cases z';subst hb;exact⟨ha,by rw[aK];exact hl,vs,_,rv,ha⟩
   ·have z':=(aA hb).symm.trans z;cases z'
  ·by_cases hb:b=a
   ·exact hb
   ·exact absurd (aA hb) z
abbrev KOf{K:aH}{h:Heap}(_:K.In h):aH:=K
def Δ{l:PySem.W.OpenLaw}{q:Program}{loose:List Str}{XP:(Str->Option Value)->Heap->Prop}{YP:World->Heap->Prop}{d:DefRec}{K:Params->aH}{CX:World->R9}{sp:World->Sp}
  (hn:l.most=some n) (hn2:n<=sizeLine) (hdf:d.params.defaults=[]) (hr:sO k callerA)
  (hY:∀(w:World) (h:Heap),YP w h->(K w.params).In h)
  (F:∀(w:World) (mg:Str->Option Value) (fa:Addr) (h:Heap),(K w.params).In h->h.Ns mainGlobals mg->mg d.name=some (.ref fa)->
   ∃fd:FuncData,(∀(s:Shared) (u:Value),BindsTo s fd ⟨[u],[]⟩ [(x,u)])/\
    ∀base:Heap,(K w.params).In base->base.Ns mainGlobals mg->bf l.prog w (K w.params) mg base (CX w) k fa fd [x] (sp w))
  (hsp:∀(w:World) (H:Hp) (a:Addr) (ns:List Int),ns.length<=n->Only H->bM (K w.params) H a (ns.map V.int)->sp w [.ref a] H (λv _=>v=.bl true) λ_ _ _=>False)
  (hCX:∀(w:World) (H:Hp) (s:Shared) (e:Value) (s':Shared),CX w [] H s (λ_ _ _=>False) e s'->False) :
  PySem.W.WalkO q loose XP YP l.row.toRowW d [] (λf vs=>PySem.call f vs):=by
 refine Att.QL hn hdf λw s₀ s₁ mg mb fa o pm cd doc a vs ns G Z99 ho hd hcd hmg hobj hints hlen hg=>?_;have KX:=hY w _ Z99;obtain⟨fd,hb,hF⟩:=F w mg fa _ KX G.T.g hmg;exact Ü KX G.T.g G.T.b G.T.builtins G.T.nolimit hg hobj hints (cZ hlen hn2) hr hF hb (λH hO hS=>hsp w H a ns hlen hO hS) λH e s'=>hCX w H s₁ e s'
def Ý{l:PySem.W.OpenLaw}{q:Program}{loose:List Str}{XP:(Str->Option Value)->Heap->Prop}{YP:World->Heap->Prop}{d:DefRec}{K:Params->aH}{CX:R9}{sp:aH->Sp}
  (hn:l.most=some n) (hn2:n<=sizeLine) (hdf:d.params.defaults=[]) (hr:sO k callerA)
  (hY:∀(w:World) (h:Heap),YP w h->(K w.params).In h)
  (F:∀(w:World) (mg:Str->Option Value) (fa:Addr) (h:Heap),(K w.params).In h->h.Ns mainGlobals mg->mg d.name=some (.ref fa)->
   ∃fd:FuncData,(∀(s:Shared) (u:Value),BindsTo s fd ⟨[u],[]⟩ [(x,u)])/\
    ∀base:Heap,(K w.params).In base->base.Ns mainGlobals mg->bf l.prog w (K w.params) mg base CX k fa fd [x] (sp (K w.params)))
  (hsp:∀(K:aH) (H:Hp) (a:Addr) (ns:List Int),ns.length<=n->Only H->bM K H a (ns.map V.int)->sp K [.ref a] H (λv _=>v=.bl true) λ_ _ _=>False)
  (hCX:∀(H:Hp) (s:Shared) (e:Value) (s':Shared),CX [] H s (λ_ _ _=>False) e s'->False) :
  PySem.W.WalkO q loose XP YP l.row.toRowW d [] (λf vs=>PySem.call f vs) :=
 Δ (K:=K) (CX:=λ_=>CX) (sp:=λw=>sp (K w.params)) hn hn2 hdf hr hY F (λw H a ns h1 h2 h3=>hsp (K w.params) H a ns h1 h2 h3) λ_ H s e s'=>hCX H s e s'
def inClass(s:Stmt)(j:Nat):Stmt:=match s with
 |.ClassDef _ _ _ body _ _ _ _ _ _ _=>body.getD j (.Pass ⟨0,0,0,0⟩)
 |_=>.Pass ⟨0,0,0,0⟩
def gZ(s:Stmt):Arguments:=match s with
 |.FunctionDef _ a _ _ _ _ _ _ _ _=>a
 |_=>{ posonlyargs:=[],args:=[],vararg:=none,kwonlyargs:=[],kw_defaults:=[],kwarg:=none,defaults:=[]}
def gA(s:Stmt):List Stmt:=match s with
 |.FunctionDef _ _ b _ _ _ _ _ _ _=>b
 |_=>[]
def aF(s:Stmt):Scope:=match s with
 |.FunctionDef _ _ _ _ _ _ sc _ _ _=>sc
 |_=>{ kind:=.function,names:=[],isGenerator:=false,isCoroutine:=false}
abbrev gb:R9:=λ_ _ _ _ _ _=>False
abbrev E0:XK:=λ_ _ _=>False
def b8:Aj gb X E0:=λ_ _ _ _ _ _ _ h=>h.elim
structure Fun(K:aH)(x qual:Str)(st:Stmt)(f:Addr)(fd:FuncData):Prop where
 ex:∃(oc:Value) (od:Option Addr) (kV doc pm:Value) (an:Option Addr) (eV ct:Value) (osl:Array (Option Value)),
  fd=PySem.W.fnOf x qual (gZ st) (gA st) (aF st) .none kV doc pm an eV ct/\K.lookup f=some ⟨oc,od,.func fd,osl⟩/\PySem.W.codeIn K eV qual=true
 kp:PySem.W.keepIn K (.ref f)=true
section
variable{P:Program}{K:aH}{mg:Str->Option Value}{base:Heap}
def Fun.ok{st:Stmt}{f:Addr}{N ps:List Str}{sp:Sp}(F:Fun K x qual st f fd)(S:bC N ps (aF st))(hbody:∀(eV:Value) (A:Around) (outer:List Env) (s:Shared) (H:Hp) (vs:List V) (Q:VK) (E:XK),sO k (A.deeper (envOfC qual (aF st) s⁻¹ f eV))->sp vs H Q E->
   ∃t,QG (UG gb P w K mg base N qual (aF st) f eV A outer s H E).nox (gA st) t/\t { nx:=λ_ H'=>Q .non H',rt:=Q} (start N vs) H)
  (len:∀vs H Q E,sp vs H Q E->vs.length=ps.length:=by intro vs H Q E h;first|(cases h;subst_vars;rfl)|(repeat first|(obtain⟨e,_⟩:=h;rw[e];rfl)|(obtain⟨_,h⟩:=h))):bf P w K mg base gb (k+1) f fd ps sp:=by
 obtain⟨oc,od,kV,doc,pm,an,eV,ct,osl,rfl,lk,hcd⟩:=F.ex;refine a1g lk hcd S len λA outer s H vs Q E hr hsp=>?_;obtain⟨t,h,q⟩:=hbody eV A outer s H vs Q E hr hsp;exact⟨t,h.nox,q⟩
def Fun.binds{st:Stmt}{f:Addr}{ps:List Str}(F:Fun K x qual st f fd)
  (h:∀(kV doc pm:Value) (an:Option Addr) (eV ct:Value) (us:List Value),us.length=ps.length->bindArgs (PySem.W.fnOf x qual (gZ st) (gA st) (aF st) .none kV doc pm an eV ct) ⟨us,[]⟩=pure (ps.zip us)):Binds K fd ps []:=by
 obtain⟨oc,od,kV,doc,pm,an,eV,ct,osl,rfl,lk,hcd⟩:=F.ex;exact .all (h kV doc pm an eV ct)
def U6{st:Stmt}{f:Addr}{oc:Value}{od an:Option Addr}{osl:Array (Option Value)}{kV doc pm eV ct:Value}(l:K.lookup f=some ⟨oc,od,.func (PySem.W.fnOf x qual (gZ st) (gA st) (aF st) .none kV doc pm an eV ct),osl⟩)
  (c:PySem.W.codeIn K eV qual=true) (k:PySem.W.keepIn K (.ref f)=true):Fun K x qual st f (PySem.W.fnOf x qual (gZ st) (gA st) (aF st) .none kV doc pm an eV ct):=⟨⟨oc,od,kV,doc,pm,an,eV,ct,osl,Z,l,c⟩,k⟩
end
def cG(h:n<=1000):n<sizeLine:=Tp h ()
def pv(i:Nat)(hN:@&(X.N[i]?=some x))(hv:Vis X.env.scope x:=by first|exact Or.inl rfl|exact Or.inr (Or.inl Z)|exact Or.inr (Or.inr Z))(hd:@&((x==("__debug__" : Str))=false))
  (hcd:@&((x==("__classdict__" : Str))=false)):PE X (.Name x pos) (Æ i):=a1B hN hv hd hcd
def cX(h:B):if false=true then A else B:=by
 rw[aA cY];exact h
def iD(h:A):if true=true then A else B:=by
 rw[aG rfl];exact h
def u5{c:Prop} [Decidable c] (h1:c->A) (h2:¬c->B):if c then A else B:=by
 by_cases h:c
 ·rw[aG h];exact h1 h
 ·rw[aA h];exact h2 h
def aJ(H H':Hp):Prop:=∀b o,H b=some o->H' b=some o
def aJ.refl(H:Hp):aJ H H:=λ_ _ h=>h
def aJ.trans{H H2:Hp}(a:aJ H H1)(b:aJ H1 H2):aJ H H2:=λc o h=>b c o (a c o h)
def aJ.free{H:Hp}(e:aJ H H'){l:Addr}(h:H' l=Option.none):H l=Option.none:=by
 cases q:H l with
 |none=>rfl
 |some o =>
  rw[e l o q]at h;cases h
def aJ.seq{K:aH}{H:Hp}{xs:List V}(e:aJ H H')(h:bM K H a xs):bM K H' a xs:=by
 rcases h with(h|⟨o,h⟩)|h
 ·exact .inl (.inl (e _ _ h))
 ·exact .inl (.inr ⟨o,e _ _ h⟩)
 ·exact .inr h
def wz(cells:List (Str×Addr)):List (Str×NameKind)->List (Str×Addr)->List (Str×Addr)
 | [],acc=>acc
 |(n,k)::r,acc=>wz cells r (if k==.free then(match cells.lookup n with|some c=>(n,c)::acc|none=>acc)else acc)
theorem Þ{env:Env}:∀(ns:List (Str×NameKind)) (acc:List (Str×Addr)),(∀x∈ns,x.2=.free->∃c,env.cells.lookup x.1=some c)->
  (forIn ns acc λ(x:Str×NameKind) (cs:List (Str×Addr))=>(if x.2==NameKind.free then do let a <-cellOf env x.1;pure (ForInStep.yield ((x.1,a)::cs))else pure (ForInStep.yield cs):Sem (ForInStep (List (Str×Addr)))))=pure (wz env.cells ns acc)
 | [],acc,_=>by simp[wz]
 |(n,k)::r,acc,h=>by
  rw[List.forIn_cons]
  have ih:=λa=>Þ (env:=env) r a λx hx=>h x (bD _ hx)
  unfold wz
  by_cases hk:(k==NameKind.free)=true
  ·obtain⟨c,hc⟩:=h (n,k) aU ()
   have hc':env.cells.lookup n=some c:=hc
   have hce:cellOf env n=pure c:=by simp only[cellOf,hc']
   simp only[hk,if_true,hce,pure_bind,hc']
   exact ih _
  ·simp only[hk,if_false,pure_bind,ih]
   simp
def Ji{env:Env}(h:∀x∈scope.names,x.2=.free->∃c,env.cells.lookup x.1=some c):closureFor scope env=pure (wz env.cells scope.names []):=by
 have q:=Þ (env:=env) scope.names [] h;unfold closureFor;rw[<-q];first
  |rfl
  |simp
set_option tactic.hygienic true in
theorem Cd{cells:List (Str×Addr)}:∀(ns:List (Str×NameKind)) (acc:List (Str×Addr)) {x:Str}{c:Addr},(∀y d,acc.lookup y=some d->cells.lookup y=some d)->(wz cells ns acc).lookup x=some c->cells.lookup x=some c
 | [],acc,x,c,ha,h=>ha x c h
 |(n,k)::r,acc,x,c,ha,h=>by
  unfold wz at h
  refine Cd r _ (λy d hy=>?_) h
  split at hy
  ·split at hy
   ·rename_i c' hc'
    rw[Io]at hy
    split at hy
    ·rename_i e
     have e':y=n:=by simpa using e
     subst e'
     rw[hc'];exact hy
    ·exact ha y d hy
   ·exact ha y d hy
  ·exact ha y d hy
theorem LR{cells:List (Str×Addr)}:∀(ns:List (Str×NameKind)) (acc:List (Str×Addr)) {x:Str},(∃c,acc.lookup x=some c)->∃c,(wz cells ns acc).lookup x=some c
 | [],acc,x,h=>h
 |(n,k)::r,acc,x,h=>by
  unfold wz
  refine LR r _ ?_
  split
  ·split
   ·rw[Io]
    split
    ·exact⟨_,Z⟩
    ·exact h
   ·exact h
  ·exact h
theorem Jj{cells:List (Str×Addr)}:∀(ns:List (Str×NameKind)) (acc:List (Str×Addr)) {x:Str},(x,NameKind.free)∈ns->(∃c,cells.lookup x=some c)->∃c,(wz cells ns acc).lookup x=some c
 | [],acc,x,h,_=>nomatch h
 |(n,k)::r,acc,x,h,hc=>by
  unfold wz
  rcases b7.mp h with e|h
  ·cases e
   obtain⟨c,hc⟩:=hc
   refine LR r _ ?_
   simp[hc]
  ·exact Jj r _ h hc
def bI.track{H:Hp}{s:Shared}(I:bI X Y σ H s)(hn:H a=none)(h0:X.s₀.heap.objs.size<=a)(hL:a≠X.env.locals)
  (hc:∀x c,X.env.cells.lookup x=some c->c≠a) (hp:∀p∈X.pn++Y,p.1≠a) (new:fZ X.prog X.w (cI H a o) s.heap a o):bI X Y σ (cI H a o) s:=by
 have ne:∀b u,H b=some u->b≠a:=λb u e=>eU e hn;have q:=I.step (g':=s.gens) (d':=s.drawn) (t':=s.toks) (h':=s.heap) (H':=cI H a o) (ch:=[a]) (λb hb=>?_) (λb ob _ _ _ e _=>e) (λb ob _ _ _ e _=>⟨ob.slots,e⟩) (λb ob hb _ n=>?_)
  (λb ob _ e=>⟨ob,e⟩) (λb xs e=>by rw[aO (ne b _ e)];exact e) (λb ob u e=>by rw[aO (ne b _ e)];exact e) (λb ps e=>⟨#[],by rw[aO (ne b _ e),e];simp⟩) (λm hm=>hm) (λb u e=>?_) I.bare
 ·exact q
 ·have e:b=a:=by simpa using hb
  subst e;exact⟨.inr h0,hL,hc,hp⟩
 ·rw[aO (λz=>hb (by simp[z]))];exact n
 ·by_cases hb:b=a
  ·subst hb;rw[cP]at e;grind
  ·rw[aO hb]at e;exact(I.hok b u e).stay (λc v _ q=>q) (λc q=>by rw[aO (eU q hn)];exact q) λc xs q=>by rw[aO (eU q hn)];exact q
def tV(X:Cx)(N':List Str)(scope:Scope)(C:Addr)(s:Shared)(H:Hp)(fp:List Addr)(xe:Value->Shared->Prop):Cx :=
 { X with N:=N',s₀:=s,H₀:=H,env:=compEnvC scope (wz X.env.cells scope.names []) C X.env,outer:=X.stack,ex:=fp,fn:=λ_=>false,xe:=xe}
structure Ws(X:Cx)(N':List Str)(ix:List (Option Nat))(scope:Scope):Prop where
 kind:scope.kind=.function
 ß:∀y∈scope.names,y.2≠.cell
 locs:∀y∈scope.names,y.2=.local->scope.names.lookup y.1=some .local
 free:∀y∈scope.names,y.2=.free->X.env.kindOf y.1=some .cell\/X.env.kindOf y.1=some .free
 len:ix.length=N'.length
 cap:∀(i j:Nat),ix[i]?=some (some j)->∃x,N'[i]?=some x/\X.N[j]?=some x/\scope.names.lookup x=some .free
def qu(ix:List (Option Nat))(σ:St):St:=ix.map λo=>o.bind λj=>(σ[j]?).join
theorem Ce{env:Env}{x:Str}:∀{names:List (Str×NameKind)},names.lookup x=some .free->(names.map λ(n,k)=>if(k==NameKind.free&&env.scope.kind==.function&&env.kindOf n==some .cell)then(n,NameKind.cell)else(n,k)).lookup x=some .cell\/(names.map λ(n,k)=>if(k==NameKind.free&&env.scope.kind==.function&&env.kindOf n==some .cell)then(n,NameKind.cell)else(n,k)).lookup x=some .free
 | [],h=>by simp at h
 |(n,k)::r,h=>by
  have ih:=@Ce env x r
  grind
theorem Cg{env:Env}{x:Str}:∀{names:List (Str×NameKind)},(∀y∈names,y.2≠.cell)->((names.map λ(n,k)=>if(k==NameKind.free&&env.scope.kind==.function&&env.kindOf n==some .cell)then(n,NameKind.cell)else(n,k)).lookup x=some .cell\/(names.map λ(n,k)=>if(k==NameKind.free&&env.scope.kind==.function&&env.kindOf n==some .cell)then(n,NameKind.cell)else(n,k)).lookup x=some .free)->(x,NameKind.free)∈names
 | [],_,h=>by simp at h
 |(n,k)::r,hn,h=>by
  have ih:=@Cg env x r λy hy=>hn y (bD _ hy)
  grind
def Ma{H:Hp}{s:Shared}{i:Nat}{v:V}(B:Ws X N' ix scope)(I:bI X Y σ H s)
  (h1:N'[i]?=some x) (h2:(qu ix σ)[i]?=some (some v)):∃u c,cV v u/\(wz X.env.cells scope.names []).lookup x=some c/\X.env.cells.lookup x=some c/\s.heap.IsCell c (some u)/\
   ((relabel scope X.env).names.lookup x=some .cell\/(relabel scope X.env).names.lookup x=some .free):=by
 have Š:∀x c,(wz X.env.cells scope.names []).lookup x=some c->X.env.cells.lookup x=some c:=λx c h=>Cd scope.names [] (λ_ _ z=>by simp at z) h;obtain⟨j,hj,hv⟩:∃j,ix[i]?=some (some j)/\σ[j]?=some (some v):=by
  unfold qu at h2;rw[d7]at h2;cases e:ix[i]? with
  |none=>grind
  |some o =>
   rw[e]at h2;cases o with
   |none=>cases h2
   |some j =>
    grind
 obtain⟨x',hx1,hx2,hx3⟩:=B.cap i j hj;have exx:x'=x:=by
  grind
 subst exx;have hmem:=DG hx3;have hout:=B.free _ hmem rfl;obtain⟨m0,_,hl⟩:=I.loc;obtain⟨u,r,l⟩:=hl j x' v hx2 hv (by
  rcases hout with e|e
  ·exact .inr (.inl e)
  ·exact .inr (.inr e))
 rcases l with⟨k,_⟩|⟨k,c,e,z⟩
 ·rcases hout with e|e
  ·rw[e]at k;cases k
  ·rw[e]at k;cases k
 ·obtain⟨c',hc'⟩:=Jj scope.names [] hmem (I.ok.has x' hout);have:=Š x' c' hc';rw[e]at this;cases this;exact⟨u,c,r,hc',e,z,Ce hx3⟩
def Yr{H:Hp}{s s4:Shared}{C:Addr}{fp:List Addr}{xe:Value->Shared->Prop}{m:Str->Option Value}
  (B:Ws X N' ix scope) (I:bI X Y σ H s) (hf:∀b∈fp,Gm X Y H b) (hC:s⁻¹<=C) (hfs:∀b∈fp,b<s⁻¹)
  (ho:s4.os=s.os) (hg:s4.gens=s.gens) (hk:∀b o,s.heap.get? b=some o->s4.heap.get? b=some o) (hns:s4.heap.Ns C m) :
  bI (tV X N' scope C s H fp xe) Y (qu ix σ) H s4:=by
 have Š:∀x c,(wz X.env.cells scope.names []).lookup x=some c->X.env.cells.lookup x=some c:=λx c h=>Cd scope.names [] (λ_ _ z=>by simp at z) h;have hfree:H C=none:=I.hok.fresh hC;have neC:∀b o,s.heap.get? b=some o->b≠C:=λb o e=>bW (jy (aX e) hC);refine⟨⟨I.ok.mod,B.kind,I.ok.glob,I.ok.blt,hC,λx y c h1 h2=>I.ok.inj x y c (Š x c h1) (Š y c h2),λx hx=>?_,λx c h=>absurd (show false=true from h) cY,I.ok.hd,I.ok.frames,.inl Z,λb hb=>⟨?_,λx c e=>?_⟩,I.bs,?_,λb o e hb=>?_,λb hb z=>?_,I.stack,I.Wd⟩,
  ho,?_,Un.kept hk,⟨m,hns,λi x v h1 h2 h3=>?_⟩,λx c e=>?_,hfree,λx c e=>I.tM x c (Š x c e),λp hp=>?_,I.hok.kept hk,?_⟩
 ·have hx':=Cg (env:=X.env) (x:=x) B.ß hx;exact Jj scope.names [] hx' (I.ok.has x (B.free _ hx' Z))
 ·exact bW (jy (hfs b hb) hC)
 ·exact(hf b hb).2.2.2.2.1 x c (Š x c e)
 ·exact cZ I.ok.Ş I.sz
 ·obtain⟨_,_,_,q,_⟩:=hf b hb;rcases q with q|q
  ·exact I.ok.Uk b o e q
  ·exact absurd (jy (aX (I.ok.bs b o e).1) q) (xT _)
 ·obtain⟨_,q1,q2,_⟩:=hf b hb;rcases b7.mp (I.Eh b z)with e|e
  ·exact q1 e
  ·exact q2 e
 ·rw[hg];exact I.bare
 ·obtain⟨u,c,r,hc1,_,⟨oc,z1,z2⟩,hk'⟩:=Ma B I h1 h2;exact⟨u,r,.inr ⟨hk',c,hc1,oc,hk _ _ z1,z2⟩⟩
 ·obtain⟨v,oc,h1,h2⟩:=I.cell x c (Š x c e);exact⟨v,oc,hk _ _ h1,h2⟩
 ·obtain⟨e,n,ne,nf,d⟩:=I.pin p hp;refine⟨hk _ _ e,n,neC _ _ e,λz=>?_,d⟩;rcases b7.mp (I.Eh p.1 z)with e'|e'
  ·exact ne e'
  grind
 ·show(ix.map _).length=N'.length;rw[aK];exact B.len
def QS{prog:Program}{A:Around}{s:Shared}{target:Expr}{it acc:Value}{env:Env}(Iv:Nat->Shared->Prop)
  (turn:∀n s,Iv n s->wpAny (model prog w) A (pyNext it) (λr s₁=>match r with
   |none=>R (.ok .next) s₁
   |some v=>wpAny (model prog w) A (letOwnedTupleGo target it v) (λ_ s₁'=>wpAny (model prog w) A (assign target env v) (λ_ s₂ =>
     wpAny (model prog w) A (forIn ifs true λc r=>if r=true then do let ok <-isTrue c env (eval c env);pure (ForInStep.yield ok)else pure (ForInStep.yield r)) (λok s₃ =>
      if ok=true then wpAny (model prog w) A (eval elt env) (λx s₄ =>
       wpAny (model prog w) A (call (.builtin "list.append") [acc,x]) (λ_ s₅=>∃m,m<n/\Iv m s₅) (notedBy (model prog w) A env λe s'=>R (.error e) s') s₄) (notedBy (model prog w) A env λe s'=>R (.error e) s') s₃
      else ∃m,m<n/\Iv m s₃) (notedBy (model prog w) A env λe s'=>R (.error e) s') s₂) (notedBy (model prog w) A env λe s'=>R (.error e) s') s₁') (notedBy (model prog w) A env λe s'=>R (.error e) s') s₁) (notedBy (model prog w) A env λe s'=>R (.error e) s') s)
  (n:Nat) (h:Iv n s) :
  codeAny (model prog w) A (.compLoop (.ListComp elt [⟨target,iter,ifs,0⟩] scope pos) 0 it acc env) R s:=by
 refine codeAny_loop Z Iv (λn s hI=>?_) n h;show wpAny _ A ((compTurn (.ListComp elt [⟨target,iter,ifs,0⟩] scope pos) 0 it acc env).onRaise λx=>do noteFrame x env;theTreesLotGoes x) _ _ s;refine wpAny_noted ?_;rw[compTurn_list];refine M (Oc (M (iJ (turn n s hI) (λr s₁ h₁=>?_) λ_ _ h'=>h')));cases r with
 |none=>exact ao h₁
 |some v =>
  refine M (iJ h₁ (λ_ s₁' h₁'=>M (iJ h₁' (λ_ s₂ h₂=>M (iJ h₂ (λok s₃ h₃=>?_) λ_ _ h'=>h')) λ_ _ h'=>h')) λ_ _ h'=>h');cases ok with
  |false=>exact ao ⟨Z,h₃⟩
  |true =>
   exact M (M (iJ h₃ (λx s₄ h₄=>M (iJ h₄ (λ_ s₅ h₅=>ao (ao ⟨Z,h₅⟩)) λ_ _ h'=>h')) λ_ _ h'=>h'))
def PTs(X:Cx)(ifs:List Expr)(t:TT):Prop :=
 ∀(Y:List (Addr×Obj)) (s:Shared) (σ:St) (H:Hp) (Q:Bool->Hp->Prop),bI X Y σ H s->t σ H Q->
  wpAny (model X.prog X.w) X.A (forIn ifs true λc r=>if r=true then do let ok <-isTrue c X.env (eval c X.env);pure (ForInStep.yield ok)else pure (ForInStep.yield r)) (TP X Y σ Q) X.xe s
def a4h:TT:=λ_ H Q=>Q true H
def fQ:PTs X [] a4h:=λ_ _ _ H _ I h=>wpAny_tests_nil ⟨H,I,h⟩
def wA{c:Expr}{t:TT}(h:PT X c t):PTs X [c] t:=λY s σ H Q I hw=>wpAny_tests_one (h Y s σ H Q I hw)
def mW(ix:List (Option Nat))(g:TG)(tt:TT)(te:TE)(σ:St)(H1:Hp)(Q:VK)(Z97:It):Prop:=∃W:Nat->Nat->List V->Hp->Prop,(∃m,W 0 m [] H1)/\∀i m ys H,W i m ys H->
 (Z97.stop i H/\ys.length<=sizeLine/\∀p,H p=none->Q (.ref p) (cI H p (.lst ys)))\/
 (Z97.go i H/\ys.length<=sizeLine/\∃N:List V->Hp->Prop,(∀ys' H',N ys' H'->∃m',m'<m/\W (i+1) m' ys' H')/\∀x H',Z97.ZK i H x H'->g x (qu ix σ) H' λσ2 H2=>tt σ2 H2 λb H3=>if b=true then te σ2 H3 λv H4=>N (ys++[v]) H4 else N ys H3)
def tLC(ix:List (Option Nat))(wi:TI)(g:TG)(tt:TT)(te:TE):TE:=λσ H Q=>wi σ H λZ97 H1=>mW ix g tt te σ H1 Q Z97
section
variable{wi:TI}
def à(B:Ws X N' ix scope)(hc:X.calm=true)
  (hg:∀C s H fp xe,PG (tV X N' scope C s H fp xe) tg g) (ht:∀C s H fp xe,PTs (tV X N' scope C s H fp xe) ifs tt) (he:∀C s H fp xe,PE (tV X N' scope C s H fp xe) elt te) {s2:Shared}{H2:Hp}{fp:List Addr}{tn:Nat->Heap->Prop}{Z97:It}{RR:Value->Addr->Result->Shared->Prop}{E:Value->Shared->Prop}
  (I2:bI X Y σ H2 s2) (T:Turn X.prog X.w X.K tg Z97 fp it tn) (st2:tn 0 s2.heap) (f2:∀b∈fp,Gm X Y H2 b)
  (q:∃W:Nat->Nat->List V->Hp->Prop,(∃m,W 0 m [] H2)/\∀i m ys H,W i m ys H->
   (Z97.stop i H/\ys.length<=sizeLine/\∀p,H p=none->Q (.ref p) (cI H p (.lst ys)))\/
   (Z97.go i H/\ys.length<=sizeLine/\∃N:List V->Hp->Prop,(∀ys' H',N ys' H'->∃m',m'<m/\W (i+1) m' ys' H')/\∀x H',Z97.ZK i H x H'->g x (qu ix σ) H' λσ2 H2=>tt σ2 H2 λb H3=>if b=true then te σ2 H3 λv H4=>N (ys++[v]) H4 else N ys H3))
  (hRR:∀D C s' H' ys,bI X Y σ (cI H' D (.lst ys)) s'->H' D=none->Q (.ref D) (cI H' D (.lst ys))->(∃m,s'.heap.Ns C m)->cI H' D (.lst ys) C=none->C≠X.env.locals->X.s₀.heap.objs.size<=C->(∀x c,X.env.cells.lookup x=some c->c≠C)->(∀p∈X.pn++Y,p.1≠C)->RR (.ref D) C (.ok .next) s') :
  wpAny (model X.prog X.w) X.A (newList []) (λacc s₃=>wpAny (model X.prog X.w) X.A (newFunctionEnv scope X.env.globals (wz X.env.cells scope.names []) [] X.env.qual none .none (some X.env)) (λcenv s₄ =>
   codeAny (model X.prog X.w) X.A (.compStart (.ListComp elt [⟨tg,iter,ifs,0⟩] scope pos) 0 (.ref it) acc { cenv with scope:=relabel scope X.env}) (RR acc cenv.locals) s₄) E s₃) E s2:=by
 have hfs:∀b∈fp,b<s2⁻¹:=λb hb=>by
  obtain⟨o,e,_⟩:=T.obj _ _ st2 b hb;exact aX e
 refine kI (wpAny_newFunctionEnv B.ß (by intro y hy;simp at hy) (λh₁ hns₁ hsb₁=>?_) B.kind);dsimp only at hns₁ hsb₁ ⊢;generalize hH3:s2.heap.push { cls:=.type "list",dict:=none,data:=.seq ([]:List Value).toArray}=H3 at hns₁ hsb₁ ⊢;have hC:H3.objs.size=s2⁻¹+1:=by rw[<-hH3,kW]
 have hDC:s2⁻¹≠H3.objs.size:=by rw[hC];exact bW (xQ _)
 have below:∀b,b<s2⁻¹->b≠H3.objs.size/\b≠s2⁻¹:=λb hb=>⟨by rw[hC];exact bW (Ik hb),bW hb⟩;have old:∀b o,s2.heap.get? b=some o->h₁.get? b=some o:=λb o e=>hsb₁.extBut b o (below b (aX e)).1 (bJ _ (hH3▸bJ _ e));have hacc:h₁.get? s2⁻¹=some { cls:=.type "list",data:=.seq ([]:List Value).toArray 0}:=hsb₁.extBut _ _ hDC (bJ _ (hH3▸bU _ Z));have hCle:s2⁻¹<=H3.objs.size:=by rw[hC];exact vY _
 generalize hD:s2⁻¹=D at *
 generalize hCC:H3.objs.size=C at *
 obtain⟨W,⟨m0,w0⟩,turn⟩:=q;let xe:Value->Shared->Prop:=notedBy (model X.prog X.w) X.A (compEnvC scope (wz X.env.cells scope.names []) C X.env) λe s'=>RR (.ref D) C (.error e) s';let X':Cx:=tV X N' scope C s2 H2 fp xe;have DL:D∉frs X.stack:=λz=>by
  rcases b7.mp (I2.Eh D z)with e|e
  ·exact absurd I2.lt (by rw[<-e,hD];exact xT _)
  ·exact I2.a3C (by rw[hD];exact aL _) e
 have U7:∀x c,X.env.cells.lookup x=some c->c<D:=λx c e=>by
  obtain⟨v,oc,h,_⟩:=I2.cell x c e;rw[<-hD];exact aX h
 have Š:∀x c,(wz X.env.cells scope.names []).lookup x=some c->X.env.cells.lookup x=some c:=λx c h=>Cd scope.names [] (λ_ _ z=>by simp at z) h;have á:∀p∈X.pn++Y,p.1<D:=λp hp=>by rw[<-hD];exact aX (I2.pin p hp).1
 have fpX:∀{pl:List (Addr×Obj)}{H':Hp},(∀b∈fp,H' b=none)->(∀p∈pl,p∈Y\/p.1=D)->∀b∈fp,Gm X' pl H' b:=λ{pl H'} hn hpl b hb=>by
  obtain⟨_,q1,q2,q3,q4,q5⟩:=f2 b hb;refine⟨hn b hb,(below b (hfs b hb)).1,λz=>?_,.inl hb,λx c e=>q4 x c (Š x c e),λp hp=>?_⟩
  ·rcases b7.mp (I2.Eh b z)with e|e
   ·exact q1 e
   ·exact q2 e
  ·rcases cN.mp hp with hp|hp
   ·exact q5 p (uK _ hp)
   ·rcases hpl p hp with z|z
    ·exact q5 p (gB _ z)
    ·rw[z];exact Ne.symm (below b (hfs b hb)).2
 have loop:∀s₃:Shared,s₃={ s2 with heap:=h₁,toks:=s2.toks+([]:List (Str×Value)).length}->
   codeAny (model X.prog X.w) X.A (.compLoop (.ListComp elt [⟨tg,iter,ifs,0⟩] scope pos) 0 (.ref it) (.ref D) (compEnvC scope (wz X.env.cells scope.names []) C X.env)) (RR (.ref D) C) s₃:=by
  rintro s₃ rfl;refine QS (λn s'=>∃i H' ys cA k,bI X' Y (qu ix σ) H' s'/\tn i s'.heap/\(∀b∈fp,H' b=none)/\H' D=none/\s'.heap.get? D=some { cls:=.type "list",data:=.seq (List.toArray cA) k}/\dz ys cA/\W i n ys H') ?_ m0
   ⟨0,H2,[],[],0,Yr B I2 f2 (by rw[hD];exact hCle) (λb hb=>by rw[hD];exact hfs b hb) Z Z old hns₁,T.keep _ _ _ st2 λb _ o e=>old b o e,λb hb=>(f2 b hb).1,I2.hok.fresh (by rw[hD];exact aL _),hacc,.nil,w0⟩
  rintro n s' ⟨i,H',ys,cA,k,I',st',fr',hDn,hDo,rv,w'⟩;have hDX:∀v,({ cls:=.type "list",data:=.seq (List.toArray cA) k}:Obj).data≠.cell v:=λv z=>by
   have z':Data.seq (List.toArray cA) k=Data.cell v:=z;cases z'
  have a6h:∀{σ':St}{Sh:Hp}{s'':Shared}{its':List Value}{k':Nat},bI X' Y σ' Sh s''->Sh D=none->s''.heap.get? D=some { cls:=.type "list",data:=.seq (List.toArray its') k'}->bI X' (Y++[(D,{ cls:=.type "list",data:=.seq (List.toArray its') k'})]) σ' Sh s'':=λ{σ' Sh s'' its' k'} Z97 hn ho =>
   Z97.GZ λp hp=>(cN.mp hp).elim (λz=>Z97.pin p (gB _ z)) λz=>by
    have e:p=(D,{ cls:=.type "list",data:=.seq (List.toArray its') k'}):=by simpa using z
    subst e;exact⟨ho,hn,hDC,DL,λv z=>by
     have z':Data.seq (List.toArray its') k'=Data.cell v:=z;cases z'⟩
  have plD:∀{its':List Value}{k':Nat},∀p∈Y++[(D,({ cls:=.type "list",data:=.seq (List.toArray its') k'}:Obj))],p∈Y\/p.1=D:=λ{its' k'} p hp=>(cN.mp hp).elim .inl λz=>by
   have e:p=(D,{ cls:=.type "list",data:=.seq (List.toArray its') k'}):=by simpa using z
   subst e;exact .inr rfl
  have unD:∀{pl:List (Addr×Obj)}{σ':St}{Sh:Hp}{s'':Shared},bI X' (Y++pl) σ' Sh s''->bI X' Y σ' Sh s'':=λZ97=>Z97.GZ λp hp=>Z97.pin p (gB _ (uK _ hp));have I'p:=a6h I' hDn hDo;rcases turn i n ys H' w' with⟨stop,hsz,fin⟩|⟨go,hsz,N,hN,step⟩
  ·refine iJ (T.done X' Z Z Z hc i _ s' (qu ix σ) H' X'.xe I'p (fpX fr' plD) st' stop) (λr s5 ⟨hr,I5⟩=>?_) λ_ _ z=>z;subst hr;have a6i:s5.heap.get? D=some { cls:=.type "list",data:=.seq (List.toArray cA) k}:=(I5.pin (D,_) (gB _ (gB _ (bL.mpr Z)))).1;have sz0:X.s₀.heap.objs.size<=D:=by rw[<-hD];exact I2.sz
   have Z97:bI X Y σ H' s5:=I2.call' (ch:=fp) I5.os I5.base I5.hok I5.bare λb hb=>by
    obtain⟨_,q1,_,q3,q4,q5⟩:=f2 b hb;exact⟨q3,q1,q4,q5⟩
   have nL:X.env.locals<D:=by rw[<-hD];exact I2.lt
   have J2:bI X Y σ (cI H' D (.lst ys)) s5:=bI.track Z97 hDn sz0 (gD nL) (λx c e=>bW (U7 x c e)) (λp hp=>bW (á p hp)) ⟨hsz,cA,k,rv,a6i⟩;obtain⟨mC,hnC,_⟩:=I5.loc;have a1Z:D<C:=Nat.lt_of_le_of_ne hCle hDC;refine hRR D C s5 H' ys J2 hDn (fin D hDn) ⟨mC,hnC⟩ ?_ (gD (xU nL a1Z)) (cZ sz0 hCle) (λx c e=>bW (xU (U7 x c e) a1Z)) λp hp=>bW (xU (á p hp) a1Z);rw[aO (Ne.symm hDC)];exact I5.free
  ·refine iJ (T.item X' Z Z Z hc i _ s' (qu ix σ) H' X'.xe I'p (fpX fr' plD) st' go) (λr s5 ⟨u,hr,h5⟩=>?_) λ_ _ z=>z;subst hr;refine iJ h5 (λ_ s6 ⟨x,H6,I6,r6,y6,st6,fr6⟩=>?_) λ_ _ z=>z;have I6':=I6.pinned (fpX fr6 plD) (T.obj _ _ st6);refine iJ (hg C s2 H2 fp xe _ s6 (qu ix σ) H6 x u _ I6' r6 (step x H6 y6)) (λ_ s7 ⟨Wi,H7,I7,q7⟩=>?_) λ_ _ z=>z;have after:∀{σ8:St}{H8:Hp}{s8:Shared},bI X' ((Y++[(D,{ cls:=.type "list",data:=.seq (List.toArray cA) k})])++v5 fp s6.heap) σ8 H8 s8->
     bI X' Y (qu ix σ) H8 s8/\tn (i+1) s8.heap/\(∀b∈fp,H8 b=none)/\H8 D=none/\s8.heap.get? D=some { cls:=.type "list",data:=.seq (List.toArray cA) k}:=λ{σ8 H8 s8} I8=>by
    have pD:=I8.pin (D,{ cls:=.type "list",data:=.seq (List.toArray cA) k}) (gB _ (uK _ (gB _ (bL.mpr Z))));have fpP:∀b∈fp,∀o,s6.heap.get? b=some o->s8.heap.get? b=some o/\H8 b=none:=λb hb o e=>by
     have z:=I8.pin (b,o) (gB _ (gB _ (tR hb e)));exact⟨z.1,z.2.1⟩
    refine⟨⟨I8.ok,I8.os,I8.bare,I8.base,?_,I8.cell,I8.free,I8.tM,λp hp=>?_,I8.hok,?_⟩,T.keep _ _ _ st6 λb hb o e=>(fpP b hb o e).1,λb hb=>?_,pD.2.1,pD.1⟩
    ·obtain⟨m8,hn8,_⟩:=I8.loc;refine⟨m8,hn8,λi x v h1 h2 h3=>?_⟩;obtain⟨u,c,r,hc1,hc2,⟨oc,z1,z2⟩,hk'⟩:=Ma B I2 h1 h2;obtain⟨sl,e8⟩:=I8.base.any z1 (I2.tM x c hc2) λz=>(f2 c z).2.2.2.2.1 x c hc2 rfl;exact⟨u,r,.inr ⟨hk',c,hc1,_,e8,z2⟩⟩
    ·rcases cN.mp hp with hp|hp
     ·exact I8.pin p (uK _ hp)
     ·exact I8.pin p (gB _ (uK _ (uK _ hp)))
    ·show(qu ix σ).length=N'.length;unfold qu;rw[aK];exact B.len
    ·obtain⟨o,e,_⟩:=T.obj _ _ st6 b hb;exact(fpP b hb o e).2
   refine iJ (ht C s2 H2 fp xe _ s7 Wi H7 _ I7 q7) (λb s8 ⟨H8,I8,q8⟩=>?_) λ_ _ z=>z;cases b with
   |false =>
    rw[aA cY]at q8 ⊢;obtain⟨m',hm,w8⟩:=hN _ _ q8;obtain⟨Z97,tn8,f8,d8,o8⟩:=after I8;exact⟨m',hm,i+1,H8,ys,cA,k,Z97,tn8,f8,d8,o8,rv,w8⟩
   |true =>
    rw[aG rfl]at q8 ⊢;refine iJ (he C s2 H2 fp xe _ s8 Wi H8 _ I8 q8) (λv s9 ⟨y,H9,I9,r9,q9⟩=>?_) λ_ _ z=>z;obtain⟨Z97,tn9,f9,d9,o9⟩:=after I9;obtain⟨m',hm,w9⟩:=hN _ _ q9;refine append_at (hsz:=by rw[iH,<-rv.length];exact hsz) o9 λh10 a4i a4j=>?_;refine⟨m',hm,i+1,H9,ys++[y],cA++[v],k+1,?_,T.keep _ _ _ tn9 λb hb o e=>a4i.extBut b o (λz=>?_) e,f9,d9,by rw[List.push_toArray]at a4j;exact a4j,rv.append (.cons r9 .nil),w9⟩
    ·refine Z97.turned (t':=s9.toks) (it:=D) (λb o hb e=>a4i.extBut b o hb e) d9 hDC (.inr (by show s2⁻¹<=D;rw[hD];exact aL _)) (λx c e=>bW (U7 x c (Š x c e))) λp hp=>bW (á p hp)
    ·exact(below b (hfs b hb)).2 z
 exact codeAny_compStart_list (loop _ Z) (T.self X.A 0 _ _ _ (T.keep _ _ _ st2 λb _ o e=>old b o e) (loop _ Z))
end
def Ci(outer:Scope)(N N':List Str)(ix:List (Option Nat))(scope:Scope):Bool :=
 (scope.kind==.function)&&(scope.names.all λy=>y.2 != .cell)&&(scope.names.all λy=>y.2 != .local||scope.names.lookup y.1==some .local) &&
 (scope.names.all λy=>y.2 != .free||outer.names.lookup y.1==some .cell||outer.names.lookup y.1==some .free)&&(ix.length==N'.length) &&
 (List.range ix.length).all λi=>match ix[i]? with
  |some (some j)=>(match N'[i]? with|some x=>N[j]?==some x&&scope.names.lookup x==some .free|none=>false)
  |_=>true
def â(h:Ci X.env.scope X.N N' ix scope=true):Ws X N' ix scope:=by
 unfold Ci at h;simp only[Bool.and_eq_true]at h;obtain⟨⟨⟨⟨⟨h1,h2⟩,h3⟩,h4⟩,h5⟩,h6⟩:=h;refine⟨?_,λy hy=>?_,λy hy hl=>?_,λy hy hl=>?_,(),λi j e=>?_⟩
 ·grind
 ·grind
 ·grind
 ·have:=DY.mp h4 y hy;rw[hl]at this;simp at this;exact this
 ·have hi:i<ix.length:=(fO.mp e).1;have:=DY.mp h6 i (mV.mpr hi);rw[e]at this;simp only at this;cases q:N'[i]? with
  |none=>rw[q]at this;simp at this
  |some x =>
   rw[q]at this;simp at this;exact⟨x,Z,this.1,this.2⟩
section
variable{wi:TI}
def jF(N':List Str)(ix:List (Option Nat))(hB:Ci X.env.scope X.N N' ix scope=true)(hc:X.calm=true)(hi:PI X tg iter wi)
  (hg:∀C s H fp xe,PG (tV X N' scope C s H fp xe) tg g) (ht:∀C s H fp xe,PTs (tV X N' scope C s H fp xe) ifs tt) (he:∀C s H fp xe,PE (tV X N' scope C s H fp xe) elt te)
  (hs:autoParam (∀x,foldedSetIterable iter X.env x=pure x) Q0_._auto_1):PE X (.ListComp elt [⟨tg,iter,ifs,0⟩] scope pos) (tLC ix wi g tt te):=by
 intro Y s σ H Q I h;have B:=â hB;rw[eval_ListComp];refine Ã (use:=none) Z hs (Ji λy hy hf=>I.ok.has y.1 (B.free y hy hf)) B.kind B.locs (jJ (hi Y s σ H _ I h) λv s1 h1=>jJ h1 λitv s2 h2=>?_);obtain⟨it,fp,tn,Z97,H2,e,I2,T,st2,f2,q⟩:=h2;subst e;refine à B hc hg ht he I2 T st2 f2 q ?_;intro D C s' H' ys J2 hDn hq ⟨m,hn⟩ hC1 hC2 hC3 hC4 hC5;exact⟨m,hn,λh' hs'=>⟨.ref D,_,J2.turned (t':=s'.toks) (it:=C) (λb o hb e=>hs'.extBut b o hb e) hC1 hC2 (.inr hC3) hC4 hC5,Z,hq⟩⟩
def Jk{i:Nat}{pos' spos:Pos}(N':List Str)(ix:List (Option Nat))(hN:X.N.Nodup)(hi':X.N[i]?=some x)(hx:X.env.scope.names.lookup x=some .local)
  (hB:Ci X.env.scope X.N N' ix scope=true) (hc:X.calm=true) (hi:PI X tg iter wi)
  (hg:∀C s H fp xe,PG (tV X N' scope C s H fp xe) tg g) (ht:∀C s H fp xe,PTs (tV X N' scope C s H fp xe) ifs tt) (he:∀C s H fp xe,PE (tV X N' scope C s H fp xe) elt te)
  (hsw:swapsWith (.ListComp elt [⟨tg,iter,ifs,0⟩] scope pos) (some (.Name x pos')) spos.line X.env=pure true)
  (hs:autoParam (∀x,foldedSetIterable iter X.env x=pure x) Q0_._auto_1):PS X (.Assign [.Name x pos'] (.ListComp elt [⟨tg,iter,ifs,0⟩] scope pos) spos) (a1H (tLC ix wi g tt te) (Wf i)):=by
 intro Y s σ H D0 I h;have B:=â hB;rw[exec_Assign_Name_used _ _ _ _ hsw];refine M (Oc (M ?_));show wpAny _ X.A (do let _ <-comprehension (.ListComp elt [⟨tg,iter,ifs,0⟩] scope pos) scope X.env _ (newList []) false (eval iter X.env) (some (assign (.Name x pos') X.env))) _ _ s;refine M (iJ (Ã (use:=some (assign (.Name x pos') X.env)) (Q:=λ_ s'=>SP X Y D0 .next s') Z hs (Ji λy hy hf=>I.ok.has y.1 (B.free y hy hf)) B.kind B.locs
  (jJ (hi Y s σ H _ I h) λv s1 h1=>jJ h1 λitv s2 h2=>?_)) (λ_ s' hq=>ao (ao hq)) λ_ _ e=>e)
 obtain⟨it,fp,tn,Z97,H2,e,I2,T,st2,f2,q⟩:=h2;subst e;refine à (Q:=λx H1=>Wf i x σ H1 D0.nx) B hc hg ht he I2 T st2 f2 q ?_;intro D C s' H' ys J2 hDn hq ⟨m,hn⟩ hC1 hC2 hC3 hC4 hC5;show wpAny _ X.A (assign (.Name x pos') X.env (.ref D)) _ _ _;refine wpAny_assign_Name (Lp (v:=.ref D) J2 hN hi' (.inl hx) Z (λs'' I'' hsb=>?_) (.inr hx));obtain⟨a,hsb,ha⟩:=hsb;have aC:C≠a:=by
  rcases ha with rfl|ha
  ·exact hC2
  ·exact λz=>hC4 x a ha z.symm
 exact⟨m,hn.sameBut hsb aC,λh'' hs''=>⟨_,_,I''.turned (t':=s''.toks) (it:=C) (λb o hb e=>hs''.extBut b o hb e) hC1 hC2 (.inr hC3) hC4 hC5,hq⟩⟩
end
section
variable{K:aH}{xs:List V}
def wB(Pv:Nat->List V->Hp->Prop)(h0:Pv 0 [] H1)(hl:∀i ys H,i<=xs.length->Pv i ys H->bM K H a xs/\ys.length<=sizeLine)
  (hs:∀i x ys H,xs[i]?=some x->Pv i ys H->g x (qu ix σ) H λσ2 H2=>tt σ2 H2 λb H3=>if b=true then te σ2 H3 λv H4=>Pv (i+1) (ys++[v]) H4 else Pv (i+1) ys H3)
  (hd:∀ys H,Pv xs.length ys H->∀p,H p=none->Q (.ref p) (cI H p (.lst ys))):mW ix g tt te σ H1 Q (ş K a):=by
 refine⟨λi m ys H=>m=xs.length-i/\i<=xs.length/\Pv i ys H,⟨xs.length,by simp,dh _,h0⟩,?_⟩;rintro i m ys H ⟨rfl,hi,p⟩;obtain⟨q,z⟩:=hl i ys H hi p;by_cases hlt:i<xs.length
 ·refine .inr ⟨⟨xs,xs[i],q,by simp[hlt]⟩,z,Pv (i+1),λys' H' p'=>⟨xs.length-(i+1),(),Z,hlt,p'⟩,λx H' y=>?_⟩;obtain⟨e,y⟩:=y;subst e;exact hs i x ys _ (y xs q) p
 ·have e:i=xs.length:=()
  subst e;exact .inl ⟨⟨xs,q,aL _⟩,z,hd ys H p⟩
def u6{lo:Int}(Pv:Nat->List V->Hp->Prop)(h0:Pv 0 [] H1)(hl:∀i ys H,i<=n->Pv i ys H->ys.length<=sizeLine)
  (hs:∀i ys H,i<n->Pv i ys H->g (.int (lo+i)) (qu ix σ) H λσ2 H2=>tt σ2 H2 λb H3=>if b=true then te σ2 H3 λv H4=>Pv (i+1) (ys++[v]) H4 else Pv (i+1) ys H3)
  (hd:∀ys H,Pv n ys H->∀p,H p=none->Q (.ref p) (cI H p (.lst ys))):mW ix g tt te σ H1 Q (Wh lo n):=by
 refine⟨λi m ys H=>m=n-i/\i<=n/\Pv i ys H,⟨n,by simp,dh _,h0⟩,?_⟩;rintro i m ys H ⟨rfl,hi,p⟩;have z:=hl i ys H hi p;by_cases hlt:i<n
 ·refine .inr ⟨hlt,z,Pv (i+1),λys' H' p'=>⟨n-(i+1),(),Z,hlt,p'⟩,λx H' y=>?_⟩;obtain⟨e,y⟩:=y;subst e y;exact hs i ys _ hlt p
 ·have e:i=n:=()
  subst e;exact .inl ⟨aL _,z,hd ys H p⟩
end
def a4k{K:aH}{xs:List V}(f:V->Option V)(hx:bM K H1 a xs)(hz:xs.length<=sizeLine)
  (hs:∀x H (N:Option V->Hp->Prop),x∈xs->aJ H1 H->(∀H',aJ H1 H'->N (f x) H')->g x (qu ix σ) H λσ2 H2=>tt σ2 H2 λb H3=>if b=true then te σ2 H3 λv H4=>N (some v) H4 else N none H3)
  (hd:∀H p,aJ H1 H->H p=none->Q (.ref p) (cI H p (.lst (xs.filterMap f)))):mW ix g tt te σ H1 Q (ş K a):=by
 refine wB (K:=K) (a:=a) (xs:=xs) (λi ys H=>ys=(xs.take i).filterMap f/\aJ H1 H) ⟨Z,aJ.refl _⟩ (λi ys H hi ⟨e,s⟩=>⟨s.seq hx,?_⟩) (λi x ys H hi ⟨e,s⟩=>?_) λys H ⟨e,s⟩ p hp=>?_
 ·subst e;refine cZ (Sv _ _) (cZ ?_ hz);rw[fP];exact TJ _ _
 ·have hm:x∈xs:=iU hi;obtain⟨hil,hix⟩:=fO.mp hi;have et:xs.take (i+1)=xs.take i++[x]:=by rw[zR hil,hix]
  refine hs x H (λo H'=>match o with|some v=>(ys++[v]=(xs.take (i+1)).filterMap f/\aJ H1 H')|none=>(ys=(xs.take (i+1)).filterMap f/\aJ H1 H')) hm s λH' s'=>?_;cases ef:f x with
  |some v =>
   refine⟨?_,s'⟩;rw[e,et,xH];simp[ef]
  |none =>
   refine⟨?_,s'⟩;rw[e,et,xH];simp[ef]
 ·subst e;rw[gO];exact hd H p s hp
def a2a{lo:Int}(f:Nat->Option V)(hz:n<=sizeLine)
  (hs:∀i H (N:Option V->Hp->Prop),i<n->aJ H1 H->(∀H',aJ H1 H'->N (f i) H')->g (.int (lo+i)) (qu ix σ) H λσ2 H2=>tt σ2 H2 λb H3=>if b=true then te σ2 H3 λv H4=>N (some v) H4 else N none H3)
  (hd:∀H p,aJ H1 H->H p=none->Q (.ref p) (cI H p (.lst ((List.range n).filterMap f)))):mW ix g tt te σ H1 Q (Wh lo n):=by
 refine u6 (λi ys H=>ys=(List.range i).filterMap f/\aJ H1 H) ⟨Z,aJ.refl _⟩ (λi ys H hi ⟨e,s⟩=>?_) (λi ys H hi ⟨e,s⟩=>?_) λys H ⟨e,s⟩ p hp=>?_
 ·grind
 ·refine hs i H (λo H'=>match o with|some v=>(ys++[v]=(List.range (i+1)).filterMap f/\aJ H1 H')|none=>(ys=(List.range (i+1)).filterMap f/\aJ H1 H')) hi s λH' s'=>?_;cases ef:f i with
  |some v =>
   refine⟨?_,s'⟩;rw[e,vV,xH];simp[ef]
  |none =>
   refine⟨?_,s'⟩;rw[e,vV,xH];simp[ef]
 ·subst e;exact hd H p s hp
mutual
inductive KJ(K:aH) (H:Hp):V->PyData->Prop
 |non:KJ K H .non .none
 |bl (b:Bool):KJ K H (.bl b) (.bool b)
 |int (i:Int):KJ K H (.int i) (.int i)
 |str (x:Str):KJ K H (.str x) (.str x)
 |lst {a:Addr}{xs:List V}{ds:List PyData}:bM K H a xs->zF K H xs ds->KJ K H (.ref a) (.list ds)
 |tup {a:Addr}{xs:List V}{ds:List PyData}:cL K H a xs->zF K H xs ds->KJ K H (.ref a) (.tuple ds)
inductive zF(K:aH) (H:Hp):List V->List PyData->Prop
 |nil:zF K H [] []
 |cons {x:V}{xs:List V}{d:PyData}{ds:List PyData}:KJ K H x d->zF K H xs ds->zF K H (x::xs) (d::ds)
end
def aJ.wC{K:aH}{H:Hp}{xs:List V}(e:aJ H H')(h:cL K H a xs):cL K H' a xs:=by
 rcases h with(h|⟨o,h⟩)|h
 ·exact .inl (.inl (e _ _ h))
 ·exact .inl (.inr ⟨o,e _ _ h⟩)
 ·exact .inr h
def KJ.reads{H:Hp}{s:Shared}(I:bI X Y σ H s){v:V}{d:PyData}{u:Value}(h:KJ X.K H v d)(r:cV v u):∃as,Reads s.heap u d as:=by
 refine KJ.rec (motive_1:=λv d _=>∀u,cV v u->∃as,Reads s.heap u d as) (motive_2:=λxs ds _=>∀us,dz xs us->∃as,ReadsAll s.heap us ds as) (λu r=>?_) (λb u r=>?_) (λi u r=>?_) (λx u r=>?_) (λh q ih u r=>?_) (λh q ih u r=>?_) (λus q=>?_) (λh q ih jh us z=>?_) h u r
 ·cases r;exact⟨_,.none⟩
 ·cases r;exact⟨_,.bool b⟩
 ·obtain⟨t,rfl⟩:=r;exact⟨_,.int i t⟩
 ·obtain⟨t,rfl⟩:=r;exact⟨_,.str x t⟩
 ·cases r;obtain⟨cA,rv,⟨o,n,e,c,_,d⟩,_⟩:=I.list h;obtain⟨as,ra⟩:=ih _ rv;exact⟨_,.list e c d (by simpa using ra)⟩
 ·cases r;obtain⟨cA,rv,⟨o,e,c,n,d⟩,_⟩:=I.tuple h;obtain⟨as,ra⟩:=ih _ rv;exact⟨_,.tuple e c d (by simpa using ra)⟩
 ·cases q;exact⟨_,.nil⟩
 ·cases z with
  |cons r t =>
  obtain⟨as,ra⟩:=ih _ r;obtain⟨bs,rb⟩:=jh _ t;exact⟨_,.cons ra rb⟩
theorem zF.ints{K:aH}{H:Hp}:∀ns:List Int,zF K H (ns.map V.int) (ns.map PyData.int)
 | []=>.nil
 |n::ns=>.cons (.int n) (zF.ints ns)
inductive Ε(K:aH)(neg:Bool)(x:V)(y:V)(H:Hp)(Q:VK):Prop
 |mk (d d':_) (_:KJ K H x d) (_:KJ K H y d') (_:SeqAt.shaped d=true) (_:SeqAt.shaped d'=true) (_:Q (.bl (if neg then !PyData.eqv d d' else PyData.eqv d d')) H)
def a2b(hu:X.A.units+64<cLine):sX X (compareOp .Eq) (Ε X.K false):=by
 intro Y s σ H x y v u Q I rx ry h;obtain⟨d,d',h1,h2,s1,s2,q⟩:=h;obtain⟨as,ra⟩:=h1.reads I rx;obtain⟨bs,rb⟩:=h2.reads I ry;exact eq_dataH ra rb s1 s2 hu ⟨.bl _,H,I,Z,q⟩
def a2c(hu:X.A.units+64<cLine):sX X (compareOp .NotEq) (Ε X.K true):=by
 intro Y s σ H x y v u Q I rx ry h;obtain⟨d,d',h1,h2,s1,s2,q⟩:=h;obtain⟨as,ra⟩:=h1.reads I rx;obtain⟨bs,rb⟩:=h2.reads I ry;exact ne_dataH ra rb s1 s2 hu ⟨.bl _,H,I,Z,q⟩
inductive U8(K:aH)(neg:Bool)(x:V)(y:V)(H:Hp)(Q:VK):Prop
 |mk (d ds:_) (_:KJ K H x d) (_:KJ K H y (.list ds)) (_:SeqAt.shaped d=true) (_:SeqAt.shaped (.list ds)=true) (_:Q (.bl (if neg then !ds.any (λe=>PyData.eqv e d)else ds.any (λe=>PyData.eqv e d))) H)
def a2d(hu:X.A.units+65<cLine):sX X (compareOp .In) (U8 X.K false):=by
 intro Y s σ H x y v u Q I rx ry h;obtain⟨d,ds,h1,h2,s1,s2,q⟩:=h;obtain⟨as,ra⟩:=h1.reads I rx;obtain⟨bs,rb⟩:=h2.reads I ry;exact SeqAt.in_list_reads rb ra (Ia s2) (Ia s1) (room_in_shaped s1 hu) ⟨.bl _,H,I,Z,q⟩
def Ys(hu:X.A.units+65<cLine):sX X (compareOp .NotIn) (U8 X.K true):=by
 intro Y s σ H x y v u Q I rx ry h;obtain⟨d,ds,h1,h2,s1,s2,q⟩:=h;obtain⟨as,ra⟩:=h1.reads I rx;obtain⟨bs,rb⟩:=h2.reads I ry;exact SeqAt.notIn_list_reads rb ra (Ia s2) (Ia s1) (room_in_shaped s1 hu) ⟨.bl _,H,I,Z,q⟩
def a2e:V->Option Value
 |.ty n=>some (.type n)
 |.ref a=>some (.ref a)
 |_=>none
def ã{c:V}{cv u:Value}(h:a2e c=some cv)(r:cV c u):u=cv:=by
 cases c with
 |ty n=>cases h;exact r
 |ref a=>cases h;exact r
 |_=>cases h
def QT:jL X (.builtin "isinstance") (λxs H Q=>∃x c cv t b,xs=[x,c]/\a2e c=some cv/\tU X.K H x t/\PySem.W.kitOne X.K t cv=some b/\Q (.bl b) H):=by
 intro Y s σ H xs us Q I r h;obtain⟨x,c,cv,t,b,rfl,hc,ty,hk,q⟩:=h;obtain⟨u1,u2,rfl,r1,r2⟩:=vals2 r;obtain rfl:=ã hc r2;exact Yj I r1 ty hk λtk=>⟨.bl b,H,I.tok tk,Z,q⟩
abbrev Cx.in1(X:Cx):Cx:={ X with A:=X.A.in1}
def bI.in1{Y:List (Addr×Obj)}{σ:St}{H:Hp}{s:Shared}(I:bI X Y σ H s):bI X.in1 Y σ H s :=
 ⟨⟨I.ok.mod,I.ok.kind,I.ok.glob,I.ok.blt,I.ok.above,I.ok.inj,I.ok.has,I.ok.cab,I.ok.hd,I.ok.frames,I.ok.stk,I.ok.exf,I.ok.bs,I.ok.Ş,I.ok.Uk,I.ok.Yd,I.ok.BJ,I.ok.Ų⟩,I.os,I.bare,I.base,I.loc,I.cell,I.free,I.tM,I.pin,I.hok,I.len⟩
def bI.of_in1{H:Hp}{s:Shared}(I:bI X.in1 Y σ H s):bI X Y σ H s :=
 ⟨⟨I.ok.mod,I.ok.kind,I.ok.glob,I.ok.blt,I.ok.above,I.ok.inj,I.ok.has,I.ok.cab,I.ok.hd,I.ok.frames,I.ok.stk,I.ok.exf,I.ok.bs,I.ok.Ş,I.ok.Uk,I.ok.Yd,I.ok.BJ,I.ok.Ų⟩,I.os,I.bare,I.base,I.loc,I.cell,I.free,I.tM,I.pin,I.hok,I.len⟩
def oO(K:aH)(H:Hp)(xs:List V)(bs:List Bool):Prop:=Paired (λx b=>Ð K x H b) xs bs
theorem oO.get{K:aH}{H:Hp}:∀{xs:List V}{bs:List Bool}{i:Nat}{x:V},oO K H xs bs->xs[i]?=some x->∃b,bs[i]?=some b/\Ð K x H b
 |_,_,_,_,.nil,h=>by simp at h
 |_,_,0,_,.cons h r,e=>by
  simp at e;subst e
  exact⟨_,Z,h⟩
 |_,_,i+1,_,.cons h r,e=>by
  obtain⟨d,e1,q⟩:=oO.get (i:=i) r (by simpa using e)
  exact⟨d,by simpa using e1,q⟩
theorem oO.bls{K:aH}{H:Hp}:∀bs:List Bool,oO K H (bs.map V.bl) bs
 | []=>.nil
 |b::bs=>.cons Z (oO.bls bs)
def ä{H:Hp}{p:Addr}{ys:List V}{bs:List Bool}(hc:X.calm=true)(hq:bM X.K H p ys)(ht:oO X.K H ys bs)(f:Gm X Y H it) :
  ∀(k i:Nat) (s:Shared),ys.length-i=k->bI X Y σ H s->s.heap.IsListIter it p i->(∀s',bI X Y σ H s'->R (.ok (.ret (.bool ((bs.drop i).all id)))) s')->
  codeAny (model X.prog X.w) X.A (.builtin "all.loop" ⟨[.ref it],[]⟩) R s:=by
 obtain⟨f0,f1,f2,f3,f4,f5⟩:=f;intro k
 induction k with
 |zero =>
  intro i s hk I st hR;obtain⟨cA,rv,pl,hz⟩:=I.list hq;have hl:=rv.length;refine rY F.entry_all_loop ?_;rw[tD NT _];show wpAny _ X.A.in1 (pyNext (.ref it) >>= _) _ _ s;refine M (wpAny_pyNext_list_end (I.ok.hd hc) st pl.isList (by simp;omega) λh' eb=>?_);refine M (kY (ao ?_));have q:=hR _ (I.turned (t':=s.toks) (λb o hb e=>eb b o hb e) f0 f1 f3 f4 f5);have hlb:bs.length=ys.length:=(aV ht).symm;rw[List.drop_of_length_le ()]at q;exact q
 |succ k ih =>
  intro i s hk I st hR;obtain⟨cA,rv,pl,hz⟩:=I.list hq;have hl:=rv.length;have hlt:i<ys.length:=()
  have hx:ys[i]?=some ys[i]:=by simp[hlt]
  obtain⟨u,hu,ru⟩:=rv.get hx;obtain⟨b,hb,tb⟩:=ht.get hx;refine rY F.entry_all_loop ?_;rw[tD NT _];show wpAny _ X.A.in1 (pyNext (.ref it) >>= _) _ _ s;refine M (Sy st pl.isList (x:=u) () λh' st' sb=>?_);have I1:bI X Y σ H { s with heap:=h'}:=I.turned (t':=s.toks) (λb o hb e=>(sb.2 b hb).trans e) f0 f1 f3 f4 f5;have hdb:bs.drop i=b::bs.drop (i+1):=by
   obtain⟨hlb,eb⟩:=fO.mp hb;rw[HS hlb,eb]
  rw[hdb]at hR;have I1p:bI X (Y++v5 [it] h') σ H { s with heap:=h'}:=I1.pinned (fp:=[it]) (λc hcc=>by rw[bL.mp hcc];exact⟨f0,f1,f2,f3,f4,f5⟩) λc hcc=>by
   rw[bL.mp hcc];obtain⟨o,e,c',d⟩:=st';grind
  refine M (fL (iJ (Ur (X:=X.in1.nox) _ _ σ H ys[i] u (λc H'=>c=b/\H'=H) ((bI.in1 I1p).wish _) ru ⟨b,tb,Z,Z⟩) (λc s2 ⟨H',I2,e1,e2⟩=>?_) λ_ _ z=>False.elim z));rw[e2]at I2;subst e1;have I2':bI X (Y++v5 [it] h') σ H s2:=bI.of_in1 I2.uN;have å:bI X Y σ H s2:=I2'.xY;have st2:s2.heap.IsListIter it p (i+1):=st'.at λo e=>(I2'.pin (it,o) (gB _ (gB _ (tR (bL.mpr Z) e)))).1;refine M (xW ?_);cases c with
  |true =>
   simp only[if_true];exact ao ⟨uL NT _,ih (i+1) s2 () å st2 λs' I'=>by simpa using hR s' I'⟩
  |false =>
   simp only[Bool.false_eq_true,if_false];refine M (kY (ao ?_));simpa using hR s2 å
def Yt(hc:X.calm=true):jL X (.builtin "all") (λxs H Q=>∃p ys bs,xs=[.ref p]/\bM X.K H p ys/\oO X.K H ys bs/\Q (.bl (bs.all id)) H):=by
 intro Y s σ H xs us Q I r h;obtain⟨p,ys,bs,rfl,hq,ht,q⟩:=h;obtain⟨u,rfl,rx⟩:=vals1 r;cases rx;refine call_function_tree F.kind_all F.plain_all F.entry_all (F.args_all1 _) ?_;unfold Builtin.«all»;refine M (m:=oneArg "all" _) (ao ?_);obtain⟨cA,rv,pl,hz⟩:=I.list hq;refine M (vQ pl.isList ?_);have I1:bI X Y σ H { s with heap:=s.heap.push { cls:=.type "list_iterator",data:=.fields #[.ref p,.int 0 0]}}:=I.kept (t':=s.toks) λb o e=>bJ _ e;refine ao ⟨uL NT _,ä hc hq ht (I.Gn (aL _) (I.hok.fresh (aL _))) ys.length 0 _ (Af _) I1 ⟨_,bU _ Z,Z,Z⟩ λs' I'=>?_⟩;exact⟨.bl _,H,I',Z,by simpa using q⟩
def æ{H:Hp}{p:Addr}{ys:List V}{bs:List Bool}(hc:X.calm=true)(hq:bM X.K H p ys)(ht:oO X.K H ys bs)(f:Gm X Y H it) :
  ∀(k i:Nat) (s:Shared),ys.length-i=k->bI X Y σ H s->s.heap.IsListIter it p i->(∀s',bI X Y σ H s'->R (.ok (.ret (.bool ((bs.drop i).any id)))) s')->
  codeAny (model X.prog X.w) X.A (.builtin "any.loop" ⟨[.ref it],[]⟩) R s:=by
 obtain⟨f0,f1,f2,f3,f4,f5⟩:=f;intro k
 induction k with
 |zero =>
  intro i s hk I st hR;obtain⟨cA,rv,pl,hz⟩:=I.list hq;have hl:=rv.length;refine rY F.entry_any_loop ?_;rw[tD NZ _];show wpAny _ X.A.in1 (pyNext (.ref it) >>= _) _ _ s;refine M (wpAny_pyNext_list_end (I.ok.hd hc) st pl.isList (by simp;omega) λh' eb=>?_);refine M (kY (ao ?_));have q:=hR _ (I.turned (t':=s.toks) (λb o hb e=>eb b o hb e) f0 f1 f3 f4 f5);have hlb:bs.length=ys.length:=(aV ht).symm;rw[List.drop_of_length_le ()]at q;exact q
 |succ k ih =>
  intro i s hk I st hR;obtain⟨cA,rv,pl,hz⟩:=I.list hq;have hl:=rv.length;have hlt:i<ys.length:=()
  have hx:ys[i]?=some ys[i]:=by simp[hlt]
  obtain⟨u,hu,ru⟩:=rv.get hx;obtain⟨b,hb,tb⟩:=ht.get hx;refine rY F.entry_any_loop ?_;rw[tD NZ _];show wpAny _ X.A.in1 (pyNext (.ref it) >>= _) _ _ s;refine M (Sy st pl.isList (x:=u) () λh' st' sb=>?_);have I1:bI X Y σ H { s with heap:=h'}:=I.turned (t':=s.toks) (λb o hb e=>(sb.2 b hb).trans e) f0 f1 f3 f4 f5;have hdb:bs.drop i=b::bs.drop (i+1):=by
   obtain⟨hlb,eb⟩:=fO.mp hb;rw[HS hlb,eb]
  rw[hdb]at hR;have I1p:bI X (Y++v5 [it] h') σ H { s with heap:=h'}:=I1.pinned (fp:=[it]) (λc hcc=>by rw[bL.mp hcc];exact⟨f0,f1,f2,f3,f4,f5⟩) λc hcc=>by
   rw[bL.mp hcc];obtain⟨o,e,c',d⟩:=st';grind
  refine M (fL (iJ (Ur (X:=X.in1.nox) _ _ σ H ys[i] u (λc H'=>c=b/\H'=H) ((bI.in1 I1p).wish _) ru ⟨b,tb,Z,Z⟩) (λc s2 ⟨H',I2,e1,e2⟩=>?_) λ_ _ z=>False.elim z));rw[e2]at I2;subst e1;have I2':bI X (Y++v5 [it] h') σ H s2:=bI.of_in1 I2.uN;have å:bI X Y σ H s2:=I2'.xY;have st2:s2.heap.IsListIter it p (i+1):=st'.at λo e=>(I2'.pin (it,o) (gB _ (gB _ (tR (bL.mpr Z) e)))).1;refine M (xW ?_);cases c with
  |false =>
   simp only[Bool.false_eq_true,if_false];exact ao ⟨uL NZ _,ih (i+1) s2 () å st2 λs' I'=>by simpa using hR s' I'⟩
  |true =>
   simp only[if_true];refine M (kY (ao ?_));simpa using hR s2 å
def Yu(hc:X.calm=true):jL X (.builtin "any") (λxs H Q=>∃p ys bs,xs=[.ref p]/\bM X.K H p ys/\oO X.K H ys bs/\Q (.bl (bs.any id)) H):=by
 intro Y s σ H xs us Q I r h;obtain⟨p,ys,bs,rfl,hq,ht,q⟩:=h;obtain⟨u,rfl,rx⟩:=vals1 r;cases rx;refine call_function_tree F.kind_any F.plain_any F.entry_any (F.args_any1 _) ?_;unfold Builtin.«any»;refine M (m:=oneArg "any" _) (ao ?_);obtain⟨cA,rv,pl,hz⟩:=I.list hq;refine M (vQ pl.isList ?_);have I1:bI X Y σ H { s with heap:=s.heap.push { cls:=.type "list_iterator",data:=.fields #[.ref p,.int 0 0]}}:=I.kept (t':=s.toks) λb o e=>bJ _ e;refine ao ⟨uL NZ _,æ hc hq ht (I.Gn (aL _) (I.hok.fresh (aL _))) ys.length 0 _ (Af _) I1 ⟨_,bU _ Z,Z,Z⟩ λs' I'=>?_⟩;exact⟨.bl _,H,I',Z,by simpa using q⟩
structure Dn(K:aH)(mg:Str->Option Value)(x:Str)(st:Stmt)(ps:List Str) where
 f:Addr
 fd:FuncData
 F:Fun K x x st f fd
 b:Binds K fd ps []
 m:mg x=some (.ref f)
 bd:∀(s:Shared) (us:List Value),us.length=ps.length->BindsTo s fd ⟨us,[]⟩ (ps.zip us)
structure Bl(mg:Str->Option Value):Prop where
 get:∀x:Str,x∈(["len","range","list","isinstance","int","bool","str","all","any","sorted","set","min","max","tuple","enumerate","dict","ValueError"]:List Str)->mg x=none
def Bl.len{mg:Str->Option Value}(B:Bl mg):mg "len" = none:=B.get _ ()
def Bl.range{mg:Str->Option Value}(B:Bl mg):mg "range" = none:=B.get _ ()
def Bl.list{mg:Str->Option Value}(B:Bl mg):mg "list" = none:=B.get _ ()
def Bl.isinstance{mg:Str->Option Value}(B:Bl mg):mg "isinstance" = none:=B.get _ ()
def Bl.int{mg:Str->Option Value}(B:Bl mg):mg "int" = none:=B.get _ ()
def Bl.bool{mg:Str->Option Value}(B:Bl mg):mg "bool" = none:=B.get _ ()
def Bl.all{mg:Str->Option Value}(B:Bl mg):mg "all" = none:=B.get _ ()
def Bl.any{mg:Str->Option Value}(B:Bl mg):mg "any" = none:=B.get _ ()
def Bl.sorted{mg:Str->Option Value}(B:Bl mg):mg "sorted" = none:=B.get _ ()
def Bl.set{mg:Str->Option Value}(B:Bl mg):mg "set" = none:=B.get _ ()
def Bl.min{mg:Str->Option Value}(B:Bl mg):mg "min" = none:=B.get _ ()
def Bl.max{mg:Str->Option Value}(B:Bl mg):mg "max" = none:=B.get _ ()
def Bl.tuple{mg:Str->Option Value}(B:Bl mg):mg "tuple" = none:=B.get _ ()
def Bl.enumerate{mg:Str->Option Value}(B:Bl mg):mg "enumerate" = none:=B.get _ ()
def Bl.dict{mg:Str->Option Value}(B:Bl mg):mg "dict" = none:=B.get _ ()
def Fy{K:aH}:PySem.W.kitOne K (.type "int") (.type "int")=some true:=by rfl
def Cj{K:aH}:PySem.W.kitOne K (.type "int") (.type "bool")=some false:=by rfl
def QV{K:aH}:PySem.W.kitOne K (.type "NoneType") (.type "int")=some false:=by rfl
def O3{K:aH}:PySem.W.kitOne K (.type "NoneType") (.type "bool")=some false:=by rfl
section
variable{K:aH}
def bK(e:X.K=K):IxR X (a4d K):=by subst e;exact ž
def aN(e:X.K=K):IxR X (a4e K):=by subst e;exact a1S
def Ζ(e:X.K=K)(hu:X.A.units+64<cLine):sX X (compareOp .Eq) (Ε K false):=by subst e;exact a2b hu
def O4(e:X.K=K)(hu:X.A.units+64<cLine):sX X (compareOp .NotEq) (Ε K true):=by subst e;exact a2c hu
def uD(e:X.K=K)(hu:X.A.units+65<cLine):sX X (compareOp .In) (U8 K false):=by subst e;exact a2d hu
def jT(e:X.K=K)(hu:X.A.units+65<cLine):sX X (compareOp .NotIn) (U8 K true):=by subst e;exact Ys hu
def Η(e:X.K=K):sX X (compareOp .In) (rIn K false):=by subst e;exact Ym
def U9(e:X.K=K):sX X (compareOp .NotIn) (rIn K true):=by subst e;exact OD
def a6j(K:aH):List V->Hp->VK->Prop:=λxs H Q=>∃p ys,xs=[.ref p]/\(bM K H p ys\/cL K H p ys)/\Q (.int ys.length) H
def cJ(e:X.K=K):jL X (.builtin "len") (a6j K):=by subst e;exact OJ
def Θ(K:aH):List V->Hp->VK->Prop:=λxs H Q=>∃p ys,xs=[.ref p]/\(bM K H p ys\/cL K H p ys)/\∀l,H l=none->Q (.ref l) (cI H l (.lst ys))
def Va(e:X.K=K):jL X (.type "list") (Θ K):=by subst e;exact O1
def a4l(K:aH):List V->Hp->VK->Prop:=λxs H Q=>∃x c cv t b,xs=[x,c]/\a2e c=some cv/\tU K H x t/\PySem.W.kitOne K t cv=some b/\Q (.bl b) H
def jb(e:X.K=K):jL X (.builtin "isinstance") (a4l K):=by subst e;exact QT
def a6k(K:aH):List V->Hp->VK->Prop:=λxs H Q=>∃p ys bs,xs=[.ref p]/\bM K H p ys/\oO K H ys bs/\Q (.bl (bs.all id)) H
def a6l(K:aH):List V->Hp->VK->Prop:=λxs H Q=>∃p ys bs,xs=[.ref p]/\bM K H p ys/\oO K H ys bs/\Q (.bl (bs.any id)) H
def Yv(e:X.K=K)(hc:X.calm=true):jL X (.builtin "all") (a6k K):=by subst e;exact Yt hc
def Yw(e:X.K=K)(hc:X.calm=true):jL X (.builtin "any") (a6l K):=by subst e;exact Yu hc
def fU{l:Expr}{tl:TE}(e:X.K=K)(hl:PE X l tl):PI X tg l (a1e K tl):=by subst e;exact ų hl
def wD{l:Expr}{tl:TE}(e:X.K=K)(hl:PE X l tl):PI X tg l (a3N K tl):=by subst e;exact a1J hl
def a6m(K:aH)(ta:TE):TT:=λσ H Q=>ta σ H λx H'=>∃k,Ð K x H' k/\Q k H'
def fY{a:Expr}{ta:TE}(e:X.K=K)(ha:PE X a ta)(he:∀whole,isTrue a X.env whole=(do let v <-whole;standAt a.pos;holding [v] (truthy v))):PT X a (a6m K ta):=by subst e;exact Ñ ha he
def jU{t:Ê}(e:X.K=K)(hc:X.calm=true)(h:PGs X es t)
  (hn:@&((assignEach es X.env).length=n)) (hst:@&((assignEach es X.env).findIdx? (·.1)=none)):PG X (.Tuple es k pos) (a3M K n t):=by subst e;exact a1G hc h hn hst
def qN{o:Expr}{to:TE}{name:Str}{apos cpos:Pos}{T id:String}(e:X.K=K)(pa:PlainAttrs T)(slot:Slot T name id)(hty:typeOf (.builtin id)=pure (.type "method_descriptor"))(hm:MtR X id r)(ho:PE X o to)
  (hbase:@&(attributeBase o name X.env (eval o X.env)=eval o X.env)) (hline:@&((apos.endLine==cpos.line)=true)):PE X (.Call (.Attribute o name apos) [] [] cpos) (a4f K T r to):=by subst e;exact a1U pa slot hty hm ho hbase hline
def qw{o e:Expr}{to:TE}{t:TA}{name:Str}{apos cpos:Pos}{T id:String}(e0:X.K=K)(pa:PlainAttrs T)(slot:Slot T name id)(hty:typeOf (.builtin id)=pure (.type "method_descriptor"))(hm:MtR X id r)(ho:PE X o to)(ha:PA X (e::es) t)
  (hbase:@&(attributeBase o name X.env (eval o X.env)=eval o X.env))
  (hfew:@&(((backTo cpos (starEach (e::es) X.env)).all (λx=>!x.1)&&(backToKw cpos (keywordEach [] X.env)).all (λx=>x.1.isSome)
   && decide ((e::es).length+([]:List Keyword).length+(if([]:List Keyword).isEmpty then 0 else 1)<30))=true))
  (hline:@&((apos.endLine==cpos.line)=true)) (hs:@&(starEach (e::es) X.env=(false,eval e X.env)::starEach es X.env)) (hplain:@&((backTo cpos (starEach es X.env)).any (·.1)=false)) :
  PE X (.Call (.Attribute o name apos) (e::es) [] cpos) (tBM K T r to t):=by subst e0;exact a4g pa slot hty hm ho ha hbase hfew hline hs hplain
end
inductive a4m(t u:TS)(D:Ends)(σ:St)(H:Hp):Prop
 |mk (Z97:St->Hp->Prop) (_:t { D with nx:=Z97} σ H) (_:∀σ' H',Z97 σ' H'->u D σ' H')
def jV{st:Stmt}{rest:List Stmt}{t u:TS}(h1:PS X st t)(h2:QG X rest u):QG X (st::rest) (a4m t u):=by
 intro Y s σ H D I h;obtain⟨Z97,q1,q2⟩:=h;refine TF (jJ (h1 Y s σ H { D with nx:=Z97} I q1) λf s1 q=>?_);cases f with
 |next =>
  obtain⟨σ',H',I',q⟩:=q;exact h2 Y s1 σ' H' D I' (q2 σ' H' q)
 |ret v=>exact q
 |brk=>exact q
 |cont=>exact q
structure gW(H:Hp)(p:Addr)(o:HO)(H':Hp):Prop where
 fresh:H p=none
 here:H' p=some o
 rest:∀b,b≠p->H' b=H b
def gW.nY{H:Hp}{p:Addr}(h:H p=none):gW H p o (cI H p o):=⟨h,cP,λ_ hb=>aO hb⟩
def gW.same{H:Hp}{p:Addr}(n:gW H p o H'):aJ H H':=λb u e=>(n.rest b (eU e n.fresh)).trans e
def gW.ne{H:Hp}{p b:Addr}{u:HO}(n:gW H p o H')(h:H b=some u):b≠p:=eU h n.fresh
structure wF(H:Hp)(l:Addr)(o:HO)(H':Hp):Prop where
 here:H' l=some o
 rest:∀b,b≠l->H' b=H b
def wF.nY{H:Hp}{l:Addr}:wF H l o (cI H l o):=⟨cP,λ_ hb=>aO hb⟩
section
variable{K:aH}{t:TA}
def a1h(t:TA):TE:=λσ H Q=>t σ H λxs H1=>xs.length<=1000/\∀p H',gW H1 p (.tup xs) H'->Q (.ref p) H'
def a4n(t:TA):TE:=λσ H Q=>t σ H λxs H1=>xs.length<=1000/\∀p H',gW H1 p (.lst xs) H'->Q (.ref p) H'
def bw{x1}(h:PA X es t):PE X (.Tuple es x1 pos) (a1h t):=by
 intro Y s σ H Q I hq;refine wpAny_Tuple_spliced (jJ (h pos Y s σ H _ I hq) λus s1 ⟨xs,H1,I1,r,z,q⟩=>?_);have z':xs.length<=sizeLine:=eE (cG z);refine⟨by rw[<-r.length];exact z',?_⟩;have hf:H1 s1⁻¹=none:=I1.hok.fresh (aL _);exact⟨.ref s1⁻¹,cI H1 s1⁻¹ (.tup xs),I1.laid (t':=s1.toks) (λb u e=>bJ _ e) (aL _) ⟨z',us,r,⟨_,bU _ Z,Z,_,Z⟩⟩,Z,q _ _ (gW.nY hf)⟩
def cu(h:PA X es t):PE X (.List es pos) (a4n t):=by
 intro Y s σ H Q I hq;refine wpAny_List_spliced (jJ (h pos Y s σ H _ I hq) λus s1 ⟨xs,H1,I1,r,z,q⟩=>?_);have z':xs.length<=sizeLine:=eE (cG z);refine⟨by rw[<-r.length];exact z',?_⟩;have hf:H1 s1⁻¹=none:=I1.hok.fresh (aL _);exact⟨.ref s1⁻¹,cI H1 s1⁻¹ (.lst xs),I1.laid (t':=s1.toks) (λb u e=>bJ _ e) (aL _) ⟨z',us,0,r,bU _ Z⟩,Z,q _ _ (gW.nY hf)⟩
def sX.weak{f:Value->Value->Sem Value}{r r':R2}(h:sX X f r)(m:∀x y H Q,r' x y H Q->r x y H Q):sX X f r':=λY s σ H x y v u Q I rx ry q=>h Y s σ H x y v u Q I rx ry (m x y H Q q)
def jL.weak{f:Value}{r r':List V->Hp->VK->Prop}(h:jL X f r)(m:∀xs H Q,r' xs H Q->r xs H Q):jL X f r':=λY s σ H xs us Q I rs q=>h Y s σ H xs us Q I rs (m xs H Q q)
inductive a4o(x:V)(y:V)(H:Hp)(Q:VK):Prop
 |mk (l b xs zs:_) (_:x=.ref l) (_:y=.ref b) (_:H l=some (.lst xs)) (_:H b=some (.lst zs)) (_:xs.length+zs.length<=1000) (_:∀p H',gW H p (.lst (xs++zs)) H'->Q (.ref p) H')
def mF:sX X (binaryOp .Add) a4o:=a1Y.weak λx y H Q ⟨l,b,xs,zs,e1,e2,h1,h2,z,q⟩=>⟨l,b,xs,zs,e1,e2,h1,h2,eE (cG z),λp hp=>q p _ (gW.nY hp)⟩
inductive a6n(K:aH)(x:V)(lo:Option Int)(hi:Option Int)(H:Hp)(Q:VK):Prop
 |mk (a xs:_) (_:x=.ref a) (_:bM K H a xs) (_:∀p H',gW H p (.lst (uO xs lo hi)) H'->Q (.ref p) H')
def yc(e:X.K=K):SlR X (a6n K):=by
 subst e;exact λY s σ H x v vl vu lo hi sl Q I rx hs pl pu ⟨a,xs,e,h,q⟩=>Α Y s σ H x v vl vu lo hi sl Q I rx hs pl pu ⟨a,xs,e,h,λp hp=>q p _ (gW.nY hp)⟩
inductive a2f(K:aH)(xs:List V)(H:Hp)(Q:VK):Prop
 |mk (p ys:_) (_:xs=[.ref p]) (_:(bM K H p ys\/cL K H p ys)) (_:∀l H',gW H l (.lst ys) H'->Q (.ref l) H')
def Ak(e:X.K=K):jL X (.type "list") (a2f K):=(Va e).weak λxs H Q ⟨p,ys,e,h,q⟩=>⟨p,ys,e,h,λl hl=>q l _ (gW.nY hl)⟩
def U4.weak{id:String}{r':V->List V->Hp->VK->Prop}(h:U4 X id r)(m:∀x xs H Q,r' x xs H Q->r x xs H Q):U4 X id r':=λY s σ H x xs v us Q I rx rs q=>h Y s σ H x xs v us Q I rx rs (m x xs H Q q)
inductive a4p(x:V)(vs:List V)(H:Hp)(Q:VK):Prop
 |mk (l xs y:_) (_:x=.ref l) (_:vs=[y]) (_:H l=some (.lst xs)) (_:xs.length<1000) (_:∀H',wF H l (.lst (xs++[y])) H'->Q .non H')
def jo:U4 X "list.append" a4p:=Yo.weak λx vs H Q ⟨l,xs,y,e1,e2,h,z,q⟩=>⟨l,xs,y,e1,e2,h,cG (eE z),q _ wF.nY⟩
inductive a4q(x:V)(vs:List V)(H:Hp)(Q:VK):Prop
 |mk (l xs:_) (_:x=.ref l) (_:vs=[]) (_:H l=some (.lst xs)) (_:∀H',wF H l (.lst []) H'->Q .non H')
def Yx:U4 X "list.clear" a4q:=Û.weak λx vs H Q ⟨l,xs,e1,e2,h,q⟩=>⟨l,xs,e1,e2,h,q _ wF.nY⟩
end
def O5{K:aH}{xs:List V}(f:V->Option V)(hx:bM K H1 a xs)(hz:xs.length<=1000)
  (hs:∀x H (N:Option V->Hp->Prop),x∈xs->aJ H1 H->(∀H',aJ H1 H'->N (f x) H')->g x (qu ix σ) H λσ2 H2=>tt σ2 H2 λb H3=>if b=true then te σ2 H3 λv H4=>N (some v) H4 else N none H3)
  (hd:∀H p H',aJ H1 H->gW H p (.lst (xs.filterMap f)) H'->Q (.ref p) H'):mW ix g tt te σ H1 Q (ş K a) :=
 a4k f hx (eE (cG hz)) hs λH p s hp=>hd H p _ s (gW.nY hp)
def Ι{lo:Int}(f:Nat->Option V)(hz:n<=1000)
  (hs:∀i H (N:Option V->Hp->Prop),i<n->aJ H1 H->(∀H',aJ H1 H'->N (f i) H')->g (.int (lo+i)) (qu ix σ) H λσ2 H2=>tt σ2 H2 λb H3=>if b=true then te σ2 H3 λv H4=>N (some v) H4 else N none H3)
  (hd:∀H p H',aJ H1 H->gW H p (.lst ((List.range n).filterMap f)) H'->Q (.ref p) H'):mW ix g tt te σ H1 Q (Wh lo n) :=
 a2a f (eE (cG hz)) hs λH p s hp=>hd H p _ s (gW.nY hp)
end L2
namespace Lw
open L2
variable{H:Hp}{ns:List Int}{K:aH}{a:Addr}
def qX{p:Addr}(h:H p=none)(o:HO):aJ H (cI H p o):=λb u q=>by rw[aO (eU q h)];exact q
theorem Ck{α β:Type}{f:α->Option β}{g:α->β}:∀{l:List α},(∀x∈l,f x=some (g x))->l.filterMap f=l.map g
 | [],_=>rfl
 |x::r,h=>by
  rw[Nm (h x aU),cH,Ck λy hy=>h y (bD _ hy)]
theorem El{f:V->Option V}{p:Int->Bool}:∀{ns:List Int},(∀v∈ns,f (.int v)=if p v=true then some (.int v)else none)->(ns.map V.int).filterMap f=(ns.filter p).map V.int
 | [],_=>rfl
 |v::r,h=>by
  have ih:=El (f:=f) (p:=p) (ns:=r) λy hy=>h y (bD _ hy)
  grind
def Wt{k:Int}(h0:0<=k)(h:k<(ns.length:Int)):Sg (ns.map V.int) k=some (.int (ns.getD k.toNat 0)):=by
 have hk:k.toNat<ns.length:=()
 have ek:k=((k.toNat:Nat):Int):=()
 have q:Sg (ns.map V.int) ((k.toNat:Nat):Int)=some (.int (ns.getD k.toNat 0)):=cD (by
  grind)
 grind
def ZL(K:aH)(H:Hp)(a:Addr)(ns:List Int):Prop:=(∃o,H a=some (.iC o (.lst (ns.map V.int))))\/
 ∃(o:Obj) (cA:Array Value) (n:Nat),K.lookup a=some o/\o.cls=.type "list" /\o.dict=none/\o.data=.seq cA n/\cA.size<=sizeLine/\dz (ns.map V.int) cA.toList
def ZL.seq(h:ZL K H a ns):bM K H a (ns.map V.int):=by
 rcases h with⟨o,h⟩|h
 ·exact .inl (.inr ⟨o,h⟩)
 ·exact .inr h
def ZL.of(hO:Only H)(h:bM K H a (ns.map V.int)):ZL K H a ns:=by
 rcases h with(h|⟨o,h⟩)|h
 ·rcases hO a with z|⟨ob,xs,z⟩
  ·grind
  grind
 ·exact .inl ⟨o,h⟩
 ·exact .inr h
def ZL.same{H':Hp}(e:aJ H H')(h:ZL K H a ns):ZL K H' a ns:=by
 rcases h with⟨o,h⟩|h
 ·exact .inl ⟨o,e _ _ h⟩
 ·exact .inr h
inductive a1i(K:aH)(vs:List V)(H:Hp)(Q:VK)(u_3:XK):Prop
 |mk (a:Addr) (ns:List Int) (_:vs=[.ref a]) (_:ZL K H a ns) (_:ns.length<=63) (_:∀H',Q (.bl true) H')
end Lw
namespace L2
open PyProof.Rows
variable{K:aH}{mg:Str->Option Value}{k:Nat}
def a4r{h:Heap}{x:Str}{st:Stmt}{ps:List Str}{f:Addr}{oc:Value}{od an:Option Addr}{osl:Array (Option Value)}{kV doc pm eV ct:Value}(X:K.In h)(G:h.Ns mainGlobals mg)
  (a:PySem.W.nsIn K mainGlobals x=some (some (.ref f))) (l:K.lookup f=some ⟨oc,od,.func (PySem.W.fnOf x x (gZ st) (gA st) (aF st) .none kV doc pm an eV ct),osl⟩) (c:PySem.W.codeIn K eV x=true) (k:PySem.W.keepIn K (.ref f)=true)
  (hb:∀(kV doc pm:Value) (an:Option Addr) (eV ct:Value) (us:List Value),us.length=ps.length->bindArgs (PySem.W.fnOf x x (gZ st) (gA st) (aF st) .none kV doc pm an eV ct) ⟨us,[]⟩=pure (ps.zip us)) :
  Nonempty (Dn K mg x st ps) :=
 have F:=U6 (st:=st) l c k
 ⟨⟨f,_,F,F.binds hb,Iz X G a,λs us hl=>.of_eq (hb _ _ _ _ _ _ us hl)⟩⟩
def a4s{h:Heap}(X:K.In h)(G:h.Ns mainGlobals mg)
  (z1:PySem.W.nsIn K mainGlobals "len" = some none) (z2:PySem.W.nsIn K mainGlobals "range" = some none) (z3:PySem.W.nsIn K mainGlobals "list" = some none) (z4:PySem.W.nsIn K mainGlobals "isinstance" = some none) (z5:PySem.W.nsIn K mainGlobals "int" = some none)
  (z6:PySem.W.nsIn K mainGlobals "bool" = some none) (z7:PySem.W.nsIn K mainGlobals "str" = some none) (z8:PySem.W.nsIn K mainGlobals "all" = some none) (z9:PySem.W.nsIn K mainGlobals "any" = some none) (z10:PySem.W.nsIn K mainGlobals "sorted" = some none)
  (z11:PySem.W.nsIn K mainGlobals "set" = some none) (z12:PySem.W.nsIn K mainGlobals "min" = some none) (z13:PySem.W.nsIn K mainGlobals "max" = some none) (z14:PySem.W.nsIn K mainGlobals "tuple" = some none) (z15:PySem.W.nsIn K mainGlobals "enumerate" = some none)
  (z16:PySem.W.nsIn K mainGlobals "dict" = some none) (z17:PySem.W.nsIn K mainGlobals "ValueError" = some none):Bl mg:=by
 refine⟨λx hx=>?_⟩;simp only[List.mem_cons,List.not_mem_nil,or_false]at hx;rcases hx with rfl|rfl|rfl|rfl|rfl|rfl|rfl|rfl|rfl|rfl|rfl|rfl|rfl|rfl|rfl|rfl|rfl
 ·exact lK X G z1
 ·exact lK X G z2
 ·exact lK X G z3
 ·exact lK X G z4
 ·exact lK X G z5
 ·exact lK X G z6
 ·exact lK X G z7
 ·exact lK X G z8
 ·exact lK X G z9
 ·exact lK X G z10
 ·exact lK X G z11
 ·exact lK X G z12
 ·exact lK X G z13
 ·exact lK X G z14
 ·exact lK X G z15
 ·exact lK X G z16
 ·exact lK X G z17
def a2g{P:Program}{w:World}{fa:Addr}{st:Stmt}{sp:Sp}{x:Str}(hfa:mg "law" = some (.ref fa))(d:Dn K mg "law" st [x])(F:∀base:Heap,bf P w K mg base gb k d.f d.fd [x] sp) :
  ∃fd:FuncData,(∀(s:Shared) (u:Value),BindsTo s fd ⟨[u],[]⟩ [(x,u)])/\∀base:Heap,K.In base->base.Ns mainGlobals mg->bf P w K mg base gb k fa fd [x] sp:=by
 have e:fa=d.f:=by
  have:=hfa.symm.trans d.m;have:=dM this;cases this;rfl
 subst e;exact⟨d.fd,λs u=>d.bd s [u] Z,λbase _ _=>F base⟩
def Ite(K:aH)(a:Addr):It :=
 ⟨λi H=>∃xs x,bM K H a xs/\xs[i]?=some x,λi H x H'=>∃p y,x=.ref p/\gW H p (.tup [.int i,y]) H'/\∀xs,bM K H a xs->xs[i]?=some y,λi H=>∃xs,bM K H a xs/\xs.length<=i⟩
def Yy{P:Program}{w:World}{elts:List Expr}{pos:Pos}(a it e:Addr)(hei:e≠it):Turn P w K (.Tuple elts k pos) (Ite K a) [e,it] e (λi h=>(∃old,IsEnum h e it i old)/\h.IsListIter it a i) where
 mem:=by simp
 obj:=λi h st b hb=>by
  obtain⟨⟨old,he⟩,hit⟩:=st
  rcases b7.mp hb with rfl|hb
  ·grind
  ·rw[bL.mp hb]
   obtain⟨o,e1,c,d⟩:=hit
   grind
 keep:=λi h h' st kk=>by
  obtain⟨⟨old,he⟩,hit⟩:=st
  exact⟨⟨old,kk e (by simp) _ he⟩,hit.at λo q=>kk it (by simp) o q⟩
 item:=by
  intro X hP hw hK hc i Y s σ H E I hf st hg
  subst hP hw hK
  obtain⟨xs,x,hq,hx⟩:=hg
  obtain⟨cA,rv,pl,hz⟩:=I.list hq
  obtain⟨u,hu,ru⟩:=rv.get hx
  obtain⟨⟨old,he⟩,hit⟩:=st
  obtain⟨f0,f1,f2,f3,f4,f5⟩:=hf e (by simp)
  obtain⟨g0,g1,g2,g3,g4,g5⟩:=hf it (by simp)
  refine wpAny_pyNext_enum_item he hit pl.isList (x:=u) () hei λh' ho hit' hT hsz hk=>?_
  refine⟨_,Z,Z7 ho λh2 he2 hs2=>?_⟩
  have eT:s⁻¹≠e:=gD (aX he)
  have iT:s⁻¹≠it:=by
   obtain⟨o,e1,_⟩:=hit
   exact gD (aX e1)
  have hT2:h2.get? s⁻¹=some { cls:=.type "tuple",data:=.seq #[.int i s.toks,u]}:=(hs2.2 _ eT).trans hT
  have kp:∀b o,b≠e->b≠it->s.heap.get? b=some o->h2.get? b=some o:=λb o h1 h2' q=>(hs2.2 b h1).trans (hk b o h1 h2' q)
  have I1:bI X Y σ H { s with heap:=h2,toks:=s.toks+1}:=by
   refine I.step (g':=s.gens) (d':=s.drawn) (H':=H) (ch:=[e,it]) (λb hb=>?_) (λb o _ _ hc q _=>kp b o (λz=>hc (by simp[z])) (λz=>hc (by simp[z])) q) (λb o _ _ hc q _=>⟨o.slots,kp b o (λz=>hc (by simp[z])) (λz=>hc (by simp[z])) q⟩) (λ_ _ _ _ n=>n)
    (λb o hc q=>⟨o,kp b o (λz=>hc (by simp[z])) (λz=>hc (by simp[z])) q⟩) (λ_ _ q=>q) (λ_ _ _ q=>q) (λb ps q=>⟨#[],by rw[q];simp⟩) (λm hm=>?_) (λb o q=>?_) I.bare
   ·rcases b7.mp hb with rfl|hb
    ·exact⟨f3,f1,f4,f5⟩
    ·rw[bL.mp hb];exact⟨g3,g1,g4,g5⟩
   ·obtain⟨o,es,ep,q,r⟩:=hm
    exact⟨o,es,ep,kp _ o (Ne.symm f1) (Ne.symm g1) q,r⟩
   ·have nb:∀c v,H c=some v->c≠e/\c≠it:=λc v q=>⟨eU q f0,eU q g0⟩
    refine(I.hok b o q).stay (λc v hcc r=>kp c v ?_ ?_ r) (λ_ q=>q) λ_ _ q=>q
    ·grind
    grind
  have hfree:H s⁻¹=none:=I.hok.fresh (aL _)
  have I2:bI X Y σ (cI H s⁻¹ (.tup [.int i,x])) { s with heap:=h2,toks:=s.toks+1}:=by
   refine bI.track I1 hfree I.sz (gD I.lt) (λy c q=>?_) (λp hp=>bW (aX (I.pin p hp).1)) ?_
   ·obtain⟨v,oc,q1,_⟩:=I.cell y c q
    exact bW (aX q1)
   ·exact⟨(by show 2<=sizeLine;decide),[.int i s.toks,u],.cons ⟨_,Z⟩ (.cons ru .nil),⟨_,hT2,Z,_,Z⟩⟩
  refine⟨.ref s⁻¹,_,I2,Z,⟨_,x,Z,gW.nY hfree,λys hy=>by rw[I.xX hy hq];exact hx⟩,⟨⟨u,?_⟩,hit'.at λo q=>(hs2.2 it (Ne.symm hei)).trans q⟩,λb hb=>?_⟩
  ·grind
  ·rcases b7.mp hb with rfl|hb
   ·rw[aO (Ne.symm eT)];exact f0
   ·rw[bL.mp hb,aO (Ne.symm iT)];exact g0
 done:=by
  intro X hP hw hK hc i Y s σ H E I hf st hg
  subst hP hw hK
  obtain⟨xs,hq,hx⟩:=hg
  obtain⟨cA,rv,pl,hz⟩:=I.list hq
  obtain⟨⟨old,he⟩,hit⟩:=st
  obtain⟨g0,g1,g2,g3,g4,g5⟩:=hf it (by simp)
  have hl:=rv.length
  exact wpAny_pyNext_enum_end (I.ok.hd hc) he hit pl.isList (by simp;omega) λh' eb=>⟨Z,I.turned (t':=s.toks) (λb o hb q=>eb b o hb q) g0 g1 g3 g4 g5⟩
 self:=λ_ _ _ _ _ st h=>by
  obtain⟨⟨old,he⟩,_⟩:=st
  exact NK he h
section
variable{X:Cx}
def a4t(K:aH)(ta:TA):TI:=λσ H R=>ta σ H λvs H1=>∃a,vs=[.ref a]/\(∃xs,bM K H1 a xs)/\R (Ite K a) H1
def Κ{elts:List Expr}{tpos:Pos}{l:Expr}{ta:TA}{p pos:Pos}(e0:X.K=K)(hg:Gl X "enumerate")(hm:X.mg "enumerate" = none)(ha:PA X [l] ta)(hs:@&(starEach [l] X.env=[(false,eval l X.env)])) :
  PI X (.Tuple elts k tpos) (.Call (.Name "enumerate" p) [l] [] pos) (a4t K ta):=by
 subst e0;intro Y s σ H R I h;refine xM (vZ I hg hm boot_enumerate (zT (jJ (ha pos Y s σ H _ I h) λus s1 ⟨vs,H1,I1,r1,q1⟩=>?_) hs (by rfl)));obtain⟨a,e,⟨xs,hq⟩,q⟩:=q1;subst e;obtain⟨u,rfl,ru⟩:=vals1 r1;cases ru;obtain⟨cA,rv,pl,hz⟩:=I1.list hq;refine call_enumerate_list pl.isList λh' he hit hsz hk=>NK he ?_;have I2:bI X Y σ H1 { s1 with heap:=h'}:=I1.kept (t':=s1.toks) hk;refine⟨s1⁻¹+1,[s1⁻¹+1,s1⁻¹],_,_,H1,Z,I2,Yy a s1⁻¹ (s1⁻¹+1) (gD (xQ _)),⟨⟨_,he⟩,hit⟩,λb hb=>?_,q⟩;have hb':s1⁻¹<=b:=by
  grind
 exact I1.Gn hb' (I1.hok.fresh hb')
end
def ç{a:Addr}{xs:List V}{g:TG}{tb:TS}{D:Ends}{σ:St}{H:Hp}(Pv:Nat->St->Hp->Prop)(h0:Pv 0 σ H)(hl:∀i σ H,i<=xs.length->Pv i σ H->bM K H a xs)
  (hs:∀(i:Nat) x σ H p H',xs[i]?=some x->Pv i σ H->gW H p (.tup [.int i,x]) H'->g (.ref p) σ H' λσ2 H2=>tb { D with nx:=Pv (i+1),ct:=Pv (i+1),bk:=D.nx} σ2 H2) (hd:∀σ H,Pv xs.length σ H->D.nx σ H) :
  ∃W:Nat->Nat->St->Hp->Prop,(∃m,W 0 m σ H)/\∀i m σ H,W i m σ H->
   ((Ite K a).stop i H/\D.nx σ H)\/((Ite K a).go i H/\∃N:St->Hp->Prop,(∀σ' H',N σ' H'->∃m',m'<m/\W (i+1) m' σ' H')/\∀x H',(Ite K a).ZK i H x H'->g x σ H' λσ2 H2=>tb { D with nx:=N,ct:=N,bk:=D.nx} σ2 H2):=by
 refine⟨λi m σ H=>m=xs.length-i/\i<=xs.length/\Pv i σ H,⟨xs.length,by simp,dh _,h0⟩,?_⟩;rintro i m σ H ⟨rfl,hi,p⟩;have q:=hl i σ H hi p;by_cases hlt:i<xs.length
 ·refine .inr ⟨⟨xs,xs[i],q,by simp[hlt]⟩,Pv (i+1),λσ' H' p'=>⟨xs.length-(i+1),(),Z,hlt,p'⟩,λx H' y=>?_⟩;obtain⟨pp,y0,rfl,nw,ex⟩:=y;exact hs i y0 σ H pp H' (ex xs q) p nw
 ·have e:i=xs.length:=()
  subst e;exact .inl ⟨⟨xs,q,aL _⟩,hd σ H p⟩
def è{a:Addr}{xs:List V}{ix:List (Option Nat)}{g:TG}{tt:TT}{te:TE}{σ:St}{H1:Hp}{Q:VK}(f:Nat->Option V)(hx:bM K H1 a xs)(hz:xs.length<=1000)
  (hs:∀(i:Nat) x H (N:Option V->Hp->Prop),xs[i]?=some x->aJ H1 H->(∀H',aJ H1 H'->N (f i) H')->g x (qu ix σ) H λσ2 H2=>tt σ2 H2 λb H3=>if b=true then te σ2 H3 λv H4=>N (some v) H4 else N none H3)
  (hd:∀H p H',aJ H1 H->gW H p (.lst ((List.range xs.length).filterMap f)) H'->Q (.ref p) H'):mW ix g tt te σ H1 Q (ş K a):=by
 refine wB (K:=K) (a:=a) (xs:=xs) (λi ys H=>ys=(List.range i).filterMap f/\aJ H1 H) ⟨Z,aJ.refl _⟩ (λi ys H hi ⟨e,s⟩=>⟨s.seq hx,?_⟩) (λi x ys H hi ⟨e,s⟩=>?_) λys H ⟨e,s⟩ p hp=>?_
 ·subst e;refine cZ (Sv _ _) ?_;rw[rW];exact cZ hi (eE (cG hz))
 ·refine hs i x H (λo H'=>match o with|some v=>(ys++[v]=(List.range (i+1)).filterMap f/\aJ H1 H')|none=>(ys=(List.range (i+1)).filterMap f/\aJ H1 H')) hi s λH' s'=>?_;cases ef:f i with
  |some v =>
   refine⟨?_,s'⟩;rw[e,vV,xH];simp[ef]
  |none =>
   refine⟨?_,s'⟩;rw[e,vV,xH];simp[ef]
 ·subst e;exact hd H p _ s (gW.nY hp)
end L2
namespace Bg
open L2 Lw
abbrev Bv:=Option Int×List Int
def oR(n:Int):Option Int->Bool
 |none=>false
 |some i=>decide (0<=i/\i<n)
def rowAt(rs:List Bv)(k:Nat):Bv:=rs.getD k (none,[])
inductive Flt where
 |ok|row (k:Nat)|place (v:Nat)|tie (a b:Int)|apart (v j k:Nat)
 deriving DecidableEq
variable{i:Nat}
def upV:Option Int->V
 |none=>.non
 |some i=>.int i
def ê(K:aH)(H:Hp)(v:V)(t:Int×Int):Prop:=∃p,v=.ref p/\cL K H p [.int t.1,.int t.2]
inductive Al(K:aH)(H:Hp)(a:Addr)(ts:List bY):Prop
 |mk (xs:_) (_:bM K H a xs) (_:Paired (ê K H) xs ts) (_:ts.length<=1000)
inductive uP(K:aH)(H:Hp)(v:V)(n:Int)(ts:List bY):Prop
 |mk (p a:_) (_:v=.ref p) (_:cL K H p [.int n,.ref a]) (_:Al K H a ts)
def Al.same{K:aH}{H H':Hp}{a:Addr}{ts:List bY}(e:aJ H H')(h:Al K H a ts):Al K H' a ts:=by
 obtain⟨xs,h1,h2,h3⟩:=h;exact⟨xs,e.seq h1,Paired.bV h2 λ_ _ ⟨p,q1,q2⟩=>⟨p,q1,e.wC q2⟩,h3⟩
def uP.same{K:aH}{H H':Hp}{v:V}{n:Int}{ts:List bY}(e:aJ H H')(h:uP K H v n ts):uP K H' v n ts:=by
 obtain⟨p,a,h1,h2,h3⟩:=h;exact⟨p,a,h1,e.wC h2,h3.same e⟩
def bx{α β:Type}{F:α->β->Prop}{xs:List α}{ys:List β}{x:α}(p:Paired F xs ys)(e:xs[i]?=some x):∃y,ys[i]?=some y/\F x y:=by
 induction p generalizing i with
 |nil=>cases e
 |cons h r ih =>
  cases i with
  |zero=>cases e;exact⟨_,Z,h⟩
  |succ i=>exact ih (i:=i) e
def dF{α β:Type}{F:α->β->Prop}{xs:List α}{ys:List β}{y:β}(p:Paired F xs ys)(e:ys[i]?=some y):∃x,xs[i]?=some x/\F x y:=by
 induction p generalizing i with
 |nil=>cases e
 |cons h r ih =>
  cases i with
  |zero=>cases e;exact⟨_,Z,h⟩
  |succ i=>exact ih (i:=i) e
def u9{rs:List Bv}(h:i<rs.length):rs[i]?=some (rowAt rs i):=by
 unfold rowAt;grind
def Wu(ns:List Int)(v:Int):(ns.map PyData.int).any (λe=>PyData.eqv e (.int v))=decide (v∈ns):=by
 induction ns with
 |nil=>rfl
 |cons a r ih =>
  rw[cH,tK,ih,PyData.eqv];grind
def Vb(ns:List Int):PyData.depthAll (ns.map PyData.int)=0:=by
 induction ns with
 |nil=>rfl
 |cons a r ih=>rw[cH,PyData.depthAll,ih];rfl
def ë(ns:List Int):PyData.canLayAll0 (ns.map PyData.int)=true:=by
 induction ns with
 |nil=>rfl
 |cons a r ih=>rw[cH,PyData.canLayAll0,ih];rfl
def shaped_ints(ns:List Int):SeqAt.shaped (.list (ns.map PyData.int))=true:=by
 unfold SeqAt.shaped;rw[PyData.canLay0,ë,PyData.depth,Vb];decide
def Jl(ns ms:List Int):PyData.eqv (.list (ns.map PyData.int)) (.list (ms.map PyData.int))=decide (ns=ms):=by
 rw[PyData.eqv];exact PySem.W.ked_eqvAll ns ms
def Am{K:aH}{H:Hp}{b:Addr}{ns:List Int}{v:Int}{Q:VK}(hS:bM K H b (ns.map V.int))(q:Q (.bl (decide (v∈ns))) H):U8 K false (.int v) (.ref b) H Q :=
 ⟨_,_,.int v,.lst hS (zF.ints ns),Z,shaped_ints ns,by rw[Wu];exact q⟩
def yX{K:aH}{H:Hp}{b:Addr}{ns:List Int}{v:Int}{Q:VK}(hS:bM K H b (ns.map V.int))(q:Q (.bl (!decide (v∈ns))) H):U8 K true (.int v) (.ref b) H Q :=
 ⟨_,_,.int v,.lst hS (zF.ints ns),Z,shaped_ints ns,by rw[Wu];exact q⟩
end Bg
namespace L2
open PyProof.Rows
def aJ.chg{H H':Hp}{l:Addr}{o:HO}{H0:Hp}(s:aJ H0 H)(h0:H0 l=none)(c:wF H l o H'):aJ H0 H':=λb u e=>(c.rest b (eU e h0)).trans (s b u e)
end L2
namespace Bg
open L2 Lw
variable{H H':Hp}
inductive mX(H:Hp)(v:V)(t:Int×Int):Prop
 |mk (p:_) (_:v=.ref p) (_:H p=some (.tup [.int t.1,.int t.2]))
inductive KR(l:Addr)(H:Hp)(v:V)(r:Bv):Prop
 |mk (p b:_) (_:v=.ref p) (_:H p=some (.tup [upV r.1,.ref b])) (_:H b=some (.lst (r.2.map V.int))) (_:b≠l) (_:r.2.length<=1000)
def mX.v{K:aH}{H:Hp}{v:V}{t:Int×Int}(h:mX H v t):ê K H v t:=by
 obtain⟨p,e,q⟩:=h;exact⟨p,e,cL.of q⟩
def mX.same{v:V}{t:Int×Int}(s:aJ H H')(h:mX H v t):mX H' v t:=by
 obtain⟨p,e,q⟩:=h;exact⟨p,e,s _ _ q⟩
def mX.chg{l:Addr}{xs ys:List V}{v:V}{t:Int×Int}(hl:H l=some (.lst xs))(c:wF H l (.lst ys) H')(h:mX H v t):mX H' v t:=by
 obtain⟨p,e,q⟩:=h;exact⟨p,e,(c.rest p (a1b q hl ())).trans q⟩
def KR.same{l:Addr}{v:V}{r:Bv}(s:aJ H H')(h:KR l H v r):KR l H' v r:=by
 obtain⟨p,b,e,q1,q2,n,z⟩:=h;exact⟨p,b,e,s _ _ q1,s _ _ q2,n,z⟩
def dG{α β:Type}{F:α->β->Prop}{xs:List α}{ys:List β}{x:α}{y:β}(h:Paired F xs ys)(q:F x y):Paired F (xs++[x]) (ys++[y]):=by
 induction h with
 |nil=>exact .cons q .nil
 |cons h _ ih=>exact .cons h ih
def yd(t:Int×Int):PyData:=.tuple [.int t.1,.int t.2]
def ê.isD{K:aH}{v:V}{t:Int×Int}(h:ê K H v t):KJ K H v (yd t):=by
 obtain⟨p,rfl,q1⟩:=h;exact .tup q1 (.cons (.int _) (.cons (.int _) .nil))
def O6{K:aH}{α:Type}{F:V->α->Prop}{f:α->PyData}(hf:∀v x,F v x->KJ K H v (f x)){xs:List V}{ys:List α}(h:Paired F xs ys):zF K H xs (ys.map f):=by
 induction h with
 |nil=>exact .nil
 |cons h _ ih=>exact .cons (hf _ _ h) ih
def Mf(ts:List bY):PyData:=.list (ts.map yd)
def Al.isD{K:aH}{H:Hp}{a:Addr}{ts:List bY}(h:Al K H a ts):KJ K H (.ref a) (Mf ts):=by
 obtain⟨xs,h1,h2,_⟩:=h;exact .lst h1 (O6 (λv x q=>q.isD) h2)
theorem Hg{α:Type}{f:α->PyData}(h:∀x,(f x).canLay0=true):∀l:List α,PyData.canLayAll0 (l.map f)=true
 | []=>rfl
 |x::r=>by rw[cH,PyData.canLayAll0,h x,Hg h r];rfl
theorem vd{α:Type}{f:α->PyData}{k:Nat}(h:∀x,(f x).depth<=k):∀l:List α,PyData.depthAll (l.map f)<=k
 | []=>dh _
 |x::r=>by
  rw[cH,PyData.depthAll]
  exact Nat.max_le.mpr ⟨h x,vd h r⟩
def Wv(t:Int×Int):(yd t).canLay0=true:=rfl
def Mg(t:Int×Int):(yd t).depth<=1:=by
 unfold yd;simp[PyData.depth,PyData.depthAll]
def uE(ts:List bY):SeqAt.shaped (Mf ts)=true:=by
 unfold SeqAt.shaped Mf;rw[PyData.canLay0,Hg Wv,PyData.depth,IK];exact bB (by have:=vd Mg ts;omega)
def QX{d:PyData}(h:SeqAt.shaped d=true):PyData.eqv d d=true:=SeqAt.eqv_refl d (Ia h)
end Bg
namespace L2
inductive T1(f:Option V->St)(σ:St):Prop
 |mk (a:_) (h:σ=f a)
inductive T2(f:Option V->Option V->St)(σ:St):Prop
 |mk (a b:_) (h:σ=f a b)
inductive T3(f:Option V->Option V->Option V->St)(σ:St):Prop
 |mk (a b c:_) (h:σ=f a b c)
inductive T4(f:Option V->Option V->Option V->Option V->St)(σ:St):Prop
 |mk (a b c d:_) (h:σ=f a b c d)
inductive T5(f:Option V->Option V->Option V->Option V->Option V->St)(σ:St):Prop
 |mk (a b c d e:_) (h:σ=f a b c d e)
inductive T6(f:Option V->Option V->Option V->Option V->Option V->Option V->St)(σ:St):Prop
 |mk (a b c d e g:_) (h:σ=f a b c d e g)
inductive P3{α:Type}(A B:Prop)(C:α->Prop):Prop
 |mk (a:A) (b:B) (x:α) (c:C x)
inductive P4{α:Type}(A B:Prop)(C D:α->Prop):Prop
 |mk (a:A) (b:B) (x:α) (c:C x) (d:D x)
def P3.s{α:Type}{A B:Prop}{C:α->Prop}(h:P3 A B C):B:=by cases h;assumption
def P4.s{α:Type}{A B:Prop}{C D:α->Prop}(h:P4 A B C D):B:=by cases h;assumption
end L2
namespace Pmt
open PyProof.Rows PySem.Calls PySem.W
variable{nrem n i:Nat}{h:Heap}{κ:SortKind}{Q:Option Nat->SortSt->Prop}
section
variable{prog:Program}{wo:World}{A:Around}{E:Value->Shared->Prop}{s:Shared}{a₀:Array Keyed}
def Λ(prog:Program)(wo:World)(A:Around)(κ:SortKind)(s:Shared)(a₀:Array Keyed):Prop :=
 ∀x∈a₀,∀y∈a₀,∀(C:Bool->Shared->Prop),(∀b,C b s)->wpAny (model prog wo) A (keyLt' κ x.1 y.1) C (λ_ _=>False) s
structure PB(κ:SortKind)(a₀:Array Keyed)(P:Array (Nat×Nat×Nat))(st:SortSt):Prop where
 perm:(arrOf st).Perm a₀
 fail:failedOf st=none
 kind:kindOf st=κ
 pend:pendingOf st=P
def PB.size{P}{st:SortSt}(h:PB κ a₀ P st):(arrOf st).size=a₀.size:=h.perm.size_eq
def PB.mem{P}{st:SortSt}(h:PB κ a₀ P st){x}(hx:x∈arrOf st):x∈a₀:=h.perm.mem_iff.mp hx
def a2h{P}{st:SortSt}{x y:Keyed}{Q:Option Bool->SortSt->Prop}(hC:Λ prog wo A κ s a₀)(hB:PB κ a₀ P st)(hx:x∈a₀)(hy:y∈a₀)
  (h:∀b,Q (some b) st):wpS (model prog wo) A E s (lt' x y) Q st:=by
 rw[lt'_eq];refine eZ (Eg ?_);rw[hB.kind];refine eZ (wpS_lift (tL (iJ (hC x hx y hy (λb s'=>s'=s) λb=>rfl) (λb s' e=>?_) λ_ _ f=>f.elim)));subst e;exact⟨Z,jg (h b)⟩
def QZ{arr:Array Keyed}{st:SortSt}{Q:Keyed->SortSt->Prop}(hi:i<arr.size)(h:Q arr[i] st):wpS (model prog wo) A E s (elem' arr i) Q st:=by
 rw[elem'_eq,xu hi];exact jg h
def Cm{P}{st:SortSt}{j:Nat}{Q:Option Bool->SortSt->Prop}(hC:Λ prog wo A κ s a₀)(hB:PB κ a₀ P st)(hi:i<a₀.size)(hj:j<a₀.size)
  (h:∀b,Q (some b) st):wpS (model prog wo) A E s (ltAt' i j) Q st:=by
 rw[ltAt'_eq];refine eZ (Eg ?_);exact eZ (QZ (by rw[hB.size];exact hi) (eZ (QZ (by rw[hB.size];exact hj) (a2h hC hB (hB.mem (Array.getElem_mem _)) (hB.mem (Array.getElem_mem _)) h))))
def PB.setArr{P}{st:SortSt}(h:PB κ a₀ P st){xs:Array Keyed}(hp:xs.Perm (arrOf st)):PB κ a₀ P (setArr st xs):=⟨hp.trans h.perm,h.fail,h.kind,h.pend⟩
def Hh{P}{st:SortSt}{j:Nat}{Q:Unit->SortSt->Prop}(hB:PB κ a₀ P st)(h:∀st',PB κ a₀ P st'->Q ⟨⟩ st') :
  wpS (model prog wo) A E s (reverseSlice' i j) Q st:=by
 rw[reverseSlice'_eq];exact Oj (h _ (hB.setArr (mirror_perm _ _ _ _)))
def Ww{P}{a:Nat}{st:SortSt}{Q:AscSt->SortSt->Prop}(hC:Λ prog wo A κ s a₀)(hB:PB κ a₀ P st)(hn:nrem<=a₀.size)(h1:1<=a)(h2:a<=nrem)
  (h:∀m,1<=m->m<=nrem->Q (none,m) st):wpS (model prog wo) A E s (ascLoop a nrem) Q st:=by
 unfold ascLoop;refine Ef (I:=λx c st'=>st'=st/\c=(none,x)) ?_ ?_ ⟨Z,Z⟩
 ·rintro x c st' x1 x2 ⟨rfl,rfl⟩;refine eZ (Cm hC hB (by dsimp only;omega) (by dsimp only;omega) λb=>?_);cases b
  ·exact jg ⟨Z,Z⟩
  ·exact jg (h x () ())
 ·rintro c st' ⟨rfl,rfl⟩;exact h _ () ()
def ì{P}{st:SortSt}(hC:Λ prog wo A κ s a₀)(hB:PB κ a₀ P st)(hn:nrem<=a₀.size)(h1:1<=n)(h2:n<=nrem)
  (h:∀m st',1<=m->m<=nrem->PB κ a₀ P st'->Q (some m) st'):wpS (model prog wo) A E s (tail3 n nrem) Q st :=
 eZ (Hh hB λst2 hB=>eZ (Ww hC hB hn h1 h2 λm m1 m2=>jg (h m _ m1 m2 hB)))
def í{P}{st:SortSt}(hC:Λ prog wo A κ s a₀)(hB:PB κ a₀ P st)(hn:nrem<=a₀.size)(h2:n+1<=nrem)
  (h:∀m st',1<=m->m<=nrem->PB κ a₀ P st'->Q (some m) st'):wpS (model prog wo) A E s (descPart n nrem) Q st:=by
 unfold descPart descLoop;refine eZ (wpS_lift (kY (And.intro Z (eZ (Jb (Ef (I:=λx c st'=>PB κ a₀ P st'/\∃q,c=(none,x,q)) (Q:=λc st'=>PB κ a₀ P st'/\∃m q,c=(none,m,q)/\1<=m/\m<=nrem) ?_ ?_ ⟨hB,_,Z⟩) ?_)))))
 ·rintro x c st' x1 x2 ⟨hB,q,rfl⟩;refine eZ (Cm hC hB (by dsimp only;omega) (by dsimp only;omega) λb=>?_);cases b
  ·refine eZ (Cm hC hB (by dsimp only;omega) (by dsimp only;omega) λb=>?_);cases b
   ·exact jg ⟨hB,_,Z⟩
   ·exact jg ⟨hB,_,_,Z,by dsimp only;omega,by dsimp only;omega⟩
  ·dsimp only;simp only[if_true];split
   ·exact eZ (Hh hB λst2 hB=>jg ⟨hB,_,Z⟩)
   ·exact jg ⟨hB,_,Z⟩
 ·rintro c st' ⟨hB,q,rfl⟩;exact⟨hB,_,_,Z,(),()⟩
 ·rintro c st' ⟨hB,m,q,rfl,m1,m2⟩;dsimp only;split
  ·exact eZ (Hh hB λst2 hB=>ì hC hB hn m1 m2 h)
  ·exact ì hC hB hn m1 m2 h
def Μ{P}{st:SortSt}(hC:Λ prog wo A κ s a₀)(hB:PB κ a₀ P st)(hn:nrem<=a₀.size)(h1:1<=nrem)
  (h:∀m st',1<=m->m<=nrem->PB κ a₀ P st'->Q (some m) st'):wpS (model prog wo) A E s (countRun' 0 nrem) Q st:=by
 rw[countRun0_eq];refine eZ (Ww hC hB hn (aL 1) h1 λm m1 m2=>?_);dsimp only;split
 ·exact jg (h m _ m1 m2 hB)
 ·have m3:m+1<=nrem:=()
  split
  ·refine eZ (Cm hC hB () () λb=>?_);cases b
   ·exact eZ (Hh hB λst2 hB=>í hC hB hn m3 h)
   ·exact jg (h m _ m1 m2 hB)
  ·exact í hC hB hn m3 h
def Ν{P}{lo ok:Nat}{st:SortSt}{Q:Bool->SortSt->Prop}(hC:Λ prog wo A κ s a₀)(hB:PB κ a₀ P st)(hn:lo+n<=a₀.size)
  (h:∀st',PB κ a₀ P st'->Q true st'):wpS (model prog wo) A E s (binarySort' lo n ok) Q st:=by
 rw[binarySort'_eq];refine eZ (Jb (Ef (I:=λx c st'=>PB κ a₀ P st'/\c=(none,⟨⟩)) (Q:=λc st'=>PB κ a₀ P st'/\c=(none,⟨⟩)) ?_ ?_ ⟨hB,Z⟩) ?_)
 ·rintro k c st' hx1 hx2 ⟨Wx,rfl⟩;dsimp only;refine eZ (Jb (Ef (I:=λx c st'=>PB κ a₀ P st'/\∃l r,c=(none,l,r)/\r<=k) (Q:=λc st'=>PB κ a₀ P st'/\∃l r,c=(none,l,r)) ?_ ?_ ⟨Wx,_,_,Z,aL _⟩) ?_)
  ·rintro x c st' _ _ ⟨Wx,l,r,rfl,hr⟩;dsimp only;split
   ·exact jg ⟨Wx,_,_,Z⟩
   ·refine eZ (Cm hC Wx () () λb=>?_);cases b
    ·exact jg ⟨Wx,_,_,Z,()⟩
    ·exact jg ⟨Wx,_,_,Z,()⟩
  ·rintro c st' ⟨Wx,l,r,rfl,hr⟩;exact⟨Wx,_,_,Z⟩
  ·rintro c st' ⟨Wx,l,r,rfl⟩;dsimp only;rw[moveDown'_eq];exact eZ (Oj (jg ⟨Wx.setArr (bubble_perm _ _ _),Z⟩))
 ·rintro c st' ⟨Wx,rfl⟩;exact⟨Wx,Z⟩
 ·rintro c st' ⟨Wx,rfl⟩;exact jg (h _ Wx)
def Ξ{st:SortSt}{Q:Unit->SortSt->Prop}(hC:Λ prog wo A κ s a₀)(hB:PB κ a₀ #[] st)(h2:2<=a₀.size)(h64:a₀.size<64)(h:∀st',(arrOf st').Perm a₀->failedOf st'=none->Q ⟨⟩ st'):wpS (model prog wo) A E s sortRuns' Q st:=by
 rw[sortRuns'_eq];refine eZ (Eg ?_);have mr:minRun' a₀.size a₀.size 0=a₀.size:=by
  obtain⟨f,hf⟩:∃f,a₀.size=f+1:=⟨a₀.size-1,()⟩;rw[hf,minRun'_succ,aG ()];try rfl
 dsimp only;rw[hB.size,mr];refine eZ (Jb (Ef (I:=λx c st'=>∃P lo,PB κ a₀ P st'/\c=(none,lo)/\((lo=0/\P = #[])\/(lo=a₀.size/\P.size=1))) (Q:=λc st'=>∃P lo,PB κ a₀ P st'/\c=(none,lo)/\P.size<=1) ?_ ?_ ⟨_,_,hB,Z,.inl ⟨Z,Z⟩⟩) ?_)
 ·rintro x c st1 _ _ ⟨P,lo,hB,rfl,⟨rfl,rfl⟩|⟨rfl,e⟩⟩
  ·dsimp only;rw[aA ()];refine eZ (Μ hC hB () () λm st2 m1 m2 hB=>?_);dsimp only;by_cases c:m<a₀.size
   ·rw[aG c];refine eZ (wpS_lift (kY (And.intro Z (eZ (Ν hC hB () λst3 hB=>?_)))));simp only[if_false,Bool.not_true,Bool.false_eq_true];refine eZ (Eg ?_);rw[hB.pend];exact eZ (Oj (jg ⟨#[].push _,_,⟨hB.perm,hB.fail,hB.kind,by rw[<-hB.pend]⟩,Z,.inr ⟨by simp,Z⟩⟩))
   ·rw[aA c];refine eZ (Eg ?_);rw[hB.pend];exact eZ (Oj (jg ⟨#[].push _,_,⟨hB.perm,hB.fail,hB.kind,by rw[<-hB.pend]⟩,Z,.inr ⟨(),Z⟩⟩))
  ·dsimp only;rw[aG (aL _)];exact jg ⟨P,_,hB,Z,()⟩
 ·rintro c st1 ⟨P,lo,hB,rfl,⟨rfl,rfl⟩|⟨rfl,e⟩⟩
  ·exact⟨_,_,hB,Z,dh _⟩
  ·exact⟨_,_,hB,Z,()⟩
 ·rintro c st1 ⟨P,lo,hB,rfl,e⟩;dsimp only;refine eZ (Jb (Ef (I:=λ_ c st'=>st'=st1/\c=(none,⟨⟩)) (Q:=λc st'=>st'=st1/\c=(none,⟨⟩)) ?_ (λ_ _ z=>z) ⟨Z,Z⟩) ?_)
  ·rintro x c st2 _ _ ⟨rfl,rfl⟩;refine eZ (Eg ?_);rw[hB.pend,aG e];exact jg ⟨Z,Z⟩
  ·rintro c st2 ⟨rfl,rfl⟩;exact jg (h _ hB.perm hB.fail)
end
section
variable{prog:Program}{wo:World}{A:Around}{E:Value->Shared->Prop}{s:Shared}
def Asks(prog:Program)(wo:World)(A:Around)(κ:SortKind)(zs:List Value)(s:Shared):Prop :=
 (∀(E:Value->Shared->Prop) (R:SortKind->Shared->Prop),R κ s->wpAny (model prog wo) A (keyKind' zs.toArray) R E s)/\Λ prog wo A κ s (pairsOf zs)
def O7{a:Addr}{zs:List Value}{P:PySem.Fin->Shared->Prop}(oa:s.heap.get? a=some (seqObj "list" zs.toArray n))(hz:zs.length<64)
  (hk:2<=zs.length->∀h',(∀b o,b≠a->s.heap.get? b=some o->h'.get? b=some o)->Asks prog wo A κ zs { s with heap:=h'})
  (h:∀ys:List Value,ys.Perm zs->P (.done (.ret .none)) { s with heap:=sortedHeap s.heap a zs ys.toArray}) :
  wpAny (model prog wo) A (Builtin.«list.sort» ⟨[.ref a],[]⟩) P E s:=by
 rw[list_sort_plain];have la:a<s⁻¹:=aX oa;refine M (listItems_at oa Z ?_);refine M (Ue oa Z ?_ (by rw[iH,jA];omega) (dh _));obtain⟨ep,oa1⟩:∃ep,(s.heap.update a (Obj.mapSeq λ_=>#[])).get? a=some (seqObj "list" #[] ep):=⟨_,T7 oa λ_=>#[]⟩;refine M (seqEpoch_at oa1 Z ?_);refine M (Iu ?_ (by show zs.length<=_;rw[jA];omega));refine M (Ug (fL ?_) (dh _));have oa6:(((s.heap.update a (Obj.mapSeq λ_=>#[])).push (seqObj "tuple" zs.toArray 0)).push (seqObj "list" #[] 0)).get? a=some (seqObj "list" #[] ep):=by
  rw[NP _ _ _ (by rw[Ol,TQ];grind),NP _ _ _ (by rw[TQ];grind)];exact oa1
 show wpAny (model prog wo) A _ P E { s with heap:=((s.heap.update a (Obj.mapSeq λ_=>#[])).push (seqObj "tuple" zs.toArray 0)).push (seqObj "list" #[] 0)};dsimp only;have fin:∀(st':SortSt),(arrOf st').Perm (pairsOf zs)->failedOf st'=none->((arrOf st').map (·.2)).toList.Perm zs:=λst' hp _=>by
  have q:=(Array.perm_iff_toList_perm.mp hp).map (·.2);rw[pairsOf_toList]at q;rw[Array.toList_map];refine q.trans (List.Perm.of_eq ?_);rw[List.map_snd_zip (aL _)]
 by_cases g2:zs.toArray.size<2
 ·rw[aG g2,aG g2];refine M (ao ?_);rw[StateT.run_pure];refine M (ao ?_);dsimp only;refine M (seqEpoch_at oa6 Z (M (Ue oa6 Z ?_ (dh _) ())));simp only[if_false,Bool.false_eq_true,bne_self_eq_false];have q:=h zs (Ea _);refine ao ?_;have e:(arrOf (SortSt.mk' general' (zs.toArray.zip zs.toArray) #[] 7 none)).map (·.2)=zs.toArray:=by
   grind
  rw[e];exact q
 ·rw[aA g2,aA g2];have h2':2<=zs.length:=by simp at g2;omega
  have ak:=hk h2' (((s.heap.update a (Obj.mapSeq λ_=>#[])).push (seqObj "tuple" zs.toArray 0)).push (seqObj "list" #[] 0)) λb o hb e=>bJ _ (bJ _ (by rw[Nv _ _ _ _ hb];exact e));refine M (ak.1 _ _ ?_);have rn:=Ξ (E:=E) (st:=SortSt.mk' κ (zs.toArray.zip zs.toArray) #[] 7 none) (Q:=λ_ st'=>(arrOf st').Perm (pairsOf zs)/\failedOf st'=none) ak.2 ⟨Array.Perm.refl _,Z,Z,Z⟩ (by rw[pairsOf_size];exact h2') (by rw[pairsOf_size];exact hz) (λst' h1 h2=>⟨h1,h2⟩);refine M (iJ rn ?_ λ_ _ e=>e);rintro⟨⟨⟩,st'⟩ s' ⟨rfl,hp,hf⟩;dsimp only at hp hf ⊢;have pp:=fin st' hp hf;have hso:((arrOf st').map (·.2)).size=zs.length:=by simpa using pp.length_eq
  refine M (seqEpoch_at oa6 Z ?_);refine M (Ue oa6 Z ?_ (dh _) (cZ (Og hso) (by rw[jA];omega)));rw[hf];simp only[if_false,Bool.false_eq_true,bne_self_eq_false];exact ao (h _ pp)
def Yz{l:Addr}{zs:List Value}{R:Value->Shared->Prop}(il:s.heap.IsList l zs.toArray)(hz:zs.length<64)
  (hk:2<=zs.length->∀(A':Around) (h':Heap),(∀b o,s.heap.get? b=some o->h'.get? b=some o)->Asks prog wo A' κ zs { s with heap:=h'})
  (h:∀ys:List Value,ys.Perm zs->R (.ref (s⁻¹+1)) { s with heap:=sortedAll s.heap zs ys.toArray}) :
  wpAny (model prog wo) A (call (.builtin "sorted") [.ref l]) R E s:=by
 apply Z8 kind_sorted plain_sorted entry_sorted (args_sorted1 _);unfold Builtin.«sorted»;refine M (m:=checkCount "sorted" 1 1 _) (ao ?_);refine M (collect_list il ?_ (by rw[jA];omega));refine M (Ug ?_ (by rw[jA];exact eE ()));have lz:((s.heap.push (seqObj "list" #[] 0)).update s⁻¹ (Obj.mapSeq (· ++ zs.toArray))).objs.size=s⁻¹+1:=by
  rw[TQ];exact Ol _ _
 have oL:(((s.heap.push (seqObj "list" #[] 0)).update s⁻¹ (Obj.mapSeq (· ++ zs.toArray))).push (seqObj "list" zs.toArray 0)).get? (s⁻¹+1)=some (seqObj "list" zs.toArray 0):=by
  rw[<-lz];exact bU _ rfl
 show wpAny _ _ _ _ _ { s with heap:=((s.heap.push (seqObj "list" #[] 0)).update s⁻¹ (Obj.mapSeq (· ++ zs.toArray))).push (seqObj "list" zs.toArray 0)};rw[lz];refine M (fL (gC slot_list_sort ⟨_,oL,Z⟩ entry_list_sort (O7 (κ:=κ) oL hz (λg2 h' kp=>hk g2 _ h' λb o e=>?_) λp a1=>⟨_,Z,?_⟩) (args_list_sort _)))
 ·have lb:b<s⁻¹:=aX e;refine kp b o (bW (Ik lb)) ?_;rw[NP _ _ _ (),Nv _ _ _ _ (bW lb),NP _ _ _ (bW lb)];exact e
 ·exact ao ⟨_,Z,h p a1⟩
structure a2i(h:Heap)(v:Value)(ns:List Int):Prop where
 at':∃a o xs n,v=.ref a/\h.get? a=some o/\o.cls=.type "tuple" /\o.data=.seq xs n/\IntsAre xs.toList ns
 ne:ns≠[]
inductive uF(h:Heap):List Value->List (List Int)->Prop
 |nil:uF h [] []
 |cons {v ns vs ls}:a2i h v ns->uF h vs ls->uF h (v::vs) (ns::ls)
def uF.keep{h':Heap}(k:∀b o,h.get? b=some o->h'.get? b=some o){vs ls}(t:uF h vs ls):uF h' vs ls:=by
 induction t with
 |nil=>exact .nil
 |cons x _ ih =>
  obtain⟨⟨a,o,xs,n,e,ho,r⟩,ne⟩:=x;exact .cons ⟨⟨a,o,xs,n,e,k _ _ ho,r⟩,ne⟩ ih
def uF.len{vs ls}(t:uF h vs ls):vs.length=ls.length:=by
 induction t with
 |nil=>rfl
 |cons _ _ ih=>rw[lN,lN,ih]
def uF.get{vs ls}(t:uF h vs ls){i}(hi:i<vs.length):a2i h (vs.getD i .none) (ls.getD i []):=by
 induction t generalizing i with
 |nil=>cases hi
 |cons a _ ih =>
  cases i with
  |zero=>exact a
  |succ i=>exact ih (SN hi)
def uF.kat{vs ls}(t:uF h vs ls):∃fs,KatTups h vs fs/\fs.length=vs.length/\∀v∈fs,∃n t,v=Value.int n t:=by
 induction t with
 |nil=>exact⟨[],KatTups.nil,Z,λv hv=>absurd hv dW⟩
 | @cons v ns vs ls x _ ih =>
  obtain⟨⟨a,o,xs,n,e,ho,hc,hd,hi⟩,ne⟩:=x;obtain⟨fs,k,l,q⟩:=ih;subst e;obtain⟨xl⟩:=xs;have hi:IntsAre xl ns:=hi;cases hi with
  |nil=>grind
  |cons m u r =>
   refine⟨.int m u::fs,KatTups.cons ho hc hd Z k,(),λv hv=>?_⟩;grind
def Ο{Q:Bool->Shared->Prop}(h:∀b,Q b s){xs ys:List Value}{ns ms:List Int}(i:Nat)(c:Bool)(p:IntsAre xs ns)(q:IntsAre ys ms):KatLex prog wo A true c Q (xs.zip ys) i s:=by
 induction p generalizing ys ms i with
 |nil=>exact kat_nil (h _)
 |cons n t x ih =>
  cases q with
  |nil=>exact kat_nil (h _)
  |cons m u y =>
  refine kat_cons (wpAny_eqBool_int ?_);cases n==m with
  |true=>exact kat_yes (ih (i+1) y)
  |false =>
   refine kat_no ?_;cases(true&&i==0)with
   |true=>exact oneLt_int (h _)
   |false=>exact kat_one _ _ (lt_int (h _))
def YB{vs:List Value}{ls:List (List Int)}(h:uF s.heap vs ls)(h2:2<=vs.length):Asks prog wo A (tuples' true) vs s:=by
 refine⟨λE Q q=>?_,λx hx y hy C hC=>?_⟩
 ·obtain⟨fs,k,l,ty⟩:=h.kat;refine kat_kind (T:=.type "int") k () (λv hv=>?_) Z q;obtain⟨n,t,rfl⟩:=ty v hv;exact Looks.of_pure rfl
 ·have ix:∀x∈pairsOf vs,∃ns,a2i s.heap x.1 ns:=λx hx=>by
   obtain⟨i,hi,rfl⟩:=Array.getElem_of_mem hx;have hi':i<vs.length:=by rwa [pairsOf_size]at hi
   have:=h.get hi';rw[show(pairsOf vs)[i].1=vs.getD i .none by simp[pairsOf,hi']];exact⟨_,this⟩
  obtain⟨_,⟨a,o,xs,n,e1,ho,hc,hd,hx⟩,_⟩:=ix x hx;obtain⟨_,⟨a',o',ys,n',e2,ho',hc',hd',hy⟩,_⟩:=ix y hy;rw[e1,e2];exact kat_lt ho hd ho' hd' (Ο hC 0 _ hx hy)
end
end Pmt
namespace L2
open PyProof.Rows Bg Pmt
def a2j(K:aH)(H:Hp)(v:V)(ns:List Int):Prop:=∃p,v=.ref p/\cL K H p (ns.map V.int)
def a2k(K:aH):List V->Hp->VK->Prop:=λxs H Q=>∃l vs,∃ls:List (List Int),xs=[.ref l]/\bM K H l vs/\Paired (a2j K H) vs ls/\(∀ns∈ls,ns≠[])/\vs.length<64/\
 ∀(q:List Nat) p H',q.Perm (List.range vs.length)->True->gW H p (.lst (q.map λi=>vs.getD i .non)) H'->Q (.ref p) H'
theorem ints_of:∀{ns:List Int}{us:List Value},dz (ns.map V.int) us->IntsAre us ns
 | [],_,.nil=>.nil
 |n::ns,_,.cons r t=>by
  obtain⟨k,rfl⟩:=r
  exact .cons n k (ints_of t)
section
variable{X:Cx}{K:aH}
def Ρ{Y:List (Addr×Obj)}{σ:St}{H:Hp}{s:Shared}(I:bI X Y σ H s){vs:List V}{us:List Value}{ls:List (List Int)}(v:dz vs us)(p:Paired (a2j X.K H) vs ls)(ne:∀ns∈ls,ns≠[]):uF s.heap us ls:=by
 induction v generalizing ls with
 |nil =>
  cases p;exact .nil
 |cons r t ih =>
  cases p with
  |cons a b =>
   obtain⟨pt,rfl,hT⟩:=a;obtain⟨cA,ri,⟨o,ho,hc,n,hd⟩,_⟩:=I.tuple hT;cases r;exact .cons ⟨⟨pt,o,cA.toArray,n,Z,ho,hc,hd,by simpa using ints_of ri⟩,ne _ aU⟩ (ih b λns h=>ne ns (bD _ h))
def YC{vs:List V}{us:List Value}(v:dz vs us)(i:Nat)(h:i<vs.length):cV (vs.getD i .non) (us.getD i .none):=by
 induction v generalizing i with
 |nil=>cases h
 |cons r _ ih =>
  cases i with
  |zero=>exact r
  |succ i=>exact ih i (SN h)
theorem Q0{vs:List V}{us:List Value}(r:dz vs us):∀(q:List Nat),(∀i∈q,i<vs.length)->dz (q.map λi=>vs.getD i .non) (q.map λi=>us.getD i .none)
 | [],_=>.nil
 |i::q,h=>.cons (YC r i (h i aU)) (Q0 r q λj hj=>h j (bD _ hj))
def î{α β:Type}{f:α->β}{ws vs:List β}(h:ws.Perm vs):∀{l:List α},vs=l.map f->∃q:List α,q.Perm l/\ws=q.map f:=by
 induction h with
 |nil =>
  intro l e;have:l=[]:=by simpa using e.symm
  subst this;exact⟨[],Ea _,Z⟩
 |cons x _ ih =>
  intro l e;cases l with
  |nil=>cases e
  |cons a l =>
   obtain⟨q,p,e2⟩:=ih (Ec e).2;exact⟨a::q,p.cons _,by rw[(Ec e).1,e2];rfl⟩
 |swap x y m =>
  intro l e
  match l,e with
  |a::b::l,e=>exact⟨b::a::l,List.Perm.swap _ _ _,by simp at e;simp[e]⟩
 |trans _ _ ih1 ih2 =>
  intro l e;obtain⟨q,p,e2⟩:=ih2 e;obtain⟨q',p',e3⟩:=ih1 e2;exact⟨q',p'.trans p,e3⟩
def O8(e:X.K=K):jL X (.builtin "sorted") (a2k K):=by
 subst e;intro Y s σ H xs us Q I r h;obtain⟨l,vs,ls,rfl,hL,hP,ne,h64,q⟩:=h;obtain⟨u,rfl,rx⟩:=vals1 r;cases rx;obtain⟨cA,r',pl,hz⟩:=I.list hL;have hlen:=r'.length;have ht:=Ρ I r' hP ne;refine Pmt.Yz (κ:=tuples' true) pl.isList () (λh2 A' h' kp=>YB (ht.keep kp) h2) λys pm=>?_;have ei:cA=(List.range cA.length).map λi=>cA.getD i .none:=List.ext_getElem (by simp) λi h1 h2=>by simp[h1]
 obtain⟨qq,pq,eq⟩:=î pm ei;obtain⟨c,hc⟩:=sortedAll_at s.heap cA ys.toArray;have pq':qq.Perm (List.range vs.length):=by rw[hlen];exact pq
 have mem:∀i∈qq,i<vs.length:=λi hi=>mV.mp (pq'.mem_iff.mp hi);refine⟨.ref (s⁻¹+1),_,I.laid (t':=s.toks) (o:=.lst (qq.map λi=>vs.getD i .non)) (λb o eo=>sortedAll_old eo) (vY _) ?_,Z,?_⟩
 ·exact⟨by have:=pm.length_eq;have:=pq.length_eq;rw[aK];simp at this;omega,_,c,by rw[eq];exact Q0 r' qq mem,hc⟩
 ·exact q qq _ _ pq' nO (gW.nY (I.hok.fresh (vY _)))
end
end L2
namespace Sm
variable{xs:Array Nat}{k j:Nat}
def Wy(xs:Array Nat)(j k:Nat):Prop:=k<=xs.size/\∀i (h:i<xs.size),xs[i]<j↔i<k
def Wz(h:xs.toList.Pairwise (· < ·)){i:Nat}(hi:i<xs.size)(hk:k<xs.size)(ik:i<k):xs[i]<xs[k]:=by
 have:=Z9.mp h i k (by simpa using hi) (by simpa using hk) ik;simpa using this
def Mh(h:xs.toList.Pairwise (· < ·)):∀(fuel lo hi:Nat),hi-lo<=fuel->lo<=hi->hi<=xs.size->
  (∀i (z:i<xs.size),i<lo->xs[i]<j)->(∀i (z:i<xs.size),hi<=i->j<=xs[i])->Wy xs j (SetTable.below.go xs j fuel lo hi):=by
 intro fuel
 induction fuel with
 |zero =>
  intro lo hi a b c d e;unfold SetTable.below.go;have:lo=hi:=()
  subst this;exact⟨c,λi z=>⟨λq=>by
   rcases xV i lo with g|g
   ·exact g
   ·have:=e i z g;omega,λq=>d i z q⟩⟩
 |succ f ih =>
  intro lo hi a b c d e;unfold SetTable.below.go;by_cases q:lo<hi
  ·rw[aG q];dsimp only;have m1:lo<=(lo+hi)/2:=()
   have m2:(lo+hi)/2<hi:=()
   have m3:(lo+hi)/2<xs.size:=()
   have ge:xs.getD ((lo+hi)/2) j=xs[(lo+hi)/2]:=by simp[Array.getD,m3]
   rw[ge];by_cases r:xs[(lo+hi)/2]<j
   ·rw[aG r];refine ih _ _ () () c (λi z hi'=>?_) e;rcases xV i ((lo+hi)/2)with g|g
    ·have:=Wz h z m3 g;omega
    ·have:i=(lo+hi)/2:=()
     subst this;exact r
   ·rw[aA r];refine ih _ _ () () () d (λi z hi'=>?_);rcases xV ((lo+hi)/2) i with g|g
    ·have:=Wz h m3 z g;omega
    ·have:i=(lo+hi)/2:=()
     subst this;omega
  ·rw[aA q];have:lo=hi:=()
   subst this;exact⟨c,λi z=>⟨λq=>by
    rcases xV i lo with g|g
    ·exact g
    ·have:=e i z g;omega,λq=>d i z q⟩⟩
def Cp(h:xs.toList.Pairwise (· < ·))(j:Nat):Wy xs j (SetTable.below xs j) :=
 Mh h _ _ _ () (dh _) (aL _) (λi z q=>absurd q (Ac _)) (λi z q=>absurd z ())
def below_at(h:xs.toList.Pairwise (· < ·))(hk:k<xs.size):SetTable.below xs (xs[k])=k:=by
 obtain⟨a,b⟩:=Cp h xs[k];rcases Nat.lt_trichotomy (SetTable.below xs xs[k]) k with g|g|g
 ·have c:=(b (SetTable.below xs xs[k]) ()).mp (Wz h () hk g);omega
 ·exact g
 ·have c:=(b k hk).mpr g;omega
def Vc(h:xs.toList.Pairwise (· < ·)):SetTable.below xs 0=0:=by
 obtain⟨a,b⟩:=Cp h 0;rcases Nat.eq_zero_or_pos (SetTable.below xs 0)with g|g
 ·exact g
 grind
def Vd(h:xs.toList.Pairwise (· < ·))(hk:k<xs.size):SetTable.below xs (xs[k]+1)=k+1:=by
 obtain⟨a,b⟩:=Cp h (xs[k]+1);have c:=(b k hk).mp ();rcases xV (k+1) (SetTable.below xs (xs[k]+1))with g|g
 ·have e:=(b (k+1) ()).mpr g;have:=Wz h hk (show k+1<xs.size by omega) (xQ _);omega
 ·omega
def WD(j:Nat):SetTable.has #[] j=false:=by
 unfold SetTable.has;simp
def Ao{t:SetTable}(dm:t.dummies = #[])(h:j∉t.place.toList):t.slot j=.empty:=by
 unfold SetTable.slot;have e:(t.place[SetTable.below t.place j]?==some j)=false:=by
  rw[vN];intro c;exact h (by simpa using Array.mem_of_getElem? c)
 dsimp only;rw[e,dm,WD];rfl
def YD{t:SetTable}(up:t.place.toList.Pairwise (· < ·))(h:j∈t.place.toList):∃i,t.slot j=.live i:=by
 obtain⟨k,hk,e⟩:=rR h;have hk':k<t.place.size:=by simpa using hk
 have e':t.place[k]=j:=by simpa using e
 unfold SetTable.slot;have q:SetTable.below t.place j=k:=by rw[<-e'];exact below_at up hk'
 dsimp only;rw[q];have:(t.place[k]?==some j)=true:=by simp[hk',e']
 rw[this];grind
def adv(mask:Nat)(p:SetTable.Probe):SetTable.Probe :=
 if 0<p.more then{ p with more:=p.more-1,j:=p.j+1}else
 { p with j:=(SetTable.leap mask p.i p.perturb).1,more:=SetTable.runEnd mask (SetTable.leap mask p.i p.perturb).1-(SetTable.leap mask p.i p.perturb).1,i:=(SetTable.leap mask p.i p.perturb).1,perturb:=(SetTable.leap mask p.i p.perturb).2}
def a2l(t:SetTable)(p:SetTable.Probe):t.advance p=adv t.mask p:=by
 unfold SetTable.advance adv;rfl
def nth(mask:Nat)(p:SetTable.Probe):Nat->SetTable.Probe
 |0=>p
 |k+1=>nth mask (adv mask p) k
def YF(m:Nat)(p:SetTable.Probe):(adv m p).dummy=p.dummy:=by
 unfold adv;split<;>rfl
def ï{t:SetTable}(dm:t.dummies = #[])(up:t.place.toList.Pairwise (· < ·))(h:Int):∀(k fuel:Nat) (p:SetTable.Probe),k<fuel->p.dummy=none->(nth t.mask p k).j∉t.place.toList->
  ∃j,j∉t.place.toList/\SetTable.probe.go t (λ_=>h+1) h fuel p=some (.empty j none):=by
 intro k
 induction k with
 |zero =>
  intro fuel p hf hd hn;obtain⟨f,rfl⟩:∃f,fuel=f+1:=⟨fuel-1,()⟩;unfold SetTable.probe.go;have hn':p.j∉t.place.toList:=hn;refine⟨p.j,hn',?_⟩;rw[Ao dm hn',hd]
 |succ k ih =>
  intro fuel p hf hd hn;obtain⟨f,rfl⟩:∃f,fuel=f+1:=⟨fuel-1,()⟩;unfold SetTable.probe.go;by_cases c:p.j∈t.place.toList
  ·obtain⟨i,e⟩:=YD up c;rw[e];dsimp only;have:(h+1==h)=false:=()
   rw[this];rw[a2l];exact ih f (adv t.mask p) () (by rw[YF];exact hd) hn
  ·rw[Ao dm c,hd];exact⟨p.j,c,Z⟩
def Ve(v:Nat):SetTable.Probe:={ j:=v%8,more:=0,i:=v%8,perturb:=v,dummy:=none}
def seven:∀v,v<16->∀j,j<8->∃k,k<16/\(nth 7 (Ve v) k).j=j:=by decide
def O9{v:Nat}(h:v<16):SetTable.bits (v:Int)=v:=by
 unfold SetTable.bits;omega
def Τ{t:SetTable}(dm:t.dummies = #[])(up:t.place.toList.Pairwise (· < ·)){v:Nat}(hk:k<10*SetTable.turns t.mask)(hn:(nth t.mask (t.probeStart (v:Int)) k).j∉t.place.toList) :
  ∃j,j∉t.place.toList/\t.freeSlot (v:Int)=some (j,false):=by
 obtain⟨j,hj,e⟩:=ï dm up (v:Int) k (10*SetTable.turns t.mask) (t.probeStart (v:Int)) hk Z hn;refine⟨j,hj,?_⟩;unfold SetTable.freeSlot SetTable.probe;rw[e];rfl
theorem Vf:∀(l m:List Nat),l.Nodup->(∀x∈l,x∈m)->l.length<=m.length
 | [],_,_,_=>dh _
 |a::r,m,nd,h=>by
  have am:a∈m:=h a aU
  obtain⟨n1,n2⟩:=jP.mp nd
  have q:=Vf r (m.erase a) n2 λx hx=>(List.mem_erase_of_ne (λe=>n1 ())).mpr (h x (bD _ hx))
  grind
def a2m{l:List Nat}(h:l.length<=4):∃j,j<8/\j∉l:=by
 apply À;intro c;have q:∀j,j<8->j∈l:=λj hj=>À λd=>c ⟨j,hj,d⟩;have:=Vf (List.range 8) l List.nodup_range (λj hj=>q j (mV.mp hj));rw[rW]at this;omega
def ð{t:SetTable}(dm:t.dummies = #[]){v:Nat}(hv:v<16)(hm:15<=t.mask)(hn:v∉t.place.toList):t.freeSlot (v:Int)=some (v,false):=by
 unfold SetTable.freeSlot SetTable.probe;have e:(t.probeStart (v:Int)).j=v:=by
  unfold SetTable.probeStart;dsimp only;rw[O9 hv];exact Nat.mod_eq_of_lt ()
 obtain⟨f,hf⟩:∃f,10*SetTable.turns t.mask=f+1:=⟨10*SetTable.turns t.mask-1,by unfold SetTable.turns;omega⟩;rw[hf];unfold SetTable.probe.go;rw[e,Ao dm hn];rfl
def Es(es:Array (Int×Value))(L:List Nat):Prop:=Paired (λe v=>e.1=((v:Nat):Int)/\∃tk,e.2=Value.int ((v:Nat):Int) tk) es.toList L
structure Tb(B:Bool)(t:SetTable)(L:List Nat):Prop where
 dm:t.dummies = #[]
 pl:t.plain=true
 led:t.led = !B
 up:t.place.toList.Pairwise (· < ·)
 sz:t.place.size=L.length
 nd:L.Nodup
 lt:∀v∈L,v<16
 sh:(t.mask=7/\L.length<=4)\/(15<=t.mask/\t.place.toList=L/\L.length*5<t.mask*3)
def a2n(up:xs.toList.Pairwise (· < ·))(h:j∉xs.toList):(SetTable.insertAt xs (SetTable.below xs j) j).toList.Pairwise (· < ·):=by
 obtain⟨a,b⟩:=Cp up j;rw[HW];have z:∀i (hi:i<xs.toList.length),xs.toList[i]<j↔i<SetTable.below xs j:=λi hi=>by
  have:=b i (by simpa using hi);simpa using this
 rw[S9];refine⟨up.sublist (Nz _ _),?_,?_⟩
 ·rw[zZ];refine⟨λy hy=>?_,up.sublist (List.drop_sublist _ _)⟩;obtain⟨i,hi,e⟩:=rR hy;grind
 ·intro x hx y hy;obtain⟨i,hi,e⟩:=rR hx;rw[List.getElem_take]at e;have hl:i<xs.toList.length:=()
  have hb:i<SetTable.below xs j:=()
  have x1:x<j:=()
  rcases b7.mp hy with rfl|hy
  ·exact x1
  ·obtain⟨k,hk,e2⟩:=rR hy;grind
def Es.len{es:Array (Int×Value)}{L:List Nat}(h:Es es L):es.size=L.length:=by
 have:=aV h;grind
theorem Fz{α β:Type}{R:α->β->Prop}:∀{xs:List α}{ys:List β} (n:Nat),Paired R xs ys->Paired R (xs.take n) (ys.take n)
 |_,_,0,_=>.nil
 |_,_,_+1,.nil=>.nil
 |_,_,n+1,.cons r t=>.cons r (Fz n t)
theorem FJ{α β:Type}{R:α->β->Prop}:∀{xs:List α}{ys:List β} (n:Nat),Paired R xs ys->Paired R (xs.drop n) (ys.drop n)
 |_,_,0,r=>r
 |_,_,_+1,.nil=>.nil
 |_,_,n+1,.cons _ t=>FJ n t
def iK{α β:Type}{R:α->β->Prop}{xs xs':List α}{ys ys':List β}(h:Paired R xs ys)(q:Paired R xs' ys'):Paired R (xs++xs') (ys++ys'):=by
 induction h with
 |nil=>exact q
 |cons a _ ih=>exact .cons a ih
def bx{α β:Type}{R:α->β->Prop}{xs:List α}{ys:List β}(p:Paired R xs ys)(i:Nat)(h:i<ys.length):∃x,xs[i]?=some x/\R x ys[i]:=by
 induction p generalizing i with
 |nil=>cases h
 |cons r _ ih =>
  cases i with
  |zero=>exact⟨_,Z,r⟩
  |succ i=>exact ih i (SN h)
def a2o{B:Bool}{t:SetTable}{L:List Nat}{es:Array (Int×Value)}{v:Nat}{x:Value}(T:Tb B t L)(hE:Es es L)(hv:v<16)(hn:v∉L)(hx:∃tk,x=Value.int ((v:Nat):Int) tk) :
  ∃t1 es1 p,layNew t es ((v:Nat):Int) x=(es1,t1,false,false)/\Es es1 (L.take p++v::L.drop p)/\t1.dummies = #[]/\t1.plain=true/\(t1.led = !B)/\t1.mask=t.mask/\t1.finger=t.finger/\t1.moves=t.moves/\
   t1.place.toList.Pairwise (· < ·)/\t1.place.size=L.length+1/\(15<=t.mask->t1.place.toList=L.take p++v::L.drop p):=by
 have main:∃j,j∉t.place.toList/\t.freeSlot ((v:Nat):Int)=some (j,false)/\(15<=t.mask->j=v):=by
  rcases T.sh with⟨m7,l4⟩|⟨WK,pe,fl⟩
  ·have lp:t.place.toList.length<=4:=by rw[vP,T.sz];exact l4
   obtain⟨j,hj,nj⟩:=a2m lp;obtain⟨k,hk,e⟩:=seven v hv j hj;have st:t.probeStart ((v:Nat):Int)=Ve v:=by
    unfold SetTable.probeStart Ve;rw[O9 hv,m7];unfold SetTable.runEnd;have:¬v%(7+1)+9<=7:=()
    simp only[if_neg this];simp
   obtain⟨j',hj',e'⟩:=Τ (v:=v) (k:=k) T.dm T.up (by unfold SetTable.turns;omega) (by rw[st,m7,e];exact nj);exact⟨j',hj',e',λc=>by omega⟩
  ·have nv:v∉t.place.toList:=by rw[pe];exact hn
   exact⟨v,nv,ð T.dm hv WK nv,λ_=>rfl⟩
 obtain⟨j,nj,ef,ej⟩:=main;have sz1:(SetTable.insertAt t.place (SetTable.below t.place j) j).size=L.length+1:=by
  have:=congrArg List.length (HW t.place (SetTable.below t.place j) j);rw[vP]at this;rw[this,cC,lN,fP,lQ,vP,T.sz];omega
 have es1:(SetTable.insertAt es (SetTable.below t.place j) (((v:Nat):Int),x)).size=L.length+1:=by
  have:=congrArg List.length (HW es (SetTable.below t.place j) (((v:Nat):Int),x));rw[vP]at this;rw[this,cC,lN,fP,lQ,vP,hE.len];omega
 have mk:L.length+1<=t.mask:=by
  rcases T.sh with⟨m7,l4⟩|⟨WK,pe,fl⟩<;>omega
 refine⟨{ t with place:=SetTable.insertAt t.place (SetTable.below t.place j) j},SetTable.insertAt es (SetTable.below t.place j) (((v:Nat):Int),x),SetTable.below t.place j,?_,?_,T.dm,T.pl,T.led,rfl,rfl,rfl,a2n T.up nj,sz1,?_⟩
 ·unfold layNew;rw[ef];dsimp only;unfold SetTable.put;have hd:SetTable.has t.dummies j=false:=by rw[T.dm];exact WD j
  dsimp only;rw[hd];have ft:SetTable.fits { t with place:=SetTable.insertAt t.place (SetTable.below t.place j) j} (SetTable.insertAt es (SetTable.below t.place j) (((v:Nat):Int),x)).size=true:=by
   unfold SetTable.fits SetTable.fill;dsimp only;rw[sz1,es1,T.dm];simp;omega
  unfold SetTable.orStandIn;simp only[if_false,Bool.false_eq_true];rw[aG ft,ft];rfl
 ·unfold Es;rw[HW];exact iK (Fz _ hE) (.cons ⟨Z,hx⟩ (FJ _ hE))
 ·intro hm;dsimp only;have:=ej hm;subst this;rcases T.sh with⟨m7,l4⟩|⟨WK,pe,fl⟩
  ·omega
  ·rw[HW,pe]
end Sm
namespace Sm
variable{L:List Nat}{m f n:Nat}{es:Array (Int×Value)}
def ò(m:Nat)(owner:Array (Option Nat))(L:List Nat):Prop:=owner.size=m+1/\∀j,j<=m->owner.getD j none=if j∈L then some (L.idxOf j)else none
def ó{owner:Array (Option Nat)}(Z96:ò m owner L){v:Nat}(hv:v<=m)(hn:v∉L):SetTable.layClean.free m owner (f+1) v v=some v:=by
 unfold SetTable.layClean.free;obtain⟨k,hk⟩:∃k,SetTable.runEnd m v+1-v=k+1:=⟨SetTable.runEnd m v-v,by unfold SetTable.runEnd;split<;>omega⟩;rw[hk,List.range_succ_eq_map];have g:owner.getD (v+0) (some 0)=none:=by
  have a:=Z96.2 v hv;rw[aA hn]at a;have hs:v<owner.size:=by rw[Z96.1];omega
  simp[Array.getD,hs]at a ⊢;exact a
 rw[zV (by rw[g];rfl)];rfl
def ô(hm:15<=m):∀(R L:List Nat) (owner:Array (Option Nat)),ò m owner L->(L++R).Nodup->(∀v∈R,v<16)->
  ∃õ,ò m õ (L++R)/\(R.map λv=>((v:Nat):Int)).foldl (λ(acc:Option (Array (Option Nat)×Nat)) h=>do
   let(owner,k) <-acc
   let j <-SetTable.layClean.free m owner (SetTable.turns m) (SetTable.bits h%(m+1)) (SetTable.bits h)
   pure (owner.setIfInBounds j (some k),k+1)) (some (owner,L.length))=some (õ,(L++R).length):=by
 intro R
 induction R with
 |nil=>grind
 |cons v R ih =>
  intro L owner Z96 nd hlt;have hv:v<16:=hlt v aU;have hn:v∉L:=λc=>by
   grind
  have O':ò m (owner.setIfInBounds v (some L.length)) (L++[v]):=by
   refine⟨by rw[Array.size_setIfInBounds];exact Z96.1,λj hj=>?_⟩;have hs:v<owner.size:=by rw[Z96.1];omega
   have hs':j<owner.size:=by rw[Z96.1];omega
   have a:=Z96.2 j hj;by_cases e:j=v
   ·subst e;rw[aG (gB _ (bL.mpr Z)),List.idxOf_append,aA hn];simp[Array.getD,hs]
   ·have e1:(owner.setIfInBounds v (some L.length)).getD j none=owner.getD j none:=by
     simp only[Array.getD,Array.size_setIfInBounds,hs'];simp[Array.getElem_setIfInBounds,hs',Ne.symm e]
    grind
  obtain⟨o2,O2,e2⟩:=ih (L++[v]) _ O' () (λu hu=>hlt u (bD _ hu));refine⟨o2,(),?_⟩;rw[cH,List.foldl_cons];have st:(do
   let(owner,k) <-some (owner,L.length);let j <-SetTable.layClean.free m owner (SetTable.turns m) (SetTable.bits ((v:Nat):Int)%(m+1)) (SetTable.bits ((v:Nat):Int))
   pure (owner.setIfInBounds j (some k),k+1):Option (Array (Option Nat)×Nat))=some (owner.setIfInBounds v (some L.length),(L++[v]).length):=by
   rw[O9 hv,Nat.mod_eq_of_lt ()];have:SetTable.turns m=(m+14)+1:=rfl;rw[this];show(SetTable.layClean.free m owner (m+14+1) v v).bind _=_;rw[ó Z96 () hn];simp
  grind
def upTo(m:Nat)(L:List Nat):List Nat:=(List.range (m+1)).filter λj=>decide (j∈L)
def Pa(m:Nat)(L:List Nat):(upTo m L).Pairwise (· < ·):=Ii _ List.pairwise_lt_range
def mem_upTo(h:∀v∈L,v<=m){j:Nat}:j∈upTo m L↔j∈L:=by
 unfold upTo;grind
def FN(h:L.Pairwise (· < ·)):L.Nodup:=h.imp λh=>bW h
def yZ(h:∀v∈L,v<=m)(nd:L.Nodup):(upTo m L).Perm L :=
 (HN (FN (Pa m L)) nd).mpr λj=>mem_upTo h
def Υ(nd:L.Nodup):L.map (λv=>L.idxOf v)=List.range L.length:=by
 apply List.ext_getElem
 ·simp
 grind
theorem ö{α β:Type}(p:α->Bool)(f:α->β):∀l:List α,l.filterMap (λa=>if p a=true then some (f a)else none)=(l.filter p).map f
 | []=>rfl
 |a::r=>by
  rw[N5]
  cases e:p a with
  |true=>rw[Nm (b:=f a) (by rw[e];rfl),ö p f r];simp
  |false=>rw[List.filterMap_cons_none (by rw[e];rfl),ö p f r];simp
theorem Q5{α β:Type}{f g:α->Option β}:∀{l:List α},(∀a∈l,f a=g a)->l.filterMap f=l.filterMap g
 | [],_=>rfl
 |a::r,h=>by
  have e:=h a aU
  have q:=Q5 (l:=r) λb hb=>h b (bD _ hb)
  grind
def Es.hashes(h:Es es L):(es.map (·.1)).toList=L.map λv=>((v:Nat):Int):=by
 rw[Array.toList_map];unfold Es at h;generalize es.toList=l at h
 induction h with
 |nil=>rfl
 |cons r _ ih=>grind
def Es.at{es:Array (Int×Value)}{L:List Nat}(h:Es es L){v:Nat}(hv:v∈L):∃e,es[L.idxOf v]?=some e/\e.1=((v:Nat):Int)/\∃tk,e.2=Value.int ((v:Nat):Int) tk:=by
 have hi:=Z5 hv;obtain⟨x,e,q⟩:=bx h (L.idxOf v) hi;rw[List.getElem_idxOf hi]at q;exact⟨x,by simpa using e,q⟩
theorem a1j{es:Array (Int×Value)}{L:List Nat}(h:Es es L):∀S:List Nat,(∀v∈S,v∈L)->Paired (λe v=>e.1=((v:Nat):Int)/\∃tk,e.2=Value.int ((v:Nat):Int) tk) ((S.map λv=>L.idxOf v).filterMap λi=>es[i]?) S
 | [],_=>.nil
 |v::S,hs=>by
  obtain⟨e,a,b⟩:=h.at (hs v aU)
  rw[cH,Nm a]
  exact .cons b (a1j h S λu hu=>hs u (bD _ hu))
def Pb{mv:Nat}{led plain:Bool}(hm:15<=m)(hE:Es es L)(nd:L.Nodup)(hlt:∀v∈L,v<16) :
  ∃order:Array Nat,SetTable.laid m f mv led plain (es.map (·.1))=some ({ mask:=m,place:=(upTo m L).toArray,dummies:=#[],finger:=f,led:=led,moves:=mv,plain:=plain},order)/\
   Es (order.filterMap (es[·]?)) (upTo m L)/\coversAll order es.size=true:=by
 have hle:∀v∈L,v<=m:=λv hv=>by grind
 have O0:ò m (Array.replicate (m+1) none) []:=⟨by simp,λj hj=>by simp[Array.getD]⟩;obtain⟨ow,Z96,e⟩:=ô hm L [] _ O0 (by simpa using nd) hlt;rw[List.nil_append]at Z96 e;have ec:SetTable.layClean m (es.map (·.1))=some ow:=by
  unfold SetTable.layClean;rw[<-Array.foldl_toList,hE.hashes];grind
 have lv:(List.range (m+1)).filterMap (λj=>(ow.getD j none).map λk=>(j,k))=(upTo m L).map λj=>(j,L.idxOf j):=by
  unfold upTo;rw[<-ö];apply Q5;intro j hj;rw[Z96.2 j ()];grind
 refine⟨((upTo m L).map λj=>L.idxOf j).toArray,?_,?_,?_⟩
 ·unfold SetTable.laid;rw[ec];show some _=some _;have:(List.range (m+1)).filterMap (λj=>(ow.getD j none).map (j,·))=(upTo m L).map λj=>(j,L.idxOf j):=lv;rw[this,qt,qt];have i1:((λ(x:Nat×Nat)=>x.1)∘λj=>(j,L.idxOf j))=λj=>j:=rfl;have i2:((λ(x:Nat×Nat)=>x.2)∘λj=>(j,L.idxOf j))=λj=>L.idxOf j:=rfl;rw[i1,i2,List.map_id']
 ·unfold Es;rw[Array.toList_filterMap];exact a1j hE (upTo m L) λv hv=>(mem_upTo hle).mp hv
 ·unfold coversAll;rw[List.isPerm_iff,hE.len];have p:=(yZ hle nd).map λv=>L.idxOf v;rw[Υ nd]at p;exact p
def Vg(h:∀v∈L,v<16)(hm:15<=m)(nd:L.Nodup):(upTo m L).length=L.length:=(yZ (λv hv=>by have:=h v hv;omega) nd).length_eq
def Cq(h:n<2^40):n<SetTable.sizeAbove n:=by
 have go:∀fuel size,n<size*2^fuel->n<SetTable.sizeAbove.go n fuel size:=by
  intro fuel
  induction fuel with
  |zero=>intro size h;unfold SetTable.sizeAbove.go;simpa using h
  |succ f ih =>
   intro size h;unfold SetTable.sizeAbove.go;split
   ·exact ih _ (by rw[Nat.pow_succ]at h;rw[Nat.mul_assoc,Nat.mul_comm 2];exact h)
   ·omega
 exact go 64 8 ()
def Cr(h:8<=n):16<=SetTable.sizeAbove n:=by
 have go:∀fuel size,16<=size->16<=SetTable.sizeAbove.go n fuel size:=by
  intro fuel
  induction fuel with
  |zero=>intro size h;unfold SetTable.sizeAbove.go;exact h
  |succ f ih =>
   intro size h;unfold SetTable.sizeAbove.go;split
   ·exact ih _ ()
   ·exact h
 unfold SetTable.sizeAbove;unfold SetTable.sizeAbove.go;rw[aG h];exact go 63 _ ()
def Tb.fits{B:Bool}{t:SetTable}{L:List Nat}(T:Tb B t L):t.fits L.length=true:=by
 unfold SetTable.fits SetTable.fill;have:=T.sz;rw[T.dm];rcases T.sh with⟨a,b⟩|⟨a,b,c⟩<;>simp[this]<;>omega
def Pg{B:Bool}{mv:Nat}(hm:15<=m)(nd:L.Nodup)(hlt:∀v∈L,v<16)(hr:L.length*5<m*3) :
  Tb B { mask:=m,place:=(upTo m L).toArray,dummies:=#[],finger:=f,led:=!B,moves:=mv,plain:=true} (upTo m L) where
 dm:=rfl
 pl:=rfl
 led:=rfl
 up:=by simpa using Pa m L
 sz:=by simp
 nd:=FN (Pa m L)
 lt:=λv hv=>hlt v ((mem_upTo (λv hv=>by grind)).mp hv)
 sh:=.inr ⟨hm,by simp,by rw[Vg hlt hm nd];exact hr⟩
def ø{B:Bool}{t:SetTable}(hp:t.plain=true)(hl:t.led = !B)(hE:Es es L)(nd:L.Nodup)(hlt:∀v∈L,v<16)(hn:8<=n)(h2:2*L.length<=n)(hb:n<2^40) :
  ∃es' t' L',relayAll t es n=(es',t',false)/\Es es' L'/\Tb B t' L'/\L'.Perm L:=by
 have a1:=Cq hb;have a2:=Cr hn;have hm:15<=SetTable.sizeAbove n-1:=()
 obtain⟨order,e,hE',hc⟩:=Pb (f:=t.finger) (mv:=t.movedTo (SetTable.sizeAbove n-1)) (led:=!B) (plain:=true) hm hE nd hlt;have T:=Pg (B:=B) (f:=t.finger) (mv:=t.movedTo (SetTable.sizeAbove n-1)) hm nd hlt ();refine⟨_,_,_,?_,hE',T,yZ (λv hv=>by have:=hlt v hv;omega) nd⟩;unfold relayAll SetTable.relaid;rw[hp,hl,e];dsimp only;have z:=hE'.len;rw[hc,z,T.fits];rfl
end Sm
namespace Sm
variable{L:List Nat}{es:Array (Int×Value)}{h:Heap}{a:Addr}{B:Bool}{tk:Nat}
abbrev mH(es:Array (Int×Value))(ep:Nat)(t:SetTable):Obj:={ cls:=.type "set",dict:=none,data:=.set es ep t,slots:=#[]}
def jq(B:Bool)(h:Heap)(a:Addr)(L:List Nat):Prop:=∃es ep t,h.get? a=some (mH es ep t)/\Es es L/\Tb B t L
def qY(h:Heap)(a:Addr):Prop:=∃es ep t,h.get? a=some (mH es ep t)/\(t.mask=7\/5<=es.size)
def qY.keep{h':Heap}(S:qY h a)(k:∀o,h.get? a=some o->h'.get? a=some o):qY h' a :=
 let⟨es,ep,t,ho,r⟩:=S;⟨es,ep,t,k _ ho,r⟩
def jq.keep{h':Heap}(S:jq B h a L)(k:∀o,h.get? a=some o->h'.get? a=some o):jq B h' a L :=
 let⟨es,ep,t,ho,r⟩:=S;⟨es,ep,t,k _ ho,r⟩
def Tb.len{t:SetTable}(T:Tb B t L):L.length<=16:=by
 have:=Vf L (List.range 16) T.nd λx hx=>mV.mpr (T.lt x hx);simpa using this
def Vh:∀v:Nat,v<16->hashInt ((v:Nat):Int)=((v:Nat):Int):=by decide
def Es.elems{prog:Program}{w:World}(h:Es es L)(lt:∀v∈L,v<16):ElemsOf (intKind prog w) es.toList:=by
 unfold Es at h;generalize es.toList=l at h
 induction h with
 |nil=>intro e he;simp at he
 | @cons x y xs ys r _ ih =>
  intro e he;rcases b7.mp he with rfl|he
  ·obtain⟨tk,e2⟩:=r.2;refine⟨⟨((y:Nat):Int),?_,?_⟩,?_⟩
   ·show Value.isInt _ _=true;rw[e2];simp[Value.isInt]
   ·rw[r.1];exact(Vh y (lt y aU)).symm
   ·rw[e2];rfl
  ·exact ih (λv hv=>lt v (bD _ hv)) e he
def Es.find(h:Es es L)(v:Nat):(es.toList.findIdx? λe=>Value.isInt ((v:Nat):Int) e.2).isSome=decide (v∈L):=by
 unfold Es at h;generalize es.toList=l at h
 induction h with
 |nil=>simp
 | @cons x y xs ys r _ ih =>
  obtain⟨tk,e2⟩:=r.2;rw[List.findIdx?_cons,e2];by_cases c:v=y
  ·subst c;simp[Value.isInt]
  ·have:Value.isInt ((v:Nat):Int) (.int ((y:Nat):Int) tk)=false:=by simp[Value.isInt];omega
   grind
section
variable{prog:Program}{w:World}{A:Around}{E:Value->Shared->Prop}{s:Shared}
def Χ{ep:Nat}{t:SetTable}{v:Nat}{ad:Bool}{Q:ScanMet->Shared->Prop}(ho:s.heap.get? a=some (mH es ep t))(hE:Es es L)(T:Tb B t L)(hv:v<16)
  (h1:v∈L->∀j,Q (.found j) s) (h2:v∉L->Q .absent s):wpAny (model prog w) A (setScan a (.int ((v:Nat):Int) tk) ((v:Nat):Int) ad es) Q E s:=by
 have hf:t.fits es.size=true:=by rw[hE.len];exact T.fits
 have sc:=wpAny_setScan_of (prog:=prog) (w:=w) (A:=A) (E:=E) (s:=s) (knd:=intKind prog w) (k:=((v:Nat):Int)) (x:=.int ((v:Nat):Int) tk) (adding:=ad) (Q:=Q) (by simp[intKind,Value.isInt]) ho Z hf (hE.elems T.lt) (by
  have q:=hE.find v;have e:(λe:Int×Value=>(intKind prog w).is ((v:Nat):Int) e.2)=λe=>Value.isInt ((v:Nat):Int) e.2:=rfl;grind)
 have e:(intKind prog w).hash ((v:Nat):Int)=((v:Nat):Int):=Vh v hv;rw[e]at sc;exact sc
def zc{es':Array (Int×Value)}{ep:Nat}{t t':SetTable}(ho:h.get? a=some (mH es ep t)):(h.update a (Obj.putSet es' t')).get? a=some (mH es' (ep+1) t'):=by
 have:=Dv (Obj.putSet es' t') ho (by rw[putSet_of es' t' rfl];rfl);rw[putSet_of es' t' rfl]at this;exact this
def Ω(prog:Program)(w:World){t:SetTable}{v:Nat}(hE:Es es L)(T:Tb B t L):byScan (.int ((v:Nat):Int) tk) es=true :=
 byScan_of (knd:=intKind prog w) Z (by rw[hE.len];have:=T.len;unfold scanBound;omega) (hE.elems T.lt)
def ù{v:Nat}{Q:Bool->Shared->Prop}(S:jq B s.heap a L)(hv:v<16)
  (h:∀b h' L',Heap.SameBut a s.heap h'->jq B h' a L'->(∀u,u∈L'↔u=v\/u∈L)->(qY s.heap a->qY h' a)->Q b { s with heap:=h'}) :
  wpAny (model prog w) A (setAddHashed a (.int ((v:Nat):Int) tk) ((v:Nat):Int)) Q E s:=by
 obtain⟨es,ep,t,ho,hE,T⟩:=S;have hf:t.fits es.size=true:=by rw[hE.len];exact T.fits
 unfold setAddHashed setAddHashedIn;refine fL (M (wpAny_setState_of ho Z hf ?_));dsimp only;rw[Ω prog w hE T];simp only[↓reduceIte];unfold setAddByScan;refine M (M (kY (M (Χ ho hE T hv (λhm j=>?_) λhm=>?_))))
 ·dsimp only;refine ao (ao ?_);have q:=h false s.heap L (Tw a s.heap) ⟨es,ep,t,ho,hE,T⟩ (λu=>⟨.inr,λc=>c.elim (λe=>e▸hm) id⟩) id;exact q
 ·dsimp only;obtain⟨t1,es1,p,e1,hE1,dm,pl,ld,mk,_,_,up,sz,own⟩:=a2o (x:=.int ((v:Nat):Int) tk) T hE hv hm ⟨tk,Z⟩;rw[e1];dsimp only;refine M (ao ?_);rw[pl];refine M (ao ?_);simp only[↓reduceIte];have mem:∀u,u∈L.take p++v::L.drop p↔u=v\/u∈L:=λu=>by
   rw[cN,b7];have e:u∈L↔u∈L.take p\/u∈L.drop p:=by rw[<-cN,xK]
   rw[e];constructor
   ·rintro(c|c|c)
    ·exact .inr (.inl c)
    ·exact .inl c
    ·exact .inr (.inr c)
   ·rintro(c|c|c)
    ·exact .inr (.inl c)
    ·exact .inl c
    ·exact .inr (.inr c)
  have nd1:(L.take p++v::L.drop p).Nodup:=by
   have pm:(L.take p++v::L.drop p).Perm (v::L):=by
    have:L.take p++L.drop p=L:=xK p L;exact List.perm_middle.trans (by rw[this])
   exact pm.nodup_iff.mpr (jP.mpr ⟨hm,T.nd⟩)
  have lt1:∀u∈L.take p++v::L.drop p,u<16:=λu hu=>((mem u).mp hu).elim (λe=>e▸hv) (T.lt u);have ln1:(L.take p++v::L.drop p).length=L.length+1:=by
   rw[cC,lN,fP,lQ];omega
  have fl:t1.fill=L.length+1:=by unfold SetTable.fill;rw[dm,sz];rfl
  have l16:=T.len;have z1:es1.size=L.length+1:=by rw[hE1.len,ln1]
  refine M (Il ho Z ?_ (by rw[z1,jA];omega));have ho1:=zc (es':=es1) (t':=t1) ho;cases tf:t1.tooFull with
  |false =>
   simp only[Bool.not_false,Bool.and_false,Bool.false_eq_true,if_false];refine ao (ao ?_);refine h true _ _ (rT ..) ⟨es1,ep+1,t1,ho1,hE1,⟨dm,pl,ld,up,by rw[ln1,sz],nd1,lt1,?_⟩⟩ mem (λ⟨es0,ep0,t0,ho0,d⟩=>⟨es1,ep+1,t1,ho1,by
    rw[ho]at ho0;cases ho0;rw[mk,z1];have:=hE.len;omega⟩)
   unfold SetTable.tooFull at tf;have tf':=Tq tf;rw[fl,mk]at tf';rw[ln1,mk];rcases T.sh with⟨m7,l4⟩|⟨WK,pe,_⟩
   ·refine .inl ⟨m7,()⟩
   ·exact .inr ⟨WK,own WK,()⟩
  |true =>
   simp only[Bool.not_false,Bool.and_self,if_true];unfold SetTable.tooFull at tf;have tf':=iI tf;rw[fl,mk]at tf';have five:5<=L.length+1:=by
    rcases T.sh with⟨m7,l4⟩|⟨WK,pe,_⟩<;>omega
   have gr:SetTable.grown es1.size=(L.length+1)*4:=by
    unfold SetTable.grown;rw[z1,aA ()]
   obtain⟨es2,t2,L2,e2,hE2,T2,pm⟩:=ø (t:=t1) (n:=SetTable.grown es1.size) pl ld hE1 nd1 lt1 (by rw[gr];omega) (by rw[gr,ln1];omega) (by rw[gr];omega);rw[e2];dsimp only;refine M (ao ?_);refine M (Il ho1 Z ?_ (by rw[hE2.len,pm.length_eq,ln1,jA];omega));refine ao (ao ?_);exact h true _ L2 ((rT ..).trans (rT ..)) ⟨es2,_,t2,zc ho1,hE2,T2⟩ (λu=>(pm.mem_iff).trans (mem u)) λ_=>⟨es2,_,t2,zc ho1,.inr (by rw[hE2.len,pm.length_eq,ln1];exact five)⟩
end
end Sm
namespace Sm
variable{es:Array (Int×Value)}{ep:Nat}
abbrev qe(w:World):Bool:=w.params.followText "set-order"
theorem Jm{α:Type}:∀(l:List α) (i:Nat) (h:i<l.length),(l[i]::l.eraseIdx i).Perm l
 |_::r,0,_=>.refl _
 |x::r,i+1,h=>by
  have q:=Jm r i (by simpa using h)
  rw[List.getElem_cons_succ,List.eraseIdx_cons_succ]
  exact(List.Perm.swap x (r[i]'(by simpa using h)) (r.eraseIdx i)).trans (q.cons x)
def η{α:Type}(nx:Nat->Nat):∀(fuel k:Nat) (left:List α) (out:Array α),left.length<=fuel->(pickOrder.go nx fuel k left out).toList.Perm (out.toList++left):=by
 intro fuel
 induction fuel with
 |zero =>
  intro k left out h;have:left=[]:=Nq.mp ();subst this;unfold pickOrder.go;simp
 |succ f ih =>
  intro k left out h;unfold pickOrder.go;by_cases c:left=[]
  ·subst c;simp
  ·have pos:0<left.length:=List.length_pos_iff.mpr c;have lt:=Nat.mod_lt (nx k) pos;rw[bR lt];dsimp only;refine(ih (k+1) _ _ ()).trans ?_;rw[Array.toList_push,vR];exact List.Perm.append_left _ (Jm left _ lt)
def Mi{α:Type}(nx:Nat->Nat)(xs:Array α):(pickOrder nx xs).toList.Perm xs.toList:=by
 have:=η nx xs.size 0 xs.toList #[] (by simp);unfold pickOrder;simpa using this
def WL(a:Addr):setWalk a=(do
 let(xs,c,tb) <-setState a
 if <-setsByText then
  let q <-ask
  return pickOrder (q.params.setOrder a c) xs
 if !tb.plain&&xs.size>1 then return (<-drawOrder xs.size xs.toList).toArray
 (do if !tb.led&&xs.size>1 then unsupported "set:maker-not-led" : Sem Unit)
 return xs):=rfl
def Es.perm{L:List Nat}(h:Es es L){es':List (Int×Value)}(p:es'.Perm es.toList):∃L',Paired (λe v=>e.1=((v:Nat):Int)/\∃tk,e.2=Value.int ((v:Nat):Int) tk) es' L'/\L'.Perm L:=by
 refine⟨es'.map λe=>e.1.toNat,?_,?_⟩
 ·have all:∀e∈es.toList,∃v:Nat,e.1=((v:Nat):Int)/\∃tk,e.2=Value.int ((v:Nat):Int) tk:=by
   unfold Es at h;generalize es.toList=l at h;clear p
   induction h with
   |nil=>intro e he;simp at he
   |cons r _ ih =>
    intro e he;rcases b7.mp he with rfl|he
    ·exact⟨_,r⟩
    ·exact ih e he
  have all':∀e∈es',∃v:Nat,e.1=((v:Nat):Int)/\∃tk,e.2=Value.int ((v:Nat):Int) tk:=λe he=>all e (p.mem_iff.mp he);clear p
  induction es' with
  |nil=>exact .nil
  |cons e r ih =>
   obtain⟨v,e1,e2⟩:=all' e aU;rw[cH];refine .cons ?_ (ih λx hx=>all' x (bD _ hx));rw[e1];exact⟨Z,e2⟩
 ·refine(p.map λe=>e.1.toNat).trans ?_;unfold Es at h;generalize es.toList=l at h;have:l.map (λe=>e.1.toNat)=L:=by
   induction h with
   |nil=>rfl
   |cons r _ ih=>rw[cH,ih,r.1];rfl
  rw[this]
section
variable{prog:Program}{w:World}{A:Around}{E:Value->Shared->Prop}{s:Shared}{a:Addr}{L:List Nat}
def jG{t:SetTable}{B:Bool}{Q:(Array (Int×Value)×Nat×SetTable)->Shared->Prop}(ho:s.heap.get? a=some (mH es ep t))(hE:Es es L)(T:Tb B t L)(h:Q (es,ep,t) s) :
  wpAny (model prog w) A (setState a) Q E s:=wpAny_setState_of ho Z (by rw[hE.len];exact T.fits) h
def sY{Q:Bool->Shared->Prop}(h:Q (qe w) s):wpAny (model prog w) A setsByText Q E s:=by
 unfold setsByText;exact M (N6 (ao h))
def walk_at{t:SetTable}{Q:Array (Int×Value)->Shared->Prop}(ho:s.heap.get? a=some (mH es ep t))(hE:Es es L)(T:Tb (qe w) t L)
  (h:∀es',es'.toList.Perm es.toList->Q es' s):wpAny (model prog w) A (setWalk a) Q E s:=by
 rw[WL];refine M (jG ho hE T (M (sY ?_)));have pl:=T.pl;have ld:=T.led;cases c:qe w with
 |true =>
  simp only[if_true];exact M (N6 (ao (h _ (Mi _ _))))
 |false =>
  rw[c]at ld;simp only[pl,ld,Bool.not_true,Bool.not_false,Bool.false_and,Bool.false_eq_true,if_false];first|exact M (ao (ao (h _ .rfl)))|exact ao (h _ .rfl)
def YG{t:SetTable}{others:List Addr}{f:Option Addr}{Q:Array (Int×Value)->Shared->Prop}(ho:s.heap.get? a=some (mH es ep t))(hE:Es es L)(T:Tb (qe w) t L)
  (h:∀es',es'.toList.Perm es.toList->Q es' s):wpAny (model prog w) A (setWalkUnseen a others f) Q E s:=by
 unfold setWalkUnseen;refine M (jG ho hE T (M (sY ?_)));have e:(qe w||(t.led&&t.plain)||decide (es.size<=1))=true:=by rw[T.led,T.pl];grind
 dsimp only;rw[aG e];exact walk_at ho hE T h
def WM(es:Array (Int×Value))(laid:Option (SetTable×Array Nat)):Sem (Array (Int×Value)×SetTable):=do
 let some (t,order):=laid
  |unsupported "internal:set-table-without-room"
 if(order.filterMap (es[·]?)).size != es.size then unsupported "internal:set-table-lost-an-element"
 pure (order.filterMap (es[·]?),t)
def ú(a:Addr)(n:Nat):setRelay a n=(do
 let(es,_,t) <-setState a
 if SetTable.sizeAbove n>sizeLine then unsupported "set:memory"
 let(es,t) <-WM es (t.relaid (es.map (·.1)) n)
 storeSet a es t):=rfl
def Q6{t:SetTable}{order:Array Nat}{S:List Nat}{Q:Array (Int×Value)×SetTable->Shared->Prop}(hE':Es (order.filterMap (es[·]?)) S)(hz:es.size=S.length)(h:Q (order.filterMap (es[·]?),t) s) :
  wpAny (model prog w) A (WM es (some (t,order))) Q E s:=by
 unfold WM;dsimp only;have e:((order.filterMap (es[·]?)).size != es.size)=false:=by rw[hE'.len,hz];simp
 simp only[e,Bool.false_eq_true,if_false];first|exact M (ao (ao h))|exact ao h
def û{n:Nat}(h:n<=64):SetTable.sizeAbove n<=128:=by
 have:∀n,n<=64->SetTable.sizeAbove n<=128:=()
 grind
def θ{more:Nat}{Q:Unit->Shared->Prop}{B:Bool}(S:jq B s.heap a L)(hm:more<=16)
  (h:∀h' es ep t L',Heap.SameBut a s.heap h'->h'.get? a=some (mH es ep t)->Es es L'->Tb B t L'->L'.Perm L->(L.length+more)*5<t.mask*3->Q ⟨⟩ { s with heap:=h'}):wpAny (model prog w) A (setRoomFor a more) Q E s:=by
 obtain⟨es,ep,t,ho,hE,T⟩:=S;unfold setRoomFor;refine M (jG ho hE T ?_);have fl:t.fill=L.length:=by unfold SetTable.fill;rw[T.dm,T.sz];rfl
 have l16:=T.len;unfold SetTable.roomFor;dsimp only;rw[fl,T.sz];by_cases c:(L.length+more)*5>=t.mask*3
 ·rw[aG c];dsimp only;rw[ú];refine M (jG ho hE T ?_);have five:5<=L.length+more:=by
   rcases T.sh with⟨m7,_⟩|⟨WK,_,_⟩<;>omega
  have b1:=Cq (n:=(L.length+more)*2) ();have b2:=Cr (n:=(L.length+more)*2) ();have b3:=û (n:=(L.length+more)*2) ();dsimp only;rw[aA (by rw[jA];omega)];have hm':15<=SetTable.sizeAbove ((L.length+more)*2)-1:=()
  obtain⟨order,e,hE',hc⟩:=Pb (f:=t.finger) (mv:=t.movedTo (SetTable.sizeAbove ((L.length+more)*2)-1)) (led:=t.led) (plain:=t.plain) hm' hE T.nd T.lt;unfold SetTable.relaid;rw[e];have lz:=Vg T.lt hm' T.nd;refine M (Q6 hE' (by rw[hE.len,lz]) ?_);refine Il ho Z ?_ (by rw[hE'.len,lz,jA];omega);have T':=Pg (B:=B) (f:=t.finger) (mv:=t.movedTo (SetTable.sizeAbove ((L.length+more)*2)-1)) hm' T.nd T.lt ();rw[<-T.led,<-T.pl]at T';exact h _ _ _ _ _ (rT ..) (zc ho) hE' T' (yZ (λv hv=>by have:=T.lt v hv;omega) T.nd) (by show _<(SetTable.sizeAbove ((L.length+more)*2)-1)*3;omega)
 ·rw[aA c];exact ao (h s.heap es ep t L (Tw a s.heap) ho hE T .rfl ())
end
end Sm
namespace Sm
def ý(sA oA:Addr)(each:Sem Unit):setMerge sA oA each=(do
 if sA==oA then return
 let(eo,epoch,to) <-setState oA
 if eo.isEmpty then return
 setRoomFor sA eo.size
 let(_,_,ts) <-setState sA
 match ts.road to with
 |.slotForSlot =>
  storeSet sA eo { to with finger:=ts.finger,led:=ts.led&&to.led,moves:=ts.moves,plain:=ts.plain&&to.plain}
 |.clean =>
  let(es,t) <-WM eo (SetTable.laid ts.mask ts.finger ts.moves (ts.led&&to.led) (ts.plain&&to.plain) (eo.map (·.1)))
  storeSet sA es t
 |.oneByOne =>
  for (h,x)in <-setWalkUnseen oA [sA] (some sA) do
   let _ <-holding [x] (setAddHashed sA x h)
   each
   if(<-setState oA).2.1 != epoch then unsupported "set.changed-during-merge"):=rfl
section
variable{prog:Program}{w:World}{A:Around}{E:Value->Shared->Prop}{s:Shared}{sA oA:Addr}{L1 L2:List Nat}
def Q7{each:Sem Unit}{Q:Unit->Shared->Prop}(ne:sA≠oA)(S1:jq (qe w) s.heap sA L1)(S2:jq (qe w) s.heap oA L2)(D:qY s.heap oA)
  (he:∀(s':Shared) (Q':Unit->Shared->Prop),(∀o,s.heap.get? oA=some o->s'.heap.get? oA=some o)->Q' ⟨⟩ s'->wpAny (model prog w) A each Q' E s')
  (h:∀h' L,Heap.SameBut sA s.heap h'->jq (qe w) h' sA L->(∀u,u∈L↔u∈L1\/u∈L2)->Q ⟨⟩ { s with heap:=h'}):wpAny (model prog w) A (setMerge sA oA each) Q E s:=by
 obtain⟨eo,ep,to,ho,hE,T⟩:=S2;rw[ý];have nb:(sA==oA)=false:=vN.mpr ne;rw[nb];simp only[Bool.false_eq_true,if_false];refine M (jG ho hE T ?_);dsimp only;have hz:=hE.len;have l16:=T.len;by_cases c:eo.isEmpty=true
 ·rw[aG c];have l0:L2.length=0:=by rw[<-hz];simpa using c
  have:L2=[]:=Nq.mp l0;subst this;exact ao (h s.heap L1 (Tw _ _) S1 λu=>by simp)
 rw[aA c];refine M (θ S1 () λh1 es1 ep1 t1 L1' Em ho1 hE1 T1 pm hr=>?_);have ho':h1.get? oA=some (mH eo ep to):=by rw[Em.2 oA (Ne.symm ne)];exact ho
 refine M (jG (s:={ s with heap:=h1}) ho1 hE1 T1 ?_);dsimp only;have fl:t1.fill=L1'.length:=by unfold SetTable.fill;rw[T1.dm,T1.sz];rfl
 unfold SetTable.road;rw[fl,pm.length_eq];have ld:(t1.led&&to.led) = !qe w:=by rw[T1.led,T.led];simp
 have pl:(t1.plain&&to.plain)=true:=by rw[T1.pl,T.pl];rfl
 by_cases e0:L1.length=0
 ·have n1:L1=[]:=Nq.mp e0;have nb:(L1.length != 0)=false:=by rw[e0];rfl
  rw[nb];simp only[Bool.false_eq_true,if_false];have dmt:to.dummies.isEmpty=true:=by rw[T.dm];rfl
  by_cases em:t1.mask=to.mask
  ·have:(t1.mask==to.mask&&to.dummies.isEmpty)=true:=()
   rw[this];simp only[if_true];refine Il (s:={ s with heap:=h1}) ho1 rfl ?_ (by rw[hz,jA];omega);refine h _ L2 (Em.trans (rT ..)) ⟨eo,_,_,zc ho1,hE,⟨T.dm,pl,ld,T.up,T.sz,T.nd,T.lt,T.sh⟩⟩ λu=>by rw[n1];simp
  ·have:(t1.mask==to.mask&&to.dummies.isEmpty)=false:=()
   rw[this];simp only[Bool.false_eq_true,if_false];have WK:15<=t1.mask:=by
    obtain⟨es0,ep0,t0,ho0,d⟩:=D;rw[ho]at ho0;cases ho0;rcases T1.sh with⟨m7,_⟩|⟨WK,_⟩
    ·grind
    ·exact WK
   obtain⟨order,e,hE',hc⟩:=Pb (f:=t1.finger) (mv:=t1.moves) (led:=t1.led&&to.led) (plain:=t1.plain&&to.plain) WK hE T.nd T.lt;rw[e];have lz:=Vg T.lt WK T.nd;refine M (Q6 hE' (by rw[hz,lz]) ?_);refine Il (s:={ s with heap:=h1}) ho1 rfl ?_ (by rw[hE'.len,lz,jA];omega);have T':=Pg (B:=qe w) (f:=t1.finger) (mv:=t1.moves) WK T.nd T.lt ();rw[<-ld,<-pl]at T';refine h _ _ (Em.trans (rT ..)) ⟨_,_,_,zc ho1,hE',?_⟩ λu=>?_
   ·grind
   ·rw[n1,mem_upTo (λv hv=>by have:=T.lt v hv;omega)];simp
 ·have nb:(L1.length != 0)=true:=by simp[e0]
  rw[nb];simp only[if_true];refine M (YG (s:={ s with heap:=h1}) ho' hE T λes' pe=>?_);obtain⟨R,hR,pR⟩:=hE.perm pe;refine M ?_;rw[<-Tr];refine wpAny_forIn_list _ (λrest _ s'=>∃h' L R,s'={ s with heap:=h'}/\Heap.SameBut sA s.heap h'/\jq (qe w) h' sA L/\Paired (λ(e:Int×Value) (v:Nat)=>e.1=((v:Nat):Int)/\∃tk,e.2=Value.int ((v:Nat):Int) tk) rest R/\
   (∀v∈R,v<16)/\∀u,(u∈L\/u∈R)↔(u∈L1\/u∈L2)) _ ?_ ?_ _ _ ⟨h1,L1',R,Z,Em,⟨es1,ep1,t1,ho1,hE1,T1⟩,hR,λv hv=>T.lt v (pR.mem_iff.mp hv),λu=>by rw[pm.mem_iff,pR.mem_iff]⟩
  ·rintro⟨hh,x⟩ rest b s' ⟨h',L,R',rfl,sb,S,hP,lt,mem⟩;cases hP with
   | @cons _ v _ R'' r t =>
    obtain⟨e1,tk,e2⟩:=r;dsimp only at e1 e2;subst e1;subst e2;dsimp only;refine M (fL (ù (s:={ s with heap:=h'}) S (lt v aU) λb2 h2 L' Q8 S' mem' _=>?_));have YH:=sb.trans Q8;have oo:h2.get? oA=some (mH eo ep to):=by rw[YH.2 oA (Ne.symm ne)];exact ho
    refine M (he _ _ (λo q=>by grind) (M (jG (s:={ s with heap:=h2}) oo hE T ?_)));simp only[bne_self_eq_false,Bool.false_eq_true,if_false];refine ao ⟨h2,L',R'',Z,YH,S',t,λu hu=>lt u (bD _ hu),λu=>?_⟩;grind
  ·rintro b s' ⟨h',L,R',rfl,sb,S,hP,lt,mem⟩;cases hP;exact ao (h h' L sb S λu=>by rw[<-mem u];simp)
end
end Sm
namespace Sm
open PySem.Builtin.Frozenset
variable{Q:Value->Shared->Prop}{B:Bool}
def Vi:isSubtype (.type "set") (.type "set")=pure true:=by rw[Ub];kernel_rfl
def þ:entryFor table "set.__or__" = some Builtin.«frozenset.__or__» := Uc (id':="frozenset.__or__") (by kernel_rfl) Z () (by kernel_rfl)
def Vj:entryFor table "set.__iter__" = some Builtin.«frozenset.__iter__» := Uc (id':="frozenset.__iter__") (by kernel_rfl) Z () (by kernel_rfl)
def Ph(id:String)(l:Addr)(r:Value):Sem Value:=do
 let result <-copyOf l
 if r != .ref l then
  let q <-addrOf result
  holding [result] (updateFrom id q r)
 return result
def or_eq(x y:Value):Builtin.«frozenset.__or__» ⟨[x,y],[]⟩=(do
 let(self,bA) <-slot1 "__or__" ⟨[x,y],[]⟩
 if !(<-isAnySet self <&&> isAnySet bA)then
  rule s!"frozenset.{"__or__"}.declined"
  return <-ret .notImplemented
 ret (<-Ph s!"frozenset.{"__or__"}" (<-addrOf self) bA)):=rfl
section
variable{prog:Program}{w:World}{A:Around}{E:Value->Shared->Prop}{s:Shared}{a b:Addr}{L1 L2:List Nat}
def Q9(B:Bool):Tb B (.fresh 0 0 (!B)) []:=⟨Z,Z,Z,.nil,Z,.nil,λv h=>by simp at h,.inl ⟨Z,by simp⟩⟩
def a2p(h:Q (.ref s⁻¹) { s with heap:=s.heap.push (mH #[] 0 (.fresh 0 0 (!qe w)))}):wpAny (model prog w) A (newSet (.type "set")) Q E s:=by
 unfold newSet;refine M (sY ?_);dsimp only;simp only[newObj];exact M (wpAny_alloc (ao h))
def jq.type(S:jq B s.heap a L1):s.TypeIs (.ref a) "set" := let⟨_,_,_,ho,_⟩:=S;⟨_,ho,Z⟩
def Vk{Q:Bool->Shared->Prop}(S:jq B s.heap a L1)(h:Q true s):wpAny (model prog w) A (isAnySet (.ref a)) Q E s:=by
 unfold isAnySet orM;exact M (vU S.type Vi (ao h))
def ξ(S:jq (qe w) s.heap a L1)(D:qY s.heap a)
  (h:∀h' L,(∀b o,s.heap.get? b=some o->h'.get? b=some o)->jq (qe w) h' s⁻¹ L->(∀u,u∈L↔u∈L1)->Q (.ref s⁻¹) { s with heap:=h'}):wpAny (model prog w) A (copyOf a) Q E s:=by
 unfold copyOf baseOf;refine M (M (vU S.type Vi (ao ?_)));simp only[if_true];refine M (a2p ?_);show wpAny _ _ (do setMerge s⁻¹ a;pure (Value.ref s⁻¹)) _ _ _;have lt:a<s⁻¹:=by
  obtain⟨_,_,_,ho,_⟩:=S;exact aX ho
 have k:∀b o,s.heap.get? b=some o->(s.heap.push (mH #[] 0 (.fresh 0 0 (!qe w)))).get? b=some o:=λb o e=>bJ _ e;refine M (Q7 (s:={ s with heap:=s.heap.push (mH #[] 0 (.fresh 0 0 (!qe w)))}) (L1:=[]) (gD lt) ⟨#[],0,_,bU _ rfl,.nil,Q9 _⟩ (S.keep (k a)) (D.keep (k a)) (λs' Q' _ q=>ao q) λh' L sb S' mem=>?_);refine ao (h h' L (λb o e=>?_) S' λu=>by grind);have lb:=aX e;rw[sb.2 b (bW lb)];exact k b o e
def Jo{es:Array (Int×Value)}{ep:Nat}{t:SetTable}{Q:Nat->Shared->Prop}(ho:s.heap.get? a=some (mH es ep t))(hE:Es es L1)(T:Tb B t L1)(h:Q ep s):wpAny (model prog w) A (setEpoch a) Q E s :=
 wpAny_setEpoch_of ho Z (by rw[hE.len];exact T.fits) h
def ÿ{id:String}(ne:a≠b)(S1:jq (qe w) s.heap a L1)(D1:qY s.heap a)(S2:jq (qe w) s.heap b L2)(D2:qY s.heap b)
  (h:∀h' L,(∀b o,s.heap.get? b=some o->h'.get? b=some o)->jq (qe w) h' s⁻¹ L->(∀u,u∈L↔u∈L1\/u∈L2)->Q (.ref s⁻¹) { s with heap:=h'}) :
  wpAny (model prog w) A (Ph id a (.ref b)) Q E s:=by
 unfold Ph;refine M (ξ S1 D1 λh1 L k S mem=>?_);have nb:(Value.ref b != Value.ref a)=true:=()
 rw[nb];simp only[if_true];have S2':=S2.keep (k b);have D2':=D2.keep (k b);have lt:b<s⁻¹:=by
  obtain⟨_,_,_,ho,_⟩:=S2;exact aX ho
 have S2c:=S2';obtain⟨es,ep,t,ho,hE,T⟩:=S2c;show wpAny _ _ (holding [Value.ref s⁻¹] (updateFrom id s⁻¹ (.ref b)) >>= λ_=>pure (Value.ref s⁻¹)) _ _ _;refine M (fL ?_);unfold updateFrom;refine M (Vk (s:={ s with heap:=h1}) S2' ?_);simp only[if_true];show wpAny _ _ (merge id s⁻¹ b) _ _ _;unfold merge;refine M (Jo (s:={ s with heap:=h1}) ho hE T (Q7 (s:={ s with heap:=h1}) (gD lt) S S2' D2' (λs' Q' ks q=>?_) λh' L' sb S' mem'=>?_))
 ·unfold unchanged;refine M (Jo (s:=s') (ks _ ho) hE T ?_);simp only[bne_self_eq_false,Bool.false_eq_true,if_false];exact ao q
 ·refine ao (h h' L' (λc o e=>?_) S' λu=>by rw[mem' u,mem u]);rw[sb.2 c (bW (aX e))];exact k c o e
def a4u(ne:a≠b)(S1:jq (qe w) s.heap a L1)(D1:qY s.heap a)(S2:jq (qe w) s.heap b L2)(D2:qY s.heap b)
  (h:∀h' L,(∀b o,s.heap.get? b=some o->h'.get? b=some o)->jq (qe w) h' s⁻¹ L->(∀u,u∈L↔u∈L1\/u∈L2)->Q (.ref s⁻¹) { s with heap:=h'}) :
  wpAny (model prog w) A (binaryOp .BitOr (.ref a) (.ref b)) Q E s:=by
 refine wpAny_binaryOp_same S1.type S2.type F.fills_set_or F.slot_set_or (gC F.slot_set_or S1.type þ ?_ (F.args_set_or_2 _ _));rw[or_eq];refine M (m:=slot1 "__or__" _) (ao ?_);dsimp only;unfold andM;refine M (M (Vk S1 (Vk S2 ?_)));simp only[Bool.not_true,Bool.false_eq_true,if_false];show wpAny _ _ (Ph _ a (.ref b) >>= λv=>ret v) _ _ _;refine M (ÿ ne S1 D1 S2 D2 λh' L k S mem=>?_);exact ao ⟨_,Z,by simp,h h' L k S mem⟩
end
end Sm
namespace Sm
def mJ:Slot "set_iterator" "__next__" "set_iterator.__next__" := .of (owner:="set_iterator") (n:="__next__") (by rw[typeLookup_type,builtinLookup_eq_fast];kernel_rfl) () () () (by first|exact .inl ()|exact .inr ()) (by rw[Ub];kernel_rfl)
def zN:entryFor table "set_iterator.__next__" = some Builtin.«set_iterator.__next__» := entryFor_of_fast (by kernel_rfl)
def Cu(a:Value):argsOk "set_iterator.__next__" ⟨[a],[]⟩:=by unfold argsOk;kernel_rfl
def Cv:Slot "set_iterator" "__iter__" "set_iterator.__iter__" := .of (owner:="set_iterator") (n:="__iter__") (by rw[typeLookup_type,builtinLookup_eq_fast];kernel_rfl) () () () (by first|exact .inl ()|exact .inr ()) (by rw[Ub];kernel_rfl)
def Pj(a:Value):argsOk "set_iterator.__iter__" ⟨[a],[]⟩:=by unfold argsOk;kernel_rfl
end Sm
namespace Sm
variable{es:Array (Int×Value)}{ep:Nat}
def KY:entryFor table "set_iterator.__iter__" = some Builtin.«dict_keyiterator.__iter__» := Uc (id':="dict_keyiterator.__iter__") (by kernel_rfl) Z () (by kernel_rfl)
def walked(w:World)(a:Addr)(ep:Nat)(es:Array (Int×Value)):Array (Int×Value):=if qe w=true then pickOrder (w.params.setOrder a ep) es else es
def FP(w:World)(a:Addr)(ep:Nat)(es:Array (Int×Value)):(walked w a ep es).toList.Perm es.toList:=by
 unfold walked;split
 ·exact Mi _ _
 ·exact .rfl
def qZ(w:World)(a:Addr)(ep:Nat)(es:Array (Int×Value)):(walked w a ep es).size=es.size:=by
 have:=(FP w a ep es).length_eq;simpa using this
def ο(a:Addr)(slot given epochThen:Nat):setNext a slot given epochThen=(do
 let(xs,c,tb) <-setState a
 if <-setsByText then
  if c != epochThen then
   unsupported "set_iterator.__next__:elements-changed"
  let zs <-setWalk a
  return (zs[given]?).map λz=>(z.2,slot)
 if !tb.plain&&xs.size>1 then
  unsupported "set_iterator.__next__:the-table-is-plain-no-more"
 (do if !tb.led && !xs.isEmpty then unsupported "set:maker-not-led" : Sem Unit)
 return match xs[SetTable.below tb.place slot]?,tb.place[SetTable.below tb.place slot]? with
  |some (_,z),some m=>some (z,m+1)
  |_,_=>none):=rfl
def oU(B:Bool)(t:SetTable)(i:Nat):Nat:=if B=true then 0 else if i=0 then 0 else t.place.getD (i-1) 0+1
def Vl{B:Bool}{t:SetTable}{L:List Nat}(T:Tb B t L)(hB:B=false):∀i,i<=L.length->SetTable.below t.place (oU B t i)=i
 |0,_=>by
  unfold oU
  rw[hB]
  exact Vc T.up
 |k+1,h=>by
  unfold oU
  rw[hB]
  have hk:k<t.place.size:=by rw[T.sz];omega
  simp only[Bool.false_eq_true,if_false,Nat.add_sub_cancel]
  rw[aA ()]
  have:t.place.getD k 0=t.place[k]:=by simp[Array.getD,hk]
  rw[this]
  exact Vd T.up hk
section
variable{prog:Program}{w:World}{A:Around}{E:Value->Shared->Prop}{s:Shared}{a:Addr}{L:List Nat}
def ς{t:SetTable}{Q:Array (Int×Value)->Shared->Prop}(ho:s.heap.get? a=some (mH es ep t))(hE:Es es L)(T:Tb (qe w) t L)
  (h:Q (walked w a ep es) s):wpAny (model prog w) A (setWalk a) Q E s:=by
 rw[WL];refine M (jG ho hE T (M (sY ?_)));have pl:=T.pl;have ld:=T.led;unfold walked at h;cases c:qe w with
 |true =>
  rw[c]at h;simp only[if_true]at h ⊢;exact M (N6 (ao h))
 |false =>
  rw[c]at ld h;simp only[pl,ld,Bool.not_true,Bool.not_false,Bool.false_and,Bool.false_eq_true,if_false]at h ⊢;first|exact M (ao (ao h))|exact ao h
def Ra{i:Nat}{t:SetTable}{Q:Option (Value×Nat)->Shared->Prop}(ho:s.heap.get? a=some (mH es ep t))(hE:Es es L)(T:Tb (qe w) t L)(hi:i<=L.length)
  (h:Q (((walked w a ep es)[i]?).map λe=>(e.2,oU (qe w) t (i+1))) s):wpAny (model prog w) A (setNext a (oU (qe w) t i) i ep) Q E s:=by
 rw[ο];refine M (jG ho hE T (M (sY ?_)));have pl:=T.pl;have ld:=T.led;cases c:qe w with
 |true =>
  simp only[if_true,bne_self_eq_false,Bool.false_eq_true,if_false];refine M (ς ho hE T (ao ?_));rw[c]at h;unfold oU at h ⊢;grind
 |false =>
  rw[c]at ld h;simp only[pl,ld,Bool.not_true,Bool.not_false,Bool.false_and,Bool.false_eq_true,if_false];have bs:=Vl T c i hi;rw[c]at bs;rw[bs];have wk:walked w a ep es=es:=by unfold walked;rw[c];rfl
  rw[wk]at h;have e:(match es[i]?,t.place[i]? with
   |some (_,z),some m=>some (z,m+1)
   |_,_=>none)=(es[i]?).map λe=>(e.2,oU false t (i+1)):=by
   by_cases q:i<L.length
   ·have h1:i<es.size:=by rw[hE.len];exact q
    have h2:i<t.place.size:=by rw[T.sz];exact q
    rw[xu h1,xu h2];unfold oU;simp[Array.getD,h2]
   ·have h1:es[i]?=none:=Nt (by rw[hE.len];omega);rw[h1];rfl
  first
  |exact M (ao (ao (by rw[e];exact h)))
  |exact ao (by rw[e];exact h)
abbrev š(sl i:Nat)(a:Addr)(n ep:Nat):Obj:={ cls:=.type "set_iterator",dict:=none,data:=.fields #[.int (sl:Nat) 0,.int (i:Nat) 0,.ref a,.int (n:Nat) 0,.int (ep:Nat) 0],slots:=#[]}
def item_at{I:Addr}{i:Nat}{t:SetTable}{e:Int×Value}{Q:Option Value->Shared->Prop}(ne:a≠I)(ho:s.heap.get? a=some (mH es ep t))(hE:Es es L)(T:Tb (qe w) t L)
  (hI:s.heap.get? I=some (š (oU (qe w) t i) i a L.length ep)) (hw:(walked w a ep es)[i]?=some e)
  (h:∀h',h'.get? I=some (š (oU (qe w) t (i+1)) (i+1) a L.length ep)->Heap.SameBut I s.heap h'->Q (some e.2) { s with heap:=h'}):wpAny (model prog w) A (pyNext (.ref I)) Q E s:=by
 have hi:i<L.length:=by
  rcases xV i (walked w a ep es).size with q|q
  ·rw[qZ,hE.len]at q;exact q
  grind
 have hT:s.TypeIs (.ref I) "set_iterator" :=⟨_,hI,Z⟩;unfold pyNext;refine M (tL (oJ (name:=Str.ofString "__next__") hT mJ (gC mJ hT zN ?_ (Cu _))));unfold Builtin.«set_iterator.__next__»;refine M (m:=slotArgs "__next__" 0 _) (ao ?_);dsimp only;refine M (Eb hI Z ?_);dsimp only;unfold setEntries;refine M (M (jG ho hE T (ao ?_)));have z:(((es.size:Nat):Int) !=((L.length:Nat):Int))=false:=by rw[hE.len];simp
 dsimp only;rw[z];simp only[Bool.false_eq_true,if_false,Int.toNat_natCast];refine M (Ra ho hE T () ?_);rw[hw];dsimp only[Option.map];refine M (iV hI (by simp) λh1 hI1 Em=>M (iV (s:={ s with heap:=h1}) hI1 (by simp) λh2 hI2 Q8=>ao ⟨_,Z,ao (h h2 ?_ (Em.trans Q8))⟩));rw[hI2];simp[rawInt]
def Jp{I:Addr}{t:SetTable}{Q:Option Value->Shared->Prop}(hh:A.handled=none)(ne:a≠I)(ho:s.heap.get? a=some (mH es ep t))(hE:Es es L)(T:Tb (qe w) t L)
  (hI:s.heap.get? I=some (š (oU (qe w) t L.length) L.length a L.length ep))
  (h:∀h',Heap.ExtBut I s.heap h'->Q none { s with heap:=h'}):wpAny (model prog w) A (pyNext (.ref I)) Q E s:=by
 have hT:s.TypeIs (.ref I) "set_iterator" :=⟨_,hI,Z⟩;unfold pyNext;refine M (tL (oJ (name:=Str.ofString "__next__") hT mJ (gC mJ hT zN ?_ (Cu _))));unfold Builtin.«set_iterator.__next__»;refine M (m:=slotArgs "__next__" 0 _) (ao ?_);dsimp only;refine M (Eb hI Z ?_);dsimp only;unfold setEntries;refine M (M (jG ho hE T (ao ?_)));have z:(((es.size:Nat):Int) !=((L.length:Nat):Int))=false:=by rw[hE.len];simp
 dsimp only;rw[z];simp only[Bool.false_eq_true,if_false,Int.toNat_natCast];refine M (Ra ho hE T () ?_);rw[Nt (by rw[qZ,hE.len];grind)];dsimp only[Option.map];refine M (iV hI (by simp) λh1 hI1 Em=>M ?_);simp only[newExc,newTuple];refine M (kI ?_ (by size_fits));refine M (m:=firstArgMember _ _) (IV (a:=Value.none) (by first|rfl|(simp only[firstArgMember];rfl)) ?_);refine kI ?_ (by size_fits);simp only[raiseNew];refine M (Oe ?_);rw[show A.in1.handled=none from hh];refine M (ao (Oi ?_));exact M (vU (U:="StopIteration") (T:="StopIteration") (b:=true) ⟨_,bU _ Z,Z⟩ Iw (ao (h _ ((Em.extBut.push _).push _))))
end
end Sm
namespace Sm
open PyProof.Rows
variable{a:Addr}{es:Array (Int×Value)}{ep:Nat}
section
variable{prog:Program}{w:World}{A:Around}{E:Value->Shared->Prop}{s:Shared}{L:List Nat}
def a2q{I:Addr}{t:SetTable}(hh:A.handled=none)(ne:a≠I)(hE:Es es L)(T:Tb (qe w) t L) :
  Walks prog w A I [I,a] [I] L.length (λi v=>∃e,(walked w a ep es)[i]?=some e/\v=e.2)
   (λi h=>h.get? I=some (š (oU (qe w) t i) i a L.length ep)/\h.get? a=some (mH es ep t)) where
 sub:=λb hb=>by grind
 frame:=λ_ _ _ st hk=>⟨hk I (by simp) _ st.1,hk a (by simp) _ st.2⟩
 item:=λi s Q E hi st hQ=>by
  obtain⟨e,he⟩:∃e,(walked w a ep es)[i]?=some e:=⟨_,xu (by rw[qZ,hE.len];exact hi)⟩
  refine item_at ne st.2 hE T st.1 he λh' hI sb=>?_
  exact hQ _ h' s.toks ⟨e,he,Z⟩ ⟨hI,by rw[sb.2 a ne];exact st.2⟩ λb o hb q=>by rw[sb.2 b (λc=>hb (by simp[c]))];exact q
 done:=λs Q E st hQ=>Jp hh ne st.2 hE T st.1 λh' xb=>hQ h' s.toks λb o hb q=>xb b o (λc=>hb (by simp[c])) q
 self:=λi s Q E st hQ=>by
  have hT:s.TypeIs (.ref I) "set_iterator" :=⟨_,st.1,Z⟩
  refine Im hT Cv (gC Cv hT KY ?_ (Pj _))
  show wpAny _ _ (ret (Value.ref I)) _ _ s;exact ao ⟨_,Z,"set_iterator",_,hT,mJ.lookup,hQ⟩
def Ā(a:Addr):setDrawn a=(do
 let(es,_,t) <-setState a
 let byText <-setsByText
 return !byText&&(!t.plain&&es.size>1)):=rfl
def Cw{t:SetTable}{Q:Value->Shared->Prop}(ho:s.heap.get? a=some (mH es ep t))(hE:Es es L)(T:Tb (qe w) t L)
  (h:Q (.ref s⁻¹) { s with heap:=s.heap.push (š 0 0 a L.length ep)}):wpAny (model prog w) A (pyIter (.ref a)) Q E s:=by
 have hT:s.TypeIs (.ref a) "set" :=⟨_,ho,Z⟩;refine Im hT F.slot_set_iter (gC F.slot_set_iter hT Vj ?_ (F.args_set_iter_1 _));unfold Builtin.«frozenset.__iter__»;refine M (m:=Builtin.Frozenset.slot0 _ _) (ao ?_);unfold Builtin.Frozenset.sizeOf setEntries;refine M (M (M (jG ho hE T (ao (ao ?_)))));rw[Ā];refine M (M (jG ho hE T (M (sY (ao ?_)))));rw[T.pl];simp only[Bool.not_true,Bool.false_and,Bool.and_false,Bool.false_eq_true,if_false];refine M (ao (M (Jo ho hE T (M ?_))));unfold newFields;refine kI (ao ⟨_,Z,"set_iterator",_,⟨_,bU _ Z,Z⟩,mJ.lookup,?_⟩);rw[hE.len];exact h
def υ:(Value.type "set" == Value.type "list")=false:=by decide
def a2r:(Value.type "set" == Value.type "tuple")=false:=by decide
def ā:typeLookup (.type "set") "__len__" = pure (some (.builtin "set.__len__")):=F.slot_set_len.lookup
def split_len:splitId "set.__len__" = some ("set","__len__"):=by decide
def Rb{t:SetTable}{Q:List Value->Shared->Prop}(hh:A.handled=none)(ho:s.heap.get? a=some (mH es ep t))(hE:Es es L)(T:Tb (qe w) t L)
  (h:∀(h':Heap) (tk:Nat),(∀b o,s.heap.get? b=some o->h'.get? b=some o)->s⁻¹<h'.objs.size->Q ((walked w a ep es).toList.map (·.2)) { s with heap:=h',toks:=tk}):wpAny (model prog w) A (collect (.ref a)) Q E s:=by
 have lt:a<s⁻¹:=aX ho;unfold collect;refine M (wpAny_runValue (rY F.entry_proto_collect ?_));rw[tD F.plain_proto_collect _];show wpAny _ A.in1 (newList [] >>= λl=>again (.builtin "list.__iadd__" ⟨[l,.ref a],[]⟩)) _ _ s;refine M (kI (ao ⟨uL F.plain_list_iadd _,rY F.entry_list_iadd ?_⟩));rw[tD F.plain_list_iadd _];have S0:(s.heap.push { cls:=.type "list",data:=.seq ([]:List Value).toArray}).get? s⁻¹=some { cls:=.type "list",data:=.seq ([]:List Value).toArray}:=bU _ rfl;have ho1:(s.heap.push { cls:=.type "list",data:=.seq ([]:List Value).toArray}).get? a=some (mH es ep t):=bJ _ ho;have hT1:Shared.TypeIs { s with heap:=s.heap.push { cls:=.type "list",data:=.seq ([]:List Value).toArray}} (.ref a) "set" :=⟨_,ho1,rfl⟩;show wpAny _ A.in1 (Builtin.List.listExtendWith (.ref s⁻¹) (.ref a) (.ref s⁻¹)) _ _ { s with heap:=s.heap.push { cls:=.type "list",data:=.seq ([]:List Value).toArray}};unfold Builtin.List.listExtendWith;refine M (vX hT1 ?_);have n1:Builtin.List.listSameRef (.ref s⁻¹) (.ref a)=false:=by simp[Builtin.List.listSameRef,Nat.ne_of_gt lt]
 simp only[n1,υ,a2r,Bool.or_false,Bool.false_eq_true,if_false];refine M (Cw ho1 hE T (M (fL ?_)));have ho2:((s.heap.push { cls:=.type "list",data:=.seq ([]:List Value).toArray}).push (š 0 0 a L.length ep)).get? a=some (mH es ep t):=bJ _ ho1;have hT2:Shared.TypeIs { s with heap:=(s.heap.push { cls:=.type "list",data:=.seq ([]:List Value).toArray}).push (š 0 0 a L.length ep)} (.ref a) "set" :=⟨_,ho2,rfl⟩;unfold Builtin.List.listLengthHint;refine M (Ir hT2 ā ?_);dsimp only;rw[split_len];dsimp only;refine M (vU hT2 Vi ?_);rw[aA ()];rw[aG ()];refine M (vX hT2 ?_);dsimp only;refine ao ?_;rw[aG ()];refine M (kY ?_);have lsz:(s.heap.push { cls:=.type "list",data:=.seq ([]:List Value).toArray}).objs.size=s⁻¹+1:=Ol _ _;have S1:((s.heap.push { cls:=.type "list",data:=.seq ([]:List Value).toArray}).push (š 0 0 a L.length ep)).get? s⁻¹=some { cls:=.type "list",data:=.seq ([]:List Value).toArray}:=bJ _ S0;refine M ?_;show wpAny _ A.in1 (updateSeq s⁻¹ (·.push .none) >>= λ_=>updateSeq s⁻¹ (·.pop)) _ _ _;refine M (T8 S1 Z ?_);have S2:=Dv (Obj.mapSeq (·.push Value.none)) S1 rfl;refine T8 S2 Z ?_;have S3:=Dv (Obj.mapSeq (·.pop)) S2 rfl;have oth:∀b o,b≠s⁻¹->((s.heap.push { cls:=.type "list",data:=.seq ([]:List Value).toArray}).push (š 0 0 a L.length ep)).get? b=some o->
   ((((s.heap.push { cls:=.type "list",data:=.seq ([]:List Value).toArray}).push (š 0 0 a L.length ep)).update s⁻¹ (Obj.mapSeq (·.push Value.none))).update s⁻¹ (Obj.mapSeq (·.pop))).get? b=some o :=
  λb o hb e=>(SM _ _ (Ne.symm hb)).trans ((SM _ _ (Ne.symm hb)).trans e)
 have neI:a≠(s.heap.push { cls:=.type "list",data:=.seq ([]:List Value).toArray}).objs.size:=()
 have W:=(a2q (prog:=prog) (w:=w) (A:=A.in1) (I:=(s.heap.push { cls:=.type "list",data:=.seq ([]:List Value).toArray}).objs.size) (ep:=ep) () neI hE T).toS;have l16:=T.len;have sl0:oU (qe w) t 0=0:=by unfold oU;split<;>rfl
 refine ao ⟨uL F.plain_extend_loop _,codeAny_extend_loopS W (by rw[jA];omega) _ (by
   grind) _ _ 0 _ #[] _ Z (dh _) ⟨?_,?_⟩ S3 (ItemsOf.nil _) λs' acc' c' hm hS' hacc=>?_⟩
 ·refine oth _ _ () ?_;rw[sl0];exact bU _ rfl
 ·exact oth _ _ (bW lt) ho2
 ·obtain⟨h',g',d',tk',os'⟩:=s';have eg:g'=s.gens:=hm.gens;have ed:d'=s.drawn:=hm.drawn;have eo:os'=s.os:=hm.os;subst eg;subst ed;subst eo;show wpAny _ A (load s⁻¹ >>= _) _ _ _;refine M (wpAny_load hS' ?_);dsimp only;have el:acc'.toList=(walked w a ep es).toList.map (·.2):=by
   apply List.ext_getElem?;intro i;rw[Ie,d7,Ie];rcases xV i acc'.size with q|q
   ·obtain⟨e,he,hv⟩:=hacc.2 i acc'[i] (xu q);rw[xu q,he,hv];rfl
   ·rw[Nt q,Nt (by rw[qZ,hE.len,<-hacc.1];exact q)];rfl
  rw[el];refine ao (h h' tk' (λb o e=>?_) (aX hS'));have lb:b<s⁻¹:=aX e;refine hm.heap b o () (oth b o (bW lb) (bJ _ (bJ _ e)))
def a2s{h:Heap}{b:Addr}{vs:List Value}{out:Array Value}{o:Obj}(lb:b<h.objs.size)(ne:b≠a)(e:h.get? b=some o):(sortedHeap h a vs out).get? b=some o:=by
 unfold sortedHeap;rw[Nv _ _ _ _ ne];exact bJ _ (bJ _ (by rw[Nv _ _ _ _ ne];exact e))
def a4v{h:Heap}{vs:List Value}{xs out:Array Value}{n:Nat}(e:h.get? a=some (seqObj "list" xs n)):∃n',(sortedHeap h a vs out).get? a=some (seqObj "list" out n'):=by
 unfold sortedHeap;exact⟨_,T7 (bJ _ (bJ _ (T7 e λ_=>#[]))) λ_=>out⟩
def Vm{Q:Value->Shared->Prop}(hh:A.handled=none)(S:jq (qe w) s.heap a L)
  (h:∀(h':Heap) (tk:Nat) (p:Addr) (vs:List Value) (n:Nat) (ns:List Int),(∀b o,s.heap.get? b=some o->h'.get? b=some o)->s⁻¹<=p->h'.get? p=some (seqObj "list" vs.toArray n)->IntsAre vs ns->
   ns.Perm (L.map λv=>((v:Nat):Int))->ns.Pairwise (· <= ·)->Q (.ref p) { s with heap:=h',toks:=tk}):wpAny (model prog w) A (call (.builtin "sorted") [.ref a]) Q E s:=by
 obtain⟨es,ep,t,ho,hE,T⟩:=S;have l16:=T.len;apply Z8 kind_sorted plain_sorted entry_sorted (args_sorted1 _);unfold Builtin.«sorted»;refine M (m:=checkCount "sorted" 1 1 _) (ao ?_);refine M (Rb (by simpa using hh) ho hE T λh1 tk k lz=>?_);obtain⟨L',hP,pm⟩:=hE.perm (FP w a ep es);have hl:L'.length=L.length:=pm.length_eq;have hI:IntsAre ((walked w a ep es).toList.map (·.2)) (L'.map λv=>((v:Nat):Int)):=by
  generalize (walked w a ep es).toList=l at hP;clear pm hl
  induction hP with
  |nil=>exact .nil
  |cons r _ ih =>
   obtain⟨q,e⟩:=r.2;rw[cH,cH,e];exact .cons _ q ih
 have hn:((walked w a ep es).toList.map (·.2)).length=L.length:=by rw[aK,vP,qZ,hE.len]
 refine M (Ug ?_ (by rw[hn,jA];omega));have o1:(h1.push (seqObj "list" ((walked w a ep es).toList.map (·.2)).toArray 0)).get? h1.objs.size=some (seqObj "list" ((walked w a ep es).toList.map (·.2)).toArray 0):=bU _ rfl;refine M (fL (gC slot_list_sort ⟨_,o1,Z⟩ entry_list_sort (list_sort_tree o1 hI (by rw[hn];omega) λout ns a1 a2 a3=>⟨_,Z,?_⟩) (args_list_sort _)));obtain⟨n',o2⟩:=a4v (vs:=(walked w a ep es).toList.map (·.2)) (out:=out) o1;refine ao ⟨_,Z,h _ _ _ out.toList n' ns (λb o e=>?_) (eE lz) (by simpa using o2) a1 (a2.trans (pm.map _)) a3⟩;have lb:b<h1.objs.size:=xU (aX e) lz;exact a2s (by rw[Ol];exact Ik lb) (bW lb) (bJ _ (k b o e))
end
end Sm
namespace Sm
open PyProof.Rows
section
variable{prog:Program}{w:World}{A:Around}{R:Result->Shared->Prop}{I:Addr}{fp wr:List Addr}{G:Array GenState->Array GenState->Prop}{n:Nat}{P:Nat->Value->Prop}{St:Nat->Shared->Prop}
def χ(W:WalksS prog w A.in1 I fp wr G n P St)(S:Addr)(nf:S∉fp)(val:Nat->Nat)(hv:∀i v,i<n->P i v->∃t,v=.int ((val i:Nat):Int) t)(lt:∀i,i<n->val i<16) :
  ∀(k i:Nat) (s:Shared) (L:List Nat),n-i=k->i<=n->St i s->jq (qe w) s.heap S L->qY s.heap S->(∀u,u∈L↔∃j,j<i/\val j=u)->
   (∀s' L',Moved (S::wr) G s s'->jq (qe w) s'.heap S L'->qY s'.heap S->(∀u,u∈L'↔∃j,j<n/\val j=u)->R (.ok (.ret .none)) s')->
   codeAny (model prog w) A (.builtin "set.update.loop" ⟨[.ref S,.ref I],[]⟩) R s:=by
 have nw:S∉wr:=λh=>nf (W.sub _ h);have up:∀b∈wr,b∈S::wr:=λb hb=>bD _ hb;intro k
 induction k with
 |zero =>
  intro i s L hk hi st hS hD mem hR;obtain rfl:i=n:=()
  refine rY F.entry_set_update_loop ?_;rw[tD Sw _];show wpAny _ A.in1 (pyNext (.ref I) >>= _) _ _ s;refine M (W.done s _ _ st λs' hm=>?_);exact ao (hR s' L (hm.mono up) (hS.keep λo e=>hm.heap S o nw e) (hD.keep λo e=>hm.heap S o nw e) mem)
 |succ k ih =>
  intro i s L hk hi st hS hD mem hR;have li:i<n:=()
  refine rY F.entry_set_update_loop ?_;rw[tD Sw _];show wpAny _ A.in1 (pyNext (.ref I) >>= _) _ _ s;refine M (W.item i s _ _ li st λv s' hP st' hm=>?_);obtain⟨t,rfl⟩:=hv i v li hP;have hS':=hS.keep λo e=>hm.heap S o nw e;have hD':=hD.keep λo e=>hm.heap S o nw e;show wpAny _ A.in1 (holding [Value.int ((val i:Nat):Int) t] (setAdd S (.int ((val i:Nat):Int) t)) >>= _) _ _ s';refine M (fL ?_);unfold setAdd;refine fL (M ((intKind prog w).pyHash (k:=((val i:Nat):Int)) (intKind_is _ _ _ _) ?_));have eh:(intKind prog w).hash ((val i:Nat):Int)=((val i:Nat):Int):=Vh _ (lt i li);rw[eh];refine ù (s:={ s' with toks:=s'.toks+1}) hS' (lt i li) λb h' L' sb S2 a6Z dn=>ao ⟨uL Sw _,ih (i+1) _ L' () li (W.frame _ s' _ _ st' (vY _) λc hc o e=>?_) S2 (dn hD') (λu=>?_) λs2 L2 hm2 h2 h3 h4=>hR s2 L2 (Moved.trans W.gtrans ((hm.mono up).then_heap (vY _) λc o hc e=>?_) hm2) h2 h3 h4⟩
  ·rw[sb.2 c (λq:c=S=>nf ())];exact e
  ·grind
  ·rw[sb.2 c (λq:c=S=>hc ())];exact e
end
section
variable{prog:Program}{w:World}{A:Around}{E:Value->Shared->Prop}{s:Shared}
def a0a(a:Value){Q:Value->Shared->Prop}(h:Q (.ref s⁻¹) { s with heap:=s.heap.push (mH #[] 0 (.fresh 0 0 (!qe w)))}) :
  codeAny (model prog w) A (.call (.builtin "set.__new__") ⟨[.type "set",a],[]⟩) (wants Q E) s:=by
 refine codeAny_of_tree ?_;show wpAny _ A.in1 (do checkBuiltinCall "set.__new__" ⟨[.type "set",a],[]⟩;again (.builtin "set.__new__" ⟨[.type "set",a],[]⟩)) _ _ s;refine M (IV (F.newCall_set_1 a) (ao ⟨uL F.plain_set_new _,rY F.entry_set_new ?_⟩));rw[tD F.plain_set_new _];unfold Builtin.«set.__new__» Builtin.Frozenset.newClass;have hsub:=sub_set_self;obtain⟨hp,g,d,tk,os⟩:=s;dsimp only at h ⊢
 wp_walk
 refine N6 (ao ?_);dsimp only;simp only[newObj];exact M (wpAny_alloc (ao (ao h)))
def a2t{l:Addr}{items:Array Value}{vals:List Nat}{Q:Value->Shared->Prop}(hh:A.handled=none)(hl:s.heap.IsList l items)(hi:IntsAre items.toList (vals.map λv=>((v:Nat):Int)))(lt:∀v∈vals,v<16)
  (h:∀(h':Heap) (tk:Nat) (L:List Nat),jq (qe w) h' s⁻¹ L->qY h' s⁻¹->(∀u,u∈L↔u∈vals)->(∀b o,b<s⁻¹->s.heap.get? b=some o->h'.get? b=some o)->Q (.ref s⁻¹) { s with heap:=h',toks:=tk}) :
  wpAny (model prog w) A (call (.type "set") [.ref l]) Q E s:=by
 obtain⟨c,tl,hmro⟩:=F.called_set.mro;have hmade:=F.called_set.made;have hsub:=F.called_set.sub;have hlen:items.size=vals.length:=by
  have:=hi.length;simpa using this
 refine wpAny_call (codeAny_of_tree ?_);show wpAny _ _ (callAny (.type "set") _) _ _ _;refine ao ⟨Code.quiet_builtin _ (),rY F.entry_type_call ?_⟩;rw[Around.under_plain (weight_type_call_type "set" [.ref l] []) rfl];have h1:=F.called_set.notType;have h2:=F.called_set.canCreate;have hct:=F.typeCall_set_1 (.ref l);repeat (any_goals (first|assumption|wp_step))
 refine Ed (a0a (.ref l) (E:=E) (Q:=λobj s₁=>obj=.ref s⁻¹/\s₁={ s with heap:=s.heap.push (mH #[] 0 (.fresh 0 0 (!qe w)))}) ⟨rfl,rfl⟩) λr s₁ hr=>?_;cases r with
 |error e=>exact hr
 |ok fl =>
  cases fl with
  |ret obj =>
   obtain⟨rfl,rfl⟩:=hr;have gS:(s.heap.push (mH #[] 0 (.fresh 0 0 (!qe w)))).get? s⁻¹=some (mH #[] 0 (.fresh 0 0 (!qe w))):=bU _ rfl;have hT:Shared.TypeIs { s with heap:=s.heap.push (mH #[] 0 (.fresh 0 0 (!qe w)))} (.ref s⁻¹) "set" :=⟨_,gS,rfl⟩;have hli:=F.called_set.init.lookup;have hbi:=F.called_set.init.bind (.ref s⁻¹);repeat (any_goals (first|assumption|wp_step))
   refine Ed (codeAny_call_builtin (R:=wants (λr s₂=>r=.none/\∃h' tk L,s₂={ s with heap:=h',toks:=tk}/\jq (qe w) h' s⁻¹ L/\qY h' s⁻¹/\(∀u,u∈L↔u∈vals)/\
     (∀b o,b<s⁻¹->s.heap.get? b=some o->h'.get? b=some o)) E) F.called_set.init.plain F.entry_set_init (check_set_init_1 hT ?_)) λr₂ s₂ hr₂=>?_
   ·obtain⟨ol,hol,hcl,nl,hdl⟩:=hl;obtain⟨ocls,odict,odata,oslots⟩:=ol;simp only at hcl hdl;subst hcl;subst hdl;have hol':(s.heap.push (mH #[] 0 (.fresh 0 0 (!qe w)))).get? l=some { cls:=.type "list",dict:=odict,data:=.seq items nl,slots:=oslots}:=bJ _ hol;have hsls:=F.sub_list_set;have hslf:=F.sub_list_frozenset;have hne:(Value.type "list" == Value.type "dict")=false:=()
    have hl1:(s.heap.push (mH #[] 0 (.fresh 0 0 (!qe w)))).IsList l items:=⟨_,hol',Z,nl,Z⟩;unfold Builtin.«set.__init__» noKeywords Builtin.Frozenset.updateFrom;generalize hPI:pyIter=PI
    wp_walk
    subst hPI;refine vQ hl1 (M (wpAny_runValue ?_));have ll:l<s⁻¹:=aX hol;have hh3:A.in1.in1.in1.handled=none:=by simp[hh]
    have ni:l≠(s.heap.push (mH #[] 0 (.fresh 0 0 (!qe w)))).objs.size:=by rw[kW];exact bW (Ik ll)
    have nf:s⁻¹∉[(s.heap.push (mH #[] 0 (.fresh 0 0 (!qe w)))).objs.size,l]:=by
     rw[kW];simp only[List.mem_cons,List.not_mem_nil,or_false,not_or];exact⟨bW (xQ _),gD ll⟩
    have hval:∀(i:Nat) (v:Value),i<items.size->items[i]?=some v->∃t,v=.int (((λi=>vals.getD i 0) i:Nat):Int) t:=λi v li hv=>by
     obtain⟨t,e⟩:=PyProof.Rows.IntsAre.int_at hi i v (by rw[Ie];exact hv);have lv:i<vals.length:=()
     refine⟨t,?_⟩;rw[e];simp[List.getD,lv]
    refine χ ((Walks.list hh3 _ l ni items).toS) s⁻¹ nf (λi=>vals.getD i 0) hval (λi li=>?_) (items.size-0) 0 _ [] () (dh _) ⟨⟨_,bU _ Z,Z,Z⟩,(hl1.push _)⟩ ?hS0 ?hD0 (λu=>by simp) ?hR
    ·have lv:i<vals.length:=()
     refine lt _ ?_;simp[List.getD,lv]
    case hS0=>exact⟨#[],0,_,bJ _ gS,.nil,Q9 _⟩
    case hD0=>exact⟨#[],0,_,bJ _ gS,.inl Z⟩
    case hR =>
     intro s' L' hm hS' hD' mem;obtain⟨h',g',d',tk',os'⟩:=s';have eg:g'=s.gens:=hm.gens;have ed:d'=s.drawn:=hm.drawn;have eo:os'=s.os:=hm.os;subst eg;subst ed;subst eo;show wpAny _ _ _ _ _ _;refine ao ?_;show wpAny _ _ (ret Value.none) _ _ _;refine ao ⟨Z,h',tk',L',Z,hS',hD',λu=>?_,λb o hb e=>?_⟩
     ·rw[mem u];constructor
      ·rintro⟨j,hj,rfl⟩;have lv:j<vals.length:=()
       simp[List.getD,lv]
      ·intro hu;obtain⟨j,hj,e⟩:=rR hu;exact⟨j,(),by simp[List.getD,hj,e]⟩
     ·have b1:b≠s⁻¹:=bW hb;have b2:b≠(s.heap.push (mH #[] 0 (.fresh 0 0 (!qe w)))).objs.size:=by rw[kW];exact bW (Ik hb)
      exact hm.heap b o (by simp only[List.mem_cons,List.not_mem_nil,or_false,not_or];exact⟨b1,b2⟩) (bJ _ (bJ _ e))
   ·cases r₂ with
    |error e=>exact hr₂
    |ok fl₂ =>
     cases fl₂ with
     |ret r =>
      obtain⟨rfl,h',tk,L,rfl,q1,q2,q3,q4⟩:=hr₂;repeat (any_goals (first|assumption|wp_step))
      exact h _ _ L q1 q2 q3 q4
     |_=>exact hr₂.elim
  |_=>exact hr.elim
end
end Sm
namespace L2
open PyProof.Rows Sm
def Rc(w:World)(a:Addr)(d:Bool)(L:List Nat):HO:=.ext λh=>jq (qe w) h a L/\(d=true->qY h a)
def Small(ns:List Int):Prop:=∀n∈ns,0<=n/\n<16
def Qw(p:Int->Bool):List Int:=((List.range 16).map λi=>((i:Nat):Int)).filter p
def a2u(p:Int->Bool):(Qw p).Pairwise (· < ·):=by
 unfold Qw;refine Ii _ ?_;rw[DR];exact List.pairwise_lt_range.imp λh=>by omega
def zf{p:Int->Bool}{v:Int}:v∈Qw p↔0<=v/\v<16/\p v=true:=by
 unfold Qw;rw[kJ,gF];constructor
 ·grind
 ·rintro⟨h0,h1,h⟩;exact⟨⟨v.toNat,mV.mpr (),()⟩,h⟩
theorem up_eq:∀{xs ys:List Int},xs.Pairwise (· < ·)->ys.Pairwise (· < ·)->(∀v,v∈xs↔v∈ys)->xs=ys
 | [],[],_,_,_=>rfl
 | [],y::ys,_,_,h=>absurd ((h y).mpr aU) dW
 |x::xs,[],_,_,h=>absurd ((h x).mp aU) dW
 |x::xs,y::ys,hx,hy,h=>by
  obtain⟨x1,x2⟩:=zZ.mp hx
  obtain⟨y1,y2⟩:=zZ.mp hy
  have e:x=y:=by
   rcases b7.mp ((h x).mp aU)with e|e
   ·exact e
   ·rcases b7.mp ((h y).mpr aU)with f|f
    ·exact f.symm
    ·have a:=y1 x e
     have b:=x1 y f
     omega
  subst e
  congr 1
  refine up_eq x2 y2 λv=>?_
  constructor
  ·intro q
   rcases b7.mp ((h v).mp (bD _ q))with e|e
   ·subst e;have:=x1 v q;omega
   ·exact e
  ·intro q
   rcases b7.mp ((h v).mpr (bD _ q))with e|e
   ·subst e;have:=y1 v q;omega
   ·exact e
inductive a4w(w:World)(K:aH)(xs:List V)(H:Hp)(Q:VK):Prop
 |mk (l ns:_) (_:xs=[.ref l]) (_:bM K H l (List.map V.int ns)) (_:Small ns) (_:∀p L H',gW H p (Rc w p true L) H'->(∀u:Nat,u∈L↔(u:Int)∈ns)->Q (.ref p) H')
inductive a6o(w:World)(x:V)(y:V)(H:Hp)(Q:VK):Prop
 |mk (a b L1 L2:_) (_:x=.ref a) (_:y=.ref b) (_:a≠b) (_:H a=some (Rc w a true L1)) (_:H b=some (Rc w b true L2)) (_:∀p L H',gW H p (Rc w p false L) H'->(∀u:Nat,u∈L↔u∈L1\/u∈L2)->Q (.ref p) H')
inductive a2v(w:World)(xs:List V)(H:Hp)(Q:VK):Prop
 |mk (a d L:_) (_:xs=[.ref a]) (_:H a=some (Rc w a d L)) (_:∀p H',gW H p (.lst ((Qw λv=>decide (v.toNat∈L)).map V.int)) H'->Q (.ref p) H')
inductive a2w(K:aH)(xs:List V)(H:Hp)(Q:VK):Prop
 |mk (l ns:_) (_:xs=[.ref l]) (_:bM K H l (List.map V.int ns)) (_:ns.length<64) (_:∀p H' zs,gW H p (.lst (List.map V.int zs)) H'->zs.Perm ns->zs.Pairwise (· <= ·)->Q (.ref p) H')
def En:∀{vs:List Value}{ns:List Int},IntsAre vs ns->dz (ns.map V.int) vs
 |_,_,.nil=>.nil
 |_,_,.cons n t r=>.cons ⟨t,Z⟩ (En r)
def Ă{xs:List Int}{L:List Nat}(pm:xs.Perm (L.map λv=>((v:Nat):Int)))(nd:L.Nodup)(lt:∀v∈L,v<16)(le:xs.Pairwise (· <= ·)):xs=Qw λv=>decide (v.toNat∈L):=by
 have Rf:xs.Nodup:=pm.nodup_iff.mpr (by
  unfold List.Nodup;rw[DR];exact nd.imp λh e=>h ())
 have lt2:xs.Pairwise (· < ·):=by
  unfold List.Nodup at Rf;exact(le.and Rf).imp λh=>by omega
 refine up_eq lt2 (a2u _) λv=>?_;rw[pm.mem_iff,zf,gF];constructor
 ·rintro⟨u,hu,rfl⟩;have:=lt u hu;exact⟨(),(),bB (by rw[jz];exact hu)⟩
 ·rintro⟨h0,h1,h⟩;exact⟨v.toNat,iI h,()⟩
section
variable{X:Cx}{K:aH}{w:World}
def WN{H:Hp}{h:Heap}{a:Addr}{d:Bool}{L:List Nat}{P:Program}{w':World}(S:jq (qe w) h a L)(D:d=true->qY h a):fZ P w' H h a (Rc w a d L):=by
 refine⟨⟨S,D⟩,?_,?_⟩
 ·obtain⟨_,_,_,ho,_⟩:=S;grind
 ·rintro h1 h2 ⟨s1,d1⟩ k;exact⟨s1.keep k,λe=>(d1 e).keep k⟩
def Mj(ek:X.K=K)(ew:X.w=w)(cm:X.calm=true):jL X (.type "set") (a4w w K):=by
 subst ek;subst ew;intro Y s σ H xs us Q I r h;obtain⟨l,ns,rfl,hL,sm,q⟩:=h;obtain⟨u,rfl,rx⟩:=vals1 r;cases rx;obtain⟨cA,r',pl,hz⟩:=I.list hL;have hi:=ints_of r';have e:(ns.map Int.toNat).map (λv=>((v:Nat):Int))=ns:=by
  rw[qt];have:∀n∈ns,((λv=>((v:Nat):Int))∘Int.toNat) n=id n:=λn hn=>by
   have:=(sm n hn).1;show((n.toNat:Nat):Int)=n;omega
  rw[zY this,List.map_id]
 refine a2t (vals:=ns.map Int.toNat) (I.ok.hd cm) pl.isList () (λv hv=>?_) λh' tk L S D mem k=>?_
 ·obtain⟨n,hn,rfl⟩:=gF.mp hv;have:=sm n hn;omega
 ·have hf:H s⁻¹=none:=I.hok.fresh (aL _);refine⟨.ref s⁻¹,_,I.laid (t':=tk) (o:=Rc X.w s⁻¹ true L) (λb o eo=>k b o (aX eo) eo) (aL _) (WN S λ_=>D),Z,q _ L _ (gW.nY hf) λu=>?_⟩;rw[mem u,gF];constructor
  ·rintro⟨n,hn,rfl⟩;have:=(sm n hn).1;have e2:((n.toNat:Nat):Int)=n:=()
   rw[e2];exact hn
  ·intro hn;exact⟨_,hn,()⟩
def a2x(ew:X.w=w):sX X (binaryOp .BitOr) (a6o w):=by
 subst ew;intro Y s σ H x y v u Q I rx ry h;obtain⟨a,b,L1,L2,rfl,rfl,ne,hA,hB,q⟩:=h;cases rx;cases ry;obtain⟨⟨S1,D1⟩,_⟩:=I.hok a _ hA;obtain⟨⟨S2,D2⟩,_⟩:=I.hok b _ hB;refine a4u ne S1 (D1 Z) S2 (D2 Z) λh' L k S mem=>?_;have hf:H s⁻¹=none:=I.hok.fresh (aL _);exact⟨.ref s⁻¹,_,I.laid (t':=s.toks) (o:=Rc X.w s⁻¹ false L) (λb o eo=>k b o eo) (aL _) (WN S λe=>by cases e),Z,q _ L _ (gW.nY hf) mem⟩
def Pk(ew:X.w=w)(cm:X.calm=true):jL X (.builtin "sorted") (a2v w):=by
 subst ew;intro Y s σ H xs us Q I r h;obtain⟨a,d,L,rfl,hA,q⟩:=h;obtain⟨u,rfl,rx⟩:=vals1 r;cases rx;obtain⟨⟨S,_⟩,_⟩:=I.hok a _ hA;obtain⟨_,_,t,_,_,T⟩:=id S;refine Vm (I.ok.hd cm) S λh' tk p vs n ns k hp ho hi pm le=>?_;have e:=Ă pm T.nd T.lt le;subst e;have l16:(Qw λv=>decide (v.toNat∈L)).length<=16:=by rw[pm.length_eq,aK];exact T.len
 have hf:H p=none:=I.hok.fresh hp;refine⟨.ref p,_,I.laid (t':=tk) (o:=.lst ((Qw λv=>decide (v.toNat∈L)).map V.int)) k hp ⟨?_,vs,n,En hi,ho⟩,Z,q p _ (gW.nY hf)⟩;rw[aK,jA];omega
def Pn(e:X.K=K):jL X (.builtin "sorted") (a2w K):=by
 subst e;intro Y s σ H xs us Q I r h;obtain⟨l,ns,rfl,hL,h64,q⟩:=h;obtain⟨u,rfl,rx⟩:=vals1 r;cases rx;obtain⟨cA,r',pl,hz⟩:=I.list hL;have hlen:=r'.length;rw[aK]at hlen;refine sorted_ints (ns:=ns) pl.isList (ints_of r') () λout zs hi pm le=>?_;obtain⟨c,hc⟩:=sortedAll_at s.heap cA out;refine⟨.ref (s⁻¹+1),_,I.laid (t':=s.toks) (o:=.lst (zs.map V.int)) (λb o eo=>sortedAll_old eo) (vY _) ⟨?_,out.toList,c,En hi,by simpa using hc⟩,Z,q _ _ zs (gW.nY (I.hok.fresh (vY _))) pm le⟩;rw[aK,pm.length_eq,jA];omega
end
end L2
namespace L2
open PyProof.Rows
section
variable{K:aH}{a:Addr}{xs:List V}{ix:List (Option Nat)}{g:TG}{tt:TT}{te:TE}{σ:St}{H1:Hp}{Q:VK}
def a0b(f:V->Option V)(hx:cL K H1 a xs)(hz:xs.length<=1000)
  (hs:∀x H (N:Option V->Hp->Prop),x∈xs->aJ H1 H->(∀H',aJ H1 H'->N (f x) H')->g x (qu ix σ) H λσ2 H2=>tt σ2 H2 λb H3=>if b=true then te σ2 H3 λv H4=>N (some v) H4 else N none H3)
  (hd:∀H p H',aJ H1 H->gW H p (.lst (xs.filterMap f)) H'->Q (.ref p) H'):mW ix g tt te σ H1 Q (Itt K a):=by
 refine⟨λi m ys H=>m=xs.length-i/\i<=xs.length/\ys=(xs.take i).filterMap f/\aJ H1 H,⟨xs.length,by simp,dh _,Z,aJ.refl _⟩,?_⟩;rintro i m ys H ⟨rfl,hi,e,s⟩;have q:=s.wC hx;have z:ys.length<=sizeLine:=by
  subst e;refine cZ (Sv _ _) (cZ ?_ (eE (cG hz)));rw[fP];exact TJ _ _
 by_cases hlt:i<xs.length
 ·refine .inr ⟨⟨xs,xs[i],q,by simp[hlt]⟩,z,λys' H'=>ys'=(xs.take (i+1)).filterMap f/\aJ H1 H',λys' H' p'=>⟨xs.length-(i+1),(),Z,hlt,p'⟩,λx H' y=>?_⟩;obtain⟨e',y⟩:=y;subst e';have hx':=y xs q;have hm:x∈xs:=iU hx';obtain⟨hil,hix⟩:=fO.mp hx';have et:xs.take (i+1)=xs.take i++[x]:=by rw[zR hil,hix]
  refine hs x _ (λo H'=>match o with|some v=>(ys++[v]=(xs.take (i+1)).filterMap f/\aJ H1 H')|none=>(ys=(xs.take (i+1)).filterMap f/\aJ H1 H')) hm s λH' s'=>?_;cases ef:f x with
  |some v=>exact⟨by rw[e,et,xH];simp[ef],s'⟩
  |none=>exact⟨by rw[e,et,xH];simp[ef],s'⟩
 ·have ei:i=xs.length:=()
  subst ei;refine .inl ⟨⟨xs,q,aL _⟩,z,λp hp=>?_⟩;subst e;rw[gO];exact hd H p _ s (gW.nY hp)
end
section
variable{X:Cx}{K:aH}
inductive a4x(K:aH)(x:V)(lo:Option Int)(hi:Option Int)(H:Hp)(Q:VK):Prop
 |mk (a xs:_) (_:x=.ref a) (_:cL K H a xs) (_:¬(HT.lU xs.length 0 lo=0/\HT.lU xs.length xs.length hi=xs.length)) (_:∀p H',gW H p (.tup (uO xs lo hi)) H'->Q (.ref p) H')
def Hi(e:X.K=K):SlR X (a4x K):=by
 subst e;exact λY s σ H x v vl vu lo hi sl Q I rx hs pl pu ⟨a,xs,e,h,hw,q⟩=>Ö Y s σ H x v vl vu lo hi sl Q I rx hs pl pu ⟨a,xs,e,h,hw,λp hp=>q p _ (gW.nY hp)⟩
end
end L2
namespace L2
open PyProof.Rows
variable{H H':Hp}{O:List (List Key×V)}{w:World}{y:V}{u:Value}{X:Cx}{P:Program}{a b:Addr}{pos:Pos}{o:Option V}{h:Heap}{Q:Value->Shared->Prop}
section
variable{κ:Type} [DecidableEq κ]
def gJ(O:List (κ×V))(k:κ):Option V:=(O.find? λkv=>decide (kv.1=k)).map (·.2)
def putK(O:List (κ×V))(k:κ)(v:V):List (κ×V) :=
 if(O.any λkv=>decide (kv.1=k))=true then O.map (λkv=>if kv.1=k then(kv.1,v)else kv)else O++[(k,v)]
def Jq{p:κ×V}{r:List (κ×V)}{k:κ}(e:p.1=k):gJ (p::r) k=some p.2:=by simp[gJ,List.find?_cons,e]
def Jr{p:κ×V}{r:List (κ×V)}{k:κ}(e:¬p.1=k):gJ (p::r) k=gJ r k:=by simp[gJ,List.find?_cons,e]
theorem Rg(k:κ):∀O:List (κ×V),(O.any λkv=>decide (kv.1=k))=(gJ O k).isSome
 | []=>rfl
 |p::r=>by
  rw[tK]
  by_cases e:p.1=k
  ·simp only[Jq e,decide_eq_true e,Bool.true_or,Option.isSome_some]
  ·rw[Jr e,cM e,Bool.false_or];exact Rg k r
def FQ(O:List (κ×V))(k:κ)(v:V):(putK O k v).length<=O.length+1:=by
 unfold putK;split
 ·rw[aK];omega
 ·rw[cC,lN,List.length_nil];omega
def sJ.Eo{u:Option Value}(r:sJ o u):o.isSome=u.isSome:=by
 cases o with
 |none=>cases u with
  |none=>rfl
  |some _=>exact(show False from r).elim
 |some _=>cases u with
  |none=>exact(show False from r).elim
  |some _=>rfl
def sJ.getD{o:Option V}{u:Option Value}{d:V}{d':Value}(r:sJ o u)(rd:cV d d'):cV (o.getD d) (u.getD d'):=by
 cases o with
 |none=>cases u with
  |none=>exact rd
  |some _=>exact(show False from r).elim
 |some _=>cases u with
  |none=>exact(show False from r).elim
  |some _=>exact r
def KV.val{O:List (κ×V)}{vs:List (κ×Value)}(r:KV O vs)(k:κ):sJ (gJ O k) (valueAt vs k):=by
 unfold KV at r
 induction r with
 |nil=>exact nO
 | @cons p q ps qs h t ih =>
  obtain⟨h1,h2⟩:=h;by_cases e:p.1=k
  ·have e':q.1=k:=h1.symm.trans e;have b:valueAt (q::qs) k=some q.2:=by simp[valueAt,List.find?_cons,e']
   rw[Jq e,b];exact h2
  ·have e':¬q.1=k:=λz=>e (h1.trans z);have b:valueAt (q::qs) k=valueAt qs k:=by simp[valueAt,List.find?_cons,e']
   rw[Jr e,b];exact ih
def KV.any{O:List (κ×V)}{vs:List (κ×Value)}(r:KV O vs)(k:κ):(O.any λkv=>decide (kv.1=k))=vs.any λkv=>decide (kv.1=k):=by
 unfold KV at r
 induction r with
 |nil=>rfl
 |cons h t ih=>rw[tK,tK,ih,h.1]
def KV.repl{O:List (κ×V)}{vs:List (κ×Value)}(r:KV O vs)(k:κ)(ry:cV y u) :
  KV (O.map λkv=>if kv.1=k then(kv.1,y)else kv) (vs.map λkv=>if kv.1=k then(kv.1,u)else kv):=by
 unfold KV at r ⊢
 induction r with
 |nil=>exact .nil
 | @cons p q ps qs h t ih =>
  rw[cH,cH];refine .cons ?_ ih;obtain⟨h1,h2⟩:=h;by_cases e:p.1=k
  ·rw[aG e,aG (h1.symm.trans e)];exact⟨h1,ry⟩
  ·rw[aA e,aA (λz=>e (h1.trans z))];exact⟨h1,h2⟩
def KV.put{O:List (κ×V)}{vs:List (κ×Value)}(r:KV O vs)(k:κ)(ry:cV y u):KV (putK O k y) (stored vs k u):=by
 unfold putK stored;rw[r.any k];by_cases e:(vs.any λkv=>decide (kv.1=k))=true
 ·rw[aG e,aG e];exact r.repl k ry
 ·rw[aA e,aA e];exact Paired.snoc r ⟨Z,ry⟩
def KV.length{O:List (κ×V)}{vs:List (κ×Value)}(r:KV O vs):O.length=vs.length:=aV r
end
def Rh{k:Key}(r:cV (kV k) u):(cO P w).is k u=true:=by
 cases k with
 |inl i=>obtain⟨t,e⟩:=(show ∃t,u=Value.int i t from r);subst e;exact QB P w i t
 |inr x=>obtain⟨t,e⟩:=(show ∃t,u=Value.str x t from r);subst e;exact gG P w x t
theorem Ml{P:Program}{w:World}:∀{ks:List Key}{us:List Value},dz (ks.map kV) us->ItemsAre (cO P w) ks us
 | [],_,r=>by rw[List.map_nil]at r;cases r;exact .nil
 |k::ks,_,r=>by
  rw[cH]at r
  cases r with
  |cons h t=>exact .cons (Rh h) (Ml t)
abbrev KT(H:Hp):List (List Key×V)->List (List Key×Addr×Value)->Prop:=Paired λp q=>p.1=q.1/\H q.2.1=some (.tup (p.1.map kV))/\cV p.2 q.2.2
def KT.val{xs:List (List Key×Addr×Value)}(r:KT H O xs)(k:List Key):sJ (gJ O k) ((atKey xs k).map (·.2)):=by
 induction r with
 |nil=>exact nO
 | @cons p q ps qs h t ih =>
  obtain⟨h1,_,h2⟩:=h;by_cases e:p.1=k
  ·have e':q.1=k:=h1.symm.trans e;have b:atKey (q::qs) k=some q.2:=by simp[atKey,List.find?_cons,e']
   rw[Jq e,b];exact h2
  ·have e':¬q.1=k:=λz=>e (h1.trans z);have b:atKey (q::qs) k=atKey qs k:=by simp[atKey,List.find?_cons,e']
   rw[Jr e,b];exact ih
def KT.repl{xs:List (List Key×Addr×Value)}(r:KT H O xs)(k:List Key)(ry:cV y u) :
  KT H (O.map λkv=>if kv.1=k then(kv.1,y)else kv) (xs.map (putAt k u)):=by
 induction r with
 |nil=>exact .nil
 | @cons p q ps qs h t ih =>
  rw[cH,cH];refine .cons ?_ ih;obtain⟨h1,h2,h3⟩:=h;unfold putAt;by_cases e:p.1=k
  ·rw[aG e,aG (h1.symm.trans e)];exact⟨h1,h2,ry⟩
  ·rw[aA e,aA (λz=>e (h1.trans z))];exact⟨h1,h2,h3⟩
def KT.put{xs:List (List Key×Addr×Value)}(r:KT H O xs)(k:List Key)(hb:H b=some (.tup (k.map kV)))(ry:cV y u) :
  KT H (putK O k y) (storedH xs k b u):=by
 have e:(O.any λkv=>decide (kv.1=k))=(atKey xs k).isSome:=by
  rw[Rg,(r.val k).Eo,Option.isSome_map]
 unfold putK storedH;rw[e];by_cases q:(atKey xs k).isSome=true
 ·rw[aG q,aG q];exact r.repl k ry
 ·rw[aA q,aA q];exact Paired.snoc r ⟨Z,hb,ry⟩
def KT.keeps{xs:List (List Key×Addr×Value)}(r:KT H O xs)(ht:∀b ys,H b=some (.tup ys)->H' b=some (.tup ys)):KT H' O xs :=
 Paired.bV r λ_ _ z=>⟨z.1,ht _ _ z.2.1,z.2.2⟩
def a1k{u:HO}(ok:zE P w H h)(e:Rd H a u):fZ P w H h a u:=e.ok ok
def WQ{O:List (Key×V)}(ok:zE P w H h)(e:Rd H a (.dK O)):O.length<=sizeLine/\(a==sysModules)=false/\∃vs,KV O vs/\h.DictOf (cO P w) a vs :=
 show fZ P w H h a (.dK O)from a1k ok e
def a4y{O:List (Key×V)}(ok:zE P w H h)(e:H a=some (.dK O)):O.length<=sizeLine/\(a==sysModules)=false/\∃vs,KV O vs/\h.DictOf (cO P w) a vs:=WQ ok (.inl e)
def Ep{ks:List Key}(ok:zE P w H h)(e:H a=some (.tup (ks.map kV))):(tupleKind (cO P w)).is h ks a:=by
 obtain⟨_,cA,r,o,h1,h2,n,h3⟩:=(show fZ P w H h a (.tup (ks.map kV))from ok a _ e);exact⟨o,cA.toArray,n,h1,h2,h3,by simpa using Ml r⟩
def WR(ok:zE P w H h)(e:Rd H a (.dT O)):O.length<=sizeLine/\(a==sysModules)=false/\
  ∃xs,KT H O xs/\h.DictOfH (tupleKind (cO P w)) a xs:=by
 obtain⟨z,y,xs,r,o,es,ep,h1,h2,h3,h4,h5⟩:=(show fZ P w H h a (.dT O)from a1k ok e);refine⟨z,y,xs,r,o,es,ep,h1,h2,h3,h4,λx hx=>?_,h5⟩;have all:∀{l:List (List Key×V)}{m:List (List Key×Addr×Value)},KT H l m->∀x∈m,(tupleKind (cO P w)).is h x.1 x.2.1:=by
  intro l m q
  induction q with
  |nil=>intro x hx;exact nomatch hx
  | @cons p q ps qs hq t ih =>
   intro x hx;rcases b7.mp hx with e|hx
   ·subst e;exact Ep ok (by rw[<-hq.1];exact hq.2.1)
   ·exact ih x hx
 exact all r x hx
def Js(ok:zE P w H h)(e:H a=some (.dT O)):O.length<=sizeLine/\(a==sysModules)=false/\
  ∃xs,KT H O xs/\h.DictOfH (tupleKind (cO P w)) a xs:=WR ok (.inl e)
def Gq(H:Hp)(a:Addr)(y:V)(r:Option V):Prop :=
 (∃O k,Rd H a (.dK O)/\y=kV k/\r=gJ O k)\/∃O k b,Rd H a (.dT O)/\y=.ref b/\H b=some (.tup (k.map kV))/\r=gJ O k
def a0c(H:Hp)(a:Addr)(y v:V)(H':Hp):Prop :=
 (∃O k,H a=some (.dK O)/\y=kV k/\O.length<sizeLine/\H'=cI H a (.dK (putK O k v)))\/
 ∃O k b,H a=some (.dT O)/\y=.ref b/\H b=some (.tup (k.map kV))/\O.length<sizeLine/\H'=cI H a (.dT (putK O k v))
def Gq.t{k:List Key}(e:H a=some (.dT O))(eb:H b=some (.tup (k.map kV))):Gq H a (.ref b) (gJ O k):=.inr ⟨O,k,b,.inl e,Z,eb,Z⟩
def a0c.t{k:List Key}{v:V}(e:H a=some (.dT O))(eb:H b=some (.tup (k.map kV)))(hl:O.length<sizeLine) :
  a0c H a (.ref b) v (cI H a (.dT (putK O k v))):=.inr ⟨O,k,b,e,Z,eb,hl,Z⟩
section
variable{Y:List (Addr×Obj)}{σ:St}{s:Shared}{v:V}{r:Value}{A:Around}{E:Value->Shared->Prop}
def bI.big(I:bI X Y σ H s):sysModules<s⁻¹:=by
 have h:mainGlobals<s⁻¹:=(I.mod.glob.keeps I.bk).lt;exact xU () h
def YJ(hu:A.units+1<cLine)(I:bI X Y σ H s)(g:Gq H a y (some v))(ry:cV y u)(h:∀w' s',bI X Y σ H s'->cV v w'->Q w' s') :
  wpAny (model X.prog X.w) A (getItem (.ref a) u) Q E s:=by
 rcases g with⟨O,k,e,ey,l⟩|⟨O,k,b,e,ey,eb,l⟩
 ·subst ey;obtain⟨z,hd,vs,rel,dd⟩:=WQ I.hok e;obtain⟨w',hw,Yl⟩:=sJ.some_of (v:=v) (o:=valueAt vs k) (by rw[l];exact rel.val k);exact wpAny_getItem_of (Rh ry) dd.mapOf hw (h w' _ (I.tok _) Yl)
 ·subst ey;cases(show u=Value.ref b from ry);obtain⟨z,hd,xs,rel,dd⟩:=WR I.hok e;obtain⟨w',hw,Yl⟩:=sJ.some_of (v:=v) (o:=(atKey xs k).map (·.2)) (by rw[l];exact rel.val k);obtain⟨p,hp,hp2⟩:=mU.mp hw;refine wpAny_getItem_heap (Aa hu) (Ep I.hok eb) dd hp ?_;rw[hp2];exact h w' _ (I.tok _) Yl
def a6p(hu:A.units+1<cLine)(I:bI X Y σ H s)(g:Gq H a y o)(ry:cV y u)(h:∀s',bI X Y σ H s'->Q (.bool o.isSome) s') :
  wpAny (model X.prog X.w) A (compareOp .In u (.ref a)) Q E s:=by
 rcases g with⟨O,k,e,ey,l⟩|⟨O,k,b,e,ey,eb,l⟩
 ·subst ey;obtain⟨z,hd,vs,rel,dd⟩:=WQ I.hok e;refine wpAny_in_of (Rh ry) hd dd.mapOf ?_;rw[<-(rel.val k).Eo,<-l];exact h _ (I.tok _)
 ·subst ey;cases(show u=Value.ref b from ry);obtain⟨z,hd,xs,rel,dd⟩:=WR I.hok e;refine wpAny_in_heap (Aa hu) (Ep I.hok eb) hd dd ?_;have q:=(rel.val k).Eo;rw[Option.isSome_map]at q;rw[<-q,<-l];exact h _ (I.tok _)
def Pq{h':Heap}{t':Nat}{ob:HO}(I:bI X Y σ H s)(mu:Mut (H a))(hs:Heap.SameBut a s.heap h')(he:∃q,h'.get? a=some q)(new:fZ X.prog X.w (cI H a ob) h' a ob) :
  bI X Y σ (cI H a ob) { s with heap:=h',toks:=t'} :=
 I.write (x:=a) (e:=a) mu (.inl Z) (λb q hb z=>(hs.2 b hb).trans z) he new
def a2y{h':Heap}{O:List (Key×V)}{vs:List (Key×Value)}(z:O.length<=sizeLine)(hd:(a==sysModules)=false)(rel:KV O vs)(dd:h'.DictOf (cO P w) a vs) :
  fZ P w H' h' a (.dK O):=⟨z,hd,vs,rel,dd⟩
def YK{Q:Unit->Shared->Prop}(hu:A.units+1<cLine)(I:bI X Y σ H s)(g:a0c H a y v H')(ry:cV y u)(rv:cV v r)(h:∀s',bI X Y σ H' s'->Q ⟨⟩ s') :
  wpAny (model X.prog X.w) A (setItem (.ref a) u r) Q E s:=by
 rcases g with⟨O,k,e,ey,l,eH⟩|⟨O,k,b,e,ey,eb,l,eH⟩
 ·subst ey eH;obtain⟨z,hd,vs,rel,dd⟩:=a4y I.hok e;have hz:vs.length<=sizeLine:=by rw[<-rel.length];exact z
  have hl:(putK O k v).length<=sizeLine:=by have:=FQ O k v;omega
  refine wpAny_setItem_pairs (hsz:=hz) (Rh ry) dd λh' dd' hs=>h _ ?_;have he:∃q,h'.get? a=some q:=let⟨q,_,_,hq,_⟩:=dd';⟨q,hq⟩
  exact Pq I (by rw[e];exact nO) hs he (a2y hl hd (rel.put k rv) dd')
 ·subst ey eH;cases(show u=Value.ref b from ry);obtain⟨z,hd,xs,rel,dd⟩:=Js I.hok e;have hz:xs.length<=sizeLine:=by rw[<-aV rel];exact z
  have hl:(putK O k v).length<=sizeLine:=by have:=FQ O k v;omega
  refine wpAny_setItem_heap (hsz:=hz) (Aa hu) (Ep I.hok eb) dd λh' dd' hs=>h _ ?_;obtain⟨q,es,ep,hq,h2,h3,h4,_,h5⟩:=dd';refine Pq I (by rw[e];exact nO) hs ⟨q,hq⟩ ⟨hl,hd,_,(rel.put k eb rv).keeps λc ys ec=>?_,q,es,ep,hq,h2,h3,h4,h5⟩;rw[aO (a1b ec e λz=>nomatch z)];exact ec
end
def a2z(i:Expr):Prop:=∀ov iv,subscripted i false ov iv=operate [ov,iv] (getItem ov iv)
def WT{prog:Program}{A:Around}{E:Value->Shared->Prop}{s:Shared}{env:Env}{value slice:Expr}{T id:String}
  (hl:typeLookup (.type T) "__getitem__" = pure (some (.builtin id))) (hs:a2z slice)
  (h:wpAny (model prog w) A (eval value env) (λo s₁=>wpAny (model prog w) A (eval slice env) (λi s₂=>s₂.TypeIs o T/\wpAny (model prog w) A (getItem o i) Q E s₂) E s₁) E s) :
  wpAny (model prog w) A (eval (.Subscript value slice pos) env) Q E s:=by
 refine Subscript_ (iJ h (λo s₁ h₁=>iJ h₁ (λi s₂ h₂=>?_) λ_ _ x=>x) λ_ _ x=>x);obtain⟨hT,h₂⟩:=h₂;unfold subscriptTail;refine M ?_;rw[getitemInPython_of_ne hT.not_modules];refine M (Ir hT hl ?_);have fin:wpAny (model prog w) A (subscripted slice false o i) (λr s₃=>wpAny (model prog w) A (letTemporaryGo value o r >>= λ_=>pure r) Q E s₃) E s₂:=by
  rw[hs o i];exact wpAny_operating (iJ h₂ (λr s₃ h₃=>M (wpAny_letTemporaryGo (ao h₃))) λ_ _ x=>x)
 first
  |exact ao (M fin)
  |exact M (ao (M fin))
  |exact M fin
def Ri{Y:List (Addr×Obj)}{σ:St}{s:Shared}(I:bI X Y σ H s)(g:Gq H a y o):s.TypeIs (.ref a) "dict" := by
 rcases g with⟨O,k,e,_,_⟩|⟨O,k,b,e,_,_,_⟩
 ·obtain⟨_,_,vs,_,dd⟩:=WQ I.hok e;exact dd.typeIs
 ·obtain⟨_,_,xs,_,dd⟩:=WR I.hok e;exact dd.typeIs
def a4z(td ty:TE):TE:=λσ H Q=>td σ H λx H1=>ty σ H1 λy H2=>∃a v,x=.ref a/\Gq H2 a y (some v)/\Q v H2
section
variable{o i e value:Expr}{pos' tpos:Pos}{td ty tv:TE}
def zj(hu:X.A.units+1<cLine)(ho:PE X o td)(hi:PE X i ty)(hs:a2z i):PE X (.Subscript o i pos) (a4z td ty):=by
 intro Y s σ H Q I h;refine WT PySem.F.slot_dict_getitem.lookup hs (jJ (ho Y s σ H _ I h) λu s1 ⟨x,H1,I1,rx,q1⟩=>jJ (hi Y s1 σ H1 _ I1 q1) λiv s2 ⟨y,H2,I2,ry,a,v,ex,g,q2⟩=>?_);subst ex;obtain rfl:u=Value.ref a:=rx;exact⟨Ri I2 g,YJ hu I2 g ry λw' s3 I3 Yl=>⟨v,H2,I3,Yl,q2⟩⟩
end
def ă(h:Heap)(hb:sysModules<h.objs.size):fZ P w H (h.push { cls:=.type "dict",data:=.dict #[]}) h.objs.size (.dT []) :=
 ⟨dh _,vN.mpr (Ne.symm (bW hb)),[],.nil,_,#[],0,bU _ Z,⟨Z,Z,Z⟩,Z,Z,Ad⟩
def a2A:TE:=λ_ H Q=>∀p,H p=none->Q (.ref p) (cI H p (.dT []))
def Cy:PE X (.Dict [] [] pos) a2A:=λY s σ H Q I h =>
 wpAny_Dict_empty ⟨.ref s⁻¹,_,I.laid (a:=s⁻¹) (o:=.dT []) (t':=s.toks) (λ_ _ q=>bJ _ q) (aL _) (ă s.heap I.big),Z,h _ (I.hok.fresh (aL _))⟩
inductive a4A(x:V)(vs:List V)(H:Hp)(Q:VK):Prop
 |mk (l xs y:_) (_:x=.ref l) (_:vs=[]) (_:H l=some (.lst (xs++[y]))) (_:∀H',wF H l (.lst xs) H'->Q y H')
def Hj:U4 X "list.pop" a4A:=a1W.weak λx vs H Q ⟨l,xs,y,e1,e2,h,q⟩=>⟨l,xs++[y],y,e1,e2,h,(by simp),(by
 have:=q _ (wF.nY (H:=H) (l:=l) (o:=.lst xs));grind)⟩
def FT:List (Key×V):=[(.inr "leaf",.int 0),(.inr "in",.int 1),(.inr "tie",.int 1),(.inr "out",.int 1),(.inr "join",.int 2)]
set_option genInjectivity false in
structure Used(w:World)(K:aH)(mg:Str->Option Value) where
 d:Addr
 m:mg "USED" = some (.ref d)
 es:Array DictEntry
 ep:Nat
 l:K.lookup d=some ⟨.type "dict",none,.dict es ep,#[]⟩
 ks:∃t0 t1 t2 t3 t4 t5 t6 t7 t8 t9:Tok,es = #[⟨PyData.keyHash w.params "leaf",.str "leaf" t0,.int 0 t1⟩,⟨PyData.keyHash w.params "in",.str "in" t2,.int 1 t3⟩,⟨PyData.keyHash w.params "tie",.str "tie" t4,.int 1 t5⟩,⟨PyData.keyHash w.params "out",.str "out" t6,.int 1 t7⟩,⟨PyData.keyHash w.params "join",.str "join" t8,.int 2 t9⟩]
def a0d{K:aH}{mg:Str->Option Value}{d:Addr}{es:Array DictEntry}{ep:Nat}(X:K.In h)(G:h.Ns mainGlobals mg)
  (a:PySem.W.nsIn K mainGlobals "USED" = some (some (.ref d))) (l:K.lookup d=some ⟨.type "dict",none,.dict es ep,#[]⟩)
  (ks:∃t0 t1 t2 t3 t4 t5 t6 t7 t8 t9:Tok,es = #[⟨PyData.keyHash w.params "leaf",.str "leaf" t0,.int 0 t1⟩,⟨PyData.keyHash w.params "in",.str "in" t2,.int 1 t3⟩,⟨PyData.keyHash w.params "tie",.str "tie" t4,.int 1 t5⟩,⟨PyData.keyHash w.params "out",.str "out" t6,.int 1 t7⟩,⟨PyData.keyHash w.params "join",.str "join" t8,.int 2 t9⟩]):Nonempty (Used w K mg) :=
 ⟨⟨d,Iz X G a,es,ep,l,ks⟩⟩
def Used.dict{K:aH}{mg:Str->Option Value}(U:Used w K mg)(X:K.In h):∃vs,KV FT vs/\h.DictOf (cO P w) U.d vs:=by
 obtain⟨t0,t1,t2,t3,t4,t5,t6,t7,t8,t9,e⟩:=U.ks;refine⟨[(.inr "leaf",.int 0 t1),(.inr "in",.int 1 t3),(.inr "tie",.int 1 t5),(.inr "out",.int 1 t7),(.inr "join",.int 2 t9)],?_,_,U.es,U.ep,X _ _ U.l,⟨Z,Z,Z⟩,Z,?_,?_,?_⟩
 ·exact .cons ⟨Z,t1,Z⟩ (.cons ⟨Z,t3,Z⟩ (.cons ⟨Z,t5,Z⟩ (.cons ⟨Z,t7,Z⟩ (.cons ⟨Z,t9,Z⟩ .nil))))
 ·rw[e];intro x hx;simp only[Array.mem_def,List.mem_cons,List.not_mem_nil,or_false]at hx;rcases hx with rfl|rfl|rfl|rfl|rfl
  ·exact⟨.inr "leaf",gG P w _ _,Z⟩
  ·exact⟨.inr "in",gG P w _ _,Z⟩
  ·exact⟨.inr "tie",gG P w _ _,Z⟩
  ·exact⟨.inr "out",gG P w _ _,Z⟩
  ·exact⟨.inr "join",gG P w _ _,Z⟩
 ·rw[e];exact .cons (gG P w _ _) Z (.cons (gG P w _ _) Z (.cons (gG P w _ _) Z (.cons (gG P w _ _) Z (.cons (gG P w _ _) Z .nil))))
 ·show([.inr "leaf",.inr "in",.inr "tie",.inr "out",.inr "join"]:List Key).Nodup;decide
def a4B(ty:TE):TE:=λσ H Q=>ty σ H λy H1=>∃k v,y=kV k/\gJ FT k=some v/\Q v H1
section
variable{i:Expr}{np:Pos}{ty:TE}
def a0e(U:Used X.w X.K X.mg)(hg:Gl X "USED")(hi:PE X i ty)(hs:a2z i):PE X (.Subscript (.Name "USED" np) i pos) (a4B ty):=by
 intro Y s σ H Q I h;refine WT PySem.F.slot_dict_getitem.lookup hs (BL I hg U.m (jJ (hi Y s σ H _ I h) λiv s2 ⟨y,H2,I2,ry,k,v,ey,hv,q2⟩=>?_));subst ey;obtain⟨vs,rel,dd⟩:=U.dict (P:=X.prog) I2.Ds;obtain⟨w',hw,Yl⟩:=sJ.some_of (v:=v) (o:=valueAt vs k) (by rw[<-hv];exact rel.val k);exact⟨dd.typeIs,wpAny_getItem_of (Rh ry) dd.mapOf hw ⟨v,H2,I2.tok _,Yl,q2⟩⟩
end
end L2
namespace L2
open PyProof.Rows Bg
def Vn(K:aH)(H:Hp)(v:V)(ns:List Int):Prop:=∃p,v=.ref p/\bM K H p (ns.map V.int)
end L2
namespace L2
open PyProof.Rows
structure Dm(K:aH)(C:Addr)(m qual:Str)(st:Stmt)(ps:List Str) where
 f:Addr
 fd:FuncData
 F:Fun K m qual st f fd
 b:Binds K fd ps []
 mt:Meth K C m f
def a4C{K:aH}{C:Addr}{m qual:Str}{st:Stmt}{ps:List Str}{f:Addr}{oc:Value}{od an:Option Addr}{osl:Array (Option Value)}{kV doc pm eV ct:Value}
  (a:PySem.W.findIn K (.ref C) m=some (some (.ref f))) (i:PySem.W.isFn K (.ref f)=true)
  (l:K.lookup f=some ⟨oc,od,.func (PySem.W.fnOf m qual (gZ st) (gA st) (aF st) .none kV doc pm an eV ct),osl⟩) (c:PySem.W.codeIn K eV qual=true) (k:PySem.W.keepIn K (.ref f)=true)
  (h:∀(kV doc pm:Value) (an:Option Addr) (eV ct:Value) (us:List Value),us.length=ps.length->bindArgs (PySem.W.fnOf m qual (gZ st) (gA st) (aF st) .none kV doc pm an eV ct) ⟨us,[]⟩=pure (ps.zip us)):Dm K C m qual st ps :=
 { f:=f,fd:=_,F:=U6 (st:=st) l c k,b:=(U6 (st:=st) l c k).binds h,mt:=⟨a,i,k⟩}
end L2
namespace L2
open PyProof.Rows
structure a4D(K:aH)(C:Addr)(m:Str)(f:Addr):Prop where
 ga:PySem.W.specialIn K (.ref C) "__getattribute__" = some (some (.builtin "type.__getattribute__"))
 rd:∃mc,PySem.W.readsIn K C mc=true/\PySem.W.findCls K (.ref C) mc m=some (.val (.ref f))
 kp:PySem.W.keepIn K (.ref f)=true
section
variable{X:Cx}{CX:R9}{k:Nat}{f C:Addr}{fd:FuncData}{ps:List Str}{sp:Sp}{KH:List V}{ds:List Value}{E:XK}{x m:Str}{p pos apos:Pos}{e:Expr}{es:List Expr}{t:TA}
def Pr{pl:Sem Bool}(hg:Gl X x)(hm:X.mg x=some (.ref C))(c:a4D X.K C m f)(F:bf X.prog X.w X.K X.mg X.base CX k f fd ps sp)(hr:sO k X.A)(hb:Binds X.K fd ps ds)(hd:dz KH ds)(hx:Aj CX X E)(ha:PA X (e::es) t)
  (hdb:@&((x==("__debug__" : Str))=false)) (hst:@&(starEach (e::es) X.env=(false,eval e X.env)::starEach es X.env)) (hpl:@&((backTo pos (starEach es X.env)).any (·.1)=false))
  (ht:@&(eval (.Call (.Attribute (.Name x p) m apos) (e::es) [] pos) X.env=(do
   let ov <-eval (.Name x p) X.env
   standAt apos.atName
   let(f,first) <-holding [ov] (getMethod ov m pl)
   callWith pos f first (backTo pos (starEach (e::es) X.env)) (backToKw pos (keywordEach [] X.env))))) :
  PE X (.Call (.Attribute (.Name x p) m apos) (e::es) [] pos) (a1f sp KH E t):=by
 intro Y s σ H Q I h;refine PySem.W.methodCall_KW (pl:=pl) (BL I hg hm ?_ hdb) ht;obtain⟨mc,hrd,hf⟩:=c.rd;refine PySem.W.method_cls I.Ds c.ga (PySem.W.cls_value I.Ds hrd hf Z ?_);have I1:bI X Y σ H { s with toks:=s.toks+1}:=I.tok _;exact Ny (first:=[]) (h₀:=X.base) I.ok.mod.kin c.kp (jJ (ha pos Y _ σ H _ I1 h) λus s2 ⟨vs,H2,I2,r,q2⟩=>⟨I2.Ds,Uz F hr hb hd hx I2 r q2⟩) hst hpl
end
end L2
namespace Dy
open PyProof.Rows
variable{prog:Program}{w:World}{A:Around}
def Jt:entryFor table "dict.update.loop" = some Builtin.«dict.update.loop» := entryFor_of_tree (by kernel_rfl)
def wG:plainId "dict.update.loop" = true:=by decide
def YL:typeLookup (.type "list") "keys" = pure none:=am_miss_of_fast (by kernel_rfl)
section
variable{E:Value->Shared->Prop}{s:Shared}
def YM{a:Addr}{o:Obj}{xs:Array Value}{k:Nat}{Q:Option Value->Shared->Prop}(hx:s.heap.get? a=some o)(hc:o.cls=.type "list")(hdat:o.data=.seq xs k)(hd:o.dict=none)(hA:A.handled=none)
  (h:∀h' tk,(∀b o,s.heap.get? b=some o->h'.get? b=some o)->Q none { s with heap:=h',toks:=tk}):wpAny (model prog w) A (getAttr? (.ref a) "keys") Q E s:=by
 obtain⟨c,dct,dat,sl⟩:=o;simp only at hc hdat hd;subst hc hdat hd;obtain⟨hp,g,d,tk,os⟩:=s;have hT:∀tk',(⟨hp,g,d,tk',os⟩:Shared).TypeIs (.ref a) "list" := λ_=>⟨_,hx,Z⟩;have f1:=sub_AttributeError;have f3:=F.slot_list_getattribute.lookup;have f4:=F.slot_list_getattribute.bind (.ref a);have f5:=am_list_getattr_none;unfold getAttr? getAttrBy? getAttrBy;repeat (any_goals (first|assumption|exact hT _|((with_reducible show wpAny _ _ (call (Value.builtin "list.__getattribute__") _ _) _ _ _);refine Ja F.slot_list_getattribute (hT _) am_entry_list_getattribute (F.args_list_getattribute_2 _ _) (meets_getattribute_miss_list a xs k sl "keys" _ YL ()) ⟨hx,hA,λh' tk' e hx'=>?_⟩)|wp_step))
 obtain⟨t',u',he⟩:=hx'.there;show wpAny _ _ (getattributeRaised _ _ _ _ _ _ _) _ _ _;unfold getattributeRaised;repeat (any_goals (first|assumption|wp_step))
 exact h _ _ hx'.of.keeps
end
section
variable{R:Result->Shared->Prop}{I:Addr}{fp wr:List Addr}{G:Array GenState->Array GenState->Prop}{n:Nat}{P:Nat->Value->Prop}{St:Nat->Shared->Prop}{κ:Type} [DecidableEq κ] {knd:HeapKind prog w κ}
def Vo{L:List (κ×Addr×Value)}(nd:(L.map (·.1)).Nodup){i:Nat}{x:κ×Addr×Value}(hx:L[i]?=some x):atKey (L.take i) x.1=none:=by
 unfold atKey;have:(L.take i).find? (λy=>decide (y.1=x.1))=none:=by
  rw[DP];intro y hy;simp only[decide_eq_true_eq];intro e;obtain⟨j,hj⟩:=List.mem_iff_getElem?.mp hy;rw[List.getElem?_take]at hj;by_cases q:j<i
  ·rw[aG q]at hj;have:=idxH_unique (xs:=L) nd (i:=j) (j:=i) (k:=x.1) (p:=y.2) (q:=x.2) () (by rw[hx]);omega
  ·rw[aA q]at hj;exact nomatch hj
 rw[this];rfl
def fill(W:WalksS prog w A.in1 I fp wr G n P St)(d:Addr)(nf:d∉fp)(L:List (κ×Addr×Value))(hn:L.length=n)(nd:(L.map (·.1)).Nodup)(bs:Nat->Addr)(hv:∀i v,i<n->P i v->v=.ref (bs i))
  (Kp:Heap->Prop) (kpS:∀h h',Kp h->Heap.SameBut d h h'->Kp h') (kpM:∀s s':Shared,Kp s.heap->Moved wr G s s'->Kp s'.heap)
  (hT:∀h i x,Kp h->L[i]?=some x->knd.is h x.1 x.2.1/\IsTup h (bs i) #[.ref x.2.1,x.2.2]) (hu:knd.room A.in1) (hz:n<=sizeLine) :
  ∀(k i:Nat) (s:Shared) (j:Int) (t:Tok),n-i=k->i<=n->St i s->s.heap.DictOfH knd d (L.take i)->Kp s.heap->
   (∀s',Moved (d::wr) G s s'->s'.heap.DictOfH knd d L->Kp s'.heap->R (.ok (.ret .none)) s')->
   codeAny (model prog w) A (.builtin "dict.update.loop" ⟨[.ref d,.ref I,.int j t,.none],[]⟩) R s:=by
 have nw:d∉wr:=λh=>nf (W.sub _ h);have up:∀b∈wr,b∈d::wr:=λb hb=>bD _ hb;have a1l:∀(s s':Shared) (i:Nat),Moved wr G s s'->Kp s'.heap->s.heap.DictOfH knd d (L.take i)->s'.heap.DictOfH knd d (L.take i):=λs s' i hm kp z=>by
  obtain⟨o,es,ep,ho,hc,hd,he,his,hnn⟩:=z;exact⟨o,es,ep,hm.heap d o nw ho,hc,hd,he,λx hx=>by
   obtain⟨j,hj⟩:=List.mem_iff_getElem?.mp (lH hx);exact(hT _ j x kp hj).1,hnn⟩
 intro k
 induction k with
 |zero =>
  intro i s j t hk hi st hD kp hR;obtain rfl:i=n:=()
  refine rY Jt ?_;rw[tD wG _];show wpAny _ A.in1 (pyNext (.ref I) >>= _) _ _ s;refine M (W.done s _ _ st λs' hm=>?_);have kp':=kpM _ _ kp hm;have hD':=a1l _ _ _ hm kp' hD;rw[<-hn,gO]at hD';show wpAny _ _ (Builtin.Dict.addKeywords d [] >>= _) _ _ _;exact M (ao (ao (hR s' (hm.mono up) hD' kp')))
 |succ k ih =>
  intro i s j t hk hi st hD kp hR;have li:i<n:=()
  obtain⟨x,hx⟩:∃x,L[i]?=some x:=⟨L[i]'(),bR _⟩;refine rY Jt ?_;rw[tD wG _];show wpAny _ A.in1 (pyNext (.ref I) >>= _) _ _ s;refine M (W.item i s _ _ li st λv s' hP st' hm=>?_);obtain rfl:=hv i v li hP;have kp':=kpM _ _ kp hm;have hD':=a1l _ _ _ hm kp' hD;obtain⟨hk1,hk2⟩:=hT _ i x kp' hx;obtain⟨ob,hb,hcl,m,hdat⟩:=id hk2;have hTy:s'.TypeIs (.ref (bs i)) "tuple" :=⟨_,hb,hcl⟩;refine M (fL (M (wpAny_tryCatch ?_)));unfold Builtin.Dict.pairItems;refine M (vX hTy ?_);have e1:((Value.type "tuple" == Value.type "list")||(Value.type "tuple" == Value.type "tuple"))=true:=()
  rw[aG e1];refine M (oM hb hdat (ao ?_));show wpAny _ _ (holding [Value.ref x.2.1,x.2.2] (dictSet d (.ref x.2.1) x.2.2)) _ _ _;refine fL (wpAny_dictSet_heap (hsz:=by rw[fP];omega) hu hk1 hD' λh' hD2 sb=>?_);have hD3:h'.DictOfH knd d (L.take (i+1)):=by
   rw[storedH_new (Vo nd hx)]at hD2;rw[List.take_add_one,hx];exact hD2
  refine ao ⟨uL wG _,ih (i+1) _ _ _ () li (W.frame _ s' _ _ st' (TV _ _) λc hc o e=>?_) hD3 (kpS _ _ kp' sb) λs2 hm2 h2 h3=>hR s2 (Moved.trans W.gtrans ((hm.mono up).then_heap (TV _ _) λc o hc e=>?_) hm2) h2 h3⟩
  ·rw[sb.2 c (λq:c=d=>nf ())];exact e
  ·rw[sb.2 c (λq:c=d=>hc ())];exact e
end
section
variable{E:Value->Shared->Prop}{s:Shared}{κ:Type} [DecidableEq κ] {knd:HeapKind prog w κ}
def YQ(h:Heap):(h.push { cls:=.type "dict",data:=.dict #[]}).DictOfH knd h.objs.size [] :=
 ⟨_,#[],_,bU _ Z,⟨Z,Z,Z⟩,Z,Z,λx hx=>absurd hx (by simp),Ad⟩
def a0f{l:Addr}{o:Obj}{items:Array Value}{m:Nat}{L:List (κ×Addr×Value)}{bs:Nat->Addr}{Q:Value->Shared->Prop}(hh:A.handled=none)(hu:knd.room A.in1.in1)
  (hx:s.heap.get? l=some o) (hc:o.cls=.type "list") (hdat:o.data=.seq items m) (hd:o.dict=none) (hn:L.length=items.size) (nd:(L.map (·.1)).Nodup) (hz:items.size<=sizeLine)
  (hv:∀(i:Nat) (v:Value),items[i]?=some v->v=.ref (bs i))
  (hT:∀(h:Heap) (i:Nat) (x:κ×Addr×Value),(∀b ob,s.heap.get? b=some ob->h.get? b=some ob)->L[i]?=some x->knd.is h x.1 x.2.1/\IsTup h (bs i) #[.ref x.2.1,x.2.2])
  (h:∀(h':Heap) (tk:Nat),h'.DictOfH knd s⁻¹ L->(∀b ob,s.heap.get? b=some ob->h'.get? b=some ob)->Q (.ref s⁻¹) { s with heap:=h',toks:=tk}) :
  wpAny (model prog w) A (call (.type "dict") [.ref l]) Q E s:=by
 refine callType_codes (Q₁:=λobj s₁=>obj=.ref s⁻¹/\s₁={ s with heap:=s.heap.push { cls:=.type "dict",data:=.dict #[]}}) PySem.F.kt_called_dict (PySem.F.kt_typeCall_dict_1 _) PySem.F.entry_dict_init (kt_code_dict_new _ ⟨rfl,rfl⟩) ?_;rintro obj s₁ ⟨rfl,rfl⟩;have hnew:(s.heap.push { cls:=.type "dict",data:=.dict #[]}).DictOfH knd s⁻¹ []:=YQ s.heap;have hTd:Shared.TypeIs { s with heap:=s.heap.push { cls:=.type "dict",data:=.dict #[]}} (.ref s⁻¹) "dict" :=⟨_,bU _ rfl,rfl⟩;have hx1:(s.heap.push { cls:=.type "dict",data:=.dict #[]}).get? l=some o:=bJ _ hx;have hTl:Shared.TypeIs { s with heap:=s.heap.push { cls:=.type "dict",data:=.dict #[]}} (.ref l) "list" :=⟨_,hx1,hc⟩;refine⟨hTd,PySem.F.args_dict_init_2 _ _,?_⟩;unfold Builtin.«dict.__init__»;refine M ?_;unfold Builtin.Dict.selfAndRest;refine M (Ig hTd ?_);show wpAny _ _ (pure (s⁻¹,[Value.ref l])) _ _ _;refine ao ?_;show wpAny _ _ (Builtin.Dict.updateFrom "dict.__init__" s⁻¹ (.ref l) [] .none) _ _ _;unfold Builtin.Dict.updateFrom;refine M (vX hTl ?_);rw[aG ()];refine M (YM hx1 hc hdat hd (by simp[hh]) λh1 tk1 k1=>?_);simp only[Option.isNone_none,if_true];refine M (kY ?_);have ll:l<s⁻¹:=aX hx;have g1:h1.get? s⁻¹=some { cls:=.type "dict",data:=.dict #[]}:=k1 _ _ (bU _ Z);have g2:h1.get? l=some o:=k1 _ _ hx1;have dl:s⁻¹<h1.objs.size:=aX g1;have hl1:h1.IsList l items:=⟨_,g2,hc,m,hdat⟩;refine M (vQ (s:={ s with heap:=h1,toks:=tk1}) hl1 ?_);have hh3:A.in1.in1.handled=none:=by simp[hh]
 have ni:l≠h1.objs.size:=bW (xU ll dl);have nf:s⁻¹∉[h1.objs.size,l]:=by
  simp only[List.mem_cons,List.not_mem_nil,or_false,not_or];exact⟨bW dl,gD ll⟩
 refine ao ⟨uL wG _,?_⟩;refine fill (knd:=knd) (n:=items.size) ((Walks.list hh3 _ l ni items).toS) s⁻¹ nf L hn nd bs (λi v _ hp=>hv i v hp)
  (λh2=>∀b ob,s.heap.get? b=some ob->h2.get? b=some ob) (λh2 h3 kp sb b ob e=>?_) (λs2 s3 kp hm b ob e=>?_) (λh2 i x kp e=>hT h2 i x kp e) hu hz items.size 0 _ _ _ () (dh _)
  ⟨⟨_,bU _ Z,Z,Z⟩,(hl1.push _)⟩ ?_ ?_ ?_
 ·rw[sb.2 b (bW (aX e))];exact kp b ob e
 ·refine hm.heap b ob ?_ (kp b ob e);simp only[List.mem_cons,List.not_mem_nil,or_false];exact λq=>absurd q (bW (xU (aX e) dl))
 ·exact⟨_,#[],_,bJ _ g1,⟨Z,Z,Z⟩,Z,by rw[List.take_zero];rfl,λx hx=>absurd hx (by simp),by rw[List.take_zero];exact Ad⟩
 ·exact λb ob e=>bJ _ (k1 b ob (bJ _ e))
 ·intro s' hm hD kp;obtain⟨h',g',d',tk',os'⟩:=s';have eg:g'=s.gens:=hm.gens;have ed:d'=s.drawn:=hm.drawn;have eo:os'=s.os:=hm.os;subst eg;subst ed;subst eo;exact⟨Z,h h' tk' hD kp⟩
end
end Dy
namespace L2
open PyProof.Rows
def a4E{c:Prop} [Decidable c] {a b:Prop} (hc:c) (h:a):if c then a else b:=by grind
def ye{c:Prop} [Decidable c] {a b:Prop} (hc:¬c) (h:b):if c then a else b:=by grind
def Er{prog:Program}{w:World}{A:Around}{E:Value->Shared->Prop}{s:Shared}{l:Addr}{items:Array Value}{Q:List Value->Shared->Prop}(hd:A.handled=none)(hl:s.heap.IsList l items)
  (h:∀h',(∀b o,b≠s⁻¹->s.heap.get? b=some o->h'.get? b=some o)->Q items.toList { s with heap:=h'}):wpAny (model prog w) A (unpackItems (.ref l) items.size none) Q E s:=by
 have hl0:=hl;obtain⟨o,e,c,d⟩:=hl;unfold unpackItems notIterableAtAll;refine M (M (Ir (T:="list") ⟨_,e,c⟩ F.slot_list_iter.lookup (jR (a4E Z (ao (jR (ye cY (M (fL (vQ hl0 ?_))))))))));dsimp only;refine M (fL ?_);have hn:l≠s⁻¹:=λz=>by
  have hlt:=aX e;exact absurd z (bW hlt)
 have e1:∀(h':Heap),(∀b o,b≠s⁻¹->s.heap.get? b=some o->h'.get? b=some o)->h'.IsList l items:=λh' k=>⟨o,k _ _ hn e,c,d⟩;refine PySem.W.kun_draw hn items.size 0 _ _ ⟨_,bU _ Z,Z,Z⟩ (e1 _ λb o _ z=>bJ _ z) () λh' st sb=>?_;have k1:∀b o,b≠s⁻¹->s.heap.get? b=some o->h'.get? b=some o:=λb o hb z=>(sb.2 b hb).trans (bJ _ z);have et:List.take items.size (List.drop 0 items.toList)=items.toList:=by rw[Ud];exact Ib (by simp)
 rw[et];exact jR (ye (by simp) (M (fL (wpAny_pyNext_list_end hd st (e1 _ k1) (by simp) λh2 eb=>jR (ye (by simp) (ao (h h2 λb o hb z=>eb b o hb (k1 b o hb z))))))))
section
variable{X:Cx}{pos:Pos}
inductive a1m(K:aH)(n:Nat)(t:Ê)(v:V)(σ:St)(H:Hp)(Q:St->Hp->Prop):Prop
 |mk (a xs:_) (_:v=.ref a) (_:bM K H a xs) (_:xs.length=n) (_:t xs σ H Q)
def a0g{es:List Expr}{k:Nat}{t:Ê}{n:Nat}(hc:X.calm=true)(h:PGs X es t)
  (hn:@&((assignEach es X.env).length=n)) (hst:@&((assignEach es X.env).findIdx? (·.1)=none)):PG X (.Tuple es k pos) (a1m X.K n t):=by
 intro Y s σ H v u Q I r hw;obtain⟨a,xs,e1,hq,hl,hw⟩:=hw;subst e1;cases r;obtain⟨cA,rv,p,hz⟩:=I.list hq;rw[assign_Tuple];refine M (Oc ?_);unfold unpack;refine M (fL ?_);have e2:(assignEach es X.env).length=cA.toArray.size:=by simp[hn,<-hl,rv.length]
 rw[hst,e2];refine Er (I.ok.hd hc) p.isList λh' k=>?_;have hi:=I.Gn (aL s⁻¹) (I.hok.fresh (aL _));obtain⟨f0,f1,f2,f3,f4,f5⟩:=hi;have I1:bI X Y σ H { s with heap:=h'}:=I.turned (t':=s.toks) k f0 f1 f3 f4 f5;exact h Y _ σ H xs _ Q I1 (by simpa using rv) hw
def Ą{K:aH}{es:List Expr}{k:Nat}{t:Ê}{n:Nat}(e:X.K=K)(hc:X.calm=true)(h:PGs X es t)
  (hn:@&((assignEach es X.env).length=n)) (hst:@&((assignEach es X.env).findIdx? (·.1)=none)):PG X (.Tuple es k pos) (a1m K n t):=by subst e;exact a0g hc h hn hst
end
end L2
namespace Dq
open PyProof.Rows
variable{I:Addr}{o:Obj}{es:Array DictEntry}{ep:Nat}
variable{prog:Program}{w:World}{A:Around}{E:Value->Shared->Prop}{s:Shared}
abbrev kO(d:Addr)(i n ep:Nat):Obj:={ cls:=.type "dict_keyiterator",data:=.fields #[.ref d,.int (i:Nat) 0,.int (n:Nat) 0,.int (ep:Nat) 0]}
def args_next(a:Value):argsOk "dict_keyiterator.__next__" ⟨[a],[]⟩:=by unfold argsOk;kernel_rfl
def WW:∃l,mroOf (.type "dict_keyiterator")=pure l/\(["dict_reversekeyiterator","dict_reversevalueiterator","dict_reverseitemiterator"].any λt=>l.contains (Value.type t))=false/\(["dict_keyiterator","dict_reversekeyiterator"].any λt=>l.contains (Value.type t))=true:=⟨_,Z,(),()⟩
def ą{Q:Bool->Shared->Prop}(hT:s.TypeIs (.ref I) "dict_keyiterator")(h:Q false s):wpAny (model prog w) A (Builtin.Dict_items.isOneOf (.ref I) ["dict_reversekeyiterator","dict_reversevalueiterator","dict_reverseitemiterator"]) Q E s:=by
 obtain⟨l,e,n,_⟩:=WW;unfold Builtin.Dict_items.isOneOf;refine M (vX hT ?_);rw[e];refine M (ao (ao ?_));rw[n];exact h
def YS{Q:Bool->Shared->Prop}(hT:s.TypeIs (.ref I) "dict_keyiterator")(h:Q true s):wpAny (model prog w) A (Builtin.Dict_items.isOneOf (.ref I) ["dict_keyiterator","dict_reversekeyiterator"]) Q E s:=by
 obtain⟨l,e,_,n⟩:=WW;unfold Builtin.Dict_items.isOneOf;refine M (vX hT ?_);rw[e];refine M (ao (ao ?_));rw[n];exact h
def item_at{d:Addr}{i:Nat}{e:DictEntry}{Q:Option Value->Shared->Prop}(ne:d≠I)(ho:s.heap.get? d=some o)(hd:o.data=.dict es ep)(hI:s.heap.get? I=some (kO d i es.size ep))(hx:es[i]?=some e)
  (h:∀h',h'.get? I=some (kO d (i+1) es.size ep)->Heap.SameBut I s.heap h'->Q (some e.key) { s with heap:=h'}):wpAny (model prog w) A (pyNext (.ref I)) Q E s:=by
 have hT:s.TypeIs (.ref I) "dict_keyiterator" :=⟨_,hI,Z⟩;unfold pyNext;refine M (tL (oJ (name:=Str.ofString "__next__") hT Nj (gC Nj hT Z4 ?_ (args_next _))));unfold Builtin.«dict_keyiterator.__next__»;refine M (m:=Builtin.Dict_items.slot0 "__next__" _) (ao ?_);dsimp only;refine M (M (M (m:=typeNameOfWhole _) (Nh hT ?_)));rw[show(if Builtin.Dict_items.ownsTuple "dict_keyiterator" = true then 2 else 0)=0 from rfl];refine ao (M (Eb hI Z ?_));show wpAny _ _ (if(Value.ref d==Value.none)=true then _ else _) _ _ _;refine jR (L2.ye (by simp) (M (m:=Builtin.Dict_items.addrOf _) (ao (M (tE ho hd (jR (L2.ye (by simp) (M (m:=Builtin.Dict_items.addrOf _) (ao (M (xR ho hd (jR (L2.ye (by simp) (ao ?_))))))))))))));dsimp only;have e1:(if(i:Int)<0 then none else es[(i:Int).toNat]?)=some e:=by
  rw[aA (),jz];exact hx
 rw[e1];dsimp only;refine M (M (m:=typeNameOfWhole _) (Nh hT ?_));rw[show(if Builtin.Dict_items.ownsTuple "dict_keyiterator" = true then 2 else 0)=0 from rfl];refine ao (M (ą hT (M (iV hI (by simp) λh1 hI1 Em=>?_))));have hT1:Shared.TypeIs { s with heap:=h1} (.ref I) "dict_keyiterator" :=⟨_,hI1,rfl⟩;refine M (fL (M (YS hT1 (jR (L2.a4E Z (ao (ao ⟨_,Z,ao (h h1 ?_ Em)⟩)))))));rw[hI1];simp[rawInt]
def Jp{d:Addr}{Q:Option Value->Shared->Prop}(hh:A.handled=none)(ne:d≠I)(ho:s.heap.get? d=some o)(hd:o.data=.dict es ep)(hI:s.heap.get? I=some (kO d es.size es.size ep))
  (h:∀h',Heap.ExtBut I s.heap h'->Q none { s with heap:=h'}):wpAny (model prog w) A (pyNext (.ref I)) Q E s:=by
 have hT:s.TypeIs (.ref I) "dict_keyiterator" :=⟨_,hI,Z⟩;unfold pyNext;refine M (tL (oJ (name:=Str.ofString "__next__") hT Nj (gC Nj hT Z4 ?_ (args_next _))));unfold Builtin.«dict_keyiterator.__next__»;refine M (m:=Builtin.Dict_items.slot0 "__next__" _) (ao ?_);dsimp only;refine M (M (M (m:=typeNameOfWhole _) (Nh hT ?_)));rw[show(if Builtin.Dict_items.ownsTuple "dict_keyiterator" = true then 2 else 0)=0 from rfl];refine ao (M (Eb hI Z ?_));show wpAny _ _ (if(Value.ref d==Value.none)=true then _ else _) _ _ _;refine jR (L2.ye (by simp) (M (m:=Builtin.Dict_items.addrOf _) (ao (M (tE ho hd (jR (L2.ye (by simp) (M (m:=Builtin.Dict_items.addrOf _) (ao (M (xR ho hd (jR (L2.ye (by simp) (ao ?_))))))))))))));dsimp only;have e1:(if(es.size:Int)<0 then none else es[(es.size:Int).toNat]?)=none:=by
  rw[aA (),jz];simp
 rw[e1];dsimp only;refine M (M (m:=typeNameOfWhole _) (Nh hT ?_));rw[show(if Builtin.Dict_items.ownsTuple "dict_keyiterator" = true then 2 else 0)=0 from rfl];refine ao (M (iV hI (by simp) λh1 hI1 Em=>M ?_));simp only[newExc,newTuple];refine M (kI ?_ (by size_fits));refine M (m:=firstArgMember _ _) (IV (a:=Value.none) (by first|rfl|(simp only[firstArgMember];rfl)) ?_);refine kI ?_ (by size_fits);simp only[raiseNew];refine M (Oe ?_);rw[show A.in1.handled=none from hh];refine M (ao (Oi ?_));exact M (vU (U:="StopIteration") (T:="StopIteration") (b:=true) ⟨_,bU _ Z,Z⟩ Iw (ao (h _ ((Em.extBut.push _).push _))))
def Cw{d:Addr}{Q:Value->Shared->Prop}(hs:(d==sysModules)=false)(ho:s.heap.get? d=some o)(hx:o.ExactDict)(hd:o.data=.dict es ep)
  (h:Q (.ref s⁻¹) { s with heap:=s.heap.push (kO d 0 es.size ep)}):wpAny (model prog w) A (pyIter (.ref d)) Q E s:=by
 have hT:s.TypeIs (.ref d) "dict" :=⟨_,ho,hx.1⟩;refine Im hT F.slot_dict_iter (gC F.slot_dict_iter hT F.entry_dict_iter ?_ (F.args_dict_iter_1 _));unfold Builtin.«dict.__iter__»;refine M ?_;unfold Builtin.Dict.dictSlotNone;refine M (Ig hT (M (m:=slotArgs "__iter__" 0 _) (ao (ao (M (m:=Builtin.Dict.addrOf _) (ao (M ?_)))))));unfold Builtin.Dict.showsAll;refine jR (L2.ye () (ao (M (tE ho hd (M (xR ho hd (M ?_)))))));unfold newFields;exact kI (ao ⟨_,Z,"dict_keyiterator",_,⟨_,bU _ Z,Z⟩,F.slot_dict_keyiterator_next.lookup,h⟩)
end Dq
namespace L2
open PyProof.Rows
section
variable{X:Cx}{Y:List (Addr×Obj)}{σ:St}{H:Hp}{s:Shared}{d:Addr}{O:List (Key×V)}
def bI.Vp{o o':HO}(I:bI X Y σ H s)(e:H d=some o)(nt:∀xs,o≠.tup xs)(no:∀y,o≠.own y)(nb:∀ps,o≠.tbl ps)(nf:∀b u,X.H₀ d≠some (.iC b u))(q:fZ X.prog X.w H s.heap d o'):bI X Y σ (cI H d o') s:=by
 have ne:∀b,H b=none->b≠d:=λb n z=>by rw[z,e]at n;cases n
 have nn:∀b,H b=none->cI H d o' b=none:=λb n=>by rw[aO (ne b n)];exact n
 have ho:∀b c,H b=some (.own c)->cI H d o' b=some (.own c):=λb c r=>by
  rw[aO]
  ·exact r
  ·intro z;rw[z,e]at r;exact no c (dM r)
 have ht:∀b xs,H b=some (.tup xs)->cI H d o' b=some (.tup xs):=λb xs r=>by
  rw[aO]
  ·exact r
  ·intro z;rw[z,e]at r;exact nt xs (dM r)
 refine⟨I.ok,I.os,I.bare,⟨I.base.keep,I.base.slot,λb ob q1 q2 q3=>nn b (I.base.free b ob q1 q2 q3),I.base.there,λb xs r=>ht b xs (I.base.tups b xs r),λb ob u r=>?_,λb ps r=>?_⟩,I.loc,I.cell,nn _ I.free,λx c r=>nn c (I.tM x c r),λp hp=>?_,λb u r=>?_,I.len⟩
 ·rw[aO]
  ·exact I.base.Jd b ob u r
  ·intro z;rw[z]at r;exact nf ob u r
 ·obtain⟨m,r1⟩:=I.base.Om b ps r;refine⟨m,?_⟩;rw[aO]
  ·exact r1
  ·intro z;rw[z,e]at r1;exact nb _ (dM r1)
 ·obtain⟨p1,p2,p3⟩:=I.pin p hp;exact⟨p1,nn _ p2,p3⟩
 ·by_cases c:b=d
  ·subst c;rw[cP]at r;cases r;exact q.stay (λ_ _ _ z=>z) (λc r=>ho c b r) ht
  ·rw[aO c]at r;exact(I.hok b u r).stay (λ_ _ _ z=>z) (λc r=>ho c b r) ht
def bI.WX{o:HO}(I:bI X Y σ H s)(e:H d=some o)(nf:∀b u,o≠.iC b u):∀b u,X.H₀ d≠some (.iC b u):=λb u z=>by
 have:=I.base.Jd d b u z;grind
def bI.Gr{o:Obj}{u:HO}(I:bI X Y σ H s)(nf:∀b u,X.H₀ d≠some (.iC b u))(e:H d=some (.iC o u)):bI X Y σ (cI H d u) s:=by
 obtain⟨_,q⟩:=I.hok d _ e;exact I.Vp e (λ_ z=>by cases z) (λ_ z=>by cases z) (λ_ z=>by cases z) nf q
end
end L2
namespace L2
open PyProof.Rows Bg
def Itp(o:Obj)(d:Addr)(u:HO)(as:List Addr):It :=
 ⟨λi H=>H d=some (.iC o u)/\i<as.length,λi H x H'=>H'=H/\(as.map V.ref)[i]?=some x,λi H=>H d=some (.iC o u)/\i=as.length⟩
def Vq{P:Program}{w:World}{K:aH}{tg:Expr}{o:Obj}{u:HO}(d it:Addr){as:List Addr}{es:Array DictEntry}{ep:Nat}(hd:o.data=.dict es ep)(ek:es.toList.map (·.key)=as.map Value.ref) :
  Turn P w K tg (Itp o d u as) [it] it (λi h=>h.get? it=some (Dq.kO d i es.size ep)) where
 mem:=by simp
 obj:=λi h st b hb=>by
  grind
 keep:=λi h h' st k=>k it (by simp) _ st
 item:=by
  intro X hP hw hK hc i Y s σ H E I hf st hg
  subst hP hw hK
  obtain⟨hq,hi⟩:=hg
  obtain⟨hd1,_⟩:=I.hok d _ hq
  obtain⟨f0,f1,f2,f3,f4,f5⟩:=hf it (by simp)
  have ne:d≠it:=λz=>by grind
  have lz:es.size=as.length:=by have:=congrArg List.length ek;grind
  have he:es[i]?=some (es[i]'()):=xu ()
  have a2B:(es[i]'()).key=Value.ref as[i]:=by
   have:=congrArg (λl=>l[i]?) ek
   try dsimp only at this
   rw[d7,d7,Ie,he,bR hi]at this
   exact dM this
  refine Dq.item_at ne hd1 hd st he λh' hI sb=>?_
  have I1:bI X Y σ H { s with heap:=h'}:=I.turned (t':=s.toks) (λb o hb e=>(sb.2 b hb).trans e) f0 f1 f3 f4 f5
  exact⟨_,Z,Wg (s:={ s with heap:=h'}) hI rfl rfl () ⟨.ref as[i],H,I1,a2B,⟨rfl,by rw[d7,bR hi];rfl⟩,hI,λb hb=>(hf b hb).1⟩⟩
 done:=by
  intro X hP hw hK hc i Y s σ H E I hf st hg
  subst hP hw hK
  obtain⟨hq,hx⟩:=hg
  obtain⟨hd1,_⟩:=I.hok d _ hq
  obtain⟨f0,f1,f2,f3,f4,f5⟩:=hf it (by simp)
  have ne:d≠it:=λz=>by grind
  have lz:es.size=as.length:=by have:=congrArg List.length ek;grind
  rw[hx,<-lz]at st
  exact Dq.Jp (I.ok.hd hc) ne hd1 hd st λh' eb=>⟨Z,I.turned (t':=s.toks) (λb o hb e=>eb b o hb e) f0 f1 f3 f4 f5⟩
 self:=λ_ _ _ _ _ st h=>wpAny_pyIter_keyiter ⟨_,st,Z,Z⟩ h
end L2
namespace L2
open PyProof.Rows Bg
section
variable{X:Cx}
inductive a6q(x:V)(y:V)(H:Hp)(Q:VK):Prop
 |mk (b a:Addr) (k:List Key) (O:List (List Key×V)) (_:x=.ref b) (_:y=.ref a) (_:H b=some (.tup (k.map kV))) (_:H a=some (.dT O)) (_:Q (.bl (gJ O k).isSome) H)
def Ć(hu:X.A.units+1<cLine):sX X (compareOp .In) a6q:=by
 intro Y s σ H x y v u Q I rx ry h;obtain⟨b,a,t,ts,rfl,rfl,hb,e,q⟩:=h;obtain rfl:u=Value.ref a:=ry;exact a6p hu I (Gq.t e hb) rx λs3 I3=>⟨.bl _,H,I3,Z,q⟩
inductive a4F(o:V)(i:V)(v:V)(H:Hp)(Q:Hp->Prop):Prop
 |mk (a b:Addr) (k:List Key) (O:List (List Key×V)) (_:o=.ref a) (_:i=.ref b) (_:H b=some (.tup (k.map kV))) (_:H a=some (.dT O)) (_:O.length<=5000) (_:∀H',wF H a (.dT (putK O k v)) H'->Q H')
def Et(hu:X.A.units+1<cLine):a3K X a4F:=by
 intro Y s σ H o i v ov iv u Q I ro ri rv h;obtain⟨a,b,t,ts,rfl,rfl,hb,e,z,q⟩:=h;obtain rfl:ov=Value.ref a:=ro;exact YK hu I (a0c.t e hb (Tp z ())) ri rv λs' I'=>⟨_,I',q _ wF.nY⟩
def a2C{P:Program}{w:World}{H':Hp}{h':Heap}{a:Addr}{O:List (List Key×V)}{xs:List (List Key×Addr×Value)}(z:O.length<=sizeLine)(hd:(a==sysModules)=false)(rel:KT H' O xs)(dd:h'.DictOfH (tupleKind (cO P w)) a xs) :
  fZ P w H' h' a (.dT O):=by
 obtain⟨o,es,ep,h1,h2,h3,h4,_,h5⟩:=dd;exact⟨z,hd,xs,rel,o,es,ep,h1,h2,h3,h4,h5⟩
end
section
variable{X:Cx}{tg:Expr}
def a2D(t:TE):TE:=λσ H Q=>t σ H λv H1=>∃d o O kvs',H d=some (.dT kvs')/\H1 d=some (.iC o (.dT O))/\Q v (cI H1 d (.dT O))
def ć{e:Expr}{t:TE}(h:PE X e t):PE X e (a2D t):=by
 intro Y s σ H Q I q;refine jJ (h Y s σ H _ I q) λv s1 z=>?_;obtain⟨x,H1,I1,r1,d,o,ts,ts',e0,e1,q1⟩:=z;exact⟨x,_,I1.Gr (I.WX e0 λ_ _ z=>by cases z) e1,r1,q1⟩
def a0h(t:TS):TS:=λD σ H=>t { D with nx:=λσ1 H1=>∃d o O kvs',H d=some (.dT kvs')/\H1 d=some (.iC o (.dT O))/\D.nx σ1 (cI H1 d (.dT O))} σ H
def vg{st:Stmt}{t:TS}(h:PS X st t):PS X st (a0h t):=by
 intro Y s σ H D I q;refine jJ (h Y s σ H _ I q) λf s1 z=>?_;cases f with
 |next =>
  obtain⟨σ1,H1,I1,d,o,O,kvs',e0,e1,q1⟩:=z;exact⟨σ1,_,I1.Gr (I.WX e0 λ_ _ z=>by cases z) e1,q1⟩
 |ret u=>exact z
 |brk=>exact z
 |cont=>exact z
inductive PrL(H:Hp)(v:V)(kv:List Key×V):Prop
 |mk (p kp:_) (_:v=.ref p) (_:H p=some (.tup [.ref kp,kv.2])) (_:H kp=some (.tup (kv.1.map kV)))
inductive a2E(K:aH)(xs:List V)(H:Hp)(Q:VK):Prop
 |mk (l:Addr) (vs:List V) (O:List (List Key×V)) (_:xs=[.ref l]) (_:H l=some (.lst vs)) (_:Paired (PrL H) vs O) (_:(O.map (·.1)).Nodup) (_:∀p H',gW H p (.dT O) H'->Q (.ref p) H')
def a2F{P:Program}{w:World}{H:Hp}{h:Heap}(hok:zE P w H h):∀{vs:List V}{O:List (List Key×V)}{cA:List Value},Paired (PrL H) vs O->dz vs cA->
  ∃(L:List (List Key×Addr×Value)) (bs:List Addr),cA=bs.map Value.ref/\KT H O L/\Paired (λ(b:Addr) (x:List Key×Addr×Value)=>IsTup h b #[.ref x.2.1,x.2.2]) bs L:=by
 intro vs O cA hp
 induction hp generalizing cA with
 |nil=>intro hv;cases hv;exact⟨[],[],Z,.nil,.nil⟩
 | @cons v kv vs O a t ih =>
  intro hv;cases hv with
  | @cons _ u _ us ru rus =>
   obtain⟨L,bs,e,kt,pt⟩:=ih rus;obtain⟨p,kp,rfl,hp,hk⟩:=a;obtain rfl:u=Value.ref p:=ru;obtain⟨_,its2,r2,tp⟩:=(show fZ P w H h p (.tup [.ref kp,kv.2])from hok p _ hp);cases r2 with
   | @cons _ u1 _ us1 q1 q2 =>
    obtain rfl:u1=Value.ref kp:=q1;cases q2 with
    | @cons _ u2 _ us2 q3 q4 =>
     cases q4;exact⟨(kv.1,kp,u2)::L,p::bs,by rw[e];rfl,.cons ⟨Z,hk,q3⟩ kt,.cons tp pt⟩
def Vr{K:aH}(ek:X.K=K)(cm:X.calm=true)(hu:X.A.units+2<cLine):jL X (.type "dict") (a2E K):=by
 subst ek;intro Y s σ H xs us Q I r h;obtain⟨l,vs,O,rfl,hL,pr,nd,q⟩:=h;obtain⟨u,rfl,rx⟩:=vals1 r;cases rx;obtain⟨z,cA,n,rv,ol⟩:=(show fZ X.prog X.w H s.heap l (.lst vs)from I.hok l _ hL);obtain⟨L,bs,rfl,kt,pt⟩:=a2F I.hok pr rv;have ln:L.length=bs.length:=(aV pt).symm;have lv:vs.length=bs.length:=by have:=rv.length;grind
 have lk:O.length=vs.length:=(aV pr).symm;have ek:O.map (·.1)=L.map (·.1):=by
  clear nd pr pt ln lk q
  induction kt with
  |nil=>rfl
  |cons a b ih=>grind
 have hr:(tupleKind (cO X.prog X.w)).room X.A.in1.in1:=by
  show X.A.in1.in1.units<cLine;show X.A.units+1+1<cLine;exact hu
 refine Dy.a0f (knd:=tupleKind (cO X.prog X.w)) (L:=L) (bs:=λi=>bs.getD i 0) (I.ok.hd cm) hr ol Z Z Z (by rw[iH,aK];exact ln) (by rw[<-ek];exact nd) (by rw[iH,aK];omega) (λi v hv=>?_) (λh i x kp hx=>?_) λh' tk dd kp=>?_
 ·rw[List.getElem?_toArray,d7]at hv;cases c:bs[i]? with
  |none=>rw[c]at hv;exact nomatch hv
  |some b =>
   rw[c]at hv;rw[gw,c];exact(dM hv).symm
 ·constructor
  ·obtain⟨kv,hkv,a1,a2,a3⟩:=dF kt hx;obtain⟨o,cA,n,h1,h2,h3,h4⟩:=Ep I.hok a2;rw[<-a1];exact⟨o,cA,n,kp _ _ h1,h2,h3,h4⟩
  ·obtain⟨b,hb,o,h1,h2⟩:=dF pt hx;rw[gw,hb];exact⟨o,kp _ _ h1,h2⟩
 ·have hf:H s⁻¹=none:=I.hok.fresh (aL _);have hs:(s⁻¹==sysModules)=false:=vN.mpr (Ne.symm (bW I.big));refine⟨.ref s⁻¹,_,I.laid (t':=tk) (o:=.dT O) (λb o e=>kp b o e) (aL _) (a2C () hs (kt.keeps λc ys ec=>?_) dd),Z,q _ _ (gW.nY hf)⟩;rw[aO (eU ec hf)];exact ec
end
end L2
namespace L2
open PyProof.Rows
def zp{X:Cx}{Y:List (Addr×Obj)}{σ:St}{H:Hp}{s:Shared}(I:bI X Y σ H s){h2:Heap}(ch:List Addr)(fk:∀b∈ch,Gm X Y H b)
  (kp:∀b o,b∉ch->s.heap.get? b=some o->h2.get? b=some o):bI X Y σ H { s with heap:=h2}:=by
 refine I.step (t':=s.toks) (g':=s.gens) (d':=s.drawn) (H':=H) (ch:=ch) (λb hb=>?_) (λb o _ _ hc q _=>kp b o hc q) (λb o _ _ hc q _=>⟨o.slots,kp b o hc q⟩) (λ_ _ _ _ n=>n)
  (λb o hc q=>⟨o,kp b o hc q⟩) (λ_ _ q=>q) (λ_ _ _ q=>q) (λb ps q=>⟨#[],by rw[q];simp⟩) (λm hm=>?_) (λb o q=>?_) I.bare
 ·obtain⟨f0,f1,f2,f3,f4,f5⟩:=fk b hb;exact⟨f3,f1,f4,f5⟩
 ·obtain⟨o,es,ep,q,r⟩:=hm;exact⟨o,es,ep,kp _ o (λz=>(fk _ z).2.1 Z) q,r⟩
 ·have nb:∀c v,H c=some v->c∉ch:=λc v q z=>eU q (fk c z).1 rfl;refine(I.hok b o q).stay (λc v hcc r=>kp c v ?_ r) (λ_ q=>q) λ_ _ q=>q;grind
section
variable{X:Cx}{K:aH}
def boot_zip:bootBuiltins "zip" = some (.type "zip"):=by decide
end
end L2
namespace L2
open PySem.Calls PyProof.Rows
structure a2G(K:aH)(x qual:Str)(st:Stmt)(f:Addr)(fd:FuncData):Prop where
 ex:∃(oc:Value) (od:Option Addr) (dV kV doc pm:Value) (an:Option Addr) (eV ct:Value) (osl:Array (Option Value)),
  fd=PySem.W.fnOf x qual (gZ st) (gA st) (aF st) dV kV doc pm an eV ct/\K.lookup f=some ⟨oc,od,.func fd,osl⟩/\PySem.W.codeIn K eV qual=true
 kp:PySem.W.keepIn K (.ref f)=true
section
variable{P:Program}{w:World}{K:aH}{mg:Str->Option Value}{base:Heap}{x qual:Str}{st:Stmt}{f:Addr}{fd:FuncData}{N ps:List Str}{k:Nat}{sp:Sp}
def a2G.ok(F:a2G K x qual st f fd)(S:bC N ps (aF st))(len:∀vs H Q E,sp vs H Q E->vs.length=ps.length)
  (hb:∀(eV:Value) (A:Around) (outer:List Env) (s:Shared) (H:Hp) (vs:List V) (Q:VK) (E:XK),sO k (A.deeper (envOfC qual (aF st) s⁻¹ f eV))->sp vs H Q E->
   ∃t,QG (UG gb P w K mg base N qual (aF st) f eV A outer s H E).nox (gA st) t/\t { nx:=λ_ H'=>Q .non H',rt:=Q} (start N vs) H):bf P w K mg base gb (k+1) f fd ps sp:=by
 obtain⟨_,_,_,_,_,_,_,eV,_,_,rfl,lk,hcd⟩:=F.ex;exact a1g lk hcd S len λA outer s H vs Q E hr hsp=>(hb eV A outer s H vs Q E hr hsp).imp λt h=>⟨h.1.nox,h.2⟩
end
structure DmD(K:aH)(C:Addr)(m qual:Str)(st:Stmt)(ps:List Str) where
 f:Addr
 fd:FuncData
 F:a2G K m qual st f fd
 b:Binds K fd ps []
 b1:Binds K fd ps [.none]
 mt:Meth K C m f
def a2H{K:aH}{C:Addr}{m qual:Str}{st:Stmt}{ps:List Str}{f T:Addr}{oc oT:Value}{od an dT:Option Addr}{osl sT:Array (Option Value)}{kV doc pm eV ct:Value}{nT:Nat}
  (a:PySem.W.findIn K (.ref C) m=some (some (.ref f))) (i:PySem.W.isFn K (.ref f)=true)
  (l:K.lookup f=some ⟨oc,od,.func (PySem.W.fnOf m qual (gZ st) (gA st) (aF st) (.ref T) kV doc pm an eV ct),osl⟩) (c:PySem.W.codeIn K eV qual=true) (k:PySem.W.keepIn K (.ref f)=true)
  (lT:K.lookup T=some ⟨oT,dT,.seq #[.none] nT,sT⟩)
  (h:∀(kV doc pm:Value) (an:Option Addr) (eV ct:Value) (us:List Value),us.length=ps.length->∃g,bindArgs (PySem.W.fnOf m qual (gZ st) (gA st) (aF st) (.ref T) kV doc pm an eV ct) ⟨us,[]⟩=seqItems? (.ref T) >>= g/\g (some #[.none])=pure (ps.zip us))
  (h1:∀(kV doc pm:Value) (an:Option Addr) (eV ct:Value) (us:List Value),us.length+1=ps.length->∃g,bindArgs (PySem.W.fnOf m qual (gZ st) (gA st) (aF st) (.ref T) kV doc pm an eV ct) ⟨us,[]⟩=seqItems? (.ref T) >>= g/\g (some #[.none])=pure (ps.zip (us++[.none]))):DmD K C m qual st ps :=
 {
  f:=f,fd:=_,F:=⟨⟨_,_,_,_,_,_,_,_,_,_,Z,l,c⟩,k⟩,
  b:=λs us X hl=>by
   rw[lR]at hl ⊢
   obtain⟨g,e1,e2⟩:=h kV doc pm an eV ct us hl
   exact BindsTo.of_defaults Z (X _ _ lT) Z e1 e2,
  b1:=λs us X hl=>by
   obtain⟨g,e1,e2⟩:=h1 kV doc pm an eV ct us (by rw[cC]at hl;exact hl)
   exact BindsTo.of_defaults Z (X _ _ lT) Z e1 e2,
  mt:=⟨a,i,k⟩}
end L2
namespace Dy
open PyProof.Rows
section
variable{prog:Program}{w:World}{A:Around}{E:Value->Shared->Prop}{s:Shared}{κ:Type} [DecidableEq κ] {knd:HeapKind prog w κ}
def Rj{d a:Addr}{xs:List (κ×Addr×Value)}{k:κ}{v:Value}{Q:Value->Shared->Prop}(hu:knd.room A)(hkey:knd.is s.heap k a)(hm:s.heap.DictOfH knd d xs)(hz:xs.length<=sizeLine)
  (old:∀p tk,atKey xs k=some p->Q p.2 { s with toks:=tk}) (new:∀h' tk,atKey xs k=none->h'.DictOfH knd d (xs++[(k,a,v)])->Heap.SameBut d s.heap h'->Q v { s with heap:=h',toks:=tk}) :
  wpAny (model prog w) A (dictSetDefault d (.ref a) v) Q E s:=by
 obtain⟨o,es,ep,ho,hc,hd,he,his,hn⟩:=hm;have hes:es.size<=sizeLine:=by have e:=T9 he;omega
 unfold dictSetDefault;try with_reducible refine fL ?_
 refine M (knd.pyHash hu hkey ?_);refine M (wpAny_dictFind_heap (s:={ s with toks:=s.toks+knd.draws k}) hu hkey ho hd he his hn ?_ ?_)
 ·intro hno;have none_:=atKey_none_of_get hno;have hnot:k∉xs.map (·.1):=not_mem_keys_of_get hno;refine M (kY (M (wpAny_updateDictKeys (hz:=hes) (s:={ s with toks:=s.toks+knd.draws k}) ho hd (ao (new _ _ none_ ⟨_,_,ep+1,Dv _ ho (Obj.isFreed_of_dict (Obj.data_mapDictKeys hd _)),hc.mapDictKeys _,Obj.data_mapDictKeys hd _,?_,?_,?_⟩ (rT ..))))))
  ·simp[he,entryOfKey]
  ·intro x hx;rcases cN.mp hx with hx|hx
   ·exact knd.keeps (his x hx) ho hd (rT ..)
   ·rw[bL.mp hx];exact knd.keeps hkey ho hd (rT ..)
  ·rw[eO];exact xO.mpr ⟨hn,Du _ _,λx hx y hy e=>hnot (by rw[<-show y=k from bL.mp hy,<-e];exact hx)⟩
 ·intro j q hj;have hej:es[j]?=some (entryOfKey knd (k,q)):=by rw[entry_at he j,hj];rfl
  refine M (tE (s:={ s with toks:=s.toks+knd.draws k}) ho hd ?_);rw[hej];exact M (kY (ao (old q _ (atKey_of_get hn hj))))
def Eu{d a:Addr}{k:κ}{v:Value}(hs:(d==sysModules)=false):MeetsIn prog w (Builtin.«dict.setdefault» ⟨[.ref d,.ref a,v],[]⟩) (λA R s=>knd.room A.in1/\∃xs,knd.is s.heap k a/\s.heap.DictOfH knd d xs/\xs.length<=sizeLine/\
   (∀p tk,atKey xs k=some p->R (.ok (.ret p.2)) { s with toks:=tk})/\∀h' tk,atKey xs k=none->h'.DictOfH knd d (xs++[(k,a,v)])->Heap.SameBut d s.heap h'->R (.ok (.ret v)) { s with heap:=h',toks:=tk}) :=
 .of_wp λA R s h=>by
  obtain⟨hu,xs,hkey,hm,hz,old,new⟩:=h;obtain⟨o,es,ep,ho,hc,hd,he,his,hn⟩:=id hm;have hT:s.TypeIs (.ref d) "dict" :=⟨_,ho,hc.1⟩;unfold Builtin.«dict.setdefault»;refine M ?_;unfold Builtin.Dict.keyAndDefault;refine M (Ig hT ?_);show wpAny _ _ (pure (d,Value.ref a,some v)) _ _ s;refine ao ?_;dsimp only;rw[hs];simp only[Bool.false_eq_true,if_false];exact M (Rj hu hkey hm hz (λp tk e=>ao ⟨_,Z,old p tk e⟩) λh' tk e hD sb=>ao ⟨_,Z,new h' tk e hD sb⟩)
end
end Dy
namespace L2
open PyProof.Rows Bg
section
variable{X:Cx}
inductive a4G(x:V)(vs:List V)(H:Hp)(Q:VK):Prop
 |mk (a b:Addr) (k:List Key) (O:List (List Key×V)) (v:V) (_:x=.ref a) (_:vs=[.ref b,v]) (_:H b=some (.tup (k.map kV))) (_:H a=some (.dT O)) (_:Q ((gJ O k).getD v) H)
def a0i(hu:X.A.units+1<cLine):U4 X "dict.get" a4G:=by
 intro Y s σ H x xs v us Q I rx rs h;obtain⟨a,b,k,O,y,rfl,rfl,hb,e,q⟩:=h;obtain rfl:v=Value.ref a:=rx;obtain⟨u,u2,rfl,ru,Ţ⟩:=vals2 rs;obtain rfl:u=Value.ref b:=ru;obtain⟨z,hd,xs,rel,dd⟩:=Js I.hok e;exact call_meetsIn Ih dd.typeIs PySem.F.entry_dict_get (PySem.F.args_dict_get_3 _ _ _) (meetsH_dict_get_default (tupleKind (cO X.prog X.w)) a b hd u2) ⟨Aa hu,k,xs,Ep I.hok hb,dd,⟨_,H,I.tok _,(rel.val k).getD Ţ,q⟩⟩
end
end L2
namespace Dk
open PyProof.Rows
variable{b:Bool}
def a4H(b:Bool)(v:Value):Bool:=match v with
 |.bool c=>c==b
 |_=>false
def qx{v:Value}(h:a4H b v=true):v=.bool b:=by
 cases v with
 |bool c=>exact congrArg Value.bool (eq_of_beq h)
 |_=>cases h
section
variable{prog:Program}{w:World}{A:Around}{E:Value->Shared->Prop}{s:Shared}
def YT{Q : Int → Shared → Prop}(h : Q (if b then 1 else 0) { s with toks := s.toks + 1 }) : wpAny (model prog w) A (pyHash (.bool b)) Q E s := by
  unfold pyHash;have hv : [Value.bool b].any Value.onHeap = false := rfl;refine M ?_;rw [cRoomFor, aA ()]; refine ao ?_;refine M (Ir (DW s b) F.slot_bool_hash.lookup ?_);show wpAny _ _ (if (some (Value.builtin "int.__hash__") == some Value.none) = true then _ else _) Q E s;rw [aA ()];refine M (Ir (DW s b) F.slot_bool_hash.lookup ?_);show wpAny _ _ (callSpecialIfBoundUnlessNone? (.bool b) "__hash__" _ >>= _) Q E s;cases b
  · refine M (ZW (DW s false) N7
      (gC N7 (DW s false) entry_int_hash
        (show wpAny _ _ (do ret (← mkInt 0)) _ _ s from wpAny_ret_mkInt ?_) (args_int_hash _)))
    exact ao h
  · refine M (ZW (DW s true) N7
      (gC N7 (DW s true) entry_int_hash
        (show wpAny _ _ (do ret (← mkInt 1)) _ _ s from wpAny_ret_mkInt ?_) (args_int_hash _)))
    exact ao h
def Ĉ{a:Bool}{Q:Bool->Shared->Prop}(h:Q (decide (a=b)) s):wpAny (model prog w) A (eqBool (.bool a) (.bool b)) Q E s:=by
 unfold eqBool;show wpAny _ _ (if(Value.bool a==Value.bool b)=true then _ else _) Q E s;by_cases hab:(Value.bool a==Value.bool b)=true
 ·rw[aG hab];have e:a=b:=()
  subst e;exact M (kY (ao (by simpa using h)))
 ·rw[aA hab];refine M (eq_bool (DQ ?_));grind
end
def Ju(prog:Program)(w:World):KeyKind prog w Bool where
 is:=a4H
 hash:=λb=>if b then 1 else 0
 inj:=λv a b h h'=>by
  have e:=qx h
  have e':=qx h'
  rw[e]at e'
  injection e'
 byValue:=λk v h=>by rw[qx h];rfl
 pyHash:=λhv h=>by rw[qx hv];exact YT h
 eqBool:=λhu hv h=>by rw[qx hu,qx hv];exact Ĉ h
 «strs» := λk x t v h=>by cases h
end Dk
namespace L2
open PyProof.Rows Bg
section
variable{P:Program}{w:World}{κ:Type} [DecidableEq κ]
inductive Vs(knd:KeyKind P w κ)(H:Hp)(b:Addr)(k:List κ):Prop
 |mk (vs:_) (_:H b=some (.tup vs)) (_:Paired (λv x=>∀u,cV v u->knd.is x u=true) vs k)
def Vs.same{knd:KeyKind P w κ}{H H':Hp}{b:Addr}{k:List κ}(e:∀c ys,H c=some (.tup ys)->H' c=some (.tup ys))(h:Vs knd H b k):Vs knd H' b k:=by
 obtain⟨vs,h1,h2⟩:=h;exact⟨vs,e _ _ h1,h2⟩
def a2I{knd:KeyKind P w κ}{vs:List V}{k:List κ}{us:List Value}(p:Paired (λv x=>∀u,cV v u->knd.is x u=true) vs k)(q:dz vs us):ItemsAre knd k us:=by
 induction p generalizing us with
 |nil=>cases q;exact .nil
 |cons h _ ih =>
  cases q with
  |cons r s=>exact .cons (h _ r) (ih s)
def Pu{knd:KeyKind P w κ}{H:Hp}{h:Heap}{b:Addr}{k:List κ}(ok:zE P w H h)(e:Vs knd H b k):(tupleKind knd).is h k b:=by
 obtain⟨vs,e1,e2⟩:=e;obtain⟨_,cA,r,o,h1,h2,n,h3⟩:=(show fZ P w H h b (.tup vs)from ok b _ e1);exact⟨o,cA.toArray,n,h1,h2,h3,by simpa using a2I e2 r⟩
def ĉ(knd:KeyKind P w κ)(a:Addr)(xs:List (List κ×Addr×Value)):Heap->Prop:=λh=>(a==sysModules)=false/\∃o es ep,h.get? a=some o/\o.ExactDict/\o.data=.dict es ep/\es.toList=xs.map (entryOfKey (tupleKind knd))/\(xs.map (·.1)).Nodup
def DX(knd:KeyKind P w κ)(H:Hp)(a:Addr)(O:List (List κ×V)):Prop:=O.length<=5000/\((O=[]/\H a=some (.dT []))\/∃xs:List (List κ×Addr×Value),H a=some (.ext (ĉ knd a xs))/\Paired (λp q=>p.1=q.1/\Vs knd H q.2.1 p.1/\cV p.2 q.2.2) O xs)
def DX.same{knd:KeyKind P w κ}{H H':Hp}{a:Addr}{O:List (List κ×V)}(e:aJ H H')(h:DX knd H a O):DX knd H' a O:=by
 obtain⟨z,h|⟨xs,h1,h2⟩⟩:=h
 ·exact⟨z,.inl ⟨h.1,e _ _ h.2⟩⟩
 ·exact⟨z,.inr ⟨xs,e _ _ h1,Paired.bV h2 λ_ _ ⟨a,b,c⟩=>⟨a,b.same λ_ _ q=>e _ _ q,c⟩⟩⟩
def DX.a1A{knd:KeyKind P w κ}{H:Hp}{a:Addr}{O:List (List κ×V)}(h:DX knd H a O){ys:List V}:H a≠some (.tup ys):=λe=>by
 obtain⟨z,h|⟨xs,h1,h2⟩⟩:=h
 ·grind
 grind
def DX.new{knd:KeyKind P w κ}{H:Hp}{a:Addr}(h:H a=some (.dT [])):DX knd H a []:=⟨dh _,.inl ⟨Z,h⟩⟩
def Ċ{knd:KeyKind P w κ}{H:Hp}{h:Heap}{a:Addr}{O:List (List κ×V)}(ok:zE P w H h)(d:DX knd H a O):(a==sysModules)=false/\∃xs,Paired (λp q=>p.1=q.1/\Vs knd H q.2.1 p.1/\cV p.2 q.2.2) O xs/\h.DictOfH (tupleKind knd) a xs:=by
 obtain⟨z,⟨rfl,h1⟩|⟨xs,h1,h2⟩⟩:=d
 ·obtain⟨_,hs,xs,r,o,es,ep,e1,e2,e3,e4,e5⟩:=(show fZ P w H h a (.dT [])from ok a _ h1);cases r;exact⟨hs,[],.nil,o,es,ep,e1,e2,e3,e4,(λx hx=>absurd hx dW),Ad⟩
 ·obtain⟨⟨hs,o,es,ep,e1,e2,e3,e4,e5⟩,_⟩:=(show fZ P w H h a (.ext (ĉ knd a xs))from ok a _ h1);refine⟨hs,xs,h2,o,es,ep,e1,e2,e3,e4,?_,e5⟩;have all:∀{l:List (List κ×V)}{m:List (List κ×Addr×Value)},Paired (λp q=>p.1=q.1/\Vs knd H q.2.1 p.1/\cV p.2 q.2.2) l m->∀x∈m,(tupleKind knd).is h x.1 x.2.1:=by
   intro l m q
   induction q with
   |nil=>grind
   |cons z _ ih =>
    intro x hx;rcases b7.mp hx with rfl|hx
    ·rw[<-z.1];exact Pu ok z.2.1
    ·exact ih x hx
  exact all h2
def a0j{knd:KeyKind P w κ}{H':Hp}{h':Heap}{a:Addr}{xs:List (List κ×Addr×Value)}(hs:(a==sysModules)=false)(dd:h'.DictOfH (tupleKind knd) a xs):fZ P w H' h' a (.ext (ĉ knd a xs)):=by
 obtain⟨o,es,ep,h1,h2,h3,h4,_,h5⟩:=dd;refine⟨⟨hs,o,es,ep,h1,h2,h3,h4,h5⟩,⟨o,h1⟩,λg1 g2 q k=>?_⟩;obtain⟨hs,o,es,ep,h1,h2,h3,h4,h5⟩:=q;exact⟨hs,o,es,ep,k _ h1,h2,h3,h4,h5⟩
def a4I{knd:KeyKind P w κ}{H:Hp}(k:List κ){O:List (List κ×V)}{xs:List (List κ×Addr×Value)}(h:Paired (λp q=>p.1=q.1/\Vs knd H q.2.1 p.1/\cV p.2 q.2.2) O xs):sJ (gJ O k) ((atKey xs k).map (·.2)):=by
 induction h with
 |nil=>exact nO
 | @cons p q O xs h t ih =>
  obtain⟨k1,v1⟩:=p;obtain⟨k2,a2,u2⟩:=q;obtain⟨e,_,r⟩:=h;have e:k1=k2:=e;subst e;unfold gJ atKey at ih ⊢;by_cases c:k1=k
  ·rw[zV (),zV ()];exact r
  ·rw[zW (by simpa using c),zW (by simpa using c)];exact ih
end
section
variable{X:Cx}{κ:Type} [DecidableEq κ]
inductive ċ{P:Program}{w:World}(knd:KeyKind P w κ)(x:V)(vs:List V)(H:Hp)(Q:VK):Prop
 |mk (a b:Addr) (k:List κ) (O:List (List κ×V)) (v:V) (_:x=.ref a) (_:vs=[.ref b,v]) (_:Vs knd H b k) (_:DX knd H a O) (_:O.length<=4000) (_:(∀y,gJ O k=some y->Q y H)) (_:(gJ O k=none->∀H',(∀c,c≠a->H' c=H c)->DX knd H' a (O++[(k,v)])->Q v H'))
def yg(knd:KeyKind X.prog X.w κ)(hu:X.A.units+1<cLine):U4 X "dict.setdefault" (ċ knd):=by
 intro Y s σ H x xs v us Q I rx rs h;obtain⟨a,b,k,O,y,rfl,rfl,hb,e,l5,old,new⟩:=h;obtain rfl:v=Value.ref a:=rx;obtain⟨u,u2,rfl,ru,Ţ⟩:=vals2 rs;obtain rfl:u=Value.ref b:=ru;obtain⟨hd,xs,rel,dd⟩:=Ċ I.hok e;have lx:xs.length=O.length:=(aV rel).symm;have rv:=a4I k rel;have hr:(tupleKind knd).room X.A.in1:=Aa hu;refine call_meetsIn PySem.F.slot_dict_setdefault dd.typeIs PySem.F.entry_dict_setdefault (PySem.F.args_dict_setdefault_3 _ _ _) (Dy.Eu (knd:=tupleKind knd) (k:=k) hd) ⟨hr,xs,Pu I.hok hb,dd,by rw[jA];omega,λp tk ep=>?_,λh' tk en dd' hs=>?_⟩
 ·have ev:(atKey xs k).map (·.2)=some p.2:=by rw[ep];rfl
  cases c:gJ O k with
  |none =>
   rw[c]at rv;have:=sJ.none_of rv;grind
  |some y0 =>
   rw[c]at rv;obtain⟨w',hw,Yl⟩:=sJ.some_of rv;rw[ev]at hw;cases hw;exact⟨y0,H,I.tok tk,Yl,old y0 c⟩
 ·have he:∃q,h'.get? a=some q:=by
   obtain⟨q,_,_,hq,_⟩:=dd';exact⟨q,hq⟩
  have cn:gJ O k=none:=by
   cases c:gJ O k with
   |none=>rfl
   |some y0 =>
    rw[c]at rv;obtain⟨w',hw,_⟩:=sJ.some_of rv;grind
  have mu:Mut (H a):=by
   obtain⟨_,h|⟨xs,h1,_⟩⟩:=e
   ·rw[h.2];exact nO
   ·rw[h1];exact nO
  have nt:=λys=>e.a1A (ys:=ys);have keep:∀c ys,H c=some (.tup ys)->cI H a (.ext (ĉ knd a (xs++[(k,b,u2)]))) c=some (.tup ys):=λc ys hc=>by
   rw[aO (λz=>nt ys ())];exact hc
  refine⟨y,_,Pq I mu hs he (a0j hd dd'),Ţ,new cn _ (λc hc=>aO hc) ⟨(),.inr ⟨_,cP,?_⟩⟩⟩;have go:∀{ks:List (List κ×V)}{ys:List (List κ×Addr×Value)},Paired (λp q=>p.1=q.1/\Vs knd H q.2.1 p.1/\cV p.2 q.2.2) ks ys->Paired (λp q=>p.1=q.1/\Vs knd (cI H a (.ext (ĉ knd a (xs++[(k,b,u2)])))) q.2.1 p.1/\cV p.2 q.2.2) (ks++[(k,y)]) (ys++[(k,b,u2)]):=λ{ks ys} r=>by
   induction r with
   |nil=>exact .cons ⟨Z,hb.same keep,Ţ⟩ .nil
   |cons a _ ih=>exact .cons ⟨a.1,a.2.1.same keep,a.2.2⟩ ih
  exact go rel
inductive a4J{P:Program}{w:World}(knd:KeyKind P w κ)(x:V)(vs:List V)(H:Hp)(Q:VK):Prop
 |mk (a b:Addr) (k:List κ) (O:List (List κ×V)) (v:V) (_:x=.ref a) (_:vs=[.ref b,v]) (_:Vs knd H b k) (_:DX knd H a O) (_:Q ((gJ O k).getD v) H)
def WY(knd:KeyKind X.prog X.w κ)(hu:X.A.units+1<cLine):U4 X "dict.get" (a4J knd):=by
 intro Y s σ H x xs v us Q I rx rs h;obtain⟨a,b,k,O,y,rfl,rfl,hb,e,q⟩:=h;obtain rfl:v=Value.ref a:=rx;obtain⟨u,u2,rfl,ru,Ţ⟩:=vals2 rs;obtain rfl:u=Value.ref b:=ru;obtain⟨hd,xs,rel,dd⟩:=Ċ I.hok e;exact call_meetsIn Ih dd.typeIs PySem.F.entry_dict_get (PySem.F.args_dict_get_3 _ _ _) (meetsH_dict_get_default (tupleKind knd) a b hd u2) ⟨Aa hu,k,xs,Pu I.hok hb,dd,⟨_,H,I.tok _,(a4I k rel).getD Ţ,q⟩⟩
def tBX{P:Program}{w:World}(knd:KeyKind P w κ)(r:V->List V->Hp->VK->Prop)(to:TE)(t:TA):TE:=λσ H Q=>to σ H λx H1=>(∃a O,x=.ref a/\DX knd H1 a O)/\t σ H1 λxs H2=>r x xs H2 Q
def Px{o e:Expr}{es:List Expr}{to:TE}{t:TA}{name:Str}{apos cpos:Pos}{id:String}{r:V->List V->Hp->VK->Prop}(knd:KeyKind X.prog X.w κ)(pa:PlainAttrs "dict")(slot:Slot "dict" name id)(hty:typeOf (.builtin id)=pure (.type "method_descriptor"))(hm:U4 X id r)(ho:PE X o to)(ha:PA X (e::es) t)
  (hbase:@&(attributeBase o name X.env (eval o X.env)=eval o X.env))
  (hfew:@&(((backTo cpos (starEach (e::es) X.env)).all (λx=>!x.1)&&(backToKw cpos (keywordEach [] X.env)).all (λx=>x.1.isSome)
   && decide ((e::es).length+([]:List Keyword).length+(if([]:List Keyword).isEmpty then 0 else 1)<30))=true))
  (hline:@&((apos.endLine==cpos.line)=true)) (hs:@&(starEach (e::es) X.env=(false,eval e X.env)::starEach es X.env)) (hplain:@&((backTo cpos (starEach es X.env)).any (·.1)=false)) :
  PE X (.Call (.Attribute o name apos) (e::es) [] cpos) (tBX knd r to t):=by
 intro Y s σ H Q I h;refine wpAny_Call_method_late hbase hfew hline Z (jJ (ho Y s σ H _ I h) λv s1 ⟨x,H1,I1,r1,⟨a,O,ex,dx⟩,q1⟩=>?_);subst ex;obtain rfl:v=Value.ref a:=r1;obtain⟨_,xs,_,dd⟩:=Ċ I1.hok dx;refine⟨"dict",id,pa,slot,hty,dd.typeIs,λb eb=>?_,?_⟩
 ·injection eb with eb
  subst eb;obtain⟨o,_,_,h1,h2,_⟩:=dd;exact⟨o,h1,h2.2.1⟩
 have hA:=ha cpos Y s1 σ H1 _ I1 q1;rw[hs]at hA ⊢;refine SJ (by show(false||(backTo cpos (starEach es X.env)).any (·.1))=false;rw[hplain]<;>rfl) (Calls.evalArgs_plain ?_);exact jJ hA λus s2 ⟨vs,H2,I2,r2,q2⟩=>hm Y s2 σ H2 (.ref a) vs _ us Q I2 Z r2 q2
end
end L2
namespace Di
open PyProof.Rows
variable{o:Obj}{es:Array DictEntry}{ep:Nat}
variable{prog:Program}{w:World}{A:Around}{E:Value->Shared->Prop}{s:Shared}
abbrev vO(d:Addr):Obj:={ cls:=.type "dict_items",data:=.fields #[.ref d]}
def Č{d:Addr}{Q:Value->Shared->Prop}(hs:(d==sysModules)=false)(ho:s.heap.get? d=some o)(hx:o.ExactDict)
  (h:Q (.ref s⁻¹) { s with heap:=s.heap.push (vO d)}):wpAny (model prog w) A (call (.builtin "dict.items") [.ref d]) Q E s:=by
 have hT:s.TypeIs (.ref d) "dict" :=⟨_,ho,hx.1⟩;refine gC F.slot_dict_items hT F.entry_dict_items ?_ (F.args_dict_items_1 _);unfold Builtin.«dict.items»;refine M ?_;unfold Builtin.Dict.noArgs;refine M (Ig hT (ao ?_));refine M ?_;unfold Builtin.Dict.showsAll;refine jR (L2.ye () (ao ?_));exact M (kI (ao ⟨_,Z,h⟩))
def Cw{v d:Addr}{Q:Value->Shared->Prop}(hv:s.heap.get? v=some (vO d))(ho:s.heap.get? d=some o)(hd:o.data=.dict es ep)
  (h:∀h',IsItemIter h' s⁻¹ d 0 es.size ep .none .none->(∀b ob,s.heap.get? b=some ob->h'.get? b=some ob)->Q (.ref s⁻¹) { s with heap:=h'}):wpAny (model prog w) A (pyIter (.ref v)) Q E s:=by
 have hT:s.TypeIs (.ref v) "dict_items" :=⟨_,hv,Z⟩;refine Im hT F.slot_dict_items_iter (gC F.slot_dict_items_iter hT F.entry_dict_items_iter ?_ (F.args_dict_items_iter_1 _));unfold Builtin.«dict_items.__iter__»;refine M (ao ?_);refine M ?_;unfold Builtin.Dict_items.dictOf;refine M (gk hv Z (x:=.ref d) Z (ao ?_));refine M ?_;unfold Builtin.Dict_items.newIterator;refine M (tE ho hd ?_);refine M (xR ho hd ?_);have own:Builtin.Dict_items.ownsTuple "dict_itemiterator" = true:=()
 simp only[own,if_true];refine kI ?_ (by simp only[sizeOk,sizeLine_eq,Builtin.Dict_items.ownedTupleFields,List.size_toArray,List.length_append,List.length_cons,List.length_nil];omega);exact ao ⟨_,Z,"dict_itemiterator",_,⟨_,bU _ Z,Z⟩,F.slot_dict_itemiterator_next.lookup,h _ (bU _ Z) λb ob e=>bJ _ e⟩
def item_at{it d:Addr}{i:Nat}{e:DictEntry}{ok ov:Value}{Q:Option Value->Shared->Prop}(ho:s.heap.get? d=some o)(hd:o.data=.dict es ep)(hit:IsItemIter s.heap it d i es.size ep ok ov)(hx:es[i]?=some e)
  (h:∀h',IsItemIterOut h' it d (i+1) es.size ep e.key e.val s⁻¹->h'.get? s⁻¹=some { cls:=.type "tuple",data:=.seq #[e.key,e.val]}->h'.objs.size=s⁻¹+1->
   (∀b ob,b≠it->s.heap.get? b=some ob->h'.get? b=some ob)->Q (some (.ref s⁻¹)) { s with heap:=h'}):wpAny (model prog w) A (pyNext (.ref it)) Q E s:=by
 have hT:s.TypeIs (.ref it) "dict_itemiterator" :=⟨_,hit,Z⟩;have own:Builtin.Dict_items.ownsTuple "dict_itemiterator" = true:=()
 unfold pyNext;refine M (tL (oJ (name:=Str.ofString "__next__") hT Ni (gC Ni hT Z2 ?_ (Z1 _))));refine M (ao ?_);refine M ?_;refine M ?_;refine M (m:=typeNameOfWhole _) (Ng hT (ao ?_));refine M (Eb hit Z ?_);rw[aG own];show wpAny _ _ (if(Value.ref d==Value.none)=true then _ else _) _ _ _;refine jR (L2.ye (by simp) ?_);refine M (m:=Builtin.Dict_items.addrOf _) (ao ?_);refine M (tE ho hd ?_);refine jR (L2.ye (by simp) ?_);refine M (m:=Builtin.Dict_items.addrOf _) (ao ?_);refine M (xR ho hd ?_);refine jR (L2.ye (by simp) (ao ?_));dsimp only;have e1:(if(i:Int)<0 then none else es[(i:Int).toNat]?)=some e:=by
  rw[aA (),jz];exact hx
 rw[e1];dsimp only;refine M (M (m:=typeNameOfWhole _) (Ng hT (ao (M (SQ hT ?_)))));show wpAny _ _ (setField (.ref it) 3 (rawInt ((i:Int)+1)) >>= _) _ _ _;refine M (iV hit (by simp) λh1 he1 Em=>?_);have q1:((i+1:Nat):Int)=(i:Int)+1:=()
 have a4K:IsItemIter h1 it d (i+1) es.size ep ok ov:=by unfold IsItemIter;rw[q1];simpa [rawInt]using he1
 have hT1:Shared.TypeIs { s with heap:=h1} (.ref it) "dict_itemiterator" :=⟨_,a4K,rfl⟩;have z1:h1.objs.size=s⁻¹:=Em.1;have il:it<s⁻¹:=aX hit;refine M (fL (M (SQ hT1 (M (SQ hT1 ?_)))));show wpAny _ _ (Builtin.Dict_items.pairFromOwner (.ref it) 6 e.key e.val) _ _ { s with heap:=h1};unfold Builtin.Dict_items.pairFromOwner;refine M (Iu ?_);have he2:IsItemIter (h1.push { cls:=.type "tuple",data:=.seq #[e.key,e.val]}) it d (i+1) es.size ep ok ov:=bJ _ a4K;have t2:(h1.push { cls:=.type "tuple",data:=.seq #[e.key,e.val]}).get? s⁻¹=some { cls:=.type "tuple",data:=.seq #[e.key,e.val]}:=by rw[<-z1];exact bU _ rfl
 have z2:(h1.push { cls:=.type "tuple",data:=.seq #[e.key,e.val]}).objs.size=s⁻¹+1:=by rw[kW,z1]
 have k2:∀b ob,b≠it->s.heap.get? b=some ob->(h1.push { cls:=.type "tuple",data:=.seq #[e.key,e.val]}).get? b=some ob:=λb ob hb q=>bJ _ (Em.extBut b ob hb q);rw[z1];generalize h1.push { cls:=.type "tuple",data:=.seq #[e.key,e.val]}=h2 at he2 t2 z2 k2;refine M ?_;unfold Builtin.Dict_items.ownedTupleIsFree;refine M (gk he2 Z (x:=.none) Z (ao ?_));simp only[if_true];refine M (gk he2 Z (x:=ok) Z (M (gk he2 Z (x:=ov) Z ?_)));refine M (iV he2 (by simp) λh3 he3 s3=>?_);have he3:IsItemIter h3 it d (i+1) es.size ep e.key ov:=he3;refine M (iV he3 (by simp) λh4 he4 s4=>?_);have he4:IsItemIter h4 it d (i+1) es.size ep e.key e.val:=he4;refine M (iV he4 (by simp) λh5 he5 s5=>?_);have he5:IsItemIterOut h5 it d (i+1) es.size ep e.key e.val s⁻¹:=he5;refine M (iV he5 (by simp) λh6 he6 s6=>?_);have he6:IsItemIterOut h6 it d (i+1) es.size ep e.key e.val s⁻¹:=he6;have up:∀b ob,b≠it->h2.get? b=some ob->h6.get? b=some ob:=λb ob hb q=>s6.extBut b ob hb (s5.extBut b ob hb (s4.extBut b ob hb (s3.extBut b ob hb q)));refine M (xW (ao (ao ⟨_,Z,ao (h h6 he6 (up _ _ (gD il) t2) ?_ λb ob hb q=>up b ob hb (k2 b ob hb q))⟩)));show h6.objs.size=_;rw[s6.1,s5.1,s4.1,s3.1];exact z2
def Jp{it d:Addr}{ok ov:Value}{Q:Option Value->Shared->Prop}(hh:A.handled=none)(ho:s.heap.get? d=some o)(hd:o.data=.dict es ep)(hit:IsItemIter s.heap it d es.size es.size ep ok ov)
  (h:∀h',Heap.ExtBut it s.heap h'->Q none { s with heap:=h'}):wpAny (model prog w) A (pyNext (.ref it)) Q E s:=by
 have hT:s.TypeIs (.ref it) "dict_itemiterator" :=⟨_,hit,Z⟩;have own:Builtin.Dict_items.ownsTuple "dict_itemiterator" = true:=()
 unfold pyNext;refine M (tL (oJ (name:=Str.ofString "__next__") hT Ni (gC Ni hT Z2 ?_ (Z1 _))));refine M (ao ?_);refine M ?_;refine M ?_;refine M (m:=typeNameOfWhole _) (Ng hT (ao ?_));refine M (Eb hit Z ?_);rw[aG own];show wpAny _ _ (if(Value.ref d==Value.none)=true then _ else _) _ _ _;refine jR (L2.ye (by simp) ?_);refine M (m:=Builtin.Dict_items.addrOf _) (ao ?_);refine M (tE ho hd ?_);refine jR (L2.ye (by simp) ?_);refine M (m:=Builtin.Dict_items.addrOf _) (ao ?_);refine M (xR ho hd ?_);refine jR (L2.ye (by simp) (ao ?_));dsimp only;have e1:(if(es.size:Int)<0 then none else es[(es.size:Int).toNat]?)=none:=by rw[aA (),jz];simp
 rw[e1];dsimp only;refine M (M (m:=typeNameOfWhole _) (Ng hT (ao ?_)));show wpAny _ _ (setField (.ref it) 2 .none >>= _) _ _ _;refine M (iV hit (by simp) λh1 hI1 Em=>?_);refine M ?_;simp only[newExc,newTuple];refine M (kI ?_ (by size_fits));refine M (m:=firstArgMember _ _) (IV (a:=Value.none) (by first|rfl|(simp only[firstArgMember];rfl)) ?_);refine kI ?_ (by size_fits);simp only[raiseNew];refine M (Oe ?_);rw[show A.in1.handled=none from hh];refine M (ao (Oi ?_));exact M (vU (U:="StopIteration") (T:="StopIteration") (b:=true) ⟨_,bU _ Z,Z⟩ Iw (ao (h _ ((Em.extBut.push _).push _))))
end Di
namespace L2
open PyProof.Rows Bg
variable{o:Obj}{u:HO}{as:List Addr}
def W3(p d:Addr):HO:=.ext (λh=>h.get? p=some (Di.vO d))
def Iti(o:Obj)(d:Addr)(u:HO)(as:List Addr)(vs:List V):It :=
 ⟨λi H=>H d=some (.iC o u)/\i<as.length,λi H x H'=>∃p a v,x=.ref p/\as[i]?=some a/\vs[i]?=some v/\gW H p (.tup [.ref a,v]) H',λi H=>H d=some (.iC o u)/\i=as.length⟩
def Vt{P:Program}{w:World}{K:aH}{elts:List Expr}{k:Nat}{pos:Pos}(d it:Addr){vs:List V}{es:Array DictEntry}{ep:Nat}(hd:o.data=.dict es ep)(ek:es.toList.map (·.key)=as.map Value.ref)(ev:dz vs (es.toList.map (·.val))) :
  Turn P w K (.Tuple elts k pos) (Iti o d u as vs) [it] it (λi h=>∃ok ov,IsItemIter h it d i es.size ep ok ov) where
 mem:=by simp
 obj:=λi h st b hb=>by
  grind
 keep:=λi h h' ⟨ok,ov,st⟩ k=>⟨ok,ov,k it (by simp) _ st⟩
 item:=by
  intro X hP hw hK hc i Y s σ H E I hf st hg
  subst hP hw hK
  obtain⟨ok,ov,st⟩:=st
  obtain⟨hq,hi⟩:=hg
  obtain⟨hd1,_⟩:=I.hok d _ hq
  obtain⟨f0,f1,f2,f3,f4,f5⟩:=hf it (by simp)
  have ne:d≠it:=λz=>by grind
  have lz:es.size=as.length:=by have:=congrArg List.length ek;grind
  have he:es[i]?=some (es[i]'()):=xu ()
  have a2B:(es[i]'()).key=Value.ref as[i]:=by
   have:=congrArg (λl=>l[i]?) ek
   grind
  have lv:vs.length=as.length:=by
   have:=ev.length
   grind
  obtain⟨v,hv⟩:∃v,vs[i]?=some v:=⟨vs[i]'(),bR _⟩
  obtain⟨u1,hu1,ru1⟩:=ev.get hv
  have a6Y:(es[i]'()).val=u1:=by
   grind
  refine Di.item_at hd1 hd st he λh' hI ht hz kp=>⟨_,Z,wpAny_letOwnedTupleGo_items hI λh3 hI3 YH=>?_⟩
  have nit:s⁻¹≠it:=gD (aX st)
  have kp3:∀c oc,c∉[it]->s.heap.get? c=some oc->h3.get? c=some oc:=λc oc hc q=>by
   have hc':c≠it:=()
   exact(YH.2 c hc').trans (kp c oc hc' q)
  have I1:bI X Y σ H { s with heap:=h3}:=zp I [it] (λc hc=>hf c hc) kp3
  have hfree:H s⁻¹=none:=I.hok.fresh (aL _)
  have ht3:h3.get? s⁻¹=some { cls:=.type "tuple",data:=.seq #[(es[i]'()).key,(es[i]'()).val]}:=(YH.2 _ nit).trans ht
  have I2:bI X Y σ (cI H s⁻¹ (.tup [.ref as[i],v])) { s with heap:=h3}:=by
   refine bI.track I1 hfree I.sz (gD I.lt) (λy c q=>?_) (λp hp=>bW (aX (I.pin p hp).1)) ?_
   ·obtain⟨v,oc,q1,_⟩:=I.cell y c q
    grind
   ·exact⟨(by show 2<=sizeLine;decide),[(es[i]'()).key,(es[i]'()).val],.cons a2B (.cons () .nil),⟨_,ht3,Z,_,Z⟩⟩
  refine⟨.ref s⁻¹,_,I2,Z,⟨_,as[i],v,Z,bR hi,hv,gW.nY hfree⟩,⟨_,_,hI3⟩,λc hc=>?_⟩
  have e:c=it:=()
  subst e
  rw[aO (Ne.symm nit)]
  exact f0
 done:=by
  intro X hP hw hK hc i Y s σ H E I hf st hg
  subst hP hw hK
  obtain⟨ok,ov,st⟩:=st
  obtain⟨hq,hx⟩:=hg
  obtain⟨hd1,_⟩:=I.hok d _ hq
  obtain⟨f0,f1,f2,f3,f4,f5⟩:=hf it (by simp)
  have lz:es.size=as.length:=by have:=congrArg List.length ek;grind
  rw[hx,<-lz]at st
  exact Di.Jp (I.ok.hd hc) hd1 hd st λh' eb=>⟨Z,I.turned (t':=s.toks) (λb o hb e=>eb b o hb e) f0 f1 f3 f4 f5⟩
 self:=λ_ _ _ _ _ ⟨ok,ov,st⟩ h=>PySem.W.kcp_self st h
section
variable{X:Cx}
inductive a0k(x:V)(vs:List V)(H:Hp)(Q:VK):Prop
 |mk (d:Addr) (O:List (List Key×V)) (_:x=.ref d) (_:vs=[]) (_:H d=some (.dT O)) (_:∀p H',gW H p (W3 p d) H'->Q (.ref p) H')
def vh:U4 X "dict.items" a0k:=by
 intro Y s σ H x xs v us Q I rx rs h;obtain⟨d,O,rfl,rfl,e,q⟩:=h;obtain rfl:v=Value.ref d:=rx;cases rs;obtain⟨_,hs,xs,rel,o,es,ep,ho,hx,hdt,hes,_,_⟩:=Js I.hok e;refine Di.Č hs ho hx ?_;have g:(s.heap.push (Di.vO d)).get? s⁻¹=some (Di.vO d):=bU _ rfl;refine⟨.ref s⁻¹,_,I.laid (t':=s.toks) (o:=W3 s⁻¹ d) (λb ob eb=>bJ _ eb) (aL _) ⟨g,⟨_,g⟩,λh1 h2 e1 k=>k _ e1⟩,Z,q _ _ (gW.nY (I.hok.fresh (aL _)))⟩
def a0l(tl:TE):TI:=λσ H R=>tl σ H λx H1=>∃p d O,x=.ref p/\H1 p=some (W3 p d)/\H1 d=some (.dT O)/\
 ∀o as,Paired (λa (kv:List Key×V)=>(cI H1 d (.iC o (.dT O))) a=some (.tup (kv.1.map kV))) as O->R (Iti o d (.dT O) as (O.map (·.2))) (cI H1 d (.iC o (.dT O)))
def vo{elts:List Expr}{k:Nat}{tpos:Pos}{l:Expr}{tl:TE}(hl:PE X l tl):PI X (.Tuple elts k tpos) l (a0l tl):=by
 intro Y s σ H R I h;refine jJ (hl Y s σ H _ I h) λv s1 ⟨x,H1,I1,r1,q1⟩=>?_;obtain⟨p,d,O,e,hp,hd,q⟩:=q1;subst e;cases r1;obtain⟨_,hs,xs,rel,o,es,ep,ho,hx,hdt,hes,_,_⟩:=Js I1.hok hd;have hv:s1.heap.get? p=some (Di.vO d):=(show fZ X.prog X.w H1 s1.heap p (W3 p d)from I1.hok p _ hp).1;have I2:bI X Y σ (cI H1 d (.iC o (.dT O))) s1:=I1.Vp hd (λ_ z=>by cases z) (λ_ z=>by cases z) (λ_ z=>by cases z) (I1.WX hd λ_ _ z=>by cases z) ⟨ho,I1.hok d _ hd⟩;have ek:es.toList.map (·.key)=(xs.map λx=>x.2.1).map Value.ref:=by rw[hes,qt,qt];rfl
 have ev:dz (O.map (·.2)) (es.toList.map (·.val)):=by
  rw[hes,qt];have go:∀{ks:List (List Key×V)}{ys:List (List Key×Addr×Value)},KT H1 ks ys->dz (ks.map (·.2)) (ys.map λx=>x.2.2):=λ{ks ys} r=>by
   induction r with
   |nil=>exact .nil
   |cons a _ ih=>exact .cons a.2.2 ih
  exact go rel
 have pk:Paired (λa (kv:List Key×V)=>(cI H1 d (.iC o (.dT O))) a=some (.tup (kv.1.map kV))) (xs.map λx=>x.2.1) O:=by
  have go:∀{ks:List (List Key×V)}{ys:List (List Key×Addr×Value)},KT H1 ks ys->Paired (λa (kv:List Key×V)=>(cI H1 d (.iC o (.dT O))) a=some (.tup (kv.1.map kV))) (ys.map λx=>x.2.1) ks:=λ{ks ys} r=>by
   induction r with
   |nil=>exact .nil
   | @cons kv y _ _ a _ ih =>
    refine .cons ?_ ih;have nb:y.2.1≠d:=λz=>by grind
    rw[aO nb];exact a.2.1
  exact go rel
 refine Di.Cw hv ho hdt λh' hI kp=>⟨s1⁻¹,[s1⁻¹],_,_,_,Z,I2.kept (t':=s1.toks) (λb ob e=>kp b ob e),Vt d _ hdt ek ev,⟨_,_,hI⟩,λb hb=>?_,q o _ pk⟩;have e:b=s1⁻¹:=()
 subst e;exact I2.Gn (aL _) (I2.hok.fresh (aL _))
end
def wH{d:Addr}{vs:List V}{g:TG}{tb:TS}{D:Ends}{σ:St}{H:Hp}(Pv:Nat->St->Hp->Prop)(h0:Pv 0 σ H)(hl:∀i σ H,i<=as.length->Pv i σ H->H d=some (.iC o u))
  (hs:∀(i:Nat) a v σ H p H',as[i]?=some a->vs[i]?=some v->Pv i σ H->gW H p (.tup [.ref a,v]) H'->g (.ref p) σ H' λσ2 H2=>tb { D with nx:=Pv (i+1),ct:=Pv (i+1),bk:=D.nx} σ2 H2) (hd:∀σ H,Pv as.length σ H->D.nx σ H) :
  ∃W:Nat->Nat->St->Hp->Prop,(∃m,W 0 m σ H)/\∀i m σ H,W i m σ H->
   ((Iti o d u as vs).stop i H/\D.nx σ H)\/((Iti o d u as vs).go i H/\∃N:St->Hp->Prop,(∀σ' H',N σ' H'->∃m',m'<m/\W (i+1) m' σ' H')/\∀x H',(Iti o d u as vs).ZK i H x H'->g x σ H' λσ2 H2=>tb { D with nx:=N,ct:=N,bk:=D.nx} σ2 H2):=by
 refine⟨λi m σ H=>m=as.length-i/\i<=as.length/\Pv i σ H,⟨as.length,by simp,dh _,h0⟩,?_⟩;rintro i m σ H ⟨rfl,hi,p⟩;have q1:=hl i σ H hi p;by_cases hlt:i<as.length
 ·refine .inr ⟨⟨q1,hlt⟩,Pv (i+1),λσ' H' p'=>⟨as.length-(i+1),(),Z,hlt,p'⟩,λx H' y=>?_⟩;obtain⟨pp,a,v,rfl,ea,ev,nw⟩:=y;exact hs i a v σ H pp H' ea ev p nw
 ·have e:i=as.length:=()
  subst e;exact .inl ⟨⟨q1,Z⟩,hd σ H p⟩
def YW{d:Addr}{vs:List V}{ix:List (Option Nat)}{g:TG}{tt:TT}{te:TE}{σ:St}{H1:Hp}{Q:VK}(Pv:Nat->List V->Hp->Prop)(h0:Pv 0 [] H1)(hl:∀i ys H,i<=as.length->Pv i ys H->H d=some (.iC o u)/\ys.length<=5000)
  (hs:∀i ys H a v p H',as[i]?=some a->vs[i]?=some v->Pv i ys H->gW H p (.tup [.ref a,v]) H'->g (.ref p) (qu ix σ) H' λσ2 H2=>tt σ2 H2 λb H3=>if b=true then te σ2 H3 λv H4=>Pv (i+1) (ys++[v]) H4 else Pv (i+1) ys H3)
  (hd:∀ys H p,Pv as.length ys H->H p=none->Q (.ref p) (cI H p (.lst ys))):mW ix g tt te σ H1 Q (Iti o d u as vs):=by
 refine⟨λi m ys H=>m=as.length-i/\i<=as.length/\Pv i ys H,⟨as.length,by simp,dh _,h0⟩,?_⟩;rintro i m ys H ⟨rfl,hi,pp⟩;obtain⟨hx,z⟩:=hl i ys H hi pp;have z':ys.length<=sizeLine:=by rw[jA];omega
 by_cases hlt:i<as.length
 ·refine .inr ⟨⟨hx,hlt⟩,z',λys' H'=>Pv (i+1) ys' H',λys' H' p'=>⟨as.length-(i+1),(),Z,hlt,p'⟩,λx H' y=>?_⟩;obtain⟨p,a,v,rfl,ea,ev,nw⟩:=y;exact hs i ys H a v p H' ea ev pp nw
 ·have ei:i=as.length:=()
  subst ei;exact .inl ⟨⟨hx,Z⟩,z',λp hp=>hd ys H p pp hp⟩
end L2
namespace Z3
open PyProof.Rows
variable{a b c x:Value}{k n l1 l2 l3:Nat}{xs ys zs:Array Value}
abbrev KZ(h:Heap)(T:Addr)(a b c:Value):Prop:=h.get? T=some { cls:=.type "tuple",data:=.seq #[a,b,c]}
section
variable{prog:Program}{w:World}{A:Around}{E:Value->Shared->Prop}{s:Shared}
def put{T:Addr}{Q:Unit->Shared->Prop}(hT:KZ s.heap T a b c)
  (h:∀h',h'.get? T=some { cls:=.type "tuple",data:=.seq ((#[a,b,c]:Array Value).setIfInBounds k x)}->Heap.SameBut T s.heap h'->Q ⟨⟩ { s with heap:=h'}):wpAny (model prog w) A (updateSeq T (·.setIfInBounds k x)) Q E s:=by
 refine T8 hT Z (h _ ?_ (rT ..));rw[Dv _ hT rfl];simp[Obj.mapSeq]
def next_item{y v:Value}{Q:Value->Shared->Prop}(q1:l1<n)(q2:l2<n)(q3:l3<n)
  (hz:IsZip s.heap (n+5) (n+3) (n+4) .none) (hTI:KZ s.heap (n+3) (.ref n) (.ref (n+1)) (.ref (n+2))) (hTO:KZ s.heap (n+4) a b c)
  (h1:s.heap.IsListIter n l1 k) (h2:s.heap.IsListIter (n+1) l2 k) (h3:s.heap.IsListIter (n+2) l3 k) (hl1:s.heap.IsList l1 xs) (hl2:s.heap.IsList l2 ys) (hl3:s.heap.IsList l3 zs) (hx:xs[k]?=some x) (hy:ys[k]?=some y) (hv:zs[k]?=some v)
  (hQ:∀h',IsZip h' (n+5) (n+3) (n+4) (rawInt s⁻¹)->KZ h' (n+4) x y v->h'.IsListIter n l1 (k+1)->h'.IsListIter (n+1) l2 (k+1)->h'.IsListIter (n+2) l3 (k+1)->KZ h' s⁻¹ x y v->
   (∀e o,e≠n->e≠n+1->e≠n+2->e≠n+4->e≠n+5->s.heap.get? e=some o->h'.get? e=some o)->Q (.ref s⁻¹) { s with heap:=h'}) :
  wpAny (model prog w) A (Builtin.«zip.__next__» ⟨[.ref (n+5)],[]⟩) (λfin s'=>∃v,fin=.done (.ret v)/\Q v s') E s:=by
 have d41:((n+4):Nat)≠(n+1):=()
 have d42:((n+4):Nat)≠(n+2):=()
 have d54:((n+5):Nat)≠(n+4):=()
 have d52:((n+5):Nat)≠(n+2):=()
 have d51:((n+5):Nat)≠(n+1):=()
 have d50:((n+5):Nat)≠n:=()
 have d04:(n:Nat)≠(n+4):=()
 have d02:(n:Nat)≠(n+2):=()
 have d01:(n:Nat)≠(n+1):=()
 have d14:((n+1):Nat)≠(n+4):=()
 have d12:((n+1):Nat)≠(n+2):=()
 have d24:((n+2):Nat)≠(n+4):=()
 show wpAny _ _ (field (.ref (n+5)) 2 >>= _) _ _ _;refine M (gk hz Z (x:=.bool false) Z ?_);show wpAny _ _ (field (.ref (n+5)) 3 >>= _) _ _ _;refine M (gk hz Z (x:=.ref (n+3)) Z (M (oM hTI Z ?_)));show wpAny _ _ (Builtin.SmallTypes.ownedTupleIsFree (.ref (n+5)) >>= _) _ _ _;refine M ?_;unfold Builtin.SmallTypes.ownedTupleIsFree;refine M (gk hz Z (x:=.none) Z (ao ?_));simp only[if_true];refine M (kY (M (gk hz Z (x:=.ref (n+4)) Z ?_)));refine M (iV hz (by simp) λg1 z1 s1=>?_);have z1:IsZip g1 (n+5) (n+3) (n+4) .ellipsis:=z1;refine M ?_;simp only[List.zipIdx_cons,List.zipIdx_nil,List.forIn_cons,List.forIn_nil];have k1:∀e o,e≠n+5->s.heap.get? e=some o->g1.get? e=some o:=λe o he q=>s1.extBut e o he q;refine M (M (Ae ?_));show wpAny _ _ (Builtin.SmallTypes.nextOf (.ref n) >>= _) _ _ _;refine M (SX (h1.at λo q=>k1 _ o () q) (hl1.at λo q=>k1 _ o () q) hx λg2 i2 s2=>ao ?_);have k2:∀e o,e≠n+5->e≠n->s.heap.get? e=some o->g2.get? e=some o:=λe o he h0 q=>s2.extBut e o h0 (k1 e o he q);have t2:KZ g2 (n+4) a b c:=k2 _ _ () () hTO;refine M (oM t2 Z (M (put t2 λg3 t3 s3=>?_)));have t3:KZ g3 (n+4) x b c:=t3;refine M (xW (ao ?_));have k3:∀e o,e≠n+5->e≠n->e≠n+4->s.heap.get? e=some o->g3.get? e=some o:=λe o he h0 h4 q=>s3.extBut e o h4 (k2 e o he h0 q);refine M (M (Ae ?_));show wpAny _ _ (Builtin.SmallTypes.nextOf (.ref (n+1)) >>= _) _ _ _;refine M (SX (h2.at λo q=>k3 _ o () () () q) (hl2.at λo q=>k3 _ o () () () q) hy λg4 i4 s4=>ao ?_);have k4:∀e o,e≠n+5->e≠n->e≠n+4->e≠n+1->s.heap.get? e=some o->g4.get? e=some o:=λe o he h0 h4 h5 q=>s4.extBut e o h5 (k3 e o he h0 h4 q);have t4:KZ g4 (n+4) x b c:=s4.extBut (n+4) _ d41 t3;refine M (oM t4 Z (M (put t4 λg5 t5 s5=>?_)));have t5:KZ g5 (n+4) x y c:=t5;refine M (xW (ao ?_));have k5:∀e o,e≠n+5->e≠n->e≠n+4->e≠n+1->s.heap.get? e=some o->g5.get? e=some o:=λe o he h0 h4 h5 q=>s5.extBut e o h4 (k4 e o he h0 h4 h5 q);refine M (M (Ae ?_));show wpAny _ _ (Builtin.SmallTypes.nextOf (.ref (n+2)) >>= _) _ _ _;refine M (SX (h3.at λo q=>k5 _ o () () () () q) (hl3.at λo q=>k5 _ o () () () () q) hv λg6 i6 s6=>ao ?_);have t6:KZ g6 (n+4) x y c:=s6.extBut (n+4) _ d42 t5;refine M (oM t6 Z (M (put t6 λg7 t7 s7=>?_)));have t7:KZ g7 (n+4) x y v:=t7;refine M (xW (ao (ao ?_)));have k7:∀e o,e≠n->e≠n+1->e≠n+2->e≠n+4->e≠n+5->s.heap.get? e=some o->g7.get? e=some o:=λe o a0 a1 a2 a4 a5 q=>s7.extBut e o a4 (s6.extBut e o a2 (k5 e o a5 a0 a4 a1 q));refine M (oM t7 Z (M (Iu ?_)));have sz:g7.objs.size=s⁻¹:=by rw[s7.1,s6.1,s5.1,s4.1,s3.1,s2.1,s1.1]
 have z7:IsZip g7 (n+5) (n+3) (n+4) .ellipsis:=s7.extBut (n+5) _ d54 (s6.extBut (n+5) _ d52 (s5.extBut (n+5) _ d54 (s4.extBut (n+5) _ d51 (s3.extBut (n+5) _ d54 (s2.extBut (n+5) _ d50 z1)))));have i2':g7.IsListIter n l1 (k+1):=i2.at λo q=>s7.extBut n _ d04 (s6.extBut n _ d02 (s5.extBut n _ d04 (s4.extBut n _ d01 (s3.extBut n _ d04 q))));have i4':g7.IsListIter (n+1) l2 (k+1):=i4.at λo q=>s7.extBut (n+1) _ d14 (s6.extBut (n+1) _ d12 (s5.extBut (n+1) _ d14 q));have i6':g7.IsListIter (n+2) l3 (k+1):=i6.at λo q=>s7.extBut (n+2) _ d24 q;have nl:n+5<g7.objs.size:=aX z7;show wpAny _ _ (Builtin.SmallTypes.ownedTupleHandOut (.ref (n+5)) (.ref g7.objs.size) >>= _) _ _ _;refine M ?_;unfold Builtin.SmallTypes.ownedTupleHandOut;have z8:IsZip (g7.push { cls:=.type "tuple",data:=.seq #[x,y,v]}) (n+5) (n+3) (n+4) .ellipsis:=bJ _ z7;refine M (iV z8 (by simp) λg9 z9 s9=>?_);have z9:IsZip g9 (n+5) (n+3) (n+4) (rawInt g7.objs.size):=z9;refine iV z9 (by simp) λg10 z10 s10=>?_;have z10:IsZip g10 (n+5) (n+3) (n+4) (rawInt g7.objs.size):=z10;have up:∀e o,e≠n+5->g7.get? e=some o->g10.get? e=some o:=λe o he q=>s10.extBut _ _ he (s9.extBut _ _ he (bJ _ q));have ng:g7.objs.size≠n+5:=gD nl;have t10:KZ g10 g7.objs.size x y v:=s10.extBut g7.objs.size _ ng (s9.extBut g7.objs.size _ ng (bU _ Z));rw[sz]at z10 t10;refine ao ⟨_,Z,?_⟩;show Q (.ref g7.objs.size) _;rw[sz];exact hQ g10 z10 (up _ _ () t7) (i2'.at λo q=>up _ o () q) (i4'.at λo q=>up _ o () q) (i6'.at λo q=>up _ o () q) t10 λe o a0 a1 a2 a4 a5 q=>up e o a5 (k7 e o a0 a1 a2 a4 a5 q)
def Rk{y v:Value}{Q:Option Value->Shared->Prop}(q1:l1<n)(q2:l2<n)(q3:l3<n)
  (hz:IsZip s.heap (n+5) (n+3) (n+4) .none) (hTI:KZ s.heap (n+3) (.ref n) (.ref (n+1)) (.ref (n+2))) (hTO:KZ s.heap (n+4) a b c)
  (h1:s.heap.IsListIter n l1 k) (h2:s.heap.IsListIter (n+1) l2 k) (h3:s.heap.IsListIter (n+2) l3 k) (hl1:s.heap.IsList l1 xs) (hl2:s.heap.IsList l2 ys) (hl3:s.heap.IsList l3 zs) (hx:xs[k]?=some x) (hy:ys[k]?=some y) (hv:zs[k]?=some v)
  (hQ:∀h',IsZip h' (n+5) (n+3) (n+4) (rawInt s⁻¹)->KZ h' (n+4) x y v->h'.IsListIter n l1 (k+1)->h'.IsListIter (n+1) l2 (k+1)->h'.IsListIter (n+2) l3 (k+1)->KZ h' s⁻¹ x y v->
   (∀e o,e≠n->e≠n+1->e≠n+2->e≠n+4->e≠n+5->s.heap.get? e=some o->h'.get? e=some o)->Q (some (.ref s⁻¹)) { s with heap:=h'}) :
  wpAny (model prog w) A (pyNext (.ref (n+5))) Q E s:=by
 have hT:s.TypeIs (.ref (n+5)) "zip" :=⟨_,hz,Z⟩;unfold pyNext;exact M (tL (oJ (name:=Str.ofString "__next__") hT Ob (gC Ob hT F.entry_zip_next (next_item q1 q2 q3 hz hTI hTO h1 h2 h3 hl1 hl2 hl3 hx hy hv λh' a1 a2 a3 a4 a5 a6 a7=>ao (hQ h' a1 a2 a3 a4 a5 a6 a7)) (F.args_zip_next_1 _))))
def Vu{l2 l3:Nat}{a b c:Value}{Q:Option Value->Shared->Prop}(hh:A.handled=none)(q1:l1<n)
  (hz:IsZip s.heap (n+5) (n+3) (n+4) .none) (hTI:KZ s.heap (n+3) (.ref n) (.ref (n+1)) (.ref (n+2))) (h1:s.heap.IsListIter n l1 k) (hl1:s.heap.IsList l1 xs) (hx:xs[k]?=none)
  (hQ:∀h',(∀e o,e≠n->e≠n+5->s.heap.get? e=some o->h'.get? e=some o)->Q none { s with heap:=h'}) :
  wpAny (model prog w) A (pyNext (.ref (n+5))) Q E s:=by
 have hT:s.TypeIs (.ref (n+5)) "zip" :=⟨_,hz,Z⟩;have d50:(n+5:Nat)≠n:=()
 unfold pyNext;refine M (tL (oJ (name:=Str.ofString "__next__") hT Ob (gC Ob hT F.entry_zip_next ?_ (F.args_zip_next_1 _))));show wpAny _ _ (field (.ref (n+5)) 2 >>= _) _ _ _;refine M (gk hz Z (x:=.bool false) Z ?_);show wpAny _ _ (field (.ref (n+5)) 3 >>= _) _ _ _;refine M (gk hz Z (x:=.ref (n+3)) Z (M (oM hTI Z ?_)));show wpAny _ _ (Builtin.SmallTypes.ownedTupleIsFree (.ref (n+5)) >>= _) _ _ _;refine M ?_;unfold Builtin.SmallTypes.ownedTupleIsFree;refine M (gk hz Z (x:=.none) Z (ao ?_));simp only[if_true];refine M (kY (M (gk hz Z (x:=.ref (n+4)) Z ?_)));refine M (iV hz (by simp) λg1 z1 s1=>?_);have z1:IsZip g1 (n+5) (n+3) (n+4) .ellipsis:=z1;refine M ?_;simp only[List.zipIdx_cons,List.zipIdx_nil,List.forIn_cons,List.forIn_nil];have k1:∀e o,e≠n+5->s.heap.get? e=some o->g1.get? e=some o:=λe o he q=>s1.extBut e o he q;refine M (M (Ae ?_));show wpAny _ _ (Builtin.SmallTypes.nextOf (.ref n) >>= _) _ _ _;refine M (wpAny_nextOf_list_end () (h1.at λo q=>k1 _ o () q) (hl1.at λo q=>k1 _ o () q) hx λg2 e s2 he=>?_);obtain⟨oe,hoe,hce⟩:=he;have z2:IsZip g2 (n+5) (n+3) (n+4) .ellipsis:=s2 (n+5) _ d50 z1;have ne:e≠n+5:=λz=>by grind
 exact iV z2 (by simp) λg3 _ s3=>M (vU (U:="StopIteration") (T:="StopIteration") (b:=true) ⟨oe,s3.extBut e _ ne hoe,hce⟩ Iw (ao (hQ _ λc o c0 c5 q=>s3.extBut c o c5 (s2 c o c0 (k1 c o c5 q)))))
end
def YX(a b c:Value):checkTypeCall "zip" ⟨[a,b,c],[]⟩=pure ⟨⟩:=by kernel_rfl
def č(a b c:Value):checkBuiltinCall "zip.__new__" ⟨[.type "zip",a,b,c],[]⟩=pure ⟨⟩:=by kernel_rfl
def Vv(a b c d:Value):argsOk "object.__init__" ⟨[a,b,c,d],[]⟩:=by unfold argsOk;rw[signature?_of (id:="object.__init__") (n:=['_','_','t','i','n','i','_','_']) (o:=['t','c','e','j','b','o']) (by kernel_rfl) F.owner_object];kernel_rfl
abbrev p1(h:Heap)(l1:Addr):Heap:=h.push { cls:=.type "list_iterator",data:=.fields #[.ref l1,.int 0 0]}
abbrev p2(h:Heap)(l1 l2:Addr):Heap:=p1 (p1 h l1) l2
abbrev p3(h:Heap)(l1 l2 l3:Addr):Heap:=p1 (p2 h l1 l2) l3
abbrev p4(h:Heap)(l1 l2 l3:Addr):Heap:=(p3 h l1 l2 l3).push { cls:=.type "tuple",data:=.seq #[.ref h.objs.size,.ref (p1 h l1).objs.size,.ref (p2 h l1 l2).objs.size]}
abbrev p5(h:Heap)(l1 l2 l3:Addr):Heap:=(p4 h l1 l2 l3).push { cls:=.type "tuple",data:=.seq #[.none,.none,.none]}
abbrev p6(h:Heap)(l1 l2 l3:Addr):Heap:=(p5 h l1 l2 l3).push { cls:=.type "zip",data:=.fields #[.none,.bool false,.bool false,.ref (p3 h l1 l2 l3).objs.size,.ref (p4 h l1 l2 l3).objs.size]}
def YZ(l1 l2 l3:Addr)(xs ys zs:Array Value) :
  Meets (Builtin.«zip.__new__» ⟨[.type "zip",.ref l1,.ref l2,.ref l3],[]⟩) (λ_ R s=>s.heap.IsList l1 xs/\s.heap.IsList l2 ys/\s.heap.IsList l3 zs/\R (.ok (.ret (.ref (p5 s.heap l1 l2 l3).objs.size))) { s with heap:=p6 s.heap l1 l2 l3}) :=
 .of_wp λprog w A R s h=>by
  obtain⟨hp,g,d,tk,os⟩:=s;obtain⟨hl1,hl2,hl3,h⟩:=h;have hsub:=sub_zip;have a1:Heap.IsList (Shared.heap ⟨hp,g,d,tk,os⟩) l1 xs:=hl1;have a2:Heap.IsList (Shared.heap ⟨p1 hp l1,g,d,tk,os⟩) l2 ys:=TX hl2 _;have a3:Heap.IsList (Shared.heap ⟨p2 hp l1 l2,g,d,tk,os⟩) l3 zs:=TX (TX hl3 _) _
  wp_walk using vQ a1,vQ a2,vQ a3
  exact⟨_,Z,h⟩
section
variable{prog:Program}{w:World}{A:Around}{E:Value->Shared->Prop}{s:Shared}
def a4L{l1 l2 l3:Addr}{Q:Value->Shared->Prop}(hl1:s.heap.IsList l1 xs)(hl2:s.heap.IsList l2 ys)(hl3:s.heap.IsList l3 zs)
  (h:∀h',IsZip h' (s⁻¹+5) (s⁻¹+3) (s⁻¹+4) .none->KZ h' (s⁻¹+3) (.ref s⁻¹) (.ref (s⁻¹+1)) (.ref (s⁻¹+2))->
   KZ h' (s⁻¹+4) .none .none .none->h'.IsListIter s⁻¹ l1 0->h'.IsListIter (s⁻¹+1) l2 0->h'.IsListIter (s⁻¹+2) l3 0->
   (∀c o,s.heap.get? c=some o->h'.get? c=some o)->Q (.ref (s⁻¹+5)) { s with heap:=h'}) :
  wpAny (model prog w) A (call (.type "zip") [.ref l1,.ref l2,.ref l3]) Q E s:=by
 refine callType_new F.called_zip () (YX _ _ _) (č _ _ _) (λobj=>Vv obj _ _ _) F.entry_zip_new (YZ l1 l2 l3 xs ys zs) ⟨hl1,hl2,hl3,?_⟩;generalize hn:s⁻¹=n at h;have z1:(p1 s.heap l1).objs.size=n+1:=by rw[kW,hn]
 have z2:(p2 s.heap l1 l2).objs.size=n+2:=by rw[kW,z1]
 have z3:(p3 s.heap l1 l2 l3).objs.size=n+3:=by rw[kW,z2]
 have z4:(p4 s.heap l1 l2 l3).objs.size=n+4:=by rw[kW,z3]
 have z5:(p5 s.heap l1 l2 l3).objs.size=n+5:=by rw[kW,z4]
 have up:∀{h0:Heap}{c:Addr}{o ob:Obj},h0.get? c=some o->(h0.push ob).get? c=some o:=λe=>bJ _ e;have g6:(p6 s.heap l1 l2 l3).get? (p5 s.heap l1 l2 l3).objs.size=some _:=bU _ rfl;have g5:(p6 s.heap l1 l2 l3).get? (p4 s.heap l1 l2 l3).objs.size=some _:=up (bU _ Z);have g4:(p6 s.heap l1 l2 l3).get? (p3 s.heap l1 l2 l3).objs.size=some _:=up (up (bU _ Z));have g3:(p6 s.heap l1 l2 l3).get? (p2 s.heap l1 l2).objs.size=some _:=up (up (up (bU _ Z)));have g2:(p6 s.heap l1 l2 l3).get? (p1 s.heap l1).objs.size=some _:=up (up (up (up (bU _ Z))));have g1:(p6 s.heap l1 l2 l3).get? s⁻¹=some _:=up (up (up (up (up (bU _ Z)))));show _/\_;rw[z3,z4,z5]at g6;rw[z4]at g5;rw[hn,z1,z2,z3]at g4;rw[z2]at g3;rw[z1]at g2;rw[hn]at g1;rw[z5];exact⟨⟨_,g6,Z⟩,h _ g6 g4 g5 ⟨_,g1,Z,Z⟩ ⟨_,g2,Z,Z⟩ ⟨_,g3,Z,Z⟩ λc o q=>up (up (up (up (up (up q)))))⟩
end
end Z3
namespace L2
open PyProof.Rows
variable{K:aH}{pos:Pos}
def Ď(K:aH)(a b c:Addr):It :=
 ⟨λi H=>∃xs ys zs x y z,bM K H a xs/\bM K H b ys/\bM K H c zs/\xs[i]?=some x/\ys[i]?=some y/\zs[i]?=some z,
 λi H v H'=>∃p x y z,v=.ref p/\gW H p (.tup [x,y,z]) H'/\(∀xs,bM K H a xs->xs[i]?=some x)/\(∀ys,bM K H b ys->ys[i]?=some y)/\∀zs,bM K H c zs->zs[i]?=some z,
 λi H=>∃xs,bM K H a xs/\xs.length<=i⟩
def Y0{P:Program}{w:World}{elts:List Expr}{k:Nat}(a b c n:Nat)(an:a<n)(bn:b<n)(cn:c<n) :
  Turn P w K (.Tuple elts k pos) (Ď K a b c) [n,n+1,n+2,n+3,n+4,n+5] (n+5) (λi h=>IsZip h (n+5) (n+3) (n+4) .none/\Z3.KZ h (n+3) (.ref n) (.ref (n+1)) (.ref (n+2))/\(∃x y z,Z3.KZ h (n+4) x y z)/\h.IsListIter n a i/\h.IsListIter (n+1) b i/\h.IsListIter (n+2) c i) where
 mem:=by simp
 obj:=λi h st e he=>by
  obtain⟨hz,hTI,⟨x,y,z,hTO⟩,⟨o1,e1,c1,d1⟩,⟨o2,e2,c2,d2⟩,⟨o3,e3,c3,d3⟩⟩:=st
  grind
 keep:=λi h h' st kk=>by
  obtain⟨hz,hTI,⟨x,y,z,hTO⟩,h1,h2,h3⟩:=st
  exact⟨kk (n+5) (by simp) _ hz,kk (n+3) (by simp) _ hTI,⟨x,y,z,kk (n+4) (by simp) _ hTO⟩,h1.at λo q=>kk n (by simp) o q,h2.at λo q=>kk (n+1) (by simp) o q,h3.at λo q=>kk (n+2) (by simp) o q⟩
 item:=by
  intro X hP hw hK hc i Y s σ H E I hf st hg
  subst hP hw hK
  obtain⟨xs,ys,zs,x,y,z,hq1,hq2,hq3,hx,hy,hz0⟩:=hg
  obtain⟨Rm,rv1,Y4,hz1⟩:=I.list hq1
  obtain⟨its2,rv2,pl2,hz2⟩:=I.list hq2
  obtain⟨a6r,rv3,pl3,hz3⟩:=I.list hq3
  obtain⟨u1,hu1,ru1⟩:=rv1.get hx
  obtain⟨u2,hu2,Ţ⟩:=rv2.get hy
  obtain⟨u3,hu3,ru3⟩:=rv3.get hz0
  obtain⟨hz,hTI,⟨x0,y0,z0,hTO⟩,h1,h2,h3⟩:=st
  have nl:n+5<s⁻¹:=aX hz
  refine Z3.Rk an bn cn hz hTI hTO h1 h2 h3 Y4.isList pl2.isList pl3.isList (x:=u1) (y:=u2) (v:=u3) () () () λh' a1 a2 a3 a4 a5 a6 hk=>?_
  refine⟨_,Z,wpAny_letOwnedTupleGo_zip a1 λg3 hg3 hs3=>?_⟩
  have n5:s⁻¹≠n+5:=gD nl
  have hT3:g3.get? s⁻¹=some { cls:=.type "tuple",data:=.seq #[u1,u2,u3]}:=(hs3.2 _ n5).trans a6
  have kp:∀e o,e∉[n,n+1,n+2,n+3,n+4,n+5]->s.heap.get? e=some o->g3.get? e=some o:=λe o he q=>by
   simp only[List.mem_cons,List.not_mem_nil,or_false,not_or]at he
   exact(hs3.2 e he.2.2.2.2.2).trans (hk e o he.1 he.2.1 he.2.2.1 he.2.2.2.2.1 he.2.2.2.2.2 q)
  have I1:bI X Y σ H { s with heap:=g3}:=zp I [n,n+1,n+2,n+3,n+4,n+5] (λe he=>hf e he) kp
  have hfree:H s⁻¹=none:=I.hok.fresh (aL _)
  have I2:bI X Y σ (cI H s⁻¹ (.tup [x,y,z])) { s with heap:=g3}:=by
   refine bI.track I1 hfree I.sz (gD I.lt) (λy c q=>?_) (λp hp=>bW (aX (I.pin p hp).1)) ?_
   ·obtain⟨v,oc,q1,_⟩:=I.cell y c q
    exact bW (aX q1)
   ·exact⟨(by show 3<=sizeLine;decide),[u1,u2,u3],.cons ru1 (.cons Ţ (.cons ru3 .nil)),⟨_,hT3,Z,_,Z⟩⟩
  have d35:(n+3:Nat)≠n+5:=()
  have d45:(n+4:Nat)≠n+5:=()
  have d05:(n:Nat)≠n+5:=()
  have d15:(n+1:Nat)≠n+5:=()
  have d25:(n+2:Nat)≠n+5:=()
  have t3:h'.get? (n+3)=_:=hk (n+3) _ () () () () () hTI
  refine⟨.ref s⁻¹,_,I2,Z,⟨_,x,y,z,Z,gW.nY hfree,λxs' hy'=>by rw[I.xX hy' hq1];exact hx,λys' hy'=>by rw[I.xX hy' hq2];exact hy,λzs' hy'=>by rw[I.xX hy' hq3];exact hz0⟩,
   ⟨hg3,(hs3.2 (n+3) d35).trans t3,⟨_,_,_,(hs3.2 (n+4) d45).trans a2⟩,a3.at λo q=>(hs3.2 n d05).trans q,a4.at λo q=>(hs3.2 (n+1) d15).trans q,a5.at λo q=>(hs3.2 (n+2) d25).trans q⟩,λe he=>?_⟩
  have f0:=(hf e he).1
  rw[aO ?_]
  ·exact f0
  grind
 done:=by
  intro X hP hw hK hc i Y s σ H E I hf st hg
  subst hP hw hK
  obtain⟨xs,hq1,hl⟩:=hg
  obtain⟨Rm,rv1,Y4,hz1⟩:=I.list hq1
  have l1:=rv1.length
  obtain⟨hz,hTI,⟨x0,y0,z0,hTO⟩,h1,h2,h3⟩:=st
  refine Z3.Vu (a:=x0) (b:=y0) (c:=z0) (l2:=b) (l3:=c) (I.ok.hd hc) an hz hTI h1 Y4.isList (by simp;omega) λh' hk=>⟨Z,zp I [n,n+1,n+2,n+3,n+4,n+5] (λe he=>hf e he) λe o he q=>?_⟩
  grind
 self:=λ_ _ _ _ _ st h=>wpAny_pyIter_zip st.1 h
section
variable{X:Cx}
def vals3{a b c:V}{us:List Value}(h:dz [a,b,c] us):∃u v w,us=[u,v,w]/\cV a u/\cV b v/\cV c w:=by
 cases h with
 |cons h1 t =>
  obtain⟨u2,u3,rfl,r2,r3⟩:=vals2 t;exact⟨_,_,_,Z,h1,r2,r3⟩
def a4M(K:aH)(ta:TA):TI:=λσ H R=>ta σ H λvs H1=>∃a b c,vs=[.ref a,.ref b,.ref c]/\(∃xs,bM K H1 a xs)/\(∃ys,bM K H1 b ys)/\(∃zs,bM K H1 c zs)/\R (Ď K a b c) H1
def a0m{elts:List Expr}{k:Nat}{tpos:Pos}{l m r:Expr}{ta:TA}{p:Pos}(e0:X.K=K)(hg:Gl X "zip")(hm:X.mg "zip" = none)(ha:PA X [l,m,r] ta)(hs:@&(starEach [l,m,r] X.env=[(false,eval l X.env),(false,eval m X.env),(false,eval r X.env)]))(hs2:@&(starEach [m,r] X.env=[(false,eval m X.env),(false,eval r X.env)])) :
  PI X (.Tuple elts k tpos) (.Call (.Name "zip" p) [l,m,r] [] pos) (a4M K ta):=by
 subst e0;intro Y s σ H R I h;refine xM (vZ I hg hm boot_zip ?_);refine zT (jJ (ha pos Y s σ H _ I h) λus s1 ⟨vs,H1,I1,r1,q1⟩=>?_) (by rw[hs,hs2]) (by rw[hs2];rfl);obtain⟨a,b,c,e,⟨xs,hq1⟩,⟨ys,hq2⟩,⟨zs,hq3⟩,q⟩:=q1;subst e;obtain⟨u1,u2,u3,rfl,r1,r2,r3⟩:=vals3 r1;cases r1;cases r2;cases r3;obtain⟨Rm,rv1,Y4,hz1⟩:=I1.list hq1;obtain⟨its2,rv2,pl2,hz2⟩:=I1.list hq2;obtain⟨a6r,rv3,pl3,hz3⟩:=I1.list hq3;refine Z3.a4L Y4.isList pl2.isList pl3.isList λh' hz hTI hTO h1 h2 h3 hk=>wpAny_pyIter_zip hz ?_;have I2:bI X Y σ H1 { s1 with heap:=h'}:=I1.kept (t':=s1.toks) hk;have la:a<s1⁻¹:=by obtain⟨o,e,_⟩:=Y4.isList;exact aX e
 have lb:b<s1⁻¹:=by obtain⟨o,e,_⟩:=pl2.isList;exact aX e
 have lc:c<s1⁻¹:=by obtain⟨o,e,_⟩:=pl3.isList;exact aX e
 refine⟨s1⁻¹+5,_,_,_,H1,Z,I2,Y0 a b c s1⁻¹ la lb lc,⟨hz,hTI,⟨_,_,_,hTO⟩,h1,h2,h3⟩,λe he=>?_,q⟩;have hb':s1⁻¹<=e:=by
  grind
 exact I1.Gn hb' (I1.hok.fresh hb')
end
def ď{a b c:Addr}{xs ys zs:List V}{g:TG}{tb:TS}{D:Ends}{σ:St}{H:Hp}(el:xs.length=ys.length)(el2:xs.length=zs.length)(Pv:Nat->St->Hp->Prop)(h0:Pv 0 σ H)(hl:∀i σ H,i<=xs.length->Pv i σ H->bM K H a xs/\bM K H b ys/\bM K H c zs)
  (hs:∀(i:Nat) x y z σ H p H',xs[i]?=some x->ys[i]?=some y->zs[i]?=some z->Pv i σ H->gW H p (.tup [x,y,z]) H'->g (.ref p) σ H' λσ2 H2=>tb { D with nx:=Pv (i+1),ct:=Pv (i+1),bk:=D.nx} σ2 H2) (hd:∀σ H,Pv xs.length σ H->D.nx σ H) :
  ∃W:Nat->Nat->St->Hp->Prop,(∃m,W 0 m σ H)/\∀i m σ H,W i m σ H->
   ((Ď K a b c).stop i H/\D.nx σ H)\/((Ď K a b c).go i H/\∃N:St->Hp->Prop,(∀σ' H',N σ' H'->∃m',m'<m/\W (i+1) m' σ' H')/\∀x H',(Ď K a b c).ZK i H x H'->g x σ H' λσ2 H2=>tb { D with nx:=N,ct:=N,bk:=D.nx} σ2 H2):=by
 refine⟨λi m σ H=>m=xs.length-i/\i<=xs.length/\Pv i σ H,⟨xs.length,by simp,dh _,h0⟩,?_⟩;rintro i m σ H ⟨rfl,hi,p⟩;obtain⟨q1,q2,q3⟩:=hl i σ H hi p;by_cases hlt:i<xs.length
 ·refine .inr ⟨⟨xs,ys,zs,xs[i],ys[i],zs[i],q1,q2,q3,by simp[hlt],by simp[el▸hlt],by simp[el2▸hlt]⟩,Pv (i+1),λσ' H' p'=>⟨xs.length-(i+1),(),Z,hlt,p'⟩,λx H' y=>?_⟩;obtain⟨pp,x0,y0,z0,rfl,nw,ex,ey,ez⟩:=y;exact hs i x0 y0 z0 σ H pp H' (ex xs q1) (ey ys q2) (ez zs q3) p nw
 ·have e:i=xs.length:=()
  subst e;exact .inl ⟨⟨xs,q1,aL _⟩,hd σ H p⟩
section
variable{X:Cx}{e:Expr}{f:Str}{ta:TE}
def zq(e0:X.K=K)(he:PE X e ta)(hb:attributeBase e f X.env (eval e X.env)=eval e X.env):PE X (.Attribute e f pos) (a3W K ta f):=by subst e0;exact a1O he hb
end
end L2
namespace K
open L2 Lw Bg
abbrev iz:List Str:=["self","state","spot","v"]
abbrev j4:List Str:=["one","other"]
abbrev lC:List Str:=["self","one","other"]
abbrev m9:List Str:=["graph","steps"]
abbrev sE:List Str:=["self","state","one","other","tie"]
abbrev tW:List Str:=["n","thing"]
abbrev wN:List Str:=["self","state"]
abbrev wO:List Str:=["state","spot","number"]
abbrev wQ:List Str:=["state","spot"]
abbrev wR:List Str:=["_law_kind","_law_one","_law_other"]
abbrev Cz:List Str:=["question","table","state","row"]
abbrev CG:List Str:=["graph","done","step","used"]
abbrev CJ:List Str:=["_law_ties_here","_law_rows_here","_law_k","_law_early"]
abbrev FW:List Str:=["question","old","step","bag"]
abbrev FZ:List Str:=["graph","steps","tops","pile"]
abbrev Ga:List Str:=["self","graph","weights"]
abbrev Gb:List Str:=["many","weights"]
abbrev Jv:List Str:=["is_better","shared","joined","put_in","tied","taken_out","thing"]
abbrev Jw:List Str:=["question","table","source","step","bag"]
abbrev Jx:List Str:=["question","table","source","another"]
abbrev Jy:List Str:=["steps","question","tops","feeds"]
abbrev Mp:List Str:=["steps","question"]
abbrev Mq:List Str:=["_law_script","_law_k"]
abbrev Rn:List Str:=["_law_found","_law_size"]
abbrev W4:List Str:=["self","graph","leaf","whole"]
abbrev W5:List Str:=["self","graph","many","weights"]
abbrev W6:List Str:=["number","state","spot"]
abbrev W7:List Str:=["_law_script","_law_n","_law_most"]
abbrev W8:List Str:=["_law_v","_law_script"]
abbrev W9:List Str:=["_law_script","_law_rows_here","_law_n"]
abbrev Xa:List Str:=["_law_kind","_law_told","_law_steps"]
abbrev Đ:List Str:=["_law_a","_law_b","_law_bag","_law_above"]
def top(i:Nat):Stmt:=PySem.Challenge.pw_bagwood_k63_bags_laid_together.main.body.getD i (.Pass ⟨0,0,0,0⟩)
abbrev dY:=List Int
structure gR where
 m:Int
 b:Int
 src:List dY
variable{R:V->gR->Prop}
abbrev cQ:=List (dY×gR)
def K1(T:cQ)(s:dY):Option gR:=(T.find? λx=>decide (x.1=s)).map (·.2)
def wI(T:cQ)(s:dY)(r:gR):cQ:=if(T.any λx=>decide (x.1=s))=true then T.map (λx=>if x.1=s then(x.1,r)else x)else T++[(s,r)]
def vp(bt:Int->Int->Bool)(r o:gR):gR:=if bt r.b o.b=true then r else o
def nA(bt:Int->Int->Bool)(T:cQ)(s:dY)(r:gR):cQ:=match K1 T s with
 |none=>wI T s r
 |some o=>wI T s ⟨o.m+r.m,(vp bt r o).b,(vp bt r o).src⟩
def lZ(s:dY):List Key:=s.map Sum.inl
def a1n(s:dY):(lZ s).map kV=s.map V.int:=by
 unfold lZ;rw[qt];rfl
def uG{s t:dY}(h:lZ s=lZ t):s=t:=by
 induction s generalizing t with
 |nil=>cases t with
  |nil=>rfl
  |cons a t=>cases h
 |cons a s ih=>cases t with
  |nil=>cases h
  |cons b t =>
   have h1:(Sum.inl a:Key)=Sum.inl b:=(Ec h).1;have h2:lZ s=lZ t:=(Ec h).2;grind
def oV(H:Hp)(a:Addr)(s:dY):Prop:=H a=some (.tup (s.map V.int))
def oV.key{H:Hp}{a:Addr}{s:dY}(h:oV H a s):H a=some (.tup ((lZ s).map kV)):=by rw[a1n];exact h
def oV.Gd{H:Hp}{a:Addr}{s:dY}(h:H a=some (.tup ((lZ s).map kV))):oV H a s:=by rw[a1n]at h;exact h
inductive K3(H:Hp)(v:V)(r:gR):Prop
 |mk (p q as:_) (_:v=.ref p) (_:H p=some (.tup [.int r.m,.int r.b,.ref q])) (_:H q=some (.tup (as.map V.ref))) (_:Paired (oV H) as r.src)
def qy(H:Hp):List (List Key×V)->cQ->Prop:=Paired λkv tr=>kv.1=lZ tr.1/\K3 H kv.2 tr.2
def pZ(H H':Hp):Prop:=∀c ys,H c=some (.tup ys)->H' c=some (.tup ys)
def pZ.trans{H H' Sh:Hp}(a:pZ H H')(b:pZ H' Sh):pZ H Sh:=λc ys h=>b c ys (a c ys h)
def pZ.of{H H':Hp}(a:aJ H H'):pZ H H':=λc ys h=>a c _ h
def oV.keep{H H':Hp}{a:Addr}{s:dY}(k:pZ H H')(h:oV H a s):oV H' a s:=k _ _ h
def K3.keep{H H':Hp}{v:V}{r:gR}(k:pZ H H')(h:K3 H v r):K3 H' v r:=by
 obtain⟨p,q,as,e,h1,h2,h3⟩:=h;exact⟨p,q,as,e,k _ _ h1,k _ _ h2,Paired.bV h3 λ_ _ z=>z.keep k⟩
def qy.keep{H H':Hp}{O:List (List Key×V)}{T:cQ}(k:pZ H H')(h:qy H O T):qy H' O T:=Paired.bV h λ_ _ z=>⟨z.1,z.2.keep k⟩
def Sd(t:Addr)(H H':Hp):Prop:=∀c o,c≠t->H c=some o->H' c=some o
def Sd.refl{t:Addr}{H:Hp}:Sd t H H:=λ_ _ _ h=>h
def Sd.trans{t:Addr}{H H' Sh:Hp}(a:Sd t H H')(b:Sd t H' Sh):Sd t H Sh:=λc o n h=>b c o n (a c o n h)
def Sd.of{t:Addr}{H H':Hp}(a:aJ H H'):Sd t H H':=λc o _ h=>a c o h
def Sd.tups{t:Addr}{H H':Hp}{O:List (List Key×V)}(a:Sd t H H')(h:H t=some (.dT O)):pZ H H':=λc ys e=>a c _ (λz=>by grind) e
def Sd.đ{t:Addr}{H H':Hp}{o:HO}(c:wF H t o H'):Sd t H H':=λb u n h=>by rw[c.rest b n];exact h
def CK(s:dY){O:List (List Key×V)}{T:cQ}(h:Paired (λ(kv:List Key×V) (tr:dY×gR)=>kv.1=lZ tr.1/\R kv.2 tr.2) O T):(gJ O (lZ s)=none/\K1 T s=none)\/∃v r,gJ O (lZ s)=some v/\K1 T s=some r/\R v r:=by
 induction h with
 |nil=>exact .inl ⟨Z,Z⟩
 | @cons p q O T h t ih =>
  obtain⟨k,v⟩:=p;obtain⟨s',r⟩:=q;obtain⟨e,hr⟩:=h;have e:k=lZ s':=e;subst e;unfold gJ K1 at ih ⊢;by_cases c:s'=s
  ·rw[zV (by exact bB (congrArg lZ c)),zV (by exact bB c)];exact .inr ⟨v,r,Z,Z,hr⟩
  ·rw[zW (by exact λz=>c (uG (iI z))),zW (by exact λz=>c (iI z))];exact ih
def a0n(s:dY){O:List (List Key×V)}{T:cQ}(h:Paired (λ(kv:List Key×V) (tr:dY×gR)=>kv.1=lZ tr.1/\R kv.2 tr.2) O T):(O.any λkv=>decide (kv.1=lZ s))=(T.any λx=>decide (x.1=s)):=by
 induction h with
 |nil=>rfl
 | @cons p q O T h t ih =>
  obtain⟨k,v⟩:=p;obtain⟨s',r⟩:=q;have e:k=lZ s':=h.1;subst e;rw[tK,tK,ih];congr 1;exact Ip.mpr ⟨λz=>uG z,λz=>congrArg lZ z⟩
def Xb{O:List (List Key×V)}{T:cQ}{s:dY}{v:V}{r:gR}(h:Paired (λ(kv:List Key×V) (tr:dY×gR)=>kv.1=lZ tr.1/\R kv.2 tr.2) O T)(hr:R v r):Paired (λ(kv:List Key×V) (tr:dY×gR)=>kv.1=lZ tr.1/\R kv.2 tr.2) (putK O (lZ s) v) (wI T s r):=by
 unfold putK wI;rw[a0n s h];by_cases c:(T.any λx=>decide (x.1=s))=true
 ·rw[aG c,aG c];clear c
  induction h with
  |nil=>exact .nil
  | @cons kv tr _ _ a _ ih =>
   refine .cons ?_ ih;obtain⟨k,v0⟩:=kv;obtain⟨s',r0⟩:=tr;obtain⟨e,h0⟩:=a;have e:k=lZ s':=e;subst e;dsimp only;by_cases c:s'=s
   ·rw[aG (by rw[c]),aG c];exact⟨Z,hr⟩
   ·rw[aA (λz=>c (uG z)),aA c];exact⟨Z,h0⟩
 ·rw[aA c,aA c];exact Paired.snoc h ⟨Z,hr⟩
structure PQ(κ:Type) where
 leaf:dY
 whole:dY
 bt:Int->Int->Bool
 sh:dY->List κ
 jn:dY->dY->List dY
 inn:dY->Nat->Nat->List (dY×Int)
 tie:dY->Nat->Nat->Int×Int->List (dY×Int)
 out:dY->Nat->Nat->List (dY×Int)
 Ok:Nat->dY->Prop
inductive ţ(H:Hp)(v:V)(x:dY×Int):Prop
 |mk (p a:_) (_:v=.ref p) (_:H p=some (.tup [.ref a,.int x.2])) (_:oV H a x.1)
def ţ.keep{H H':Hp}{v:V}{x:dY×Int}(k:pZ H H')(h:ţ H v x):ţ H' v x:=by
 obtain⟨p,a,e,h1,h2⟩:=h;exact⟨p,a,e,k _ _ h1,h2.keep k⟩
def SvL(H:Hp)(v:V)(x:dY):Prop:=∃a,v=.ref a/\oV H a x
section
variable{P:Program}{w:World}{κ:Type} [DecidableEq κ]
inductive Jz(pq:PQ κ)(At:Hp->Addr->Prop)(vs:List V)(H:Hp)(Q:VK)(u_3:XK):Prop
 |mk (d:Addr) (a b:Int) (_:vs=[.ref d,.int a,.int b]) (_:At H d) (_:Q (.bl (pq.bt a b)) H)
inductive JB(knd:KeyKind P w κ)(pq:PQ κ)(At:Hp->Addr->Prop)(vs:List V)(H:Hp)(Q:VK)(u_3:XK):Prop
 |mk (d a:Addr) (m:Nat) (s:dY) (_:vs=[.ref d,.ref a]) (_:At H d) (_:oV H a s) (_:pq.Ok m s) (_:m<=5) (_:∀b H',aJ H H'->Vs knd H' b (pq.sh s)->Q (.ref b) H')
inductive JC(pq:PQ κ)(At:Hp->Addr->Prop)(vs:List V)(H:Hp)(Q:VK)(u_3:XK):Prop
 |mk (d a b:Addr) (m:Nat) (s t:dY) (_:vs=[.ref d,.ref a,.ref b]) (_:At H d) (_:oV H a s) (_:oV H b t) (_:pq.Ok m s) (_:pq.Ok m t) (_:m<=5) (_:pq.sh s=pq.sh t) (_:∀r xs H',aJ H H'->H' r=some (.lst xs)->Paired (SvL H') xs (pq.jn s t)->Q (.ref r) H')
inductive Xc(pq:PQ κ)(At:Hp->Addr->Prop)(vs:List V)(H:Hp)(Q:VK)(u_3:XK):Prop
 |mk (d a:Addr) (m spot v:Nat) (s:dY) (_:vs=[.ref d,.ref a,.int spot,.int v]) (_:At H d) (_:oV H a s) (_:pq.Ok m s) (_:m<=4) (_:spot<=m) (_:∀r xs H',aJ H H'->H' r=some (.lst xs)->Paired (ţ H') xs (pq.inn s spot v)->Q (.ref r) H')
inductive Xd(pq:PQ κ)(At:Hp->Addr->Prop)(Pl:Nat->Prop)(vs:List V)(H:Hp)(Q:VK)(u_3:XK):Prop
 |mk (d a:Addr) (m spot v:Nat) (s:dY) (_:vs=[.ref d,.ref a,.int spot,.int v]) (_:At H d) (_:oV H a s) (_:pq.Ok m s) (_:m<=5) (_:spot<m) (_:Pl v) (_:∀r xs H',aJ H H'->H' r=some (.lst xs)->Paired (ţ H') xs (pq.out s spot v)->Q (.ref r) H')
inductive Xe(pq:PQ κ)(At:Hp->Addr->Prop)(Ti:Int×Int->Prop)(vs:List V)(H:Hp)(Q:VK)(u_3:XK):Prop
 |mk (d a p:Addr) (m cW bA:Nat) (t:Int×Int) (s:dY) (_:vs=[.ref d,.ref a,.int cW,.int bA,.ref p]) (_:At H d) (_:oV H a s) (_:pq.Ok m s) (_:m<=5) (_:cW<m) (_:bA<m) (_:cW≠bA) (_:Ti t) (_:H p=some (.tup [.int t.1,.int t.2])) (_:∀r xs H',aJ H H'->H' r=some (.lst xs)->Paired (ţ H') xs (pq.tie s cW bA t)->Q (.ref r) H')
structure QM(P:Program)(w:World)(K:aH)(mg:Str->Option Value)(base:Heap)(C:Addr)(m:Str)(ps:List Str)(k:Nat)(sp:Sp) where
 f:Addr
 fd:FuncData
 mt:Meth K C m f
 b:Binds K fd ps []
 ok:bf P w K mg base gb k f fd ps sp
set_option genInjectivity false in
structure Hl(P:Program)(w:World)(K:aH)(mg:Str->Option Value)(base:Heap)(κ:Type) [DecidableEq κ] where
 C:Addr
 cl:Cls K C
 knd:KeyKind P w κ
 pq:PQ κ
 At:Hp->Addr->Prop
 Pl:Nat->Prop
 Ti:Int×Int->Prop
 n:Nat
 ts:List bY
 keep:∀{H H':Hp}{d:Addr},(∀c o,(∀O,o≠.dT O)->(∀φ,o≠.ext φ)->H c=some o->H' c=some o)->At H d->At H' d
 ins:∀{H:Hp}{d:Addr},At H d->∃dx fs,H d=some (.ins C dx fs)/\(∀m,m∈(Jv:List Str)->fs.lookup m=none)/\
  (∃a,fs.lookup ("leaf" : Str)=some (.ref a)/\oV H a pq.leaf)/\(∃a,fs.lookup ("whole" : Str)=some (.ref a)/\oV H a pq.whole)/\∃g,fs.lookup ("graph" : Str)=some g/\uP K H g n ts
 ig:fu K C "leaf"
 fV:fu K C "whole"
 fK:fu K C "graph"
 nZ:QM P w K mg base C "is_better" lC 8 (Jz pq At)
 rz:QM P w K mg base C "shared" wN 8 (JB knd pq At)
 vq:QM P w K mg base C "joined" lC 8 (JC pq At)
 vy:QM P w K mg base C "put_in" iz 8 (Xc pq At)
 oh:QM P w K mg base C "taken_out" iz 8 (Xd pq At Pl)
 Ew:QM P w K mg base C "tied" sE 8 (Xe pq At Ti)
end
abbrev uQ:Stmt:=top 27
def Ho:bC ["question","table","state","row","old","better"] Cz (aF uQ):={}
section
variable{P:Program}{w:World}{K:aH}{mg:Str->Option Value}{base:Heap}{κ:Type} [DecidableEq κ]
inductive a2J(Qn:Hl P w K mg base κ)(vs:List V)(H:Hp)(Q:VK)(u_3:XK):Prop
 |mk (d t a:Addr) (v:V) (O:List (List Key×V)) (T:cQ) (s:dY) (r:gR) (_:vs=[.ref d,.ref t,.ref a,v]) (_:Qn.At H d) (_:H t=some (.dT O)) (_:qy H O T) (_:T.length<=4000) (_:oV H a s) (_:K3 H v r) (_:∀kvs' H',Sd t H H'->H' t=some (.dT kvs')->qy H' kvs' (nA Qn.pq.bt T s r)->Q .non H')
def Xf(Qn:Hl P w K mg base κ)(qz:Dn K mg "note" uQ Cz):bf P w K mg base gb 9 qz.f qz.fd Cz (a2J Qn):=by
 have K4:bf P w K mg base gb 8 _ _ _ _:=Qn.nZ.ok;refine qz.F.ok Ho λeV A outer s H vs Q E hr h=>?_;obtain⟨d,t,a,v,O,T,st,r,rfl,hD,ht,hT,lT,ha,hv,q⟩:=h;have hw1:(A.deeper (PyProof.Rows.envOfC "note" (aF uQ) s⁻¹ qz.f eV)).units+1<cLine:=by have:=hr.un;omega
 refine⟨_,(jV (dD (aP (Ć hw1) (pv 2) (pv 1) (by with_unfolding_all rfl))
   (aD (aY 4 Ho.nd (zj hw1 (pv 1) (pv 2) λ_ _=>rfl))
   (aD (aY 5 Ho.nd (oN (fY (K:=K) Z (wu (pv 0) Qn.cl Qn.nZ.mt K4 hr Qn.nZ.b .nil b8 (J (aQ (aN (K:=K) Z) (pv 3) aq) (J (aQ (aN (K:=K) Z) (pv 4) aq) aj))) λ_=>rfl) (pv 3) (pv 4)))
   (aB (aY 3 Ho.nd (bw (J (bH fD (aQ (aN (K:=K) Z) (pv 4) aq) (aQ (aN (K:=K) Z) (pv 3) aq)) (J (aQ (aN (K:=K) Z) (pv 5) aq) (J (aQ (aN (K:=K) Z) (pv 5) aq) aj))))))))
   bO)
   (aB (Ah (pv 3) (Ul (pv 1) (pv 2) (Et hw1))))),?_⟩
 refine⟨λσ' G=>∃v' r' o4 o5,σ'=[some (.ref d),some (.ref t),some (.ref a),some v',o4,o5]/\aJ H G/\K3 G v' r'/\nA Qn.pq.bt T st r=wI T st r',?_,?_⟩
 ·refine⟨_,Z,_,Z,a,t,lZ st,O,Z,Z,ha.key,ht,_,Z,?_⟩;rcases CK st hT with⟨e1,e2⟩|⟨v0,r0,e1,e2,h0⟩
  ·rw[e1];refine cX ⟨v,r,none,none,Z,aJ.refl _,hv,?_⟩;unfold nA;rw[e2]
  ·rw[e1];obtain⟨p,qs,as,rfl,hp,hq,hs⟩:=hv;obtain⟨p0,q0,as0,rfl,hp0,hq0,hs0⟩:=h0;refine iD ⟨_,Z,_,Z,t,.ref p0,Z,by rw[<-e1];exact Gq.t ht ha.key,?_⟩;obtain⟨dx,fs,hd,nom,_⟩:=Qn.ins hD;refine⟨_,Z,d,dx,fs,Z,hd,nom _ (),⟨_,Z,p,_,_,.int r.b,Z,Z,cL.of hp,Z,_,Z,p0,_,_,.int r0.b,Z,Z,cL.of hp0,Z,⟨d,r.b,r0.b,Z,hD,_,Z,?_⟩⟩⟩;have fin:∀(pb:Addr) (rb:gR) (qb:Addr) (asb:List Addr),H pb=some (.tup [.int rb.m,.int rb.b,.ref qb])->H qb=some (.tup (asb.map V.ref))->Paired (oV H) asb rb.src->rb=vp Qn.pq.bt r r0->∀p' H',gW H p' (.tup [.int (r0.m+r.m),.int rb.b,.ref qb]) H'->∃v' r' o4 o5,[some (V.ref d),some (.ref t),some (.ref a),some (.ref p'),some (.ref p0),some (.ref pb)]=[some (.ref d),some (.ref t),some (.ref a),some v',o4,o5]/\aJ H H'/\K3 H' v' r'/\nA Qn.pq.bt T st r=wI T st r':=λpb rb qb asb h1 h2 h3 e p' H' nw=>by
    refine⟨_,⟨r0.m+r.m,rb.b,rb.src⟩,_,_,Z,nw.same,⟨p',qb,asb,Z,nw.here,nw.same _ _ h2,Paired.bV h3 λ_ _ z=>z.keep (.of nw.same)⟩,?_⟩;unfold nA;rw[e2,e]
   cases cb:Qn.pq.bt r.b r0.b with
   |true =>
    refine iD ⟨_,Z,?_⟩;refine⟨_,Z,p0,_,_,.int r0.m,Z,Z,cL.of hp0,Z,_,Z,p,_,_,.int r.m,Z,Z,cL.of hp,Z,_,_,Z,Z,_,Z,p,_,_,.int r.b,Z,Z,cL.of hp,Z,_,Z,p,_,_,.ref qs,Z,Z,cL.of hp,Z,(),λp' H' nw=>?_⟩;exact fin p r qs as hp hq hs (by unfold vp;rw[cb];rfl) p' H' nw
   |false =>
    refine cX ⟨_,Z,?_⟩;refine⟨_,Z,p0,_,_,.int r0.m,Z,Z,cL.of hp0,Z,_,Z,p,_,_,.int r.m,Z,Z,cL.of hp,Z,_,_,Z,Z,_,Z,p0,_,_,.int r0.b,Z,Z,cL.of hp0,Z,_,Z,p0,_,_,.ref q0,Z,Z,cL.of hp0,Z,(),λp' H' nw=>?_⟩;exact fin p0 r0 q0 as0 hp0 hq0 hs0 (by unfold vp;rw[cb];rfl) p' H' nw
 rintro σ' G ⟨v',r',o4,o5,rfl,sG,hr',e⟩;have lk:=aV hT;refine⟨_,Z,_,Z,_,Z,t,a,lZ st,O,Z,Z,(ha.keep (.of sG)).key,sG _ _ ht,(),λG' c=>?_⟩;have ts:pZ G G':=λc' ys hc=>by
  rw[c.rest c' (λz=>by rw[z,sG _ _ ht]at hc;cases hc)];exact hc
 refine q _ G' (Sd.trans (.of sG) (.đ c)) c.here ?_;rw[e];exact qy.keep ts (Xb (hT.keep (.of sG)) hr')
end
end K
namespace L2
open PySem.Calls PyProof.Rows
section
variable{X:Cx}
inductive a4N(x:V)(vs:List V)(H:Hp)(Q:VK):Prop
 |mk (l:Addr) (ns:List Int) (v:Int) (j:Nat) (_:x=.ref l) (_:vs=[.int v]) (_:H l=some (.lst (List.map V.int ns))) (_:ns[j]?=some v) (_:(∀m:Nat,m<j->ns[m]?≠some v)) (_:ns.length<=1000) (_:Q (.int (j:Int)) H)
def isV(v:Int):Value->Bool
 |.int a _=>a==v
 |_=>false
def Mr:U4 X "list.index" a4N:=by
 intro Y s σ H x vs w us Q I rx rv h;obtain⟨l,ns,v,j,rfl,rfl,hH,hj,hno,hz,q⟩:=h;cases rx;obtain⟨u,rfl,ru⟩:=vals1 rv;obtain⟨t,rfl⟩:=(show ∃t,u=Value.int v t from ru);obtain⟨z,cA,n,r,hl,e⟩:=I.Yn hH;have hi:=ints_of r;have len:=hi.length;have at_:∀m (hm:m<cA.length),∃k tk,cA[m]=Value.int k tk/\ns[m]?=some k:=λm hm=>by
  have hm2:m<ns.length:=()
  obtain⟨tk,e⟩:=hi.get m ns[m] (bR hm2);rw[bR hm]at e;injection e with e
  exact⟨ns[m],tk,e,bR hm2⟩
 have jl:j<cA.length:=by have:=(fO.mp hj).1;omega
 refine Ja F.slot_list_index ⟨_,e,Z⟩ F.entry_list_index (F.args_list_index_2 _ _) (MeetsSeq.list_index l cA.toArray n (.int v t) (isV v) (λy hy=>?_) j (by simpa using jl) () ?_ λm hm hmj=>?_) ⟨e,?_⟩
 ·obtain⟨m,hm,em⟩:=rR (show y∈cA by simpa using hy);obtain⟨k,tk,e1,_⟩:=at_ m hm;rw[<-em,e1];exact MeetsSeq.EqGives.int k v tk t
 ·obtain⟨k,tk,e1,e2⟩:=at_ j jl;rw[hj]at e2;injection e2 with e2
  simp only[List.getElem_toArray];rw[e1,<-e2];exact N8 v
 ·have hm':m<cA.length:=by simpa using hm
  obtain⟨k,tk,e1,e2⟩:=at_ m hm';simp only[List.getElem_toArray];rw[e1];show(k==v)=false;have:k≠v:=λz=>hno m hmj (by rw[e2,z]);simpa using this
 ·exact⟨.int j,H,I.tok _,⟨_,Z⟩,q⟩
end
end L2
namespace K
open L2 Lw Bg
inductive bT where
 |leaf
 |inn (v:Int)
 |tie (a b:Int)
 |out (v:Int)
 |join
deriving DecidableEq
variable{H:Hp}{K:aH}
def bT.vs:bT->List V
 |.leaf=>[.str "leaf"]
 |.inn v=>[.str "in",.int v]
 |.tie a b=>[.str "tie",.int a,.int b]
 |.out v=>[.str "out",.int v]
 |.join=>[.str "join"]
def bT.d:bT->PyData
 |.leaf=>.tuple [.str "leaf"]
 |.inn v=>.tuple [.str "in",.int v]
 |.tie a b=>.tuple [.str "tie",.int a,.int b]
 |.out v=>.tuple [.str "out",.int v]
 |.join=>.tuple [.str "join"]
def bT.word:bT->Str
 |.leaf=>"leaf"
 |.inn _=>"in"
 |.tie _ _=>"tie"
 |.out _=>"out"
 |.join=>"join"
def bT.need:bT->Nat
 |.leaf=>0
 |.join=>2
 |_=>1
def uR(K:aH)(H:Hp)(v:V)(s:bT):Prop:=∃p,v=.ref p/\cL K H p s.vs
def uR.same{H':Hp}{v:V}{s:bT}(e:aJ H H')(h:uR K H v s):uR K H' v s:=by
 obtain⟨p,rfl,h⟩:=h;exact⟨p,Z,e.wC h⟩
def uR.isD{v:V}{s:bT}(h:uR K H v s):KJ K H v s.d:=by
 obtain⟨p,rfl,h⟩:=h;cases s with
 |leaf=>exact .tup h (.cons (.str _) .nil)
 |inn v=>exact .tup h (.cons (.str _) (.cons (.int _) .nil))
 |tie a b=>exact .tup h (.cons (.str _) (.cons (.int _) (.cons (.int _) .nil)))
 |out v=>exact .tup h (.cons (.str _) (.cons (.int _) .nil))
 |join=>exact .tup h (.cons (.str _) .nil)
def Y5:gJ FT (.inr "leaf")=some (.int 0):=by decide
def a0o:gJ FT (.inr "in")=some (.int 1):=by decide
def Ē:gJ FT (.inr "tie")=some (.int 1):=by decide
def ē:gJ FT (.inr "out")=some (.int 1):=by decide
def Y6:gJ FT (.inr "join")=some (.int 2):=by decide
def a0p(s:bT):gJ FT (.inr s.word)=some (.int (s.need:Int)):=by
 cases s with
 |leaf=>exact Y5
 |inn v=>exact a0o
 |tie a b=>exact Ē
 |out v=>exact ē
 |join=>exact Y6
def zu(s:bT):Sg s.vs ((0:Nat):Int)=some (.str s.word):=by cases s<;>rfl
def a2K:∀x∈["leaf","in","tie","out","join"],PyData.strOk (Str.ofString x)=true:=by decide
def Xg(s:bT):s.d.canLay0=true:=by
 have h:=a2K;cases s with
 |leaf=>simp[bT.d,PyData.canLay0,PyData.canLayAll0,h]
 |inn v=>simp[bT.d,PyData.canLay0,PyData.canLayAll0,h]
 |tie a b=>simp[bT.d,PyData.canLay0,PyData.canLayAll0,h]
 |out v=>simp[bT.d,PyData.canLay0,PyData.canLayAll0,h]
 |join=>simp[bT.d,PyData.canLay0,PyData.canLayAll0,h]
def Ms(s:bT):s.d.depth<=1:=by cases s<;>simp[bT.d,PyData.depth,PyData.depthAll]
def Vw(s:bT):SeqAt.shaped s.d=true:=by
 unfold SeqAt.shaped;rw[Xg,IK];exact bB (by have:=Ms s;omega)
def Ro(ss:List bT):SeqAt.shaped (.list (ss.map bT.d))=true:=by
 unfold SeqAt.shaped;rw[PyData.canLay0,Hg Xg,PyData.depth,IK];exact bB (by have:=vd Ms ss;omega)
def bT.tag:bT->Nat
 |.leaf=>0
 |.inn _=>1
 |.tie _ _=>2
 |.out _=>3
 |.join=>4
def bT.args:bT->List Int
 |.leaf=>[]
 |.inn v=>[v]
 |.tie a b=>[a,b]
 |.out v=>[v]
 |.join=>[]
def Ge(i:Nat):Str:=Str.ofString (["leaf","in","tie","out","join"].getD i "")
def JD:∀i,i<5->∀j,j<5->(Ge i==Ge j)=decide (i=j):=by decide
def JF(s:bT):s.word=Ge s.tag:=by cases s<;>rfl
def Vx(s:bT):s.tag<5:=by cases s<;>simp[bT.tag]
def a1o(s:bT):s.d=.tuple (.str s.word::s.args.map PyData.int):=by cases s<;>rfl
def a2L{s t:bT}(h:s.tag=t.tag)(a:s.args=t.args):s=t:=by
 cases s<;>cases t<;>simp_all[bT.tag,bT.args]
theorem Gf:∀xs ys:List Int,PyData.eqvAll (xs.map PyData.int) (ys.map PyData.int)=decide (xs=ys)
 | [],[]=>by simp[PyData.eqvAll]
 | [],_::_=>by simp[PyData.eqvAll]
 |_::_,[]=>by simp[PyData.eqvAll]
 |x::xs,y::ys=>by
  rw[cH,cH,PyData.eqvAll,Gf xs ys,PyData.eqv,tG]
  simp
def Xh(s t:bT):PyData.eqv s.d t.d=decide (s=t):=by
 rw[a1o,a1o,PyData.eqv,PyData.eqvAll,Gf,PyData.eqv,JF,JF,JD _ (Vx s) _ (Vx t),tG,ql,dU,dU,dU];exact⟨λh=>a2L h.1 h.2,λh=>by grind⟩
def a0q(ss:List bT)(t:bT):(ss.map bT.d).any (λe=>PyData.eqv e t.d)=decide (t∈ss):=by
 rw[List.any_map,tG,List.any_eq_true,dU];constructor
 ·rintro⟨x,hx,e⟩;have:PyData.eqv x.d t.d=true:=e;rw[Xh]at this;grind
 ·exact λh=>⟨t,h,by show PyData.eqv t.d t.d=true;rw[Xh];grind⟩
abbrev gh:Stmt:=top 25
def vz:bC ["question","old","step","bag","spot"] FW (aF gh):={}
section
variable{P:Program}{w:World}{mg:Str->Option Value}{base:Heap}{κ:Type} [DecidableEq κ]
def Vy(pq:PQ κ)(s:dY)(kh:bT)(B:List Int):List (dY×Int):=match kh with
 |.inn v=>pq.inn s (B.idxOf v) v.toNat
 |.out v=>pq.out s (B.idxOf v) v.toNat
 |.tie a b=>pq.tie s (B.idxOf a) (B.idxOf b) (a,b)
 |_=>[]
def Hq(Qn:Hl P w K mg base κ)(kh:bT)(B:List Int)(m:Nat):Prop:=match kh with
 |.inn v=>(∃n:Nat,v=(n:Int))/\v∈B/\B.length=m+1/\m<=4
 |.out v=>(∃n:Nat,v=(n:Int)/\Qn.Pl n)/\v∈B/\B.length=m/\m<=5
 |.tie a b=>a∈B/\b∈B/\a≠b/\B.length=m/\m<=5/\Qn.Ti (a,b)
 |_=>False
def Ey{B:List Int}{v:Int}(h:v∈B):B[B.idxOf v]?=some v/\∀m:Nat,m<B.idxOf v->B[m]?≠some v:=by
 induction B with
 |nil=>cases h
 |cons x B ih =>
  rw[List.idxOf_cons];by_cases c:x=v
  ·subst c;rw[N8];exact⟨Z,λm hm=>absurd hm (Ac m)⟩
  ·rw[vN.mpr c];obtain⟨h1,h2⟩:=ih ((b7.mp h).resolve_left λz=>c z.symm);refine⟨h1,λm hm=>?_⟩;cases m with
   |zero=>exact λz=>c (dM z)
   |succ m=>exact h2 m (by simpa using hm)
def a2M{B:List Int}{a b:Int}(h:a∈B)(h':b∈B)(n:a≠b):B.idxOf a≠B.idxOf b:=λe=>by
 have h1:=(Ey h).1;have h2:=(Ey h').1;rw[e,h2]at h1;exact n (dM h1).symm
inductive Ĕ(Qn:Hl P w K mg base κ)(vs:List V)(H:Hp)(Q:VK)(u_3:XK):Prop
 |mk (d a ps pb:Addr) (s:dY) (kh:bT) (B:List Int) (m:Nat) (_:vs=[.ref d,.ref a,.ref ps,.ref pb]) (_:Qn.At H d) (_:oV H a s) (_:Qn.pq.Ok m s) (_:cL K H ps kh.vs) (_:H pb=some (.lst (B.map V.int))) (_:Hq Qn kh B m) (_:∀r xs H',aJ H H'->H' r=some (.lst xs)->Paired (ţ H') xs (Vy Qn.pq s kh B)->Q (.ref r) H')
def Ez(Qn:Hl P w K mg base κ)(vA:Dn K mg "states_behind" gh FW):bf P w K mg base gb 9 vA.f vA.fd FW (Ĕ Qn):=by
 have Vz:bf P w K mg base gb 8 _ _ _ _:=Qn.vy.ok;have K5:bf P w K mg base gb 8 _ _ _ _:=Qn.oh.ok;have ĕ:bf P w K mg base gb 8 _ _ _ _:=Qn.Ew.ok;refine vA.F.ok vz λeV A outer s H vs Q E hr h=>?_;obtain⟨d,a,ps,pb,st,kh,B,m,rfl,hD,ha,ok,hs,hb,fit,q⟩:=h;obtain⟨dx,fs,hd,nom,_⟩:=Qn.ins hD;refine⟨_,(aD (aY 4 vz.nd (qw (K:=K) Z mR PySem.F.slot_list_index PySem.F.type_list_index Mr (pv 3) (J (aQ (aN (K:=K) Z) (pv 2) aq) aj)))
   (aD (dD (aP jM (aQ (aN (K:=K) Z) (pv 2) aq) gn)
   (aB (bF (wu (pv 0) Qn.cl Qn.vy.mt Vz hr Qn.vy.b .nil b8 (J (pv 1) (J (pv 4) (J (aQ (aN (K:=K) Z) (pv 2) aq) aj))))))
   bO)
   (aD (dD (aP jM (aQ (aN (K:=K) Z) (pv 2) aq) gn)
   (aB (bF (wu (pv 0) Qn.cl Qn.oh.mt K5 hr Qn.oh.b .nil b8 (J (pv 1) (J (pv 4) (J (aQ (aN (K:=K) Z) (pv 2) aq) aj))))))
   bO)
   (aB (bF (wu (pv 0) Qn.cl Qn.Ew.mt ĕ hr Qn.Ew.b .nil b8 (J (pv 1) (J (pv 4) (J (qw (K:=K) Z mR PySem.F.slot_list_index PySem.F.type_list_index Mr (pv 3) (J (aQ (aN (K:=K) Z) (pv 2) aq) aj)) (J (jE (Hi (K:=K) Z) (pv 2) (mD aq) mq) aj)))))))))),?_⟩
 have lB:B.length<=1000:=by
  cases kh<;>first|exact fit.elim|skip
  ·obtain⟨_,_,e,l⟩:=fit;omega
  ·obtain⟨_,_,_,e,l,_⟩:=fit;omega
  ·obtain⟨_,_,e,l⟩:=fit;omega
 have fld:∀(mth:Str),mth∈(Jv:List Str)->fs.lookup mth=none:=nom;cases kh with
 |leaf=>exact fit.elim
 |join=>exact fit.elim
 |inn v =>
  obtain⟨⟨n,rfl⟩,hv,el,m4⟩:=fit;have ix:=Ey hv;refine⟨_,Z,.inl ⟨Z,_,bM.of hb⟩,_,Z,ps,_,_,_,Z,Z,hs,Z,pb,B,_,_,Z,Z,hb,ix.1,ix.2,lB,⟨_,Z,ps,_,_,_,Z,Z,hs,Z,Z,_,Z,iD ⟨_,Z,d,dx,fs,Z,hd,fld _ (),_,Z,_,Z,_,Z,ps,_,_,_,Z,Z,hs,Z,⟨d,a,m,_,n,st,Z,hD,ha,ok,m4,?_,λr xs H' s' h1 h2=>q r xs H' s' h1 h2⟩⟩⟩⟩;grind
 |out v =>
  obtain⟨⟨n,rfl,pn⟩,hv,el,m5⟩:=fit;have ix:=Ey hv;refine⟨_,Z,.inl ⟨Z,_,bM.of hb⟩,_,Z,ps,_,_,_,Z,Z,hs,Z,pb,B,_,_,Z,Z,hb,ix.1,ix.2,lB,⟨_,Z,ps,_,_,_,Z,Z,hs,Z,Z,_,Z,cX ⟨_,Z,ps,_,_,_,Z,Z,hs,Z,Z,_,Z,iD ⟨_,Z,d,dx,fs,Z,hd,fld _ (),_,Z,_,Z,_,Z,ps,_,_,_,Z,Z,hs,Z,⟨d,a,m,_,n,st,Z,hD,ha,ok,m5,?_,pn,λr xs H' s' h1 h2=>q r xs H' s' h1 h2⟩⟩⟩⟩⟩;grind
 |tie x y =>
  obtain⟨hx,hy,ne,el,m5,ti⟩:=fit;have ix:=Ey hx;have iy:=Ey hy;refine⟨_,Z,.inl ⟨Z,_,bM.of hb⟩,_,Z,ps,_,_,_,Z,Z,hs,Z,pb,B,_,_,Z,Z,hb,ix.1,ix.2,lB,⟨_,Z,ps,_,_,_,Z,Z,hs,Z,Z,_,Z,cX ⟨_,Z,ps,_,_,_,Z,Z,hs,Z,Z,_,Z,cX ⟨_,Z,d,dx,fs,Z,hd,fld _ (),_,Z,_,Z,_,Z,.inl ⟨Z,_,bM.of hb⟩,_,Z,ps,_,_,_,Z,Z,hs,Z,pb,B,_,_,Z,Z,hb,iy.1,iy.2,lB,_,Z,?_⟩⟩⟩⟩;refine⟨_,Z,ps,_,Z,hs,(λz=>absurd z.1 (show ¬(1:Nat)=0 by decide)),λpt H1 n1=>?_⟩;have s1:=n1.same;refine⟨d,a,pt,m,_,_,(x,y),st,Z,Qn.keep (λc o _ _ e=>s1 c o e) hD,ha.keep (.of s1),ok,m5,?_,?_,a2M hx hy ne,ti,n1.here,λr xs H' s' h1 h2=>q r xs H' (s1.trans s') h1 h2⟩
  ·grind
  grind
end
abbrev jW:Stmt:=top 24
def nC:bC ["question","table","source","step","bag","old","row","state","amount"] Jw (aF jW):={}
section
variable{P:Program}{w:World}{mg:Str->Option Value}{base:Heap}{κ:Type} [DecidableEq κ]
def Nd(H H':Hp):Prop:=∀c o,(∀O,o≠.dT O)->(∀φ,o≠.ext φ)->H c=some o->H' c=some o
def Nd.trans{H' Sh:Hp}(a:Nd H H')(b:Nd H' Sh):Nd H Sh:=λc o n m h=>b c o n m (a c o n m h)
def Nd.of{H':Hp}(a:aJ H H'):Nd H H':=λc o _ _ h=>a c o h
def Nd.sd{t:Addr}{H':Hp}{O:List (List Key×V)}(a:Sd t H H')(h:H t=some (.dT O)):Nd H H':=λc o n _ e=>a c o (λz=>by grind) e
def Nd.iC{t:Addr}{O:List (List Key×V)}{u:HO}(h:H t=some (.dT O)):Nd H (cI H t u):=λc o n _ e=>by
 rw[aO (λz=>by grind)];exact e
def Nd.Gr{t:Addr}{ob:Obj}{O:List (List Key×V)}{u:HO}(h:H t=some (.iC ob (.dT O)))(c:Addr)(ys:List V)(e:H c=some (.tup ys)):cI H t u c=some (.tup ys):=by
 rw[aO (λz=>by grind)];exact e
def Nd.tups{H':Hp}(a:Nd H H'):pZ H H':=λc ys e=>a c _ (λ_ z=>by cases z) (λ_ z=>by cases z) e
def Nd.lst{H H':Hp}(a:Nd H H'){c:Addr}{ys:List V}(e:H c=some (.lst ys)):H' c=some (.lst ys):=a c _ (λ_ z=>by cases z) (λ_ z=>by cases z) e
def Nd.sqt{H':Hp}(a:Nd H H'){c:Addr}{ys:List V}(e:cL K H c ys):cL K H' c ys:=by
 rcases e with(e|⟨o,e⟩)|e
 ·exact .inl (.inl (a c _ (λ_ z=>by cases z) (λ_ z=>by cases z) e))
 ·exact .inl (.inr ⟨o,a c _ (λ_ z=>by cases z) (λ_ z=>by cases z) e⟩)
 ·exact .inr e
def Nd.at(Qn:Hl P w K mg base κ){H':Hp}{d:Addr}(a:Nd H H')(h:Qn.At H d):Qn.At H' d:=Qn.keep a h
def qO(bt:Int->Int->Bool)(old:dY)(row:gR):List (dY×Int)->cQ->cQ
 | [],T=>T
 |x::l,T=>qO bt old row l (nA bt T x.1 ⟨row.m,row.b+x.2,[old]⟩)
def tX(pq:PQ κ)(kh:bT)(B:List Int):cQ->cQ->cQ
 | [],T=>T
 |x::S,T=>tX pq kh B S (qO pq.bt x.1 x.2 (Vy pq x.1 kh B) T)
theorem CN(bt:Int->Int->Bool)(old:dY)(row:gR)(x:dY×Int):∀(l:List (dY×Int)) (T:cQ),qO bt old row (l++[x]) T=nA bt (qO bt old row l T) x.1 ⟨row.m,row.b+x.2,[old]⟩
 | [],_=>rfl
 |_::l,T=>CN bt old row x l _
theorem JG(pq:PQ κ)(kh:bT)(B:List Int)(x:dY×gR):∀(S T:cQ),tX pq kh B (S++[x]) T=qO pq.bt x.1 x.2 (Vy pq x.1 kh B) (tX pq kh B S T)
 | [],_=>rfl
 |_::S,T=>JG pq kh B x S _
def a2N(pq:PQ κ)(kh:bT)(B:List Int)(S T:cQ):Prop:=∀i,i<=S.length->∀x,S[i]?=some x->∀j,j<=(Vy pq x.1 kh B).length->(qO pq.bt x.1 x.2 ((Vy pq x.1 kh B).take j) (tX pq kh B (S.take i) T)).length<=4000
inductive Ė(Qn:Hl P w K mg base κ)(vs:List V)(H:Hp)(Q:VK)(u_3:XK):Prop
 |mk (d t sc ps pb:Addr) (O iM:List (List Key×V)) (T S:cQ) (kh:bT) (B:List Int) (m:Nat) (_:vs=[.ref d,.ref t,.ref sc,.ref ps,.ref pb]) (_:Qn.At H d) (_:H t=some (.dT O)) (_:qy H O T) (_:H sc=some (.dT iM)) (_:qy H iM S) (_:t≠sc) (_:(∀x∈S,Qn.pq.Ok m x.1)) (_:cL K H ps kh.vs) (_:H pb=some (.lst (B.map V.int))) (_:Hq Qn kh B m) (_:S.length<=4000) (_:a2N Qn.pq kh B S T) (_:∀kvs' H',Sd t H H'->H' t=some (.dT kvs')->qy H' kvs' (tX Qn.pq kh B S T)->Q .non H')
def ė{P:Nat->St->Hp->Prop}{R:Prop}(h:∀Z97:Nat->St->Hp->Prop,(∀i σ H,P i σ H->Z97 i σ H)->(∀i σ H,Z97 i σ H->P i σ H)->R):R:=h P (λ_ _ _ z=>z) (λ_ _ _ z=>z)
def K6(Qn:Hl P w K mg base κ)(vA:Dn K mg "states_behind" gh FW)(qz:Dn K mg "note" uQ Cz)(wX:Dn K mg "fill_along" jW Jw):bf P w K mg base gb 10 wX.f wX.fd Jw (Ė Qn):=by
 have a6s:bf P w K mg base gb 9 _ _ _ _:=Ez Qn vA;have a2O:bf P w K mg base gb 9 _ _ _ _:=Xf Qn qz;refine wX.F.ok nC λeV A outer s H vs Q E hr h=>?_;obtain⟨d,t,sc,ps,pb,O,iM,T,S,kh,B,m,rfl,hD,ht,hT,hsc,hS,nts,rQ,hs,hb,fit,lS,lim,q⟩:=h;refine⟨_,(aB (vg (jC jf Z (vo (qN (K:=K) Z xG HX HY vh (pv 2))) (jU (K:=K) (n:=2) Z Z (bZ (aM 5 nC.nd) (bZ (aM 6 nC.nd) jw)))
   (aB (jC jf Z (fU (K:=K) Z (bh a6s hr Z vA.m vA.F.kp vA.b .nil b8 (J (pv 0) (J (pv 5) (J (pv 3) (J (pv 4) aj)))))) (jU (K:=K) (n:=2) Z Z (bZ (aM 7 nC.nd) (bZ (aM 8 nC.nd) jw)))
   (aB (gY (bh a2O hr Z qz.m qz.F.kp qz.b .nil b8 (J (pv 0) (J (pv 1) (J (pv 7) (J (bw (J (aQ (aN (K:=K) Z) (pv 6) aq) (J (bH fD (aQ (aN (K:=K) Z) (pv 6) aq) (pv 8)) (J (bw (J (pv 5) aj)) aj)))) aj)))))))))))),?_⟩
 refine⟨_,Z,.inr (.inr (.inl ⟨Z,.inr ⟨_,hsc⟩⟩)),sc,iM,Z,Z,hsc,λpv H1 n1=>⟨pv,sc,iM,Z,n1.here,n1.same _ _ hsc,λo as pk=>?_⟩⟩;have h1s:=n1.same _ _ hsc;have Xi:Nd H (cI H1 sc (.iC o (.dT iM))):=(Nd.of n1.same).trans (Nd.iC h1s);have g0s:cI H1 sc (.iC o (.dT iM)) sc=some (.iC o (.dT iM)):=cP;have Ę:cI H1 sc (.iC o (.dT iM)) t=some (.dT O):=by rw[aO nts];exact n1.same _ _ ht
 have Xj:∀c,c≠sc->cI H1 sc (.iC o (.dT iM)) c=H1 c:=λc hc=>aO hc;generalize cI H1 sc (.iC o (.dT iM))=G0 at pk Xi g0s Ę Xj ⊢;have lk:=aV hS;have la:=aV pk;refine ė (P:=λi σ G=>P4 (T4 (λo5 o6 o7 o8=>[some (.ref d),some (.ref t),some (.ref sc),some (.ref ps),some (.ref pb),o5,o6,o7,o8]) σ) (Sd t G0 G) (λkt=>G t=some (.dT kt)) λkt=>qy G kt (tX Qn.pq kh B (S.take i) T)) λZ97 ji ij=>wH Z97 (ji _ _ _ ⟨⟨_,_,_,_,Z⟩,.refl,O,Ę,hT.keep Xi.tups⟩) (λi σ G _ h=>(ij _ _ _ h).s _ _ (Ne.symm nts) g0s) ?_ ?_
 ·intro i a0 v0 σ G p G1 ha0 hv0 h nw;obtain⟨⟨o5,o6,o7,o8,rfl⟩,sG,kt,hkt,Xk⟩:=ij _ _ _ h;obtain⟨kv,hkv,hak⟩:=bx pk ha0;obtain⟨⟨old,row⟩,hsx,ek,hrow⟩:=bx hS hkv;have ek:kv.1=lZ old:=ek;have hv0':v0=kv.2:=by
   rw[d7,hkv]at hv0;exact(dM hv0).symm
  subst hv0';rw[ek]at hak;have nG:Nd G0 G:=.sd sG Ę;have n1':aJ G G1:=nw.same;have ZM:Nd G0 G1:=nG.trans (.of n1');have Ť:Nd H G1:=Xi.trans ZM;have hold:oV G1 a0 old:=oV.Gd (ZM.tups _ _ hak);have CP:K3 G1 kv.2 row:=hrow.keep Ť.tups;have mem:(old,row)∈S:=iU hsx;refine⟨p,_,Z,cL.of nw.here,Z,_,_,Z,_,_,Z,Z,⟨_,Z,_,Z,_,Z,_,Z,d,a0,ps,pb,old,kh,B,m,Z,Ť.at Qn hD,hold,rQ _ mem,Ť.sqt hs,Ť.lst hb,fit,λr xs G2 s2 hr2 pm=>⟨r,Z,⟨_,bM.of hr2⟩,?_⟩⟩⟩;have hT2:qy G2 kt (tX Qn.pq kh B (S.take i) T):=Xk.keep (pZ.of (n1'.trans s2));have ht2:G2 t=some (.dT kt):=(n1'.trans s2) _ _ hkt;have lpm:=aV pm;have a6t:=lim i (eE (fO.mp hsx).1) _ hsx;have hTi:S.take (i+1)=S.take i++[(old,row)]:=by rw[jQ,hsx];rfl
  refine ė (P:=λj σ G'=>P4 (T2 (λo7 o8=>[some (.ref d),some (.ref t),some (.ref sc),some (.ref ps),some (.ref pb),some (.ref a0),some kv.2,o7,o8]) σ) (Sd t G2 G') (λBw=>G' t=some (.dT Bw)) λBw=>qy G' Bw (qO Qn.pq.bt old row ((Vy Qn.pq old kh B).take j) (tX Qn.pq kh B (S.take i) T))) λJ2 ji2 ij2=>xZ (K:=K) (a:=r) (xs:=xs) J2 (ji2 _ _ _ ⟨⟨_,_,Z⟩,.refl,kt,ht2,hT2⟩) (λj σ G' _ h=>bM.of ((Nd.sd (ij2 _ _ _ h).s ht2).lst hr2)) ?_ ?_
  ·intro j x σ G' hx h2;obtain⟨⟨o7,o8,rfl⟩,Sq,Bw,JH,hT'⟩:=ij2 _ _ _ h2;obtain⟨⟨st',am⟩,hmx,pp,aa,rfl,zG,haa⟩:=bx pm hx;have n2':Nd G2 G':=.sd Sq ht2;have nHG:Nd H G':=Ť.trans ((Nd.of s2).trans n2');obtain⟨pr,qr,asr,VB,hpr,hqr,hsr⟩:=CP.keep ((pZ.of s2).trans n2'.tups);refine⟨pp,_,Z,cL.of (n2'.tups _ _ zG),Z,_,_,Z,_,_,Z,Z,?_⟩;rw[VB];refine⟨_,Z,_,Z,_,Z,_,Z,pr,_,_,.int row.m,Z,Z,cL.of hpr,Z,_,Z,pr,_,_,.int row.b,Z,Z,cL.of hpr,Z,_,Z,_,_,Z,Z,_,Z,(),λq1 G3 m3=>⟨(),λq2 G4 m4=>?_⟩⟩;have Qx:=m3.same.trans m4.same;have a4O:oV G4 a0 old:=hold.keep ((pZ.of s2).trans (n2'.tups.trans (.of Qx)));refine⟨d,t,aa,.ref q2,Bw,_,st',⟨row.m,row.b+am,[old]⟩,Z,(nHG.trans (.of Qx)).at Qn hD,Qx _ _ JH,hT'.keep (.of Qx),?_,haa.keep (n2'.tups.trans (.of Qx)),⟨q2,q1,[a0],Z,m4.here,m4.same _ _ m3.here,.cons a4O .nil⟩,λY7 G5 s5 h5 hT5=>?_⟩
   ·exact a6t j (eE (fO.mp hmx).1)
   ·refine ji2 _ _ _ ⟨⟨some (.ref aa),some (.int am),by rw[VB];rfl⟩,Sq.trans ((Sd.of Qx).trans s5),Y7,h5,?_⟩;rw[jQ,hmx];show qy G5 Y7 (qO Qn.pq.bt old row ((Vy Qn.pq old kh B).take j++[(st',am)]) _);rw[CN];exact hT5
  ·intro σ G' h2;obtain⟨⟨o7,o8,rfl⟩,Sq,Bw,JH,hT'⟩:=ij2 _ _ _ h2;refine ji _ _ _ ⟨⟨_,_,_,_,Z⟩,sG.trans ((Sd.of (n1'.trans s2)).trans Sq),Bw,JH,?_⟩;rw[hTi,JG];rw[lpm,gO]at hT';exact hT'
 ·intro σ G h;obtain⟨⟨o5,o6,o7,o8,rfl⟩,sG,kt,hkt,Xk⟩:=ij _ _ _ h;have gs:=sG _ _ (Ne.symm nts) g0s;refine⟨sc,o,iM,iM,hsc,gs,?_⟩;refine q kt _ (λc u hc e=>?_) (by rw[aO nts];exact hkt) ?_
  ·by_cases z:c=sc
   ·rw[z]at e ⊢;rw[cP,<-e,hsc]
   ·rw[aO z];refine sG c u hc ?_;rw[Xj c z];exact n1.same _ _ e
  ·rw[show S.take as.length=S by rw[la,lk,gO]]at Xk;exact Xk.keep (Nd.Gr gs)
end
end K
namespace L2
open PyProof.Rows Bg
section
variable{X:Cx}{tg:Expr}
def a2P(td:TE):TI:=λσ H R=>td σ H λx H1=>∃d O,x=.ref d/\H1 d=some (.dT O)/\
 ∀o as,Paired (λa (kv:List Key×V)=>(cI H1 d (.iC o (.dT O))) a=some (.tup (kv.1.map kV))) as O->R (Itp o d (.dT O) as) (cI H1 d (.iC o (.dT O)))
def Rp{l:Expr}{td:TE}(hl:PE X l td):PI X tg l (a2P td):=by
 intro Y s σ H R I h;refine jJ (hl Y s σ H _ I h) λv s1 ⟨x,H1,I1,r1,q1⟩=>?_;obtain⟨d,O,e,hd,q⟩:=q1;subst e;cases r1;obtain⟨_,hs,xs,rel,o,es,ep,ho,hx,hdt,hes,_,_⟩:=Js I1.hok hd;have I2:bI X Y σ (cI H1 d (.iC o (.dT O))) s1:=I1.Vp hd (λ_ z=>by cases z) (λ_ z=>by cases z) (λ_ z=>by cases z) (I1.WX hd λ_ _ z=>by cases z) ⟨ho,I1.hok d _ hd⟩;have ek:es.toList.map (·.key)=(xs.map λx=>x.2.1).map Value.ref:=by rw[hes,qt,qt];rfl
 have pk:Paired (λa (kv:List Key×V)=>(cI H1 d (.iC o (.dT O))) a=some (.tup (kv.1.map kV))) (xs.map λx=>x.2.1) O:=by
  have go:∀{ks:List (List Key×V)}{ys:List (List Key×Addr×Value)},KT H1 ks ys->Paired (λa (kv:List Key×V)=>(cI H1 d (.iC o (.dT O))) a=some (.tup (kv.1.map kV))) (ys.map λx=>x.2.1) ks:=λ{ks ys} r=>by
   induction r with
   |nil=>exact .nil
   | @cons kv y _ _ a _ ih =>
    refine .cons ?_ ih;have nb:y.2.1≠d:=λz=>by grind
    rw[aO nb];exact a.2.1
  exact go rel
 refine Dq.Cw hs ho hx hdt ⟨s1⁻¹,[s1⁻¹],_,_,_,Z,I2.kept (t':=s1.toks) λb o e=>bJ _ e,Vq d _ hdt ek,bU _ Z,λb hb=>?_,q o _ pk⟩;have e:b=s1⁻¹:=()
 subst e;exact I2.Gn (aL _) (I2.hok.fresh (aL _))
end
def Mt{o:Obj}{d:Addr}{u:HO}{as:List Addr}{g:TG}{tb:TS}{D:Ends}{σ:St}{H:Hp}(Pv:Nat->St->Hp->Prop)(h0:Pv 0 σ H)(hl:∀i σ H,i<=as.length->Pv i σ H->H d=some (.iC o u))
  (hs:∀(i:Nat) a σ H,as[i]?=some a->Pv i σ H->g (.ref a) σ H λσ2 H2=>tb { D with nx:=Pv (i+1),ct:=Pv (i+1),bk:=D.nx} σ2 H2) (hd:∀σ H,Pv as.length σ H->D.nx σ H) :
  ∃W:Nat->Nat->St->Hp->Prop,(∃m,W 0 m σ H)/\∀i m σ H,W i m σ H->
   ((Itp o d u as).stop i H/\D.nx σ H)\/((Itp o d u as).go i H/\∃N:St->Hp->Prop,(∀σ' H',N σ' H'->∃m',m'<m/\W (i+1) m' σ' H')/\∀x H',(Itp o d u as).ZK i H x H'->g x σ H' λσ2 H2=>tb { D with nx:=N,ct:=N,bk:=D.nx} σ2 H2):=by
 refine⟨λi m σ H=>m=as.length-i/\i<=as.length/\Pv i σ H,⟨as.length,by simp,dh _,h0⟩,?_⟩;rintro i m σ H ⟨rfl,hi,p⟩;have q1:=hl i σ H hi p;by_cases hlt:i<as.length
 ·refine .inr ⟨⟨q1,hlt⟩,Pv (i+1),λσ' H' p'=>⟨as.length-(i+1),(),Z,hlt,p'⟩,λx H' y=>?_⟩;obtain⟨eH,ex⟩:=y;subst eH;rw[d7,bR hlt]at ex;cases ex;exact hs i as[i] σ H' (bR hlt) p
 ·have e:i=as.length:=()
  subst e;exact .inl ⟨⟨q1,Z⟩,hd σ H p⟩
section
variable{X:Cx}
def ę(i j:Int):Prop:=i.natAbs<2^4000/\j.natAbs<2^4000
def Mu{k:Int}(h:k.natAbs<2^4000):Builtin.Int.intBits k<=4000:=by
 unfold Builtin.Int.intBits;split
 ·grind
 ·have:k.natAbs.log2<4000:=by
   rcases Nat.eq_zero_or_pos k.natAbs with h0|hp
   ·rw[h0];decide
   ·exact(Nat.log2_lt (gD hp)).mpr h
  omega
def ę.ok{i j:Int}(h:ę i j):IntMulOk i j:=by
 have h1:=Mu h.1;have h2:=Mu h.2;have:Builtin.Int.intTooBig ((Builtin.Int.intBits i:Int)+(Builtin.Int.intBits j:Int))=false:=by
  unfold Builtin.Int.intTooBig;refine cM ?_;have e:((bitsLine:Nat):Int)=134217728:=()
  grind
 unfold IntMulOk;rw[this,Bool.and_false];exact cY
def Xl:sX X (binaryOp .Mult) (rI ę λi j=>.int (i*j)):=opI λ_ _ _ _ _ _ _ hc q=>mul_int q hc.ok
end
end L2
namespace K
open L2 Lw Bg
variable{P:Program}{w:World}{mg:Str->Option Value}{base:Heap}{ex:List Addr}{F:Hp}{pa:Addr}
section
variable{κ:Type} [DecidableEq κ]
def wU(bt:Int->Int->Bool)(cW bA:dY)(row more:gR):List dY->cQ->cQ
 | [],T=>T
 |x::l,T=>wU bt cW bA row more l (nA bt T x ⟨row.m*more.m,row.b+more.b,[cW,bA]⟩)
def ou(pq:PQ κ)(cW:dY)(row:gR):cQ->cQ->cQ
 | [],T=>T
 |x::A,T=>ou pq cW row A (wU pq.bt cW x.1 row x.2 (pq.jn cW x.1) T)
def gP(pq:PQ κ)(cW:dY)(A:cQ):cQ:=A.filter λx=>decide (pq.sh x.1=pq.sh cW)
def jN(pq:PQ κ)(A:cQ):cQ->cQ->cQ
 | [],T=>T
 |x::S,T=>jN pq A S (ou pq x.1 x.2 (gP pq x.1 A) T)
theorem JK(bt:Int->Int->Bool)(cW bA:dY)(row more:gR)(x:dY):∀(l:List dY) (T:cQ),wU bt cW bA row more (l++[x]) T=nA bt (wU bt cW bA row more l T) x ⟨row.m*more.m,row.b+more.b,[cW,bA]⟩
 | [],_=>rfl
 |_::l,T=>JK bt cW bA row more x l _
theorem Aq(pq:PQ κ)(cW:dY)(row:gR)(x:dY×gR):∀(A T:cQ),ou pq cW row (A++[x]) T=wU pq.bt cW x.1 row x.2 (pq.jn cW x.1) (ou pq cW row A T)
 | [],_=>rfl
 |_::A,T=>Aq pq cW row x A _
theorem join_snoc(pq:PQ κ)(A:cQ)(x:dY×gR):∀(S T:cQ),jN pq A (S++[x]) T=ou pq x.1 x.2 (gP pq x.1 A) (jN pq A S T)
 | [],_=>rfl
 |_::S,T=>join_snoc pq A x S _
def a0r(pq:PQ κ)(A S T:cQ):Prop:=∀i x,S[i]?=some x->∀j y,(gP pq x.1 A)[j]?=some y->∀l,l<=(pq.jn x.1 y.1).length->(wU pq.bt x.1 y.1 x.2 y.2 ((pq.jn x.1 y.1).take l) (ou pq x.1 x.2 ((gP pq x.1 A).take j) (jN pq A (S.take i) T))).length<=4000
def qg(pq:PQ κ)(L:List (Addr×dY))(k:List κ):List Addr:=(L.filter λx=>decide (pq.sh x.2=k)).map (·.1)
def Mv(pq:PQ κ)(L:List (Addr×dY))(x:Addr×dY)(k:List κ):qg pq (L++[x]) k=if pq.sh x.2=k then qg pq L k++[x.1]else qg pq L k:=by
 unfold qg;grind
def EY{O:List (List κ×V)}{k0:List κ}{v:V}(h:gJ O k0=none)(k:List κ):gJ (O++[(k0,v)]) k=if k0=k then some v else gJ O k:=by
 unfold gJ at h ⊢;rw[List.find?_append];by_cases c:k0=k
 ·subst c;rw[aG rfl];cases e:O.find? λkv=>decide (kv.1=k0)with
  |none=>rw[Option.none_or,zV (by exact bB Z)];rfl
  |some y=>rw[e]at h;cases h
 ·rw[aA c,zW (by exact λz=>c (iI z))];simp
end
section
variable{κ:Type} [DecidableEq κ]
structure wY(knd:KeyKind P w κ)(pq:PQ κ)(F G:Hp)(pa:Addr)(L:List (Addr×dY))(O:List (List κ×V)):Prop where
 dx:DX knd G pa O
 len:O.length<=L.length
 val:∀k,(gJ O k=none/\qg pq L k=[])\/∃l,gJ O k=some (.ref l)/\G l=some (.lst ((qg pq L k).map V.ref))
 inj:∀k k' l,gJ O k=some (.ref l)->gJ O k'=some (.ref l)->k=k'
 fr:∀k l,gJ O k=some (.ref l)->F l=none
def Rq(pq:PQ κ)(L:List (Addr×dY))(k:List κ):(qg pq L k).length<=L.length:=by
 unfold qg;grind
def Rr{knd:KeyKind P w κ}{H H':Hp}{a:Addr}{O:List (List κ×V)}(e:∀c o,(∀ys,o≠.lst ys)->H c=some o->H' c=some o)(h:DX knd H a O):DX knd H' a O:=by
 obtain⟨z,h|⟨xs,h1,h2⟩⟩:=h
 ·exact⟨z,.inl ⟨h.1,e _ _ (λ_ z=>by cases z) h.2⟩⟩
 ·exact⟨z,.inr ⟨xs,e _ _ (λ_ z=>by cases z) h1,Paired.bV h2 λ_ _ ⟨a,b,c⟩=>⟨a,b.same λ_ _ q=>e _ _ (λ_ z=>by cases z) q,c⟩⟩⟩
def Hs{knd:KeyKind P w κ}{H:Hp}{a:Addr}{O:List (List κ×V)}(h:DX knd H a O){ys:List V}:H a≠some (.lst ys):=λe=>by
 obtain⟨z,h|⟨xs,h1,h2⟩⟩:=h
 ·grind
 grind
def wY.same{knd:KeyKind P w κ}{pq:PQ κ}{F G G':Hp}{pa:Addr}{L:List (Addr×dY)}{O:List (List κ×V)}(I:wY knd pq F G pa L O)(s:aJ G G'):wY knd pq F G' pa L O :=
 ⟨I.dx.same s,I.len,λk=>(I.val k).imp id λ⟨l,h1,h2⟩=>⟨l,h1,s _ _ h2⟩,I.inj,I.fr⟩
def Xm{knd:KeyKind P w κ}{pq:PQ κ}{G G3:Hp}{L:List (Addr×dY)}{O:List (List κ×V)}{l a0:Addr}{st:dY}(I:wY knd pq F G pa L O)(hv:gJ O (pq.sh st)=some (.ref l))(c:wF G l (.lst ((qg pq L (pq.sh st)).map V.ref++[.ref a0])) G3)(hl:∃ys,G l=some (.lst ys)):wY knd pq F G3 pa (L++[(a0,st)]) O:=by
 obtain⟨ys,hl⟩:=hl;refine⟨Rr (λb o nl e=>?_) I.dx,by rw[cC];have:=I.len;omega,λk=>?_,I.inj,I.fr⟩
 ·rw[c.rest b (λz=>by grind)];exact e
 ·rw[Mv];by_cases ck:pq.sh st=k
  ·subst ck;rw[aG rfl];refine .inr ⟨l,hv,?_⟩;rw[c.here,eO];rfl
  ·rw[aA ck];refine(I.val k).imp id λ⟨l',h1,h2⟩=>⟨l',h1,?_⟩;rw[c.rest l' (λz=>ck (I.inj _ _ l hv ()))];exact h2
def Xn{knd:KeyKind P w κ}{pq:PQ κ}{G H' G3:Hp}{L:List (Addr×dY)}{O:List (List κ×V)}{l0 a0:Addr}{st:dY}(I:wY knd pq F G pa L O)(hv:gJ O (pq.sh st)=none)(hl:G l0=some (.lst []))(fl:F l0=none)(nl:∀k l,gJ O k=some (.ref l)->l≠l0)(hh:∀c,c≠pa->H' c=G c)(dx:DX knd H' pa (O++[(pq.sh st,.ref l0)]))(c:wF H' l0 (.lst ([]++[.ref a0])) G3):wY knd pq F G3 pa (L++[(a0,st)]) (O++[(pq.sh st,.ref l0)]):=by
 have npa:l0≠pa:=λz=>Hs I.dx (ys:=[]) ();have hl':H' l0=some (.lst []):=()
 have lk0:qg pq L (pq.sh st)=[]:=by
  rcases I.val (pq.sh st)with h|⟨l,h,_⟩
  ·exact h.2
  grind
 refine⟨Rr (λb o nl e=>?_) dx,by rw[cC,cC];have:=I.len;simp;omega,λk=>?_,λk k' l h h'=>?_,λk l h=>?_⟩
 ·rw[c.rest b (λz=>by grind)];exact e
 ·rw[Mv,EY hv];by_cases ck:pq.sh st=k
  ·subst ck;rw[aG Z,aG Z,lk0];exact .inr ⟨l0,Z,c.here⟩
  ·rw[aA ck,aA ck];refine(I.val k).imp id λ⟨l',h1,h2⟩=>⟨l',h1,?_⟩;rw[c.rest l' (nl k l' h1),hh l' (λz=>Hs I.dx (by rw[<-z];exact h2))];exact h2
 ·rw[EY hv]at h h';by_cases ck:pq.sh st=k
  ·grind
  ·by_cases ck':pq.sh st=k'
   ·grind
   ·rw[aA ck]at h;rw[aA ck']at h';exact I.inj _ _ _ h h'
 ·rw[EY hv]at h;by_cases ck:pq.sh st=k
  ·grind
  ·rw[aA ck]at h;exact I.fr _ _ h
def wY.Gr{knd:KeyKind P w κ}{pq:PQ κ}{G G':Hp}{L:List (Addr×dY)}{O:List (List κ×V)}(I:wY knd pq F G pa L O)(e:∀c o,(∀ob u,o≠.iC ob u)->G c=some o->G' c=some o):wY knd pq F G' pa L O:=by
 refine⟨?_,I.len,λk=>(I.val k).imp id λ⟨l,h1,h2⟩=>⟨l,h1,e _ _ (λ_ _ z=>by cases z) h2⟩,I.inj,I.fr⟩;obtain⟨z,h|⟨xs,h1,h2⟩⟩:=I.dx
 ·exact⟨z,.inl ⟨h.1,e _ _ (λ_ _ z=>by cases z) h.2⟩⟩
 ·exact⟨z,.inr ⟨xs,e _ _ (λ_ _ z=>by cases z) h1,Paired.bV h2 λ_ _ ⟨a,b,c⟩=>⟨a,b.same λ_ _ q=>e _ _ (λ_ _ z=>by cases z) q,c⟩⟩⟩
def Gg{R:Addr->dY×gR->Prop}(pq:PQ κ)(k:List κ){as:List Addr}{A:cQ}(h:Paired R as A):Paired R (qg pq (as.zip (A.map (·.1))) k) (A.filter λx=>decide (pq.sh x.1=k)):=by
 induction h with
 |nil=>exact .nil
 | @cons a x as A h t ih =>
  unfold qg at ih ⊢;rw[cH,List.zip_cons_cons];by_cases c:pq.sh x.1=k
  ·rw[Sx (by exact bB c),Sx (by exact bB c),cH];exact .cons h ih
  grind
theorem vB:∀{A:cQ}{x:dY×gR},(A.map (·.1)).Nodup->x∈A->K1 A x.1=some x.2
 |y::A,x,nd,h=>by
  unfold K1
  rw[cH,jP]at nd
  rcases b7.mp h with rfl|h
  ·grind
  ·rw[zW ()]
   exact vB nd.2 h
end
abbrev iB:Stmt:=top 26
def gH:bC ["question","table","source","another","alike","other","one","row","more","state"] Jx (aF iB):={}
section
variable{K:aH}{κ:Type} [DecidableEq κ]
def qC(T:cQ):Prop:=∀x∈T,x.2.m.natAbs<2^4000
inductive a0s(Qn:Hl P w K mg base κ)(vs:List V)(H:Hp)(Q:VK)(u_3:XK):Prop
 |mk (d t sc an:Addr) (O iM jK:List (List Key×V)) (T S A:cQ) (m:Nat) (_:vs=[.ref d,.ref t,.ref sc,.ref an]) (_:Qn.At H d) (_:H t=some (.dT O)) (_:qy H O T) (_:H sc=some (.dT iM)) (_:qy H iM S) (_:H an=some (.dT jK)) (_:qy H jK A) (_:t≠sc) (_:t≠an) (_:sc≠an) (_:(∀x∈S,Qn.pq.Ok m x.1)) (_:(∀x∈A,Qn.pq.Ok m x.1)) (_:m<=5) (_:(A.map (·.1)).Nodup) (_:S.length<=4000) (_:A.length<=900) (_:qC S) (_:qC A) (_:a0r Qn.pq A S T) (_:∀kvs' H',Sd t H H'->H' t=some (.dT kvs')->qy H' kvs' (jN Qn.pq A S T)->Q .non H')
def JL(Qn:Hl P w K mg base κ)(qz:Dn K mg "note" uQ Cz)(wJ:Dn K mg "fill_joined" iB Jx):bf P w K mg base gb 10 wJ.f wJ.fd Jx (a0s Qn):=by
 have JM:bf P w K mg base gb 9 _ _ _ _:=Qn.rz.ok.mono ();have VD:bf P w K mg base gb 9 _ _ _ _:=Qn.vq.ok.mono ();have a2O:bf P w K mg base gb 9 _ _ _ _:=Xf Qn qz;refine wJ.F.ok gH λeV A' outer s H vs Q E hr h=>?_;obtain⟨d,t,sc,an,O,iM,jK,T,S,A,m,rfl,hD,ht,hT,hsc,hS,han,hA,nts,nta,nsa,rQ,okA,m5,ndA,lS,lA,smS,smA,lim,q⟩:=h;have hw1:(A'.deeper (PyProof.Rows.envOfC "fill_joined" (aF iB) s⁻¹ wJ.f eV)).units+1<cLine:=by have:=hr.un;omega
 refine⟨_,(aD (aY 4 gH.nd Cy)
   (aD (vg (jC jf Z (Rp (pv 3)) (aM 5 gH.nd)
   (aB (gY (qw (K:=K) Z mR PySem.F.slot_list_append PySem.F.type_list_append jo (Px Qn.knd PySem.F.plainAttrs_dict PySem.F.slot_dict_setdefault PySem.F.type_dict_setdefault (yg Qn.knd hw1) (pv 4) (J (wu (pv 0) Qn.cl Qn.rz.mt JM hr Qn.rz.b .nil b8 (J (pv 5) aj)) (J (cu aj) aj))) (J (pv 5) aj))))))
   (aB (vg (jC jf Z (vo (qN (K:=K) Z xG HX HY vh (pv 2))) (jU (K:=K) (n:=2) Z Z (bZ (aM 6 gH.nd) (bZ (aM 7 gH.nd) jw)))
   (aB (jC jf Z (fU (K:=K) Z (Px Qn.knd xG Ih S5 (WY Qn.knd hw1) (pv 4) (J (wu (pv 0) Qn.cl Qn.rz.mt JM hr Qn.rz.b .nil b8 (J (pv 6) aj)) (J (cu aj) aj)))) (aM 5 gH.nd)
   (aD (aY 8 gH.nd (zj hw1 (pv 3) (pv 5) λ_ _=>rfl))
   (aB (jC jf Z (fU (K:=K) Z (wu (pv 0) Qn.cl Qn.vq.mt VD hr Qn.vq.b .nil b8 (J (pv 6) (J (pv 5) aj)))) (aM 9 gH.nd)
   (aB (gY (bh a2O hr Z qz.m qz.F.kp qz.b .nil b8 (J (pv 0) (J (pv 1) (J (pv 9) (J (bw (J (bH Xl (aQ (aN (K:=K) Z) (pv 7) aq) (aQ (aN (K:=K) Z) (pv 8) aq)) (J (bH fD (aQ (aN (K:=K) Z) (pv 7) aq) (aQ (aN (K:=K) Z) (pv 8) aq)) (J (bw (J (pv 6) (J (pv 5) aj))) aj)))) aj))))))))))))))))),?_⟩
 refine λpa hpa=>?_;have n1:=gW.nY (o:=.dT []) hpa;generalize cI H pa (.dT [])=H1 at n1 ⊢;have h1a:=n1.same _ _ han;refine⟨_,Z,an,jK,Z,h1a,λo as pk=>?_⟩;have npa:pa≠an:=λz=>by have:=n1.fresh;rw[z,han]at this;cases this
 have npt:pa≠t:=λz=>by have:=n1.fresh;rw[z,ht]at this;cases this
 have nps:pa≠sc:=λz=>by have:=n1.fresh;rw[z,hsc]at this;cases this
 have Xi:Nd H (cI H1 an (.iC o (.dT jK))):=(Nd.of n1.same).trans (Nd.iC h1a);have g0a:cI H1 an (.iC o (.dT jK)) an=some (.iC o (.dT jK)):=cP;have g0p:cI H1 an (.iC o (.dT jK)) pa=some (.dT []):=by rw[aO npa];exact n1.here
 have Xj:∀c,c≠an->cI H1 an (.iC o (.dT jK)) c=H1 c:=λc hc=>aO hc;generalize cI H1 an (.iC o (.dT jK))=G0 at pk Xi g0a g0p Xj ⊢;have lk:=aV hA;have la:=aV pk;obtain⟨L,hL⟩:∃L:List (Addr×dY),L=as.zip (A.map (·.1)):=⟨_,Z⟩;have lL:L.length=as.length:=by rw[hL,List.length_zip,aK];omega
 have atL:∀i a0,as[i]?=some a0->∃st more,A[i]?=some (st,more)/\L[i]?=some (a0,st)/\G0 a0=some (.tup ((lZ st).map kV)):=λi a0 ha0=>by
  obtain⟨kv,hkv,hak⟩:=bx pk ha0;obtain⟨⟨st,more⟩,hsx,ek,hrow⟩:=bx hA hkv;have ek:kv.1=lZ st:=ek;rw[ek]at hak;refine⟨st,more,hsx,?_,hak⟩;rw[hL,Á];exact⟨ha0,by rw[d7,hsx];rfl⟩
 refine ė (P:=λi σ G=>P3 (T1 (λo5=>[some (.ref d),some (.ref t),some (.ref sc),some (.ref an),some (.ref pa),o5,none,none,none,none]) σ) (Sd pa G0 G) λka=>wY Qn.knd Qn.pq G0 G pa (L.take i) ka) λZ97 ji ij=>Mt Z97 (ji _ _ _ ⟨⟨_,Z⟩,.refl,[],⟨DX.new g0p,by simp,λk=>.inl ⟨Z,Z⟩,λk k' l h=>(by cases h),λk l h=>(by cases h)⟩⟩) (λi σ G _ h=>(ij _ _ _ h).s _ _ (Ne.symm npa) g0a) ?_ ?_
 ·intro i a0 σ G ha0 h1;obtain⟨⟨o5,rfl⟩,sG,ka,hK⟩:=ij _ _ _ h1;obtain⟨st,more,hAi,hLi,hak⟩:=atL i a0 ha0;have nG:Nd G0 G:=.sd sG g0p;have nHG:Nd H G:=Xi.trans nG;have hDG:=nHG.at Qn hD;obtain⟨dx',fs,hd,nom,_⟩:=Qn.ins hDG;have hst:oV G a0 st:=oV.Gd (nG.tups _ _ hak);have hTi:L.take (i+1)=L.take i++[(a0,st)]:=by rw[jQ,hLi];rfl
  have li:(L.take i).length<=900:=by rw[fP];omega
  refine⟨_,Z,⟨pa,ka,Z,hK.dx⟩,_,Z,d,dx',fs,Z,hd,nom _ (),_,Z,d,a0,m,st,Z,hDG,hst,okA _ (iU hAi),m5,λb G1 s1 hk=>⟨(),λl0 G2 n2=>?_⟩⟩;have s2:=s1.trans n2.same;have Fb:=hK.same s2;have lk0:=hK.len;refine⟨pa,b,Qn.pq.sh st,ka,.ref l0,Z,Z,hk.same λ_ _ z=>n2.same _ _ z,Fb.dx,(),λy hy=>?_,λhn H' hh dxn=>?_⟩
  ·rcases Fb.val (Qn.pq.sh st)with h|⟨l,h1,h2⟩
   ·rw[h.1]at hy;cases hy
   ·rw[h1]at hy;cases hy;refine⟨.inl ⟨Z,_,bM.of h2⟩,_,Z,l,_,_,Z,Z,h2,?_,λG3 c3=>?_⟩
    ·rw[aK];have:=Rq Qn.pq (L.take i) (Qn.pq.sh st);omega
    ·refine ji _ _ _ ⟨⟨_,Z⟩,λc u hc e=>?_,ka,by rw[hTi];exact Xm Fb h1 c3 ⟨_,h2⟩⟩;rw[c3.rest c (λz=>by have:=Fb.fr _ _ h1;rw[<-z,e]at this;cases this)];exact s2 _ _ (sG c u hc e)
  ·have ť:l0≠pa:=λz=>Hs Fb.dx (ys:=[]) (by rw[<-z];exact n2.here);have hl0:H' l0=some (.lst []):=by rw[hh l0 ť];exact n2.here
   refine⟨.inl ⟨Z,_,bM.of hl0⟩,_,Z,l0,[],_,Z,Z,hl0,(),λG3 c3=>?_⟩;have fl:G0 l0=none:=by
    cases e:G0 l0 with
    |none=>rfl
    |some u =>
     have h1:=s1 _ _ (sG l0 u ť e);have h2:=n2.fresh;rw[h1]at h2;cases h2
   refine ji _ _ _ ⟨⟨_,Z⟩,λc u hc e=>?_,_,by
    rw[hTi];refine Xn Fb hn n2.here fl (λk l h z=>?_) hh dxn c3;rcases hK.val k with h'|⟨l',h1,h2⟩
    ·rw[h'.1]at h;cases h
    ·rw[h1]at h;cases h;have h3:=s1 _ _ h2;have h4:=n2.fresh;rw[<-z,h3]at h4;cases h4⟩
   rw[c3.rest c (λz=>by rw[z,fl]at e;cases e),hh c hc];exact s2 _ _ (sG c u hc e)
 intro σ G h1;obtain⟨⟨o5,rfl⟩,sG,ka,hK⟩:=ij _ _ _ h1;clear ji ij;have ga:=sG _ _ (Ne.symm npa) g0a;refine⟨an,o,jK,jK,h1a,ga,?_⟩;have sF:aJ H (cI G an (.dT jK)):=λc u e=>by
  have ncp:c≠pa:=λz=>by rw[z,n1.fresh]at e;cases e
  by_cases z:c=an
  ·rw[z]at e ⊢;rw[cP,<-e,han]
  ·rw[aO z];refine sG c u ncp ?_;rw[Xj c z];exact n1.same _ _ e
 rw[show L.take as.length=L by rw[<-lL,gO]]at hK;have hKF:wY Qn.knd Qn.pq G0 (cI G an (.dT jK)) pa L ka:=hK.Gr λc u nf e=>by
  rw[aO (λz=>by rw[z,ga]at e;exact nf _ _ (dM e).symm)];exact e
 have pkF:Paired (λa (x:dY×gR)=>oV (cI G an (.dT jK)) a x.1) as A:=by
  have go:∀{as:List Addr}{ks:List (List Key×V)}{B:cQ},Paired (λa (kv:List Key×V)=>G0 a=some (.tup (kv.1.map kV))) as ks->qy H ks B->Paired (λa (x:dY×gR)=>oV (cI G an (.dT jK)) a x.1) as B:=λ{as ks B} p=>by
   induction p generalizing B with
   |nil=>intro h;cases h;exact .nil
   | @cons a kv as ks h1 _ ih =>
    intro h;cases h with
    | @cons _ tr _ B' h2 t2 =>
     refine .cons ?_ (ih t2);have e:kv.1=lZ tr.1:=h2.1;rw[e]at h1;exact oV.Gd (Nd.Gr ga _ _ ((Nd.sd sG g0p).tups _ _ h1))
  exact go pk hA
 generalize cI G an (.dT jK)=F at sF hKF pkF ⊢;have Py:=sF _ _ hsc;refine⟨_,Z,.inr (.inr (.inl ⟨Z,.inr ⟨_,Py⟩⟩)),sc,iM,Z,Z,Py,λpv H2 n2=>⟨pv,sc,iM,Z,n2.here,n2.same _ _ Py,λo2 as2 pk2=>?_⟩⟩;have s2:=sF.trans n2.same;have h2s:=s2 _ _ hsc;have Rf:Nd H (cI H2 sc (.iC o2 (.dT iM))):=(Nd.of s2).trans (Nd.iC h2s);have f0s:cI H2 sc (.iC o2 (.dT iM)) sc=some (.iC o2 (.dT iM)):=cP;have f0t:cI H2 sc (.iC o2 (.dT iM)) t=some (.dT O):=by rw[aO nts];exact s2 _ _ ht
 have f0a:cI H2 sc (.iC o2 (.dT iM)) an=some (.dT jK):=by rw[aO (Ne.symm nsa)];exact s2 _ _ han
 have f0r:∀c,c≠sc->cI H2 sc (.iC o2 (.dT iM)) c=H2 c:=λc hc=>aO hc;have Fb:wY Qn.knd Qn.pq G0 (cI H2 sc (.iC o2 (.dT iM))) pa L ka:=by
  have h:=hKF.same n2.same;refine⟨?_,h.len,λk=>(h.val k).imp id λ⟨l,h1,h2⟩=>⟨l,h1,?_⟩,h.inj,h.fr⟩
  ·obtain⟨z,hh|⟨xs,h1,h2⟩⟩:=h.dx
   ·refine⟨z,.inl ⟨hh.1,?_⟩⟩;rw[aO nps];exact hh.2
   ·refine⟨z,.inr ⟨xs,?_,Paired.bV h2 λ_ _ ⟨a,b,c⟩=>⟨a,b.same λc' ys q=>?_,c⟩⟩⟩
    ·rw[aO nps];exact h1
    ·rw[aO (λz=>by rw[z,h2s]at q;cases q)];exact q
  ·rw[aO (λz=>by rw[z,h2s]at h2;cases h2)];exact h2
 have Ě:Paired (λa (x:dY×gR)=>oV (cI H2 sc (.iC o2 (.dT iM))) a x.1) as A:=Paired.bV pkF λa x h=>by
  show cI H2 sc (.iC o2 (.dT iM)) a=_;have h':H2 a=some (.tup (x.1.map V.int)):=n2.same _ _ h;rw[aO (λz=>by rw[z,h2s]at h';cases h')];exact h'
 generalize cI H2 sc (.iC o2 (.dT iM))=F0 at pk2 Rf f0s f0t f0a f0r Fb Ě ⊢;have lk2:=aV hS;have la2:=aV pk2;refine ė (P:=λi σ G=>P4 (T5 (λo5 o6 o7 o8 o9=>[some (.ref d),some (.ref t),some (.ref sc),some (.ref an),some (.ref pa),o5,o6,o7,o8,o9]) σ) (Sd t F0 G) (λkt=>G t=some (.dT kt)) λkt=>qy G kt (jN Qn.pq A (S.take i) T)) λZ97 ji ij=>wH Z97 (ji _ _ _ ⟨⟨_,_,_,_,_,Z⟩,.refl,O,f0t,hT.keep Rf.tups⟩) (λi σ G _ h=>(ij _ _ _ h).s _ _ (Ne.symm nts) f0s) ?_ ?_
 ·intro i a0 v0 σ G p G1 ha0 hv0 h1 nw;obtain⟨⟨o5,o6,o7,o8,o9,rfl⟩,sG,kt,hkt,Xk⟩:=ij _ _ _ h1;obtain⟨kv,hkv,hak⟩:=bx pk2 ha0;obtain⟨⟨cW,row⟩,hsx,ek,hrow⟩:=bx hS hkv;have ek:kv.1=lZ cW:=ek;have hv0':v0=kv.2:=by
   rw[d7,hkv]at hv0;exact(dM hv0).symm
  subst hv0';rw[ek]at hak;have nG:Nd F0 G:=.sd sG f0t;have s1:aJ G G1:=nw.same;have ZM:Nd F0 G1:=nG.trans (.of s1);have Ť:Nd H G1:=Rf.trans ZM;have hone:oV G1 a0 cW:=oV.Gd (ZM.tups _ _ hak);have CP:K3 G1 kv.2 row:=hrow.keep Ť.tups;have mem:(cW,row)∈S:=iU hsx;have hDG:=Ť.at Qn hD;obtain⟨dx',fs,hd,nom,_⟩:=Qn.ins hDG;have hKG:wY Qn.knd Qn.pq G0 G1 pa L ka:=by
   have ex:∀c u,c≠t->F0 c=some u->G1 c=some u:=λc u hc e=>s1 _ _ (sG c u hc e);refine⟨?_,Fb.len,λk=>(Fb.val k).imp id λ⟨l,h1,h2⟩=>⟨l,h1,ex _ _ (λz=>by rw[z,f0t]at h2;cases h2) h2⟩,Fb.inj,Fb.fr⟩;obtain⟨z,hh|⟨xs,h1,h2⟩⟩:=Fb.dx
   ·exact⟨z,.inl ⟨hh.1,ex _ _ npt hh.2⟩⟩
   ·exact⟨z,.inr ⟨xs,ex _ _ npt h1,Paired.bV h2 λ_ _ ⟨a,b,c⟩=>⟨a,b.same λ_ _ q=>ZM.tups _ _ q,c⟩⟩⟩
  refine⟨p,_,Z,cL.of nw.here,Z,_,_,Z,_,_,Z,Z,?_⟩;refine⟨_,Z,⟨pa,ka,Z,hKG.dx⟩,_,Z,d,dx',fs,Z,hd,nom _ (),_,Z,d,a0,m,cW,Z,hDG,hone,rQ _ mem,m5,λb G2 t2 hk=>⟨(),λl0 G3 n3=>?_⟩⟩;have t3:=t2.trans n3.same;have hK3:=hKG.same t3;refine⟨pa,b,Qn.pq.sh cW,ka,.ref l0,Z,Z,hk.same λ_ _ z=>n3.same _ _ z,hK3.dx,?_⟩;obtain⟨l,el,hl⟩:∃l,(gJ ka (Qn.pq.sh cW)).getD (.ref l0)=.ref l/\G3 l=some (.lst ((qg Qn.pq L (Qn.pq.sh cW)).map V.ref)):=by
   rcases hK3.val (Qn.pq.sh cW)with⟨h1,h2⟩|⟨l,h1,h2⟩
   ·rw[h1,h2];exact⟨l0,Z,n3.here⟩
   ·rw[h1];exact⟨l,Z,h2⟩
  rw[el];have nG3:Nd F0 G3:=ZM.trans (.of t3);have pO:Paired (λa (x:dY×gR)=>oV G3 a x.1) (qg Qn.pq L (Qn.pq.sh cW)) (gP Qn.pq cW A):=by
   rw[hL];exact Paired.bV (Gg Qn.pq (Qn.pq.sh cW) Ě) λ_ _ h=>h.keep nG3.tups
  have lO:=aV pO;have st3:aJ G G3:=s1.trans t3;have hT3:qy G3 kt (jN Qn.pq A (S.take i) T):=Xk.keep (.of st3);have ht3:G3 t=some (.dT kt):=st3 _ _ hkt;have hTi:S.take (i+1)=S.take i++[(cW,row)]:=by rw[jQ,hsx];rfl
  refine⟨l,Z,⟨_,bM.of hl⟩,ė (P:=λj σ G'=>P4 (T3 (λo5 o8 o9=>[some (.ref d),some (.ref t),some (.ref sc),some (.ref an),some (.ref pa),o5,some (.ref a0),some kv.2,o8,o9]) σ) (Sd t G3 G') (λBw=>G' t=some (.dT Bw)) λBw=>qy G' Bw (ou Qn.pq cW row ((gP Qn.pq cW A).take j) (jN Qn.pq A (S.take i) T))) λJ2 jk kj=>xZ (K:=K) (a:=l) (xs:=(qg Qn.pq L (Qn.pq.sh cW)).map V.ref) J2 (jk _ _ _ ⟨⟨_,_,_,Z⟩,.refl,kt,ht3,hT3⟩) (λj σ G' _ h=>bM.of ((Nd.sd (kj _ _ _ h).s ht3).lst hl)) ?_ ?_⟩
  ·intro j x σ G' hx h1;obtain⟨⟨o5,o8,o9,rfl⟩,Sq,Bw,JH,hT'⟩:=kj _ _ _ h1;rw[d7]at hx;obtain⟨b0,hb0,rfl⟩:=mU.mp hx;obtain⟨⟨bA,more⟩,hox,hob⟩:=bx pO hb0;have a2Q:(bA,more)∈gP Qn.pq cW A:=iU hox;obtain⟨Pz,shE⟩:=kJ.mp a2Q;have shE:Qn.pq.sh bA=Qn.pq.sh cW:=iI shE;have n3':Nd G3 G':=.sd Sq ht3;have nHG:Nd H G':=Rf.trans (nG3.trans n3');have hoG:oV G' b0 bA:=hob.keep n3'.tups;have Xo:oV G' a0 cW:=hone.keep ((pZ.of t3).trans n3'.tups);have haG:G' an=some (.dT jK):=Sq _ _ (Ne.symm nta) (st3 _ _ (sG _ _ (Ne.symm nta) f0a));obtain⟨vm,em,hmore⟩:∃vm,gJ jK (lZ bA)=some vm/\K3 H vm more:=by
    rcases CK bA hA with⟨_,e2⟩|⟨v,r,e1,e2,h⟩
    ·rw[vB ndA Pz]at e2;cases e2
    ·rw[vB ndA Pz]at e2;cases e2;exact⟨v,e1,h⟩
   have a4P:=nHG.at Qn hD;obtain⟨Ŧ,fs2,hd2,a6u,_⟩:=Qn.ins a4P;refine⟨_,Z,_,Z,an,vm,Z,by rw[<-em];exact Gq.t haG hoG.key,?_⟩;refine⟨_,Z,d,Ŧ,fs2,Z,hd2,a6u _ (),_,Z,_,Z,d,a0,b0,m,cW,bA,Z,a4P,Xo,hoG,rQ _ mem,okA _ Pz,m5,shE.symm,λr xs G4 s4 hr4 pm=>⟨r,Z,⟨_,bM.of hr4⟩,?_⟩⟩;have ht4:=s4 _ _ JH;have hT4:=hT'.keep (pZ.of s4);have lpm:=aV pm;have a6v:=lim i _ hsx j _ hox;have ZP:(gP Qn.pq cW A).take (j+1)=(gP Qn.pq cW A).take j++[(bA,more)]:=by rw[jQ,hox];rfl
   refine ė (P:=λe σ G5=>P4 (T1 (λo9=>[some (.ref d),some (.ref t),some (.ref sc),some (.ref an),some (.ref pa),some (.ref b0),some (.ref a0),some kv.2,some vm,o9]) σ) (Sd t G4 G5) (λY7=>G5 t=some (.dT Y7)) λY7=>qy G5 Y7 (wU Qn.pq.bt cW bA row more ((Qn.pq.jn cW bA).take e) (ou Qn.pq cW row ((gP Qn.pq cW A).take j) (jN Qn.pq A (S.take i) T)))) λJ3 jm mj=>xZ (K:=K) (a:=r) (xs:=xs) J3 (jm _ _ _ ⟨⟨_,Z⟩,.refl,Bw,ht4,hT4⟩) (λe σ G5 _ h=>bM.of ((Nd.sd (mj _ _ _ h).s ht4).lst hr4)) ?_ ?_
   ·intro e x σ G5 hx h1;obtain⟨⟨o9,rfl⟩,sG5,kt5,a2R,hT5⟩:=mj _ _ _ h1;obtain⟨st',hmx,aa,rfl,haa⟩:=bx pm hx;have n4':Nd G4 G5:=.sd sG5 ht4;have a4Q:Nd H G5:=nHG.trans ((Nd.of s4).trans n4');have a2S:Nd G' G5:=(Nd.of s4).trans n4';obtain⟨pr,qr,asr,VB,hpr,hqr,hsr⟩:=CP.keep ((pZ.of t3).trans (n3'.tups.trans a2S.tups));obtain⟨pm',qm,asm,a1p,hpm,hqm,hsm⟩:=hmore.keep a4Q.tups;rw[VB,a1p];refine⟨_,Z,_,Z,_,Z,_,Z,pr,_,_,.int row.m,Z,Z,cL.of hpr,Z,_,Z,pm',_,_,.int more.m,Z,Z,cL.of hpm,Z,_,_,Z,Z,⟨smS _ mem,smA _ Pz⟩,_,Z,pr,_,_,.int row.b,Z,Z,cL.of hpr,Z,_,Z,pm',_,_,.int more.b,Z,Z,cL.of hpm,Z,_,_,Z,Z,_,Z,_,Z,(),λq1 G6 m6=>⟨(),λq2 G7 m7=>?_⟩⟩;have s67:=m6.same.trans m7.same;refine⟨d,t,aa,.ref q2,kt5,_,st',⟨row.m*more.m,row.b+more.b,[cW,bA]⟩,Z,(a4Q.trans (.of s67)).at Qn hD,s67 _ _ a2R,hT5.keep (.of s67),?_,haa.keep (n4'.tups.trans (.of s67)),⟨q2,q1,[a0,b0],Z,m7.here,m7.same _ _ m6.here,.cons (Xo.keep (a2S.tups.trans (.of s67))) (.cons (hoG.keep (a2S.tups.trans (.of s67))) .nil)⟩,λkt8 G8 s8 h8 hT8=>?_⟩
    ·exact a6v e (eE (fO.mp hmx).1)
    ·refine jm _ _ _ ⟨⟨_,by rw[VB,a1p];rfl⟩,sG5.trans ((Sd.of s67).trans s8),kt8,h8,?_⟩;rw[jQ,hmx];show qy G8 kt8 (wU Qn.pq.bt cW bA row more ((Qn.pq.jn cW bA).take e++[st']) _);rw[JK];exact hT8
   ·intro σ G5 h1;obtain⟨⟨o9,rfl⟩,sG5,kt5,a2R,hT5⟩:=mj _ _ _ h1;refine jk _ _ _ ⟨⟨_,_,_,Z⟩,Sq.trans ((Sd.of s4).trans sG5),kt5,a2R,?_⟩;rw[ZP,Aq];rw[lpm,gO]at hT5;exact hT5
  ·intro σ G' h1;obtain⟨⟨o5,o8,o9,rfl⟩,Sq,Bw,JH,hT'⟩:=kj _ _ _ h1;refine ji _ _ _ ⟨⟨_,_,_,_,_,Z⟩,sG.trans ((Sd.of st3).trans Sq),Bw,JH,?_⟩;rw[hTi,join_snoc];rw[aK,lO,gO]at hT';exact hT'
 ·intro σ G h1;obtain⟨⟨o5,o6,o7,o8,o9,rfl⟩,sG,kt,hkt,Xk⟩:=ij _ _ _ h1;have gs:=sG _ _ (Ne.symm nts) f0s;refine⟨sc,o2,iM,iM,Py,gs,?_⟩;refine q kt _ (λc u hc e=>?_) (by rw[aO nts];exact hkt) ?_
  ·by_cases z:c=sc
   ·rw[z]at e ⊢;rw[cP,<-e,hsc]
   ·rw[aO z];refine sG c u hc ?_;rw[f0r c z];exact s2 _ _ e
  ·rw[show S.take as2.length=S by rw[la2,lk2,gO]]at Xk;exact Xk.keep (Nd.Gr gs)
end
abbrev oW:Stmt:=top 3
def ě:bC j4 j4 (aF oW):={}
def Y8{p q:Int->Bool}(h:∀v,0<=v->v<16->p v=q v):Qw p=Qw q:=by
 unfold Qw;refine List.filter_congr λv hv=>?_;grind
def gQ(xs ys:List Int):List Int:=Qw λv=>decide (v∈xs\/v∈ys)
inductive a0t(K:aH)(vs:List V)(H:Hp)(Q:VK)(u_3:XK):Prop
 |mk (a b:Addr) (xs ys:List Int) (_:vs=[.ref a,.ref b]) (_:bM K H a (xs.map V.int)) (_:bM K H b (ys.map V.int)) (_:Small xs) (_:Small ys) (_:∀H0 p H',aJ H H0->gW H0 p (.lst ((gQ xs ys).map V.int)) H'->Q (.ref p) H')
section
variable{K:aH}
def Rt(B:Bl mg)(oG:Dn K mg "joint" oW j4):bf P w K mg base gb 1 oG.f oG.fd j4 (a0t K):=by
 refine oG.F.ok ě λeV A outer s H vs Q E hr h=>?_;obtain⟨a,b,xs,ys,rfl,hA,hB,sA,sB,q⟩:=h;refine⟨_,(aB (bF (bG (Pk (w:=w) Z Z) Z B.sorted () (J (bH (a2x (w:=w) Z) (gq (Mj (K:=K) (w:=w) Z Z Z) Z B.set () (J (pv 0) aj)) (gq (Mj (K:=K) (w:=w) Z Z Z) Z B.set () (J (pv 1) aj))) aj)))),⟨_,Z,a,xs,Z,hA,sA,λp1 L1 H1 n1 m1=>⟨_,Z,b,ys,Z,n1.same.seq hB,sB,λp2 L2 H2 n2 m2=>⟨p1,p2,L1,L2,Z,Z,n2.ne n1.here,n2.same _ _ n1.here,n2.here,λp3 L H3 n3 m3=>⟨p3,false,L,Z,n3.here,λp4 H4 n4=>?_⟩⟩⟩⟩⟩;have e:(Qw λv=>decide (v.toNat∈L))=gQ xs ys:=Y8 λv h0 h1=>by
  have ev:((v.toNat:Nat):Int)=v:=()
  rw[Ip,m3 v.toNat,m1 v.toNat,m2 v.toNat,ev]
 rw[e]at n4;exact q H3 p4 H4 (n1.same.trans (n2.same.trans n3.same)) n4
end
abbrev nP:Stmt:=top 23
def oE:bC ["steps","question","tops","feeds","told","step","bag","used","table"] Jy (aF nP):={}
section
variable{K:aH}{κ:Type} [DecidableEq κ]
noncomputable def K7(pq:PQ κ)(aR:List (List Int))(iW:List cQ)(kh:bT)(aZ:List Int)(used:List Nat):cQ:=match used with
 | []=>[(pq.leaf,⟨1,0,[]⟩)]
 | [i]=>tX pq kh (gQ aZ (aR.getD i [])) (iW.getD i []) []
 |i::j::_=>jN pq (iW.getD j []) (iW.getD i []) []
def K8(pq:PQ κ)(ss:List bT)(aR:List (List Int))(dH:List (List Nat)):Nat->List cQ
 |0=>[]
 |k+1=>K8 pq ss aR dH k++[K7 pq aR (K8 pq ss aR dH k) (ss.getD k .leaf) (aR.getD k []) (dH.getD k [])]
theorem nH(pq:PQ κ)(ss:List bT)(aR:List (List Int))(dH:List (List Nat)):∀k,(K8 pq ss aR dH k).length=k
 |0=>rfl
 |k+1=>by
  show(_++[_]).length=_
  rw[cC,nH pq ss aR dH k]
  rfl
def Ar(Qn:Hl P w K mg base κ)(aR:List (List Int))(iW:List cQ)(kh:bT)(aZ:List Int)(used:List Nat):Prop:=match used with
 | []=>True
 | [i]=>kh≠.join/\i<iW.length/\(∀x∈iW.getD i [],Qn.pq.Ok (aR.getD i []).length x.1)/\Hq Qn kh (gQ aZ (aR.getD i [])) (aR.getD i []).length/\(iW.getD i []).length<=4000/\a2N Qn.pq kh (gQ aZ (aR.getD i [])) (iW.getD i []) []
 | [i,j]=>kh=.join/\i<iW.length/\j<iW.length/\i≠j/\∃m≤5,(∀x∈iW.getD i [],Qn.pq.Ok m x.1)/\(∀x∈iW.getD j [],Qn.pq.Ok m x.1)/\((iW.getD j []).map (·.1)).Nodup/\(iW.getD i []).length<=4000/\(iW.getD j []).length<=900/\qC (iW.getD i [])/\qC (iW.getD j [])/\a0r Qn.pq (iW.getD j []) (iW.getD i []) []
 |_=>False
def Ĝ(H:Hp)(p:Addr)(T:cQ):Prop:=∃O,H p=some (.dT O)/\qy H O T
inductive a2T(Qn:Hl P w K mg base κ)(vs:List V)(H:Hp)(Q:VK)(u_3:XK):Prop
 |mk (d a pt pf:Addr) (xs vt:List V) (fs:List Addr) (ss:List bT) (aR:List (List Int)) (dH:List (List Nat)) (_:vs=[.ref a,.ref d,.ref pt,.ref pf]) (_:Qn.At H d) (_:bM K H a xs) (_:Paired (uR K H) xs ss) (_:bM K H pt vt) (_:Paired (λv b=>∃p,v=.ref p/\bM K H p (b.map V.int)) vt aR) (_:bM K H pf (fs.map V.ref)) (_:Paired (λf us=>H f=some (.lst (us.map λj:Nat=>V.int (j:Int)))) fs dH) (_:ss.length<=900) (_:aR.length=ss.length) (_:dH.length=ss.length) (_:(∀b∈aR,Small b)) (_:(∀k,k<ss.length->Ar Qn aR (K8 Qn.pq ss aR dH k) (ss.getD k .leaf) (aR.getD k []) (dH.getD k []))) (_:∀pl ps H',aJ H H'->H pl=none->H' pl=some (.lst (ps.map V.ref))->Paired (Ĝ H') ps (K8 Qn.pq ss aR dH ss.length)->ps.Nodup->(∀p∈ps,H p=none)->Q (.ref pl) H')
def Y9{α:Type}{ps:List α}{i j:Nat}{p:α}(nd:ps.Nodup)(h:ps[i]?=some p)(h':ps[j]?=some p):i=j:=by
 have h1:=fO.mp h;have h2:=fO.mp h';have pw:=Z9.mp nd;rcases Nat.lt_trichotomy i j with c|c|c
 ·exact absurd (h1.2.trans h2.2.symm) (pw i j h1.1 h2.1 c)
 ·exact c
 ·exact absurd (h2.2.trans h1.2.symm) (pw j i h2.1 h1.1 c)
def Za:∀{s:bT},s.word=(Str.ofString "join")->s=.join
 |.leaf,h=>absurd (show Str.ofString "leaf" = Str.ofString "join" from h) ()
 |.inn _,h=>absurd (show Str.ofString "in" = Str.ofString "join" from h) ()
 |.tie _ _,h=>absurd (show Str.ofString "tie" = Str.ofString "join" from h) ()
 |.out _,h=>absurd (show Str.ofString "out" = Str.ofString "join" from h) ()
 |.join,_=>rfl
inductive ĝ(a d pt pf pl:Addr)(H:Hp)(L:List cQ)(σ:St)(G:Hp):Prop
 |mk (e:T4 (λo5 o6 o7 o8=>[some (.ref a),some (.ref d),some (.ref pt),some (.ref pf),some (.ref pl),o5,o6,o7,o8]) σ) (s:aJ H G) (ps:List Addr) (_:G pl=some (.lst (ps.map V.ref))) (_:Paired (Ĝ G) ps L) (_:ps.Nodup) (_:∀p∈ps,H p=none)
def ĝ.s{a d pt pf pl:Addr}{H:Hp}{L:List cQ}{σ:St}{G:Hp}(h:ĝ a d pt pf pl H L σ G):aJ H G:=by cases h;assumption
def Gs{P:St->Hp->Prop}{R:Prop}(h:∀Z97:St->Hp->Prop,(∀σ H,P σ H->Z97 σ H)->(∀σ H,Z97 σ H->P σ H)->R):R:=h P (λ_ _ z=>z) (λ_ _ z=>z)
def Ru(B:Bl mg)(Bz:mg "zip" = none)(Qn:Hl P w K mg base κ)(oG:Dn K mg "joint" oW j4)(vA:Dn K mg "states_behind" gh FW)(qz:Dn K mg "note" uQ Cz)(wX:Dn K mg "fill_along" jW Jw)(wJ:Dn K mg "fill_joined" iB Jx)(yh:Dn K mg "going_up" nP Jy):bf P w K mg base gb 11 yh.f yh.fd Jy (a2T Qn):=by
 have a6w:bf P w K mg base gb 10 _ _ _ _:=K6 Qn vA qz wX;have a6x:bf P w K mg base gb 10 _ _ _ _:=JL Qn qz wJ;have a2U:bf P w K mg base gb 10 _ _ _ _:=(Rt B oG).mono ();refine yh.F.ok oE λeV A outer s H vs Q E hr h=>?_;obtain⟨d,a,pt,pf,xs,vt,fs,ss,aR,dH,rfl,hD,hA,pA,hP,pP,hF,pF,l9,lt,lf,smT,ok,q⟩:=h;have hw1:(A.deeper (PyProof.Rows.envOfC "going_up" (aF nP) s⁻¹ yh.f eV)).units+1<cLine:=by have:=hr.un;omega
 refine⟨_,(aD (aY 4 oE.nd (cu aj))
   (aD (jC jf Z (a0m (K:=K) Z Z Bz (J (pv 0) (J (pv 2) (J (pv 3) aj)))) (jU (K:=K) (n:=3) Z Z (bZ (aM 5 oE.nd) (bZ (aM 6 oE.nd) (bZ (aM 7 oE.nd) jw))))
   (aD (aY 8 oE.nd Cy)
   (jV (dD (tQ (fY (K:=K) Z (pv 7) λ_=>rfl))
   (aB (Ah (bw (J aq (J aq (J (bw aj) aj)))) (Ul (pv 8) (zq (K:=K) Z (pv 1) Z) (Et hw1))))
   (aB (dD (aP jM (aQ (aN (K:=K) Z) (pv 5) aq) gn)
   (aB (gY (bh a6x hr Z wJ.m wJ.F.kp wJ.b .nil b8 (J (pv 1) (J (pv 8) (J (aQ (bK (K:=K) Z) (pv 4) (aQ (bK (K:=K) Z) (pv 7) aq)) (J (aQ (bK (K:=K) Z) (pv 4) (aQ (bK (K:=K) Z) (pv 7) aq)) aj)))))))
   (aB (gY (bh a6w hr Z wX.m wX.F.kp wX.b .nil b8 (J (pv 1) (J (pv 8) (J (aQ (bK (K:=K) Z) (pv 4) (aQ (bK (K:=K) Z) (pv 7) aq)) (J (pv 5) (J (bh a2U hr Z oG.m oG.F.kp oG.b .nil b8 (J (pv 6) (J (aQ (bK (K:=K) Z) (pv 2) (aQ (bK (K:=K) Z) (pv 7) aq)) aj))) aj)))))))))))
   (aB (gY (qw (K:=K) Z mR PySem.F.slot_list_append PySem.F.type_list_append jo (pv 4) (J (pv 8) aj)))))))
   (aB (bF (pv 4))))),?_⟩
 refine⟨(),λpl H1 n1=>?_⟩;have s1:=n1.same;refine⟨_,Z,_,Z,_,Z,a,pt,pf,Z,⟨_,s1.seq hA⟩,⟨_,s1.seq hP⟩,⟨_,s1.seq hF⟩,?_⟩;have lx:xs.length=ss.length:=aV pA;have lv:vt.length=ss.length:=(aV pP).trans lt;have lfs:(fs.map V.ref).length=ss.length:=by rw[aK];exact(aV pF).trans lf
 refine ė (P:=λk σ G=>ĝ a d pt pf pl H (K8 Qn.pq ss aR dH k) σ G) λZ97 ji ij=>?_;refine ď (K:=K) (xs:=xs) (ys:=vt) (zs:=fs.map V.ref) (lx.trans lv.symm) (lx.trans lfs.symm) Z97 (ji _ _ _ ⟨⟨_,_,_,_,Z⟩,s1,[],n1.here,.nil,Ad,λ_ h=>absurd h dW⟩) (λk σ G _ h=>have s:=(ij _ _ _ h).s;⟨s.seq hA,s.seq hP,s.seq hF⟩) ?_ ?_
 ·intro k x y z σ G p G1 hx hy hz hJ nw;obtain⟨⟨o5,o6,o7,o8,rfl⟩,sG,ps,hpl,pT,nd,fr⟩:=ij _ _ _ hJ;obtain⟨kh,a4R,Ğ,rfl,hst⟩:=bx pA hx;obtain⟨aZ,a4S,pbg,rfl,hbg⟩:=bx pP hy;rw[d7]at hz;obtain⟨f,hf,rfl⟩:=mU.mp hz;obtain⟨used,a4T,hfu⟩:=bx pF hf;have kl:k<ss.length:=(fO.mp a4R).1;have okk:=ok k kl;have eS:ss.getD k .leaf=kh:=by rw[gw,a4R];rfl
  have eT:aR.getD k []=aZ:=by rw[gw,a4S];rfl
  have eF:dH.getD k []=used:=by rw[gw,a4T];rfl
  have go:K8 Qn.pq ss aR dH (k+1)=K8 Qn.pq ss aR dH k++[K7 Qn.pq aR (K8 Qn.pq ss aR dH k) kh aZ used]:=by
   show _++[_]=_;rw[eS,eT,eF]
  rw[eS,eT,eF]at okk;have lps:ps.length=k:=(aV pT).trans (nH _ _ _ _ k);have ŧ:aJ H G1:=sG.trans nw.same;refine⟨p,_,Z,cL.of nw.here,Z,_,_,Z,_,_,Z,_,_,Z,Z,λt ht0=>?_⟩;have n2:=gW.nY (o:=.dT []) ht0;generalize cI G1 t (.dT [])=G2 at n2 ⊢;have sG2:aJ H G2:=ŧ.trans n2.same;have g12:aJ G G2:=nw.same.trans n2.same;have ğ:=g12 _ _ hpl;have pT2:Paired (Ĝ G2) ps (K8 Qn.pq ss aR dH k):=Paired.bV pT λ_ _ ⟨kv,h1,h2⟩=>⟨kv,g12 _ _ h1,h2.keep (.of g12)⟩;have hD2:Qn.At G2 d:=(Nd.of sG2).at Qn hD;have Ht:H t=none:=by
   cases e:H t with
   |none=>rfl
   |some u=>rw[ŧ _ _ e]at ht0;cases ht0
  have ntp:∀p∈ps,p≠t:=λp' hp' z=>by
   obtain⟨i,hi,e⟩:=rR hp';obtain⟨T',_,kv,h1,_⟩:=bx pT (fO.mpr ⟨hi,e⟩);have:=nw.same _ _ h1;rw[z,ht0]at this;cases this
  have ť:pl≠t:=λz=>by have:=nw.same _ _ hpl;rw[z,ht0]at this;cases this
  have atT:∀i,i<k->∃pi kv,ps[i]?=some pi/\G2 pi=some (.dT kv)/\qy G2 kv ((K8 Qn.pq ss aR dH k).getD i [])/\pi≠t:=λi hi=>by
   have hi':i<ps.length:=()
   obtain⟨T',hT',kv,h1,h2⟩:=bx pT2 (bR hi');refine⟨ps[i],kv,bR hi',h1,?_,ntp _ (oK hi')⟩;rw[gw,hT'];exact h2
  have ixT:∀(i:Nat) (pi:Addr),ps[i]?=some pi->Sg (ps.map V.ref) (i:Int)=some (.ref pi):=λi pi h=>by
   have hi:=(fO.mp h).1;exact cD (by rw[d7,h];rfl)
  refine Gs (P:=λσ' G'=>σ'=[some (.ref a),some (.ref d),some (.ref pt),some (.ref pf),some (.ref pl),some (.ref Ğ),some (.ref pbg),some (.ref f),some (.ref t)]/\Sd t G2 G'/\∃kt,G' t=some (.dT kt)/\qy G' kt (K7 Qn.pq aR (K8 Qn.pq ss aR dH k) kh aZ used)) λJ2 ji2 ij2=>⟨J2,?_,?_⟩
  ·have hf2:=sG2 _ _ hfu;rcases used with _|⟨i,_|⟨j,_|⟨e,rest⟩⟩⟩
   ·refine⟨_,Z,false,.inl ⟨_,bM.of hf2,Z⟩,iD ?_⟩;obtain⟨dx',fs',hd,_,⟨al,hal,hlf⟩,_⟩:=Qn.ins hD2;refine⟨(),λp3 G3 m3=>⟨(),λp4 G4 m4=>?_⟩⟩;have Qx:=m3.same.trans m4.same;refine⟨_,Z,_,Z,d,_,dx',fs',_,Z,Qx _ _ hd,Qn.cl,Qn.ig,hal,t,al,lZ Qn.pq.leaf,[],Z,Z,(hlf.keep (.of Qx)).key,Qx _ _ n2.here,(),λG5 c5=>?_⟩;have nd5:pZ G4 G5:=λc' ys hc=>by
     rw[c5.rest c' (λz=>by rw[z,Qx _ _ n2.here]at hc;cases hc)];exact hc
    exact ji2 _ _ ⟨Z,(Sd.of Qx).trans (.đ c5),_,c5.here,.cons ⟨Z,p4,p3,[],Z,nd5 _ _ m4.here,nd5 _ _ (m4.same _ _ m3.here),.nil⟩ .nil⟩
   ·obtain⟨nj,il,rQ,fit,lS,lim⟩:=okk;rw[nH]at il;obtain⟨pi,kv,hpi,hgi,hTi,nti⟩:=atT i il;refine⟨_,Z,true,.inl ⟨_,bM.of hf2,Z⟩,cX ?_⟩;refine⟨_,Z,Ğ,kh.vs,0,.str kh.word,Z,Z,sG2.wC hst,by cases kh<;>rfl,Z,_,Z,?_⟩;rw[cM (show ¬V.str kh.word=V.str (Str.ofString "join")from λz=>nj (Za (V.str.inj z)))];refine cX ⟨_,Z,_,Z,_,Z,_,Z,f,_,_,_,Z,Z,bM.of hf2,Z,pl,_,_,_,Z,Z,bM.of ğ,ixT i pi hpi,_,Z,_,Z,_,Z,_,Z,f,_,_,_,Z,Z,bM.of hf2,Z,?_⟩;have it:i<aR.length:=()
    obtain⟨vb,hvb,pbi,rfl,hbi⟩:∃vb,vt[i]?=some vb/\∃q,vb=.ref q/\bM K H q ((aR.getD i []).map V.int):=by
     have hi':i<vt.length:=()
     obtain⟨b',hb',q',e',h'⟩:=bx pP (bR hi');refine⟨_,bR hi',q',e',?_⟩;rw[gw,hb'];exact h'
    refine⟨pt,vt,_,_,Z,Z,sG2.seq hP,cD hvb,pbg,pbi,aZ,aR.getD i [],Z,sG2.seq hbg,sG2.seq hbi,smT _ (iU a4S),smT _ (by rw[gw,bR it];exact oK it),λG3 pj G4 s3 n4=>?_⟩;have Ġ:=s3.trans n4.same;refine⟨d,t,pi,Ğ,pj,[],kv,[],_,kh,gQ aZ (aR.getD i []),(aR.getD i []).length,Z,(Nd.of Ġ).at Qn hD2,Ġ _ _ n2.here,.nil,Ġ _ _ hgi,hTi.keep (.of Ġ),Ne.symm nti,rQ,(sG2.trans Ġ).wC hst,n4.here,fit,lS,lim,λkt G5 s5 h5 hT5=>ji2 _ _ ⟨Z,(Sd.of Ġ).trans s5,kt,h5,hT5⟩⟩
   ·obtain⟨ej,il,jl,nij,m,m5,rQ,okA,ndA,lS,lA,smS,smA,lim⟩:=okk;rw[nH]at il jl;obtain⟨pi,kv,hpi,hgi,hTi,nti⟩:=atT i il;obtain⟨pj,kvj,hpj,hgj,ZP,ntj⟩:=atT j jl;have npp:pi≠pj:=λz=>nij (Y9 nd hpi (by rw[z];exact hpj));refine⟨_,Z,true,.inl ⟨_,bM.of hf2,Z⟩,cX ?_⟩;subst ej;refine⟨_,Z,Ğ,bT.join.vs,0,.str (Str.ofString "join"),Z,Z,sG2.wC hst,Z,Z,_,Z,?_⟩;rw[bB (show V.str (Str.ofString "join")=V.str (Str.ofString "join")from Z)];exact iD ⟨_,Z,_,Z,_,Z,_,Z,f,_,_,_,Z,Z,bM.of hf2,Z,pl,_,_,_,Z,Z,bM.of ğ,ixT i pi hpi,_,Z,_,Z,f,_,_,_,Z,Z,bM.of hf2,Z,pl,_,_,_,Z,Z,bM.of ğ,ixT j pj hpj,⟨d,t,pi,pj,[],kv,kvj,[],_,_,m,Z,hD2,n2.here,.nil,hgi,hTi,hgj,ZP,Ne.symm nti,Ne.symm ntj,npp,rQ,okA,m5,ndA,lS,lA,smS,smA,lim,λkt G5 s5 h5 hT5=>ji2 _ _ ⟨Z,s5,kt,h5,hT5⟩⟩⟩
   ·exact okk.elim
  ·intro σ' G3 h2;obtain⟨rfl,s3,kt,hkt,hTn⟩:=ij2 _ _ h2;have a2V:=s3 _ _ ť ğ;have tu3:pZ G2 G3:=s3.tups n2.here;refine⟨_,Z,.inl ⟨Z,_,bM.of a2V⟩,_,Z,pl,_,_,Z,Z,a2V,by rw[aK,lps];omega,λG4 c4=>?_⟩;have s4:∀c u,c≠pl->G3 c=some u->G4 c=some u:=λc u hc e=>by rw[c4.rest c hc];exact e
   have tu4:pZ G3 G4:=λc ys e=>s4 c _ (λz=>by rw[z,a2V]at e;cases e) e;have nlp:∀p∈ps,p≠pl:=λp' hp' z=>by
    obtain⟨i,hi,e⟩:=rR hp';obtain⟨T',_,kv,h1,_⟩:=bx pT2 (fO.mpr ⟨hi,e⟩);rw[z,ğ]at h1;cases h1
   refine ji _ _ _ ⟨⟨_,_,_,_,Z⟩,λc u e=>?_,ps++[t],by rw[c4.here,eO];rfl,?_,?_,?_⟩
   ·have ncl:c≠pl:=λz=>by rw[z,n1.fresh]at e;cases e
    have nct:c≠t:=λz=>by rw[z,Ht]at e;cases e
    exact s4 c u ncl (s3 c u nct (sG2 _ _ e))
   ·rw[go];have a4U:∀{as:List Addr}{Ts:List cQ},Paired (Ĝ G2) as Ts->(∀p∈as,p≠t/\p≠pl)->Paired (Ĝ G4) as Ts:=λ{as Ts} h=>by
     induction h with
     |nil=>intro _;exact .nil
     | @cons p T _ _ h1 _ ih =>
      intro hh;obtain⟨kv,e1,e2⟩:=h1;have hn:=hh p (aU ..);exact .cons ⟨kv,s4 _ _ hn.2 (s3 _ _ hn.1 e1),e2.keep (tu3.trans tu4)⟩ (ih λp' hp'=>hh p' (bD _ hp'))
    exact dG (a4U pT2 λp' hp'=>⟨ntp p' hp',nlp p' hp'⟩) ⟨kt,s4 _ _ (Ne.symm ť) hkt,hTn.keep tu4⟩
   ·exact xO.mpr ⟨nd,Du _ _,λx hx y hy e=>ntp x hx (by rw[e,bL.mp hy])⟩
   ·intro p' hp';rcases cN.mp hp' with h|h
    ·exact fr p' h
    ·rw[bL.mp h];exact Ht
 ·intro σ G hJ;obtain⟨⟨o5,o6,o7,o8,rfl⟩,sG,ps,hpl,pT,nd,fr⟩:=ij _ _ _ hJ;rw[lx]at pT;exact⟨_,Z,q pl ps G sG n1.fresh hpl pT nd fr⟩
end
abbrev Av:Stmt:=top 1
def Rv:bC ["thing"] ["thing"] (aF Av):={}
abbrev fW:Stmt:=top 2
def Rx:bC tW tW (aF fW):={}
inductive a0u(K:aH)(vs:List V)(H:Hp)(Q:VK)(u_3:XK):Prop
 |mk (x:V) (t:Value) (bi bb:Bool) (_:vs=[x]) (_:tU K H x t) (_:PySem.W.kitOne K t (.type "int")=some bi) (_:PySem.W.kitOne K t (.type "bool")=some bb) (_:Q (.bl (bi && !bb)) H)
inductive a0v(vs:List V)(H:Hp)(Q:VK)(u_3:XK):Prop
 |mk (n:Int) (o:Option Int) (_:vs=[.int n,upV o]) (_:Q (.bl (oR n o)) H)
section
variable{K:aH}
abbrev Fd(K:PySem.W.Frag)(mg:Str->Option Value):=Dn K mg "is_whole" Av ["thing"]
def Ry(B:Bl mg)(j5:Fd K mg):bf P w K mg base gb 1 j5.f j5.fd ["thing"] (a0u K):=by
 refine j5.F.ok Rv λeV A outer s H vs Q E hr h=>?_;obtain⟨x,t,bi,bb,rfl,ty,h1,h2,q⟩:=h;refine⟨_,(aB (bF (È (bG (jb (K:=K) Z) Z B.isinstance () (J (pv 0) (J (uy (v:=.ty "int") (u:=.type "int") Z B.int () Z) aj))) (Ç (a1C (bG (jb (K:=K) Z) Z B.isinstance () (J (pv 0) (J (uy (v:=.ty "bool") (u:=.type "bool") Z B.bool () Z) aj)))))))),⟨_,Z,_,_,_,_,_,Z,Z,ty,h1,_,Z,?_⟩⟩;cases bi with
 |true =>
  exact iD ⟨_,Z,_,_,_,_,_,Z,Z,ty,h2,_,Z,q⟩
 |false=>exact cX q
def yj(B:Bl mg)(j5:Fd K mg)(jr:Dn K mg "is_below" fW tW):bf P w K mg base gb 2 jr.f jr.fd tW a0v:=by
 have a6y:bf P w K mg base gb 1 _ _ _ _:=Ry B j5;refine jr.F.ok Rx λeV A outer s H vs Q E hr h=>?_;obtain⟨n,o,rfl,q⟩:=h;refine⟨_,(aB (bF (È (bh a6y hr Z j5.m j5.F.kp j5.b .nil b8 (J (pv 1) aj)) (Ç (Ï a3S BR aq (pv 1) (pv 0)))))),?_⟩;cases o with
 |none=>exact⟨_,Z,_,_,_,_,Z,tU.non,QV,O3,_,Z,cX q⟩
 |some i =>
  refine⟨_,Z,_,_,_,_,Z,tU.int i,Fy,Cj,_,Z,iD ⟨_,Z,_,_,Z,Z,_,Z,u5 (λc=>?_) λc=>?_⟩⟩
  ·have c':0<=i:=iI c;refine⟨_,Z,_,_,Z,Z,?_⟩;have e:oR n (some i)=decide (i<n):=by unfold oR;simp[c']
   rw[e]at q;exact q
  ·have c':¬0<=i:=Tq (xP.mpr c);have e:oR n (some i)=false:=by unfold oR;simp[c']
   grind
end
def qi(xs ys:List Int):List Int:=xs.filter λv=>!decide (v∈ys)
abbrev rZ:Stmt:=top 4
def Xp:bC j4 j4 (aF rZ):={}
inductive a0w(K:aH)(vs:List V)(H:Hp)(Q:VK)(u_3:XK):Prop
 |mk (a b:Addr) (xs ys:List Int) (_:vs=[.ref a,.ref b]) (_:cL K H a (xs.map V.int)) (_:bM K H b (ys.map V.int)) (_:xs.length<=1000) (_:∀H0 p H',aJ H H0->gW H0 p (.lst ((qi xs ys).map V.int)) H'->Q (.ref p) H')
section
variable{K:aH}
def ġ(B:Bl mg)(mY:Dn K mg "less" rZ j4):bf P w K mg base gb 1 mY.f mY.fd j4 (a0w K):=by
 refine mY.F.ok Xp λeV A outer s H vs Q E hr h=>?_;obtain⟨a,b,xs,ys,rfl,hA,hB,hz,q⟩:=h;have hv:(A.deeper (PyProof.Rows.envOfC "less" (aF rZ) s⁻¹ mY.f eV)).units+65<cLine:=by have:=hr.un;omega
 refine⟨_,(aB (bF (jF ["v","other"] [none,some 1]  (by kernel_rfl) Z (wD (K:=K) Z (pv 0)) (λ_ _ _ _ _=>(aM 0 (show(["v","other"]:List Str).Nodup by decide))) (λ_ _ _ _ _=>(wA (aP (jT (K:=K) Z hv) (pv 0) (pv 1) (by with_unfolding_all rfl)))) λ_ _ _ _ _=>(pv 0)))),⟨_,Z,a,Z,⟨_,hA⟩,?_⟩⟩;refine a0b (λx=>match x with |.int v=>if !decide (v∈ys)then some (.int v)else none|_=>none) hA (by rw[aK];exact hz) (λx H1 N hx sm hN=>?_) (λH1 p H1' sm hp=>?_)
 ·obtain⟨v,hv,rfl⟩:=gF.mp hx;have hN':=hN H1 sm;refine⟨_,Z,_,Z,yX (sm.seq hB) ⟨_,Z,?_⟩⟩;dsimp only at hN';cases c:decide (v∈ys)with
  |true=>rw[c]at hN';exact cX hN'
  |false=>rw[c]at hN';exact iD ⟨_,Z,hN'⟩
 ·have e:(xs.map V.int).filterMap (λx=>match x with |.int v=>if !decide (v∈ys)then some (V.int v)else none|_=>none)=(qi xs ys).map V.int:=El λv _=>rfl;rw[e]at hp;exact q _ _ _ sm hp
end
inductive a0x(K:aH)(vs:List V)(H:Hp)(Q:VK)(u_3:XK):Prop
 |mk (a b:Addr) (xs ys:List Int) (_:vs=[.ref a,.ref b]) (_:bM K H a (xs.map V.int)) (_:cL K H b (ys.map V.int)) (_:xs.length<=1000) (_:∀H0 p H',aJ H H0->gW H0 p (.lst ((qi xs ys).map V.int)) H'->Q (.ref p) H')
theorem Rz(v:Int):∀ys:List Int,inV (.int v) (ys.map V.int)=decide (v∈ys)
 | []=>rfl
 |y::r=>by
  have ih:=Rz v r
  unfold inV at ih ⊢
  rw[cH,tK,ih,tG,Bool.or_eq_true,dU,dU,b7]
  have:Ø (V.int y) (V.int v)=decide (y=v):=rfl
  rw[this,dU]
  exact or_congr_left eq_comm
def Zb(ys:List Int):(ys.map V.int).all BZ=true:=DY.mpr λx hx=>by
 obtain⟨y,_,rfl⟩:=gF.mp hx;rfl
section
variable{K:aH}
def Ģ(B:Bl mg)(mY:Dn K mg "less" rZ j4):bf P w K mg base gb 1 mY.f mY.fd j4 (a0x K):=by
 refine mY.F.ok Xp λeV A outer s H vs Q E hr h=>?_;obtain⟨a,b,xs,ys,rfl,hA,hB,hz,q⟩:=h;refine⟨_,(aB (bF (jF ["v","other"] [none,some 1]  (by kernel_rfl) Z (fU (K:=K) Z (pv 0)) (λ_ _ _ _ _=>(aM 0 (show(["v","other"]:List Str).Nodup by decide))) (λ_ _ _ _ _=>(wA (aP (U9 (K:=K) Z) (pv 0) (pv 1) (by with_unfolding_all rfl)))) λ_ _ _ _ _=>(pv 0)))),⟨_,Z,a,Z,⟨_,hA⟩,?_⟩⟩;refine O5 (λx=>match x with |.int v=>if !decide (v∈ys)then some (.int v)else none|_=>none) hA (by rw[aK];exact hz) (λx H1 N hx sm hN=>?_) (λH1 p H1' sm hp=>?_)
 ·obtain⟨v,hv,rfl⟩:=gF.mp hx;have hN':=hN H1 sm;refine⟨_,Z,_,Z,b,_,Z,.inr (sm.wC hB),Z,Zb _,_,Z,?_⟩;rw[aG Z,Rz];dsimp only at hN';cases c:decide (v∈ys)with
  |true=>rw[c]at hN';exact cX hN'
  |false=>rw[c]at hN';exact iD ⟨_,Z,hN'⟩
 ·have e:(xs.map V.int).filterMap (λx=>match x with |.int v=>if !decide (v∈ys)then some (V.int v)else none|_=>none)=(qi xs ys).map V.int:=El λv _=>rfl;rw[e]at hp;exact q _ _ _ sm hp
end
def bf.either{K:aH}{CX:R9}{k:Nat}{f:Addr}{fd:FuncData}{ps:List Str}{sp sp':Sp}(F:bf P w K mg base CX k f fd ps sp)(G:bf P w K mg base CX k f fd ps sp'):bf P w K mg base CX k f fd ps (λvs H Q E=>sp vs H Q E\/sp' vs H Q E) :=
 ⟨λvs H Q E h=>h.elim (F.len vs H Q E) (G.len vs H Q E),λA outer s H args us vs Q E hr he hb hv hs=>hs.elim (F.run A outer s H args us vs Q E hr he hb hv) (G.run A outer s H args us vs Q E hr he hb hv)⟩
def Xq(s t:Int×Int):PyData.eqv (yd s) (yd t)=decide (s=t):=by
 unfold yd;rw[PyData.eqv];have e:=PySem.W.ked_eqvAll [s.1,s.2] [t.1,t.2];grind
def a0y(ts:List bY)(t:Int×Int):(ts.map yd).any (λe=>PyData.eqv e (yd t))=decide (t∈ts):=by
 rw[List.any_map];rw[tG,List.any_eq_true,dU];constructor
 ·rintro⟨s,hs,e⟩;have:PyData.eqv (yd s) (yd t)=true:=e;rw[Xq]at this;grind
 ·intro h;exact⟨t,h,by show PyData.eqv (yd t) (yd t)=true;rw[Xq];simp⟩
def VF(t:Int×Int):SeqAt.shaped (yd t)=true:=by
 unfold SeqAt.shaped;rw[Wv,IK];exact bB (by have:=Mg t;omega)
abbrev fX:Stmt:=top 15
def qP:bC ["graph","done","step","used","kind","bag","v"] CG (aF fX):={}
noncomputable def qd(n:Nat)(ts:List bY)(done:List bT)(s:bT)(used:List (List Int)):Option (List Int) :=
 match s with
 |.leaf=>some []
 |.inn v=>if(0<=v/\v<(n:Int))/\v∉used.getD 0 []/\bT.out v∉done then some (gQ (used.getD 0 []) [v])else none
 |.tie a b=>if(a,b)∈ts/\qi [a,b] (used.getD 0 [])=[]/\bT.tie a b∉done then some (used.getD 0 [])else none
 |.out v=>if v∈used.getD 0 []/\bT.out v∉done then some (qi (used.getD 0 []) [v])else none
 |.join=>if used.getD 0 []=used.getD 1 []then some (used.getD 0 [])else none
def a6z(K:aH)(H:Hp)(ux:List V)(H':Hp)(v:V):Option (List Int)->Prop
 |none=>v=.non
 |some b=>∃p,v=.ref p/\bM K H' p (b.map V.int)/\(H p=none\/V.ref p∈ux)
def Xr{ux:List V}{k:Nat}{v:V}(h:Sg ux (k:Int)=some v):v∈ux:=by
 obtain⟨j,_,e,_⟩:=Ox h;exact iU e
inductive a2W(K:aH)(vs:List V)(H:Hp)(Q:VK)(u_3:XK):Prop
 |mk (g:V) (n:Nat) (ts:List bY) (dn st us:Addr) (ds ux:List V) (done:List bT) (s:bT) (used:List (List Int)) (_:vs=[g,.ref dn,.ref st,.ref us]) (_:uP K H g n ts) (_:n<=10) (_:bM K H dn ds) (_:Paired (uR K H) ds done) (_:cL K H st s.vs) (_:bM K H us ux) (_:Paired (Vn K H) ux used) (_:s.need<=used.length) (_:(∀b∈used,Small b/\b.length<=1000)) (_:∀r H',aJ H H'->a6z K H ux H' r (qd n ts done s used)->Q r H')
def qQ{i j:Nat}(hi:i<5)(hj:j<5)(h:i≠j):decide (V.str (Ge i)=V.str (Ge j))=false:=cM λe=>by
 have e':Ge i=Ge j:=by injection e
 have:=JD i hi j hj;grind
def w10:decide (V.str (Str.ofString "in")=V.str (Str.ofString "leaf"))=false:=qQ (i:=1) (j:=0) () () ()
def w20:decide (V.str (Str.ofString "tie")=V.str (Str.ofString "leaf"))=false:=qQ (i:=2) (j:=0) () () ()
def w21:decide (V.str (Str.ofString "tie")=V.str (Str.ofString "in"))=false:=qQ (i:=2) (j:=1) () () ()
def w30:decide (V.str (Str.ofString "out")=V.str (Str.ofString "leaf"))=false:=qQ (i:=3) (j:=0) () () ()
def w31:decide (V.str (Str.ofString "out")=V.str (Str.ofString "in"))=false:=qQ (i:=3) (j:=1) () () ()
def w32:decide (V.str (Str.ofString "out")=V.str (Str.ofString "tie"))=false:=qQ (i:=3) (j:=2) () () ()
def w40:decide (V.str (Str.ofString "join")=V.str (Str.ofString "leaf"))=false:=qQ (i:=4) (j:=0) () () ()
def w41:decide (V.str (Str.ofString "join")=V.str (Str.ofString "in"))=false:=qQ (i:=4) (j:=1) () () ()
def w42:decide (V.str (Str.ofString "join")=V.str (Str.ofString "tie"))=false:=qQ (i:=4) (j:=2) () () ()
def w43:decide (V.str (Str.ofString "join")=V.str (Str.ofString "out"))=false:=qQ (i:=4) (j:=3) () () ()
def RB{K:aH}{H:Hp}{ux:List V}{used:List (List Int)}{k:Nat}(p:Paired (Vn K H) ux used)(h:k<used.length):∃b,Sg ux (k:Int)=some (.ref b)/\bM K H b ((used.getD k []).map V.int)/\used.getD k []∈used:=by
 obtain⟨x,hx,⟨b,rfl,hb⟩⟩:=dF p (bR h);refine⟨b,cD hx,?_,?_⟩
 ·rw[gw,bR h];exact hb
 ·rw[gw,bR h];exact oK h
def yp{K:aH}{H:Hp}{dn st:Addr}{ds:List V}{done:List bT}{s:bT}{Q:VK}(hD:bM K H dn ds)(pD:Paired (uR K H) ds done)(hS:cL K H st s.vs)(q:Q (.bl (!decide (s∈done))) H):U8 K true (.ref st) (.ref dn) H Q:=by
 refine⟨s.d,done.map bT.d,uR.isD ⟨st,Z,hS⟩,.lst hD (O6 (λ_ _ h=>uR.isD h) pD),Vw _,Ro _,?_⟩;rw[aG Z,a0q];exact q
section
variable{K:aH}
def K9(B:Bl mg)(j5:Fd K mg)(jr:Dn K mg "is_below" fW tW)(oG:Dn K mg "joint" oW j4)(mY:Dn K mg "less" rZ j4)(Hu:Dn K mg "bag_behind" fX CG):bf P w K mg base gb 3 Hu.f Hu.fd CG (a2W K):=by
 have ģ:bf P w K mg base gb 2 _ _ _ _:=yj B j5 jr;have a2U:bf P w K mg base gb 2 _ _ _ _:=(Rt B oG).mono ();have a4V:bf P w K mg base gb 2 _ _ _ _:=(bf.either (ġ B mY) (Ģ B mY)).mono ();refine Hu.F.ok qP λeV A outer s H vs Q E hr h=>?_;obtain⟨g,n,ts,dn,st,us,ds,ux,done,sp,used,rfl,hG,dJ,hD,pD,hS,hU,pU,nu,sm,q⟩:=h;have hu:(A.deeper (PyProof.Rows.envOfC "bag_behind" (aF fX) s⁻¹ Hu.f eV)).units+64<cLine:=by have:=hr.un;omega
 have hv:(A.deeper (PyProof.Rows.envOfC "bag_behind" (aF fX) s⁻¹ Hu.f eV)).units+65<cLine:=by have:=hr.un;omega
 obtain⟨pg,ta,rfl,hP,hT⟩:=id hG;refine⟨_,(aD (aY 4 qP.nd (aQ (aN (K:=K) Z) (pv 2) aq))
   (aD (dD (aP jM (pv 4) gn)
   (aB (bF (cu aj)))
   bO)
   (aD (aY 5 qP.nd (aQ (bK (K:=K) Z) (pv 3) aq))
   (aD (dD (aP jM (pv 4) gn)
   (aD (aY 6 qP.nd (aQ (aN (K:=K) Z) (pv 2) aq))
   (aB (bF (oN (PW.pt (tO (fY (K:=K) Z (bh ģ hr Z jr.m jr.F.kp jr.b .nil b8 (J (aQ (aN (K:=K) Z) (pv 0) aq) (J (pv 6) aj))) λ_=>rfl) (tO (aP (jT (K:=K) Z hv) (pv 6) (pv 5) (by with_unfolding_all rfl)) (uz (aP (jT (K:=K) Z hv) (bw (J gn (J (pv 6) aj))) (pv 1) (by with_unfolding_all rfl)))))) (bh a2U hr Z oG.m oG.F.kp oG.b .nil b8 (J (pv 5) (J (cu (J (pv 6) aj)) aj))) uM))))
   bO)
   (aD (dD (aP jM (pv 4) gn)
   (aB (bF (oN (PW.pt (tO (aP (uD (K:=K) Z hv) (jE (Hi (K:=K) Z) (pv 2) (mD aq) mq) (aQ (aN (K:=K) Z) (pv 0) aq) (by with_unfolding_all rfl)) (tO (tQ (fY (K:=K) Z (bh a4V hr Z mY.m mY.F.kp mY.b .nil b8 (J (jE (Hi (K:=K) Z) (pv 2) (mD aq) mq) (J (pv 5) aj))) λ_=>rfl)) (uz (aP (jT (K:=K) Z hv) (pv 2) (pv 1) (by with_unfolding_all rfl)))))) (pv 5) uM)))
   bO)
   (aD (dD (aP jM (pv 4) gn)
   (aB (bF (oN (PW.pt (tO (aP (uD (K:=K) Z hv) (aQ (aN (K:=K) Z) (pv 2) aq) (pv 5) (by with_unfolding_all rfl)) (uz (aP (jT (K:=K) Z hv) (pv 2) (pv 1) (by with_unfolding_all rfl))))) (bh a4V hr Z mY.m mY.F.kp mY.b .nil b8 (J (pv 5) (J (jE (Hi (K:=K) Z) (pv 2) (mD aq) mq) aj))) uM)))
   bO)
   (aB (bF (oN (aP (Ζ (K:=K) Z hu) (pv 5) (aQ (bK (K:=K) Z) (pv 3) aq)) (pv 5) uM))))))))),?_⟩
 cases sp with
 |leaf =>
  refine⟨_,Z,st,_,_,_,Z,Z,hS,Z,⟨_,Z,Z,_,Z,?_⟩⟩;rw[bB rfl];exact iD ⟨(),λp1 H1 n1=>q _ H1 n1.same ⟨p1,Z,bM.of n1.here,.inl n1.fresh⟩⟩
 |inn v =>
  obtain⟨b0,a0,hb0,m0⟩:=RB (k:=0) pU nu;obtain⟨sm0,l0⟩:=sm _ m0;refine⟨_,Z,st,_,_,_,Z,Z,hS,Z,⟨_,Z,Z,_,Z,?_⟩⟩;rw[w10];refine cX ⟨_,Z,us,_,_,_,Z,Z,hU,a0,⟨_,Z,Z,_,Z,?_⟩⟩;rw[bB rfl];refine iD ⟨_,Z,st,_,_,_,Z,Z,hS,Z,⟨_,Z,pg,_,_,_,Z,Z,hP,Z,_,Z,(n:Int),some v,Z,_,Z,?_⟩⟩;have eb:oR (n:Int) (some v)=decide (0<=v/\v<(n:Int)):=rfl;rw[eb];have no:∀{H'},aJ H H'->¬((0<=v/\v<(n:Int))/\v∉used.getD 0 []/\bT.out v∉done)->Q .non H':=λs c=>q _ _ s (by
   unfold qd;dsimp only;rw[aA c];exact Z)
  by_cases c1:0<=v/\v<(n:Int)
  ·rw[bB c1];refine iD ⟨_,Z,_,Z,yX hb0 ⟨_,Z,?_⟩⟩;by_cases c2:v∈used.getD 0 []
   ·rw[bB c2];exact cX (cX (no (aJ.refl _) λh=>h.2.1 c2))
   ·rw[cM c2];refine iD ⟨_,Z,(),λp2 H2 n2=>?_⟩;refine⟨_,Z,yp (s:=.out v) (n2.same.seq hD) (Paired.bV pD λ_ _ h=>uR.same n2.same h) (cL.of n2.here) ⟨_,Z,?_⟩⟩;by_cases c3:bT.out v∈done
    ·rw[bB c3];exact cX (no n2.same λh=>h.2.2 c3)
    ·rw[cM c3];refine iD ⟨_,Z,_,Z,(),λp3 H3 n3=>?_⟩;refine⟨b0,p3,_,[v],Z,(n2.same.trans n3.same).seq hb0,bM.of n3.here,sm0,λx hx=>by rw[bL.mp hx];omega,λH4 p5 H5 s4 n5=>?_⟩;refine q _ H5 (n2.same.trans (n3.same.trans (s4.trans n5.same))) ?_;unfold qd;dsimp only;rw[aG ⟨c1,c2,c3⟩];exact⟨p5,Z,bM.of n5.here,.inl ((n2.same.trans (n3.same.trans s4)).free n5.fresh)⟩
  ·rw[cM c1];exact cX (cX (no (aJ.refl _) λh=>c1 h.1))
 |tie x y =>
  obtain⟨b0,a0,hb0,m0⟩:=RB (k:=0) pU nu;refine⟨_,Z,st,_,_,_,Z,Z,hS,Z,⟨_,Z,Z,_,Z,?_⟩⟩;rw[w20];refine cX ⟨_,Z,us,_,_,_,Z,Z,hU,a0,⟨_,Z,Z,_,Z,?_⟩⟩;rw[w21];refine cX ⟨_,Z,Z,_,Z,?_⟩;rw[bB rfl];have no:∀{H'},aJ H H'->¬((x,y)∈ts/\qi [x,y] (used.getD 0 [])=[]/\bT.tie x y∉done)->Q .non H':=λs c=>q _ _ s (by
   unfold qd;dsimp only;rw[aA c];exact Z)
  refine iD ⟨_,Z,_,Z,st,_,Z,hS,λh=>absurd h.1 (by show ¬HT.lU 3 0 (some 1)=0;decide),λp1 H1 n1=>?_⟩;refine⟨_,Z,pg,_,_,_,Z,Z,n1.same.wC hP,Z,yd (x,y),ts.map yd,ê.isD ⟨p1,Z,cL.of n1.here⟩,(hT.same n1.same).isD,VF _,uE _,_,Z,?_⟩;rw[aA cY,a0y];by_cases c1:(x,y)∈ts
  ·rw[bB c1];refine iD ⟨_,Z,_,Z,st,_,Z,n1.same.wC hS,λh=>absurd h.1 (by show ¬HT.lU 3 0 (some 1)=0;decide),λp2 H2 n2=>?_⟩;have s2:=n1.same.trans n2.same;refine⟨_,Z,.inl ⟨p2,b0,[x,y],_,Z,cL.of n2.here,s2.seq hb0,(),λH4 p5 H5 s4 n5=>?_⟩⟩;have s5:=s2.trans (s4.trans n5.same);refine⟨_,.inl ⟨_,bM.of n5.here,Z⟩,?_⟩;by_cases c2:qi [x,y] (used.getD 0 [])=[]
   ·rw[c2];refine iD ⟨_,Z,_,Z,yp (s:=.tie x y) (s5.seq hD) (Paired.bV pD λ_ _ h=>uR.same s5 h) (s5.wC hS) ⟨_,Z,?_⟩⟩;by_cases c3:bT.tie x y∈done
    ·rw[bB c3];exact cX (no s5 λh=>h.2.2 c3)
    ·rw[cM c3];refine iD ⟨_,Z,q _ H5 s5 ?_⟩;unfold qd;dsimp only;rw[aG ⟨c1,c2,c3⟩];exact⟨b0,Z,s5.seq hb0,.inr (Xr a0)⟩
   ·have e:((qi [x,y] (used.getD 0 [])).map V.int).isEmpty=false:=by
     cases c4:qi [x,y] (used.getD 0 [])with
     |nil=>exact absurd c4 c2
     |cons _ _=>rfl
    rw[e];exact cX (cX (no s5 λh=>c2 h.2.1))
  ·rw[cM c1];exact cX (cX (no n1.same λh=>c1 h.1))
 |out v =>
  obtain⟨b0,a0,hb0,m0⟩:=RB (k:=0) pU nu;refine⟨_,Z,st,_,_,_,Z,Z,hS,Z,⟨_,Z,Z,_,Z,?_⟩⟩;rw[w30];refine cX ⟨_,Z,us,_,_,_,Z,Z,hU,a0,⟨_,Z,Z,_,Z,?_⟩⟩;rw[w31];refine cX ⟨_,Z,Z,_,Z,?_⟩;rw[w32];refine cX ⟨_,Z,Z,_,Z,?_⟩;rw[bB rfl];have no:∀{H'},aJ H H'->¬(v∈used.getD 0 []/\bT.out v∉done)->Q .non H':=λs c=>q _ _ s (by
   unfold qd;dsimp only;rw[aA c];exact Z)
  refine iD ⟨_,Z,st,_,_,_,Z,Z,hS,Z,_,Z,Am hb0 ⟨_,Z,?_⟩⟩;by_cases c1:v∈used.getD 0 []
  ·rw[bB c1];refine iD ⟨_,Z,_,Z,yp (s:=.out v) hD pD hS ⟨_,Z,?_⟩⟩;by_cases c2:bT.out v∈done
   ·rw[bB c2];exact cX (no (aJ.refl _) λh=>h.2 c2)
   ·rw[cM c2];refine iD ⟨_,Z,_,Z,_,Z,st,_,Z,hS,λh=>absurd h.1 (by show ¬HT.lU 2 0 (some 1)=0;decide),λp2 H2 n2=>?_⟩;refine .inr ⟨b0,p2,_,[v],Z,n2.same.seq hb0,cL.of n2.here,(sm _ m0).2,λH4 p5 H5 s4 n5=>q _ H5 (n2.same.trans (s4.trans n5.same)) ?_⟩;unfold qd;dsimp only;rw[aG ⟨c1,c2⟩];exact⟨p5,Z,bM.of n5.here,.inl ((n2.same.trans s4).free n5.fresh)⟩
  ·rw[cM c1];exact cX (cX (no (aJ.refl _) λh=>c1 h.1))
 |join =>
  obtain⟨b0,a0,hb0,m0⟩:=RB (k:=0) pU (jy () nu);obtain⟨b1,a1,hb1,m1⟩:=RB (k:=1) pU (jy () nu);refine⟨_,Z,st,_,_,_,Z,Z,hS,Z,⟨_,Z,Z,_,Z,?_⟩⟩;rw[w40];refine cX ⟨_,Z,us,_,_,_,Z,Z,hU,a0,⟨_,Z,Z,_,Z,?_⟩⟩;rw[w41];refine cX ⟨_,Z,Z,_,Z,?_⟩;rw[w42];refine cX ⟨_,Z,Z,_,Z,?_⟩;rw[w43];refine cX ⟨_,Z,_,Z,us,_,_,_,Z,Z,hU,a1,_,_,.lst hb0 (zF.ints _),.lst hb1 (zF.ints _),shaped_ints _,shaped_ints _,_,Z,?_⟩;rw[aA cY,Jl];by_cases c:used.getD 0 []=used.getD 1 []
  ·rw[bB c];refine iD ⟨_,Z,q _ H (aJ.refl _) ?_⟩;unfold qd;dsimp only;rw[aG c];exact⟨b0,Z,hb0,.inr (Xr a0)⟩
  ·rw[cM c];refine cX (q _ H (aJ.refl _) ?_);unfold qd;dsimp only;rw[aA c];exact rfl
end
abbrev Gh:Stmt:=top 14
def uT:bC ["graph","steps","tops","feeds","pile","k","step","left","bag"] m9 (aF Gh):={}
structure RS where
 aR:List (List Int)
 dH:List (List Nat)
 pile:List Nat
def dZ(s:bT)(r:RS):Nat:=r.pile.length-s.need
def sH(s:bT)(r:RS):List (List Int):=(r.pile.drop (dZ s r)).map λj=>r.aR.getD j []
noncomputable def rA(n:Nat)(ts:List bY)(ss:List bT)(k:Nat)(r:RS):Option RS :=
 if(ss.getD k .leaf).need<=r.pile.length then
  (qd n ts (ss.take k) (ss.getD k .leaf) (sH (ss.getD k .leaf) r)).map λb=>⟨r.aR++[b],r.dH++[r.pile.drop (dZ (ss.getD k .leaf) r)],r.pile.take (dZ (ss.getD k .leaf) r)++[k]⟩
 else none
def aW(n:Nat)(ts:List bY)(ss:List bT):Nat->RS×Bool
 |0=>(⟨[],[],[]⟩,true)
 |k+1=>if(aW n ts ss k).2=true then
   match rA n ts ss k (aW n ts ss k).1 with
   |some r=>(r,true)
   |none=>((aW n ts ss k).1,false)
  else((aW n ts ss k).1,false)
def cB(n:Nat)(ts:List bY)(ss:List bT):RS:=(aW n ts ss ss.length).1
theorem JN{n:Nat}{ts:List bY}{ss:List bT}{k:Nat}(h:(aW n ts ss k).2=false):∀m,k<=m->aW n ts ss m=((aW n ts ss k).1,false)
 |0,hm=>by
  grind
 |m+1,hm=>by
  by_cases c:k=m+1
  ·grind
  ·have ih:=JN h m ()
   show(if(aW n ts ss m).2=true then _ else _)=_
   rw[ih]
   rfl
structure a0z(i:Nat)(r:RS):Prop where
 tl:r.aR.length=i
 fl:r.dH.length=i
 pl:r.pile.length<=i
 lt:∀j∈r.pile,j<i
 sm:∀b∈r.aR,Small b/\b.length<=1000
 ff:∀f∈r.dH,f.length<=2
def Zc{n:Nat}{ts:List bY}{done:List bT}{s:bT}{used:List (List Int)}{b:List Int}(dJ:n<=10)(sm:∀b∈used,Small b/\b.length<=1000)(h:qd n ts done s used=some b):Small b/\b.length<=1000:=by
 have g:∀k,Small (used.getD k [])/\(used.getD k []).length<=1000:=λk=>by
  by_cases c:k<used.length
  ·rw[gw,bR c];exact sm _ (oK c)
  ·rw[gw,List.getElem?_eq_none ()];exact⟨λx hx=>absurd hx dW,()⟩
 unfold qd at h;cases s with
 |leaf =>
  have:b=[]:=(dM h).symm;subst this;exact⟨λx hx=>absurd hx dW,()⟩
 |inn v =>
  dsimp only at h;split at h
  ·rw[<-dM h];refine⟨λx hx=>?_,?_⟩
   ·obtain⟨h1,h2,_⟩:=zf.mp hx;exact⟨h1,h2⟩
   ·unfold gQ Qw;grind
  ·cases h
 |tie x y =>
  dsimp only at h;split at h
  ·rw[<-dM h];exact g 0
  ·cases h
 |out v =>
  dsimp only at h;split at h
  ·rw[<-dM h];exact⟨λx hx=>(g 0).1 x (kJ.mp hx).1,cZ (Dw _ _) (g 0).2⟩
  ·cases h
 |join =>
  dsimp only at h;split at h
  ·rw[<-dM h];exact g 0
  ·cases h
theorem jX{n:Nat}{ts:List bY}{ss:List bT}(dJ:n<=10):∀{i:Nat},(aW n ts ss i).2=true->a0z i (aW n ts ss i).1
 |0,_=>⟨Z,Z,aL _,λj h=>absurd h dW,λb h=>absurd h dW,λb h=>absurd h dW⟩
 |i+1,h=>by
  have e:aW n ts ss (i+1)=if(aW n ts ss i).2=true then
   (match rA n ts ss i (aW n ts ss i).1 with
   |some r=>(r,true)
   |none=>((aW n ts ss i).1,false))
  else((aW n ts ss i).1,false):=rfl
  rw[e]at h ⊢
  by_cases c:(aW n ts ss i).2=true
  ·have I:=jX dJ c
   rw[aG c]at h ⊢
   cases d:rA n ts ss i (aW n ts ss i).1 with
   |none=>grind
   |some r =>
    dsimp only
    unfold rA at d
    split at d
    ·obtain⟨b,hb,er⟩:=mU.mp d
     rw[<-er]
     have sb:=Zc dJ (λx hx=>by
      obtain⟨j,hj,e⟩:=gF.mp hx
      have jl:=I.lt j (vM hj)
      rw[<-e,gw,bR (by rw[I.tl];exact jl)]
      exact I.sm _ (oK _)) hb
     refine⟨?_,?_,?_,λj hj=>?_,λx hx=>?_,λf hf=>?_⟩
     ·show(_++[b]).length=_
      rw[cC,I.tl];rfl
     ·show(_++[_]).length=_
      rw[cC,I.fl];rfl
     ·show(_++[i]).length<=_
      rw[cC,fP]
      have:=I.pl
      show min _ _+1<=_
      omega
     ·rcases cN.mp hj with hj|hj
      ·have:=I.lt j (lH hj)
       omega
      grind
     ·rcases cN.mp hx with hx|hx
      ·exact I.sm x hx
      ·rw[bL.mp hx];exact sb
     ·rcases cN.mp hf with hf|hf
      ·exact I.ff f hf
      ·rw[bL.mp hf,lQ]
       unfold dZ
       have:(ss.getD i .leaf).need<=2:=by cases ss.getD i .leaf<;>simp[bT.need]
       omega
    ·cases d
  grind
def Ĥ{n:Nat}{ts:List bY}{ss:List bT}{i:Nat}{r:RS}(c:(aW n ts ss i).2=true)(d:rA n ts ss i (aW n ts ss i).1=some r):aW n ts ss (i+1)=(r,true):=by
 show(if(aW n ts ss i).2=true then _ else _)=_;grind
def a0A{n:Nat}{ts:List bY}{ss:List bT}{i:Nat}(il:i<ss.length)(c:(aW n ts ss i).2=true)(d:rA n ts ss i (aW n ts ss i).1=none):cB n ts ss=(aW n ts ss i).1:=by
 have e:aW n ts ss (i+1)=((aW n ts ss i).1,false):=by
  show(if(aW n ts ss i).2=true then _ else _)=_;grind
 unfold cB;rw[JN (k:=i+1) (by rw[e]) ss.length il,e]
abbrev uq(l:List Nat):List V:=l.map λ(x:Nat)=>V.int (x:Int)
theorem RD:∀{m:Nat}{l:List Nat},l.Nodup->(∀x∈l,x<m)->l.length<=m
 |0,l,_,lt=>by
  cases l with
  |nil=>grind
  |cons x r=>exact absurd (lt x aU) (Ac _)
 |m+1,l,nd,lt=>by
  have ih:=RD (m:=m) (nd.erase m) λx hx=>by
   grind
  grind
def wZ(ex:List Addr)(K:aH)(H:Hp)(v:V)(b:List Int):Prop:=∃p,v=.ref p/\bM K H p (b.map V.int)/\p∉ex
def wZ.same{K:aH}{H H':Hp}{v:V}{b:List Int}(s:aJ H H')(h:wZ ex K H v b):wZ ex K H' v b:=by
 obtain⟨p,e,q,n⟩:=h;exact⟨p,e,s.seq q,n⟩
def wZ.l{K:aH}{H:Hp}{v:V}{b:List Int}(h:wZ ex K H v b):Vn K H v b:=by
 obtain⟨p,e,q,n⟩:=h;exact⟨p,e,q⟩
def a0B{K:aH}{H H':Hp}{a p:Addr}{o:HO}{xs:List V}(c:wF H a o H')(n:p≠a)(h:bM K H p xs):bM K H' p xs:=by
 rcases h with h|h
 ·refine .inl ?_;rcases h with h|⟨u,h⟩
  ·exact .inl ((c.rest p n).trans h)
  ·exact .inr ⟨u,(c.rest p n).trans h⟩
 ·exact .inr h
def wZ.chg{K:aH}{H H':Hp}{a:Addr}{o:HO}{v:V}{b:List Int}(c:wF H a o H')(ha:a∈ex)(h:wZ ex K H v b):wZ ex K H' v b:=by
 obtain⟨p,e,q,n⟩:=h;exact⟨p,e,a0B c (λz=>n (z▸ha)) q,n⟩
def Aw(ex:List Addr)(H:Hp)(q:Addr)(f:List Nat):Prop:=H q=some (.lst (uq f))/\q∉ex
def Aw.same{H H':Hp}{q:Addr}{f:List Nat}(s:aJ H H')(h:Aw ex H q f):Aw ex H' q f:=⟨s _ _ h.1,h.2⟩
def Aw.chg{H H':Hp}{a:Addr}{o:HO}{q:Addr}{f:List Nat}(c:wF H a o H')(ha:a∈ex)(h:Aw ex H q f):Aw ex H' q f:=⟨(c.rest q λz=>h.2 (z▸ha)).trans h.1,h.2⟩
def RG(xs:List V)(k:Nat)(h:k<=xs.length):uO xs none (some (k:Int))=xs.take k:=by
 unfold uO;have e1:HT.lU xs.length xs.length (some (k:Int))=k:=by
  show min _ _=k;simp;omega
 have e2:HT.lU xs.length 0 none=0:=rfl;rw[e1,e2,Ud,Af]
def RJ(xs:List V)(k:Nat)(h:k<=xs.length):uO xs (some (k:Int)) none=xs.drop k:=by
 unfold uO;have e1:HT.lU xs.length 0 (some (k:Int))=k:=by
  show min _ _=k;grind
 have e2:HT.lU xs.length xs.length none=xs.length:=rfl;rw[e1,e2,Ib (by rw[lQ];omega)]
theorem JQ{α β:Type}{R:α->β->Prop}:∀{xs:List α}{ys:List β} (i:Nat),Paired R xs ys->Paired R (xs.take i) (ys.take i)
 |_,_,0,_=>.nil
 |_,_,_+1,.nil=>.nil
 |_,_,i+1,.cons q r=>.cons q (JQ i r)
def a6A(ex:List Addr)(K:aH)(H:Hp)(v:V):Option (List Int)->Prop
 |none=>v=.non
 |some b=>wZ ex K H v b
theorem Mw{ex:List Addr}{K:aH}{H:Hp}{vt:List V}{aR:List (List Int)}(p:Paired (wZ ex K H) vt aR):∀l:List Nat,(∀j∈l,j<aR.length)->Paired (Vn K H) (l.map λj=>vt.getD j .non) (l.map λj=>aR.getD j [])
 | [],_=>.nil
 |j::r,h=>by
  have jl:=h j aU
  obtain⟨x,hx,hb⟩:=dF p (bR jl)
  refine .cons ?_ (Mw p r λi hi=>h i (bD _ hi))
  dsimp only
  rw[gw,hx,gw,bR jl]
  exact hb.l
inductive a4W(K:aH)(vs:List V)(H:Hp)(Q:VK)(u_3:XK):Prop
 |mk (g:V) (n:Nat) (ts:List bY) (a:Addr) (xs:List V) (ss:List bT) (_:vs=[g,.ref a]) (_:uP K H g n ts) (_:n<=10) (_:bM K H a xs) (_:Paired (uR K H) xs ss) (_:ss.length<=900) (_:∀r pt pf pp vt fs H',aJ H H'->H' r=some (.tup [.ref pt,.ref pf,.ref pp])->H pt=none->H pf=none->H pp=none->H' pt=some (.lst vt)->H' pf=some (.lst (fs.map V.ref))->Aw [pt,pf] H' pp (cB n ts ss).pile->Paired (wZ [pt,pf] K H') vt (cB n ts ss).aR->Paired (Aw [pt,pf] H') fs (cB n ts ss).dH->Q (.ref r) H')
inductive a4X(K:aH)(g:V)(a p1 p2:Addr)(n:Nat)(ts:List bY)(ss:List bT)(H:Hp)(i:Nat)(σ:St)(H':Hp):Prop
 |mk (vt:List V) (fs:List Addr) (pp:Addr) (a5 a6 a7 a8:Option V) (_:σ=[some g,some (.ref a),some (.ref p1),some (.ref p2),some (.ref pp),a5,a6,a7,a8]) (_:aJ H H') (_:H' p1=some (.lst vt)) (_:H' p2=some (.lst (fs.map V.ref))) (_:(aW n ts ss i).2=true) (_:H pp=none) (_:Aw [p1,p2] H' pp (aW n ts ss i).1.pile) (_:Paired (wZ [p1,p2] K H') vt (aW n ts ss i).1.aR) (_:Paired (Aw [p1,p2] H') fs (aW n ts ss i).1.dH)
section
variable{K:aH}
def a2X(B:Bl mg)(U:Used w K mg)(j5:Fd K mg)(jr:Dn K mg "is_below" fW tW)(oG:Dn K mg "joint" oW j4)(mY:Dn K mg "less" rZ j4)(Hu:Dn K mg "bag_behind" fX CG)(vC:Dn K mg "run" Gh m9):bf P w K mg base gb 4 vC.f vC.fd m9 (a4W K):=by
 have gZ9:bf P w K mg base gb 3 _ _ _ _:=K9 B j5 jr oG mY Hu;refine vC.F.ok uT λeV A outer s H vs Q E hr h=>?_;obtain⟨g,n,ts,a,xs,ss,rfl,hG,dJ,hA,pA,a4Y,q⟩:=h;have lx:=aV pA;refine⟨_,(aD (aY 2 uT.nd (cu aj))
   (aD (aY 3 uT.nd (cu aj))
   (aD (aY 4 uT.nd (cu aj))
   (aD (jC jf Z (Κ (K:=K) Z Z B.enumerate (J (pv 1) aj)) (jU (K:=K) (n:=2) Z Z (bZ (aM 5 uT.nd) (bZ (aM 6 uT.nd) jw)))
   (aD (aY 7 uT.nd (bH Ot (bG (cJ (K:=K) Z) Z B.len () (J (pv 4) aj)) (a0e U Z (aQ (aN (K:=K) Z) (pv 6) aq) λ_ _=>rfl)))
   (aD (aY 8 uT.nd uM)
   (jV (dD (aP a3T (pv 7) aq)
   (aB (aY 8 uT.nd (bh gZ9 hr Z Hu.m Hu.F.kp Hu.b .nil b8 (J (pv 0) (J (jE (yc (K:=K) Z) (pv 1) mq (mD (pv 5))) (J (pv 6) (J (jF ["j","tops"] [none,some 2]  (by kernel_rfl) Z (fU (K:=K) Z (jE (yc (K:=K) Z) (pv 4) (mD (pv 7)) mq)) (λ_ _ _ _ _=>(aM 0 (show(["j","tops"]:List Str).Nodup by decide))) (λ_ _ _ _ _=>fQ) λ_ _ _ _ _=>(aQ (bK (K:=K) Z) (pv 1) (pv 0))) aj)))))))
   bO)
   (aD (dD (aP Í (pv 8) uM)
   (aB É)
   bO)
   (aD (gY (qw (K:=K) Z mR PySem.F.slot_list_append PySem.F.type_list_append jo (pv 2) (J (pv 8) aj)))
   (aD (gY (qw (K:=K) Z mR PySem.F.slot_list_append PySem.F.type_list_append jo (pv 3) (J (jE (yc (K:=K) Z) (pv 4) (mD (pv 7)) mq) aj)))
   (aB (aY 4 uT.nd (bH mF (jE (yc (K:=K) Z) (pv 4) mq (mD (pv 7))) (cu (J (pv 5) aj))))))))))))
   (aB (bF (bw (J (pv 2) (J (pv 3) (J (pv 4) aj)))))))))),?_⟩
 refine⟨(),λp1 H1 n1=>⟨(),λp2 H2 n2=>⟨(),λp3 H3 n3=>?_⟩⟩⟩;have s3:=n1.same.trans (n2.same.trans n3.same);have f1:H p1=none:=n1.fresh;have f2:H p2=none:=n1.same.free n2.fresh;have f3:H p3=none:=n1.same.free (n2.same.free n3.fresh);have n12:p1≠p2:=n2.ne n1.here;have n13:p3≠p1:=(n3.ne (n2.same _ _ n1.here)).symm;have n23:p3≠p2:=(n3.ne n2.here).symm;have ret:∀{H':Hp}{pp:Addr}{vt:List V}{fs:List Addr}{a5 a6 a7 a8:Option V},aJ H H'->H pp=none->H' p1=some (.lst vt)->H' p2=some (.lst (fs.map V.ref))->Aw [p1,p2] H' pp (cB n ts ss).pile->Paired (wZ [p1,p2] K H') vt (cB n ts ss).aR->Paired (Aw [p1,p2] H') fs (cB n ts ss).dH->a3J (a1h (Wm (Æ 2) (Wm (Æ 3) (Wm (Æ 4) a3Y)))) { nx:=λx H'=>Q V.non H',rt:=Q} [some g,some (.ref a),some (.ref p1),some (.ref p2),some (.ref pp),a5,a6,a7,a8] H':=λ{H' pp vt fs a5 a6 a7 a8} s fp h1 h2 h3 h4 h5=>by
  refine⟨_,Z,_,Z,_,Z,(),λpr Hr nr=>?_⟩;exact q pr p1 p2 pp vt fs Hr (s.trans nr.same) nr.here f1 f2 fp (nr.same _ _ h1) (nr.same _ _ h2) (h3.same nr.same) (Paired.bV h4 λ_ _ h=>h.same nr.same) (Paired.bV h5 λ_ _ h=>h.same nr.same)
 refine⟨_,Z,a,Z,⟨_,s3.seq hA⟩,ė (P:=λi σ H'=>a4X K g a p1 p2 n ts ss H i σ H') λZ97 ji ij=>?_⟩;refine ç (xs:=xs) Z97 (ji _ _ _ ⟨[],[],p3,none,none,none,none,Z,s3,n3.same _ _ (n2.same _ _ n1.here),n3.same _ _ n2.here,Z,f3,⟨n3.here,by simp[n13,n23]⟩,.nil,.nil⟩) (λi σ H' _ h=>by
  obtain⟨_,_,_,_,_,_,_,_,s,_⟩:=ij _ _ _ h;exact s.seq hA) ?_ ?_
 ·intro i x σ H4 pz H5 hi hJ nz;obtain⟨vt,fs,pp,a5,a6,a7,a8,rfl,s4,h1,h2,go,fp,zG,pv,pf⟩:=ij _ _ _ hJ;obtain⟨sp,hsp,⟨ps,rfl,hps⟩⟩:=bx pA hi;have il:i<ss.length:=(fO.mp hsp).1;have esp:ss.getD i .leaf=sp:=by rw[gw,hsp];rfl
  have I:=jX (n:=n) (ts:=ts) (ss:=ss) dJ go;obtain⟨R,eR⟩:∃R,R=(aW n ts ss i).1:=⟨_,Z⟩;rw[<-eR]at I zG pv pf;have s5:=s4.trans nz.same;refine⟨pz,_,Z,cL.of nz.here,Z,_,_,Z,_,_,Z,Z,?_⟩;have a4Z:=(zG.same nz.same).1;refine⟨_,Z,pp,_,Z,.inl (bM.of a4Z),_,Z,ps,_,((0:Nat):Int),_,Z,Z,s5.wC hps,zu sp,.inr sp.word,_,Z,a0p sp,_,_,Z,Z,?_⟩;dsimp only;rw[aK];obtain⟨lf,elf⟩:∃lf:Int,((R.pile.length:Nat):Int)-((sp.need:Nat):Int)=lf:=⟨_,Z⟩;rw[elf];refine⟨λσ' H'=>∃bv:V,σ'=[some g,some (.ref a),some (.ref p1),some (.ref p2),some (.ref pp),some (.int (i:Int)),some (.ref ps),some (.int lf),some bv]/\aJ H5 H'/\((sp.need<=R.pile.length/\a6A [p1,p2] K H' bv (qd n ts (ss.take i) sp (sH sp R)))\/(¬sp.need<=R.pile.length/\bv=.non)),?_,?_⟩
  ·refine⟨_,Z,_,_,Z,Z,_,Z,u5 (λc=>?_) λc=>⟨.non,Z,aJ.refl _,.inr ⟨?_,Z⟩⟩⟩
   ·have c':(0:Int)<=lf:=iI c;have nl:sp.need<=R.pile.length:=()
    have el:lf=((dZ sp R:Nat):Int):=by unfold dZ;omega
    have ll:dZ sp R<=R.pile.length:=by unfold dZ;omega
    rw[el];refine⟨_,Z,_,Z,_,Z,_,Z,a,_,Z,s5.seq hA,λp6 H6 n6=>?_⟩;rw[RG _ _ ()]at n6;refine⟨_,Z,_,Z,_,Z,_,Z,pp,_,Z,bM.of (n6.same _ _ a4Z),λp7 H7 n7=>?_⟩;rw[RJ _ _ (by rw[aK];exact ll)]at n7;have s57:=n6.same.trans n7.same;have ed:(uq R.pile).drop (dZ sp R)=uq (R.pile.drop (dZ sp R)):=by unfold uq;rw[Uh]
    rw[ed]at n7;have h17:=s57 _ _ (nz.same _ _ h1);have lv:=aV pv;have jt:∀j∈R.pile.drop (dZ sp R),j<R.aR.length:=λj hj=>by rw[I.tl];exact I.lt j (vM hj)
    refine⟨p7,Z,⟨_,bM.of n7.here⟩,?_⟩;refine O5 (λv=>match v with |.int z=>some (vt.getD z.toNat .non)|_=>none) (bM.of n7.here) (by rw[aK,lQ];have:=I.pl;omega) (λv H8 N hv8 s8 hN=>?_) (λH8 p9 H9 s8 n9=>?_)
    ·obtain⟨j,hj,rfl⟩:=gF.mp hv8;have jl:j<vt.length:=by rw[lv];exact jt j hj
     have hN':=hN H8 s8;dsimp only at hN';rw[jz]at hN';refine⟨_,Z,_,Z,p1,_,_,_,Z,Z,bM.of (s8 _ _ h17),cD (bR jl),?_⟩;rw[gw,bR jl]at hN';exact hN'
    have e9:(uq (R.pile.drop (dZ sp R))).filterMap (λv=>match v with |.int z=>some (vt.getD z.toNat .non)|_=>none)=(R.pile.drop (dZ sp R)).map λj=>vt.getD j .non:=by
     unfold uq;rw[Tn];refine(Ck λj _=>?_);show some (vt.getD ((j:Int)).toNat V.non)=_;rw[jz]
    rw[e9]at n9;have s59:=s57.trans (s8.trans n9.same);have s69:=n7.same.trans (s8.trans n9.same);have pv9:=Paired.bV pv λ_ _ h=>h.same (nz.same.trans s59);refine⟨g,n,ts,p6,ps,p9,xs.take i,_,ss.take i,sp,sH sp R,Z,(hG.same s5).same s59,dJ,bM.of (s69 _ _ n6.here),JQ i (Paired.bV pA λ_ _ h=>(h.same s5).same s59),(s5.trans s59).wC hps,bM.of n9.here,Mw pv9 _ jt,?_,λb hb=>?_,λr Zd s10 bn=>?_⟩
    ·unfold sH;rw[aK,lQ];unfold dZ;omega
    ·obtain⟨j,hj,rfl⟩:=gF.mp hb;rw[gw,bR (jt j hj)];exact I.sm _ (oK _)
    refine⟨r,Z,s59.trans s10,.inl ⟨nl,?_⟩⟩;cases eb:qd n ts (ss.take i) sp (sH sp R)with
    |none=>rw[eb]at bn;exact bn
    |some b =>
     rw[eb]at bn;obtain⟨p,e,hp,h⟩:=bn;refine⟨p,e,hp,?_⟩;rcases h with h|h
     ·have k1:H9 p1=some (.lst vt):=s59 _ _ (nz.same _ _ h1);have k2:H9 p2=some (.lst (fs.map V.ref)):=s59 _ _ (nz.same _ _ h2);intro hm;rcases b7.mp hm with hm|hm
      ·rw[hm,k1]at h;cases h
      ·rw[bL.mp hm,k2]at h;cases h
     ·obtain⟨j,hj,ej⟩:=gF.mp h;have jl:j<vt.length:=by rw[lv];exact jt j hj
      obtain⟨b',_,⟨p',e',_,np⟩⟩:=bx pv (bR jl);rw[gw,bR jl,Option.getD_some,e']at ej;injection ej with ej
      rw[<-ej];exact np
   ·have c':¬(0:Int)<=lf:=Tq (xP.mpr c);omega
  rintro σ' H6 ⟨bv,rfl,s6,wb⟩;have s46:=nz.same.trans s6;have h16:=s46 _ _ h1;have h26:=s46 _ _ h2;have a5a:=zG.same s46;have pv6:=Paired.bV pv λ_ _ h=>h.same s46;have pf6:=Paired.bV pf λ_ _ h=>h.same s46;have sH6:=s4.trans s46;have stop:bv=.non->rA n ts ss i R=none:=λe=>by
   unfold rA;rw[esp];rcases wb with⟨nl,w⟩|⟨nl,_⟩
   ·rw[aG nl];cases eb:qd n ts (ss.take i) sp (sH sp R)with
    |none=>rfl
    |some b =>
     rw[eb]at w;obtain⟨p,e',_⟩:=w;rw[e]at e';cases e'
   ·rw[aA nl]
  refine⟨_,Z,Z,_,Z,?_⟩;by_cases cn:bv=.non
  ·rw[bB cn];refine iD ?_;have ee:=a0A il go (by rw[<-eR];exact stop cn);rw[<-eR]at ee;refine ret sH6 fp h16 h26 ?_ ?_ ?_
   ·rw[ee];exact a5a
   ·rw[ee];exact pv6
   ·rw[ee];exact pf6
  ·rw[cM cn];refine cX ?_;obtain⟨nl,b,eb,p,rfl,hp,np⟩:sp.need<=R.pile.length/\∃b,qd n ts (ss.take i) sp (sH sp R)=some b/\wZ [p1,p2] K H6 bv b:=by
    rcases wb with⟨nl,w⟩|⟨_,e⟩
    ·refine⟨nl,?_⟩;cases eb:qd n ts (ss.take i) sp (sH sp R)with
     |none=>rw[eb]at w;exact absurd w cn
     |some b=>rw[eb]at w;exact⟨b,Z,w⟩
    ·exact absurd e cn
   have el:lf=((dZ sp R:Nat):Int):=by unfold dZ;omega
   have ll:dZ sp R<=R.pile.length:=by unfold dZ;omega
   rw[el];have lv:=aV pv;have lff:=aV pf;have tl:=I.tl;have fl:=I.fl;have pl:=I.pl;have es:rA n ts ss i R=some ⟨R.aR++[b],R.dH++[R.pile.drop (dZ sp R)],R.pile.take (dZ sp R)++[i]⟩:=by
    unfold rA;rw[esp,aG nl,eb];rfl
   have er:=Ĥ go (by rw[<-eR];exact es);have m1:p1∈[p1,p2]:=aU;have m2:p2∈[p1,p2]:=bD _ (bL.mpr Z);refine⟨_,Z,.inl ⟨Z,_,bM.of h16⟩,_,Z,p1,vt,_,Z,Z,h16,(),λH7 c7=>?_⟩;have h27:H7 p2=some (.lst (fs.map V.ref)):=(c7.rest p2 (Ne.symm n12)).trans h26;have a5b:=a5a.chg c7 m1;refine⟨_,Z,.inl ⟨Z,_,bM.of h27⟩,_,Z,_,Z,_,Z,pp,_,Z,bM.of a5b.1,λp8 H8 n8=>?_⟩;rw[RJ _ _ (by rw[aK];exact ll),show(uq R.pile).drop (dZ sp R)=uq (R.pile.drop (dZ sp R)) by unfold uq;rw[Uh]]at n8;have h28:=n8.same _ _ h27;refine⟨p2,_,_,Z,Z,h28,by rw[aK];omega,λH9 c9=>?_⟩;have n81:p8∉[p1,p2]:=λhm=>by
    have f8:=n8.fresh;rcases b7.mp hm with hm|hm
    ·rw[hm,c7.here]at f8;cases f8
    ·rw[bL.mp hm,h27]at f8;cases f8
   have h19:H9 p1=some (.lst (vt++[.ref p])):=(c9.rest p1 n12).trans (n8.same _ _ c7.here);have a6B:=(a5b.same n8.same).chg c9 m2;refine⟨_,Z,_,Z,_,Z,pp,_,Z,bM.of a6B.1,λŨ Zd ur=>?_⟩;rw[RG _ _ (by rw[aK];exact ll),show(uq R.pile).take (dZ sp R)=uq (R.pile.take (dZ sp R)) by unfold uq;rw[Ui]]at ur;refine⟨_,Z,(),λp11 Xu Dt=>?_⟩;refine⟨Ũ,p11,_,_,Z,Z,Dt.same _ _ ur.here,Dt.here,by rw[aK,fP];show min _ _+1<=1000;omega,λp12 VG a0C=>?_⟩;have JR:=ur.same.trans (Dt.same.trans a0C.same);have sH9:aJ H H9:=((sH6.chg f1 c7).trans n8.same).chg f2 c9;have f12:H p12=none:=sH9.free (ur.same.free (Dt.same.free a0C.fresh));refine ji _ _ _ ⟨vt++[.ref p],fs++[p8],p12,_,_,_,_,Z,sH9.trans JR,JR _ _ h19,?_,by rw[er],f12,?_,?_,?_⟩
   ·have:=JR _ _ c9.here;rw[this,eO];rfl
   ·rw[er];refine⟨?_,λhm=>?_⟩
    ·rw[a0C.here];unfold uq;rw[eO];rfl
    ·have g:=a0C.fresh;rcases b7.mp hm with hm|hm
     ·rw[hm,Dt.same _ _ (ur.same _ _ h19)]at g;cases g
     ·rw[bL.mp hm,Dt.same _ _ (ur.same _ _ c9.here)]at g;cases g
   ·rw[er];exact dG (Paired.bV pv6 λ_ _ h=>(((h.chg c7 m1).same n8.same).chg c9 m2).same JR) ((((wZ.chg c7 m1 ⟨p,Z,hp,np⟩).same n8.same).chg c9 m2).same JR)
   ·rw[er];exact dG (Paired.bV pf6 λ_ _ h=>(((h.chg c7 m1).same n8.same).chg c9 m2).same JR) ((Aw.chg c9 m2 ⟨n8.here,n81⟩).same JR)
 ·intro σ H4 hJ;obtain⟨vt,fs,pp,a5,a6,a7,a8,rfl,s4,h1,h2,go,fp,zG,pv,pf⟩:=ij _ _ _ hJ;rw[lx]at zG pv pf;exact ret s4 fp h1 h2 zG pv pf
end
abbrev fB:Stmt:=top 16
def nJ:bC ["graph","steps","tops","pile","v","a","b"] FZ (aF fB):={}
inductive a5c where
 |ok
 |step (k:Nat)
 |pile
 |place (v:Nat)
 |tie (a b:Int)
def Mx(R:RS):List (List Int):=R.pile.map λj=>R.aR.getD j []
noncomputable def Bx(n:Nat)(ts:List bY)(ss:List bT)(R:RS):a5c :=
 if R.aR.length<ss.length then .step R.aR.length
 else if Mx R=[[]]then
  match(List.range n).find? λ(v:Nat)=>!decide (bT.inn (v:Int)∈ss)with
  |some v=>.place v
  |none=>match ts.find? λt=>!decide (bT.tie t.1 t.2∈ss)with
   |some t=>.tie t.1 t.2
   |none=>.ok
 else .pile
def a5d(H:Hp)(v:V):a5c->Prop
 |.ok=>v=.non
 |.step k=>∃p,v=.ref p/\H p=some (.tup [.str "step",.int (k:Int)])
 |.pile=>∃p,v=.ref p/\H p=some (.tup [.str "pile"])
 |.place v'=>∃p,v=.ref p/\H p=some (.tup [.str "place",.int (v':Int)])
 |.tie a b=>∃p,v=.ref p/\H p=some (.tup [.str "tie",.int a,.int b])
def JS(b:List Int):PyData:=.list (b.map PyData.int)
def a0D(b:List Int):(JS b).canLay0=true:=by
 have h:=shaped_ints b;unfold SeqAt.shaped at h;rw[ql]at h;exact h.1
def Ze(b:List Int):(JS b).depth<=1:=by
 unfold JS;rw[PyData.depth];have:=vd (k:=0) (f:=PyData.int) (λb=>by simp[PyData.depth]) b;omega
def Gi(bs:List (List Int)):SeqAt.shaped (.list (bs.map JS))=true:=by
 unfold SeqAt.shaped;rw[PyData.canLay0,Hg a0D,PyData.depth,IK];exact bB (by have:=vd Ze bs;omega)
theorem RK:∀xs ys:List (List Int),PyData.eqvAll (xs.map JS) (ys.map JS)=decide (xs=ys)
 | [],[]=>by simp[PyData.eqvAll]
 | [],_::_=>by simp[PyData.eqvAll]
 |_::_,[]=>by simp[PyData.eqvAll]
 |x::xs,y::ys=>by
  rw[cH,cH,PyData.eqvAll,RK xs ys,show PyData.eqv (JS x) (JS y)=decide (x=y)from Jl x y,tG]
  simp
def ĥ{K:aH}{H:Hp}{v:V}{s:List Int}(h:Vn K H v s):KJ K H v (JS s):=by
 obtain⟨p,rfl,h⟩:=h;exact .lst h (zF.ints _)
inductive Ħ(K:aH)(vs:List V)(H:Hp)(Q:VK)(u_3:XK):Prop
 |mk (g:V) (n:Nat) (ts:List bY) (a pt pp:Addr) (xs vt:List V) (ss:List bT) (R:RS) (_:vs=[g,.ref a,.ref pt,.ref pp]) (_:uP K H g n ts) (_:n<=10) (_:bM K H a xs) (_:Paired (uR K H) xs ss) (_:bM K H pt vt) (_:Paired (Vn K H) vt R.aR) (_:bM K H pp (uq R.pile)) (_:(∀j∈R.pile,j<R.aR.length)) (_:R.pile.length<=1000) (_:∀r H',aJ H H'->a5d H' r (Bx n ts ss R)->Q r H')
section
variable{K:aH}
def Gu(B:Bl mg)(uw:Dn K mg "fault_behind" fB FZ):bf P w K mg base gb 1 uw.f uw.fd FZ (Ħ K):=by
 refine uw.F.ok nJ λeV A outer s H vs Q E hr h=>?_;obtain⟨g,n,ts,a,pt,pp,xs,vt,ss,R,rfl,hG,dJ,hA,pA,hV,pV,hPp,jl,a5e,q⟩:=h;have hu:(A.deeper (PyProof.Rows.envOfC "fault_behind" (aF fB) s⁻¹ uw.f eV)).units+64<cLine:=by have:=hr.un;omega
 have hv:(A.deeper (PyProof.Rows.envOfC "fault_behind" (aF fB) s⁻¹ uw.f eV)).units+65<cLine:=by have:=hr.un;omega
 obtain⟨pg,ta,rfl,hP,hT⟩:=id hG;have lx:=aV pA;have lv:=aV pV;refine⟨_,(aD (dD (aP BR (bG (cJ (K:=K) Z) Z B.len () (J (pv 2) aj)) (bG (cJ (K:=K) Z) Z B.len () (J (pv 1) aj)))
   (aB (bF (bw (J gn (J (bG (cJ (K:=K) Z) Z B.len () (J (pv 2) aj)) aj)))))
   bO)
   (aD (dD (aP (O4 (K:=K) Z hu) (jF ["k","tops"] [none,some 2]  (by kernel_rfl) Z (fU (K:=K) Z (pv 3)) (λ_ _ _ _ _=>(aM 0 (show(["k","tops"]:List Str).Nodup by decide))) (λ_ _ _ _ _=>fQ) λ_ _ _ _ _=>(aQ (bK (K:=K) Z) (pv 1) (pv 0))) (cu (J (cu aj) aj)))
   (aB (bF (bw (J gn aj))))
   bO)
   (aD (jC jf Z (jB Z B.range (J (aQ (aN (K:=K) Z) (pv 0) aq) aj)) (aM 4 nJ.nd)
   (aB (dD (aP (jT (K:=K) Z hv) (bw (J gn (J (pv 4) aj))) (pv 1) (by with_unfolding_all rfl))
   (aB (bF (bw (J gn (J (pv 4) aj)))))
   bO)))
   (aD (jC jf Z (fU (K:=K) Z (aQ (aN (K:=K) Z) (pv 0) aq)) (jU (K:=K) (n:=2) Z Z (bZ (aM 5 nJ.nd) (bZ (aM 6 nJ.nd) jw)))
   (aB (dD (aP (jT (K:=K) Z hv) (bw (J gn (J (pv 5) (J (pv 6) aj)))) (pv 1) (by with_unfolding_all rfl))
   (aB (bF (bw (J gn (J (pv 5) (J (pv 6) aj))))))
   bO)))
   (aB (bF uM)))))),?_⟩
 refine⟨_,Z,pt,_,Z,.inl hV,_,Z,a,_,Z,.inl hA,_,_,Z,Z,_,Z,?_⟩;rw[lv,lx];by_cases c1:R.aR.length<ss.length
 ·rw[bB (show((R.aR.length:Nat):Int)<((ss.length:Nat):Int) by omega)];refine iD ⟨_,Z,pt,_,Z,.inl hV,(),λp1 H1 n1=>q _ H1 n1.same ?_⟩;unfold Bx;rw[aG c1];rw[lv]at n1;exact⟨p1,Z,n1.here⟩
 ·rw[cM (show ¬((R.aR.length:Nat):Int)<((ss.length:Nat):Int) by omega)];refine cX ⟨_,Z,pp,Z,⟨_,hPp⟩,?_⟩;refine O5 (λv=>match v with |.int z=>some (vt.getD z.toNat .non)|_=>none) hPp (by rw[aK];exact a5e) (λv H8 N hv8 s8 hN=>?_) (λH8 p9 H9 s8 n9=>?_)
  ·obtain⟨j,hj,rfl⟩:=gF.mp hv8;have jv:j<vt.length:=by rw[lv];exact jl j hj
   have hN':=hN H8 s8;dsimp only at hN';rw[jz]at hN';refine⟨_,Z,_,Z,pt,_,_,_,Z,Z,s8.seq hV,cD (bR jv),?_⟩;rw[gw,bR jv]at hN';exact hN'
  have e9:(uq R.pile).filterMap (λv=>match v with |.int z=>some (vt.getD z.toNat .non)|_=>none)=R.pile.map λj=>vt.getD j .non:=by
   unfold uq;rw[Tn];refine(Ck λj _=>?_);show some (vt.getD ((j:Int)).toNat V.non)=_;rw[jz]
  rw[e9]at n9;have s09:=s8.trans n9.same;have laid:∀l:List Nat,(∀j∈l,j<R.aR.length)->Paired (Vn K H9) (l.map λj=>vt.getD j .non) (l.map λj=>R.aR.getD j []):=λl=>by
   induction l with
   |nil=>exact λ_=>.nil
   |cons j r ih =>
    intro h;have jl:=h j aU;obtain⟨x,hx,p,e,hb⟩:=dF pV (bR jl);refine .cons ?_ (ih λi hi=>h i (bD _ hi));dsimp only;rw[gw,hx,gw,bR jl];exact⟨p,e,s09.seq hb⟩
  refine⟨(),λŨ Zd ur=>⟨(),λp11 Xu Dt=>?_⟩⟩;have ħ:=ur.same.trans Dt.same;refine⟨.list ((Mx R).map JS),.list ([[]].map JS),.lst (bM.of (ħ _ _ n9.here)) (O6 (λ_ _ h=>ĥ h) (Paired.bV (laid R.pile jl) λ_ _ ⟨p,e,hb⟩=>⟨p,e,ħ.seq hb⟩)),.lst (bM.of Dt.here) (.cons (.lst (bM.of (Dt.same _ _ ur.here)) .nil) .nil),Gi _,Gi [[]],_,Z,?_⟩;rw[aG Z,PyData.eqv,RK];have s11:=s09.trans ħ;by_cases c2:Mx R=[[]]
  ·rw[bB c2];refine cX ?_;refine⟨_,Z,pg,_,_,_,Z,Z,s11.wC hP,Z,_,Z,(),(),?_⟩;rw[jz];refine Ei (n:=n) (λi σ H'=>(∃vv:Option V,σ=[some (.ref pg),some (.ref a),some (.ref pt),some (.ref pp),vv,none,none])/\aJ H H'/\∀j,j<i->bT.inn (j:Int)∈ss) ⟨⟨none,Z⟩,s11,λj h=>absurd h (Ac _)⟩ ?_ ?_
   ·rintro i σ VG hi ⟨⟨vv,rfl⟩,s12,ok⟩;have ei:(0:Int)+(i:Int)=(i:Int):=()
    rw[ei];refine⟨_,Z,(),λp13 ũ n13=>?_⟩;have uU:=s12.trans n13.same;refine⟨_,Z,yp (s:=.inn (i:Int)) (uU.seq hA) (Paired.bV pA λ_ _ h=>uR.same uU h) (cL.of n13.here) ⟨_,Z,?_⟩⟩;by_cases c3:bT.inn (i:Int)∈ss
    ·rw[bB c3];refine cX ⟨⟨_,Z⟩,uU,λj hj=>?_⟩;by_cases e:j=i
     ·rw[e];exact c3
     ·exact ok j ()
    ·rw[cM c3];refine iD ⟨_,Z,(),λp14 Zf n14=>q _ Zf (uU.trans n14.same) ?_⟩;unfold Bx;have ef:(List.range n).find? (λ(v:Nat)=>!decide (bT.inn (v:Int)∈ss))=some i:=Ä.mpr ⟨by rw[cM c3];rfl,mV.mpr hi,λj hj=>by rw[bB (ok j hj)];rfl⟩;rw[aA c1,aG c2,ef];exact⟨p14,Z,n14.here⟩
   ·rintro σ VG ⟨⟨vv,rfl⟩,s12,ok⟩;have ef:(List.range n).find? (λ(v:Nat)=>!decide (bT.inn (v:Int)∈ss))=none:=DP.mpr λj hj=>by rw[bB (ok j (mV.mp hj))];simp
    obtain⟨txs,htx,ptx,ltx⟩:=id (hT.same s12);have ltl:=aV ptx;refine⟨_,Z,pg,_,_,_,Z,Z,s12.wC hP,Z,ta,Z,⟨_,htx⟩,xZ (xs:=txs) (λi σ H'=>(∃va vb:Option V,σ=[some (.ref pg),some (.ref a),some (.ref pt),some (.ref pp),vv,va,vb])/\aJ VG H'/\∀t∈ts.take i,bT.tie t.1 t.2∈ss) ⟨⟨none,none,Z⟩,aJ.refl _,λt h=>absurd h (by simp)⟩ (λi σ H' _ ⟨_,s,_⟩=>s.seq htx) ?_ ?_⟩
    ·rintro i x σ ũ hx ⟨⟨va,vb,rfl⟩,uU,ok2⟩;obtain⟨t,ht,⟨px,rfl,hpx⟩⟩:=bx ptx hx;obtain⟨til,tix⟩:=fO.mp ht;have et:ts.take (i+1)=ts.take i++[t]:=by rw[zR til,tix]
     refine⟨px,_,Z,uU.wC hpx,Z,_,_,Z,_,_,Z,Z,?_⟩;refine⟨_,Z,_,Z,(),λp14 Zf n14=>?_⟩;have Qy:=(s12.trans uU).trans n14.same;refine⟨_,Z,yp (s:=.tie t.1 t.2) (Qy.seq hA) (Paired.bV pA λ_ _ h=>uR.same Qy h) (cL.of n14.here) ⟨_,Z,?_⟩⟩;by_cases c3:bT.tie t.1 t.2∈ss
     ·rw[bB c3];refine cX ⟨⟨_,_,Z⟩,uU.trans n14.same,λt' h'=>?_⟩;rw[et]at h';rcases cN.mp h' with h'|h'
      ·exact ok2 t' h'
      ·rw[bL.mp h'];exact c3
     ·rw[cM c3];refine iD ⟨_,Z,_,Z,(),λp15 H15 n15=>q _ H15 (Qy.trans n15.same) ?_⟩;unfold Bx;have eg:ts.find? (λt=>!decide (bT.tie t.1 t.2∈ss))=some t:=by
       rw[<-xK (i+1) ts,et,vR,List.find?_append,DP.mpr (λt' h'=>by rw[bB (ok2 t' h')];simp)];rw[Option.none_or];show List.find? _ (t::_)=_;rw[List.find?_cons,cM c3];rfl
      rw[aA c1,aG c2,ef,eg];exact⟨p15,Z,n15.here⟩
    ·rintro σ ũ ⟨⟨va,vb,rfl⟩,uU,ok2⟩;rw[ltl,gO]at ok2;refine q _ ũ (s12.trans uU) ?_;unfold Bx;have eg:ts.find? (λt=>!decide (bT.tie t.1 t.2∈ss))=none:=DP.mpr λt h=>by rw[bB (ok2 t h)];simp
     rw[aA c1,aG c2,ef,eg];exact rfl
  ·rw[cM c2];refine iD ⟨(),λp12 VG n12=>q _ VG (s11.trans n12.same) ?_⟩;unfold Bx;rw[aA c1,aA c2];exact⟨p12,Z,n12.here⟩
def a0E{n:Nat}{ts:List bY}{ss:List bT}(dJ:n<=10):∃i,i<=ss.length/\a0z i (cB n ts ss)/\(i=ss.length\/i<ss.length):=by
 have h:∀m,m<=ss.length->∃i,i<=m/\a0z i (aW n ts ss m).1:=λm=>by
  induction m with
  |zero=>exact λ_=>⟨0,aL _,jX dJ Z⟩
  |succ m ih =>
   intro hm;by_cases c:(aW n ts ss (m+1)).2=true
   ·exact⟨m+1,aL _,jX dJ c⟩
   ·obtain⟨i,hi,I⟩:=ih ();refine⟨i,(),?_⟩;have e:(aW n ts ss (m+1)).1=(aW n ts ss m).1:=by
     have e:aW n ts ss (m+1)=if(aW n ts ss m).2=true then
      (match rA n ts ss m (aW n ts ss m).1 with
      |some r=>(r,true)
      |none=>((aW n ts ss m).1,false))
     else((aW n ts ss m).1,false):=rfl
     grind
    grind
 obtain⟨i,hi,I⟩:=h ss.length (aL _);exact⟨i,hi,I,()⟩
end
structure Ĩ(mg:Str->Option Value) where
 qD:Value
 vD:mg "BEYOND_WEIGHTS" = some qD
 vG:cV (.int 1000000000000000000000000000000) qD
 su:Value
 wV:mg "MOST_IN_A_BAG" = some su
 wW:cV (.int 4) su
 tY:Value
 yq:mg "MOST_COLOURS" = some tY
 yr:cV (.int 4) tY
def a2Y{K:aH}{h:Heap}{Fe:Tok}{Gv:Tok}{JT:Tok}(X:K.In h)(G:h.Ns mainGlobals mg)(Fg:PySem.W.nsIn K mainGlobals "BEYOND_WEIGHTS" = some (some (Value.int 1000000000000000000000000000000 Fe)))(Gw:PySem.W.nsIn K mainGlobals "MOST_IN_A_BAG" = some (some (Value.int 4 Gv)))(JV:PySem.W.nsIn K mainGlobals "MOST_COLOURS" = some (some (Value.int 4 JT))):Nonempty (Ĩ mg) :=
 ⟨{ qD:=_,vD:=Iz X G Fg,vG:=⟨_,Z⟩,su:=_,wV:=Iz X G Gw,wW:=⟨_,Z⟩,tY:=_,yq:=Iz X G JV,yr:=⟨_,Z⟩}⟩
abbrev mZ:Stmt:=inClass (top 35) 0
def yu:bC W4 W4 (aF mZ):={}
abbrev fG:Stmt:=inClass (top 35) 1
def w5:bC lC lC (aF fG):={}
abbrev gK:Stmt:=inClass (top 35) 2
def Ax:bC wN wN (aF gK):={}
abbrev gM:Stmt:=inClass (top 35) 3
def Ay:bC lC lC (aF gM):={}
abbrev nQ:Stmt:=inClass (top 36) 0
def zH:bC W5 W5 (aF nQ):={}
abbrev mK:Stmt:=inClass (top 36) 1
def CQ:bC iz iz (aF mK):={}
abbrev oX:Stmt:=inClass (top 36) 2
def Gx:bC sE sE (aF oX):={}
abbrev jx:Stmt:=inClass (top 36) 3
def yw:bC iz iz (aF jx):={}
abbrev qF:Stmt:=inClass (top 37) 0
def CT:bC Ga Ga (aF qF):={}
abbrev lD:Stmt:=inClass (top 37) 1
def Az:bC lC lC (aF lD):={}
abbrev oY:Stmt:=inClass (top 37) 2
def Gy:bC iz iz (aF oY):={}
abbrev sS:Stmt:=inClass (top 37) 3
def La:bC sE sE (aF sS):={}
abbrev lE:Stmt:=inClass (top 37) 4
def Ba:bC iz iz (aF lE):={}
abbrev qG:Stmt:=inClass (top 38) 0
def CV:bC Ga Ga (aF qG):={}
abbrev oZ:Stmt:=inClass (top 38) 1
def Gz:bC wN wN (aF oZ):={}
abbrev pB:Stmt:=inClass (top 38) 2
def GC:bC lC lC (aF pB):={}
abbrev pC:Stmt:=inClass (top 38) 3
def GD:bC iz iz (aF pC):={}
abbrev pG:Stmt:=inClass (top 38) 4
def Lb:bC sE sE (aF pG):={}
abbrev lF:Stmt:=inClass (top 38) 5
def Bb:bC iz iz (aF lF):={}
structure qH(K:aH)(mg:Str->Option Value) where
 C:Addr
 cl:Cls K C
 m:mg "Question" = some (.ref C)
 bN:Dm K C "__init__" "Question.__init__" mZ W4
 uH:a4D K C "__init__" bN.f
 Ū:Mk K C bN.f
set_option genInjectivity false in
structure vH(K:aH)(mg:Str->Option Value) where
 C:Addr
 cl:Cls K C
 m:mg "Colours" = some (.ref C)
 fK:fu K C "graph"
 ig:fu K C "leaf"
 fV:fu K C "whole"
 JW:fu K C "many"
 fH:fu K C "weights"
 bN:DmD K C "__init__" "Colours.__init__" nQ W5
 eX:Dm K C "is_better" "Question.is_better" fG lC
 jc:Dm K C "shared" "Question.shared" gK wN
 jd:Dm K C "joined" "Question.joined" gM lC
 je:Dm K C "put_in" "Colours.put_in" mK iz
 pH:Dm K C "tied" "Colours.tied" oX sE
 eY:Dm K C "taken_out" "Colours.taken_out" jx iz
 Ū:Mk K C bN.f
set_option genInjectivity false in
structure CZ(K:aH)(mg:Str->Option Value) where
 C:Addr
 cl:Cls K C
 m:mg "Apart" = some (.ref C)
 fK:fu K C "graph"
 ig:fu K C "leaf"
 fV:fu K C "whole"
 fH:fu K C "weights"
 bN:DmD K C "__init__" "Apart.__init__" qF Ga
 eX:Dm K C "is_better" "Apart.is_better" lD lC
 jc:Dm K C "shared" "Question.shared" gK wN
 jd:Dm K C "joined" "Question.joined" gM lC
 je:Dm K C "put_in" "Apart.put_in" oY iz
 pH:Dm K C "tied" "Apart.tied" sS sE
 eY:Dm K C "taken_out" "Apart.taken_out" lE iz
 Ū:Mk K C bN.f
set_option genInjectivity false in
structure Dc(K:aH)(mg:Str->Option Value) where
 C:Addr
 cl:Cls K C
 m:mg "Watch" = some (.ref C)
 fK:fu K C "graph"
 ig:fu K C "leaf"
 fV:fu K C "whole"
 fH:fu K C "weights"
 bN:DmD K C "__init__" "Watch.__init__" qG Ga
 eX:Dm K C "is_better" "Question.is_better" fG lC
 jc:Dm K C "shared" "Watch.shared" oZ wN
 jd:Dm K C "joined" "Watch.joined" pB lC
 je:Dm K C "put_in" "Watch.put_in" pC iz
 pH:Dm K C "tied" "Watch.tied" pG sE
 eY:Dm K C "taken_out" "Watch.taken_out" lF iz
 Ū:Mk K C bN.f
abbrev lV:Stmt:=top 17
def sU:bC ["graph","steps","tops","feeds","pile"] m9 (aF lV):={}
abbrev uV:Stmt:=top 18
def JX:bC ["bags"] ["bags"] (aF uV):={}
inductive a2Z(K:aH)(vs:List V)(H:Hp)(Q:VK)(u_3:XK):Prop
 |mk (g:V) (n:Nat) (ts:List bY) (a:Addr) (xs:List V) (ss:List bT) (_:vs=[g,.ref a]) (_:uP K H g n ts) (_:n<=10) (_:bM K H a xs) (_:Paired (uR K H) xs ss) (_:ss.length<=900) (_:Bx n ts ss (cB n ts ss)=.ok) (_:∀r pt pf vt fs H',aJ H H'->H' r=some (.tup [.ref pt,.ref pf])->H pt=none->H pf=none->H' pt=some (.lst vt)->H' pf=some (.lst (fs.map V.ref))->Paired (wZ [pt,pf] K H') vt (cB n ts ss).aR->Paired (Aw [pt,pf] H') fs (cB n ts ss).dH->Q (.ref r) H')
def zx{n:Nat}{ts:List bY}{ss:List bT}(dJ:n<=10)(h:Bx n ts ss (cB n ts ss)=.ok):a0z ss.length (cB n ts ss):=by
 obtain⟨i,il,I,_⟩:=a0E (n:=n) (ts:=ts) (ss:=ss) dJ;have e:¬(cB n ts ss).aR.length<ss.length:=λc=>by
  unfold Bx at h;rw[aG c]at h;cases h
 rw[I.tl]at e;grind
def RL(n:Nat)(ts:List bY)(ss:List bT)(m:Nat):aW n ts ss (m+1)=if(aW n ts ss m).2=true then
   (match rA n ts ss m (aW n ts ss m).1 with
   |some r=>(r,true)
   |none=>((aW n ts ss m).1,false))
  else((aW n ts ss m).1,false):=rfl
theorem Mz{n:Nat}{ts:List bY}{ss:List bT}(dJ:n<=10):∀m,(aW n ts ss m).2=false->(aW n ts ss m).1.aR.length<m
 |0,h=>by cases h
 |m+1,h=>by
  rw[RL]at h ⊢
  by_cases c:(aW n ts ss m).2=true
  ·rw[aG c]at h ⊢
   have I:=jX dJ c
   cases d:rA n ts ss m (aW n ts ss m).1 with
   |none=>show(aW n ts ss m).1.aR.length<m+1;rw[I.tl];omega
   |some r=>grind
  ·rw[aA c]
   have:=Mz dJ m (xP.mpr c)
   grind
def ĩ{n:Nat}{ts:List bY}{ss:List bT}(dJ:n<=10)(h:Bx n ts ss (cB n ts ss)=.ok):∀i,i<=ss.length->(aW n ts ss i).2=true:=by
 have e:¬(cB n ts ss).aR.length<ss.length:=λc=>by
  unfold Bx at h;grind
 intro i il;cases c:(aW n ts ss i).2 with
 |true=>rfl
 |false =>
  have e2:=JN c ss.length il;have:=Mz dJ i c;unfold cB at e;grind
section
variable{K:aH}
def PJ(B:Bl mg)(U:Used w K mg)(j5:Fd K mg)(jr:Dn K mg "is_below" fW tW)(oG:Dn K mg "joint" oW j4)(mY:Dn K mg "less" rZ j4)(Hu:Dn K mg "bag_behind" fX CG)(vC:Dn K mg "run" Gh m9)(uw:Dn K mg "fault_behind" fB FZ)(w6:Dn K mg "run_whole" lV m9):bf P w K mg base gb 5 w6.f w6.fd m9 (a2Z K):=by
 have a6C:bf P w K mg base gb 4 _ _ _ _:=a2X B U j5 jr oG mY Hu vC;have a6D:bf P w K mg base gb 4 _ _ _ _:=(Gu B uw).mono ();refine w6.F.ok sU λeV A outer s H vs Q E hr h=>?_;obtain⟨g,n,ts,a,xs,ss,rfl,hG,dJ,hA,pA,a4Y,rQ,q⟩:=h;refine⟨_,(aD (Ah (bh a6C hr Z vC.m vC.F.kp vC.b .nil b8 (J (pv 0) (J (pv 1) aj))) (jU (K:=K) (n:=3) Z Z (bZ (aM 2 sU.nd) (bZ (aM 3 sU.nd) (bZ (aM 4 sU.nd) jw)))))
   (aD (dD (aP ŷ (bh a6D hr Z uw.m uw.F.kp uw.b .nil b8 (J (pv 0) (J (pv 1) (J (pv 2) (J (pv 4) aj))))) uM)
   (aB BP)
   bO)
   (aB (bF (bw (J (pv 2) (J (pv 3) aj))))))),?_⟩
 have I:=zx dJ rQ;have pl:=I.pl;refine⟨_,Z,_,Z,g,n,ts,a,xs,ss,Z,hG,dJ,hA,pA,a4Y,λr pt pf pp vt fs H1 s1 hr1 ft ff fp ht hf hp pv pf'=>⟨r,_,Z,cL.of hr1,Z,_,_,Z,_,_,Z,_,_,Z,Z,?_⟩⟩;refine⟨_,Z,_,Z,_,Z,_,Z,g,n,ts,a,pt,pp,xs,vt,ss,cB n ts ss,Z,hG.same s1,dJ,s1.seq hA,Paired.bV pA λ_ _ h=>h.same s1,bM.of ht,Paired.bV pv λ_ _ h=>h.l,bM.of hp.1,(λj hj=>by rw[I.tl];exact I.lt j hj),(),λv H2 s2 fv=>?_⟩;rw[rQ]at fv;obtain rfl:v=.non:=fv;refine⟨Z,_,Z,cX ?_⟩;refine⟨_,Z,_,Z,(),λp3 H3 n3=>?_⟩;have uU:=s2.trans n3.same;exact q p3 pt pf vt fs H3 (s1.trans uU) n3.here ft ff (uU _ _ ht) (uU _ _ hf) (Paired.bV pv λ_ _ h=>h.same uU) (Paired.bV pf' λ_ _ h=>h.same uU)
end
inductive a3a(K:aH)(vs:List V)(H:Hp)(Q:VK)(u_3:XK):Prop
 |mk (a:Addr) (xs:List V) (rs:List Bv) (_:vs=[.ref a]) (_:bM K H a xs) (_:Paired (λv r=>∃q,v=.ref q/\bM K H q (r.2.map V.int)) xs rs) (_:rs.length<=900) (_:(∀r∈rs,r.2.length<=4)) (_:∀H',aJ H H'->Q .non H')
section
variable{K:aH}
abbrev Ī(K:PySem.W.Frag)(mg:Str->Option Value):=Dn K mg "refuse_wide" uV ["bags"]
def JZ(B:Bl mg)(Ct:Ĩ mg)(xg:Ī K mg):bf P w K mg base gb 1 xg.f xg.fd ["bags"] (a3a K):=by
 refine xg.F.ok JX λeV A outer s H vs Q E hr h=>?_;obtain⟨a,xs,rs,rfl,hx,hp,l9,h4,q⟩:=h;have lx:=aV hp;refine⟨_,(aB (dD (fY (K:=K) Z (bG (Yw (K:=K) Z Z) Z B.any () (J (jF ["bag"] [none]  (by kernel_rfl) Z (fU (K:=K) Z (pv 0)) (λ_ _ _ _ _=>(aM 0 (show(["bag"]:List Str).Nodup by decide))) (λ_ _ _ _ _=>fQ) λ_ _ _ _ _=>(qM BV (bG (cJ (K:=K) Z) Z B.len () (J (pv 0) aj)) (Oq (v:=.int 4) Z Ct.wV Ct.wW))) aj)) λ_=>rfl)
   (aB BP)
   bO)),?_⟩
 refine⟨_,Z,a,Z,⟨_,hx⟩,è (λj=>some (.bl false)) hx () (λj x H3 N hj s3 hN=>?_) λH3 p H4 s3 nw=>?_⟩
 ·obtain⟨r,hr1,⟨b,rfl,hb⟩⟩:=bx hp hj;refine⟨_,Z,b,_,Z,.inl (s3.seq hb),_,_,Z,Z,?_⟩;grind
 have e1:(List.range xs.length).filterMap (λj=>some (V.bl false))=((List.range rs.length).map λ_=>false).map V.bl:=by
  rw[lx,qt];exact Ck λ_ _=>rfl
 rw[e1]at nw;refine⟨p,_,_,Z,bM.of nw.here,oO.bls _,_,Z,?_⟩;have e2:((List.range rs.length).map λ_=>false).any id=false:=by
  grind
 rw[e2];exact cX (q H4 (s3.trans nw.same))
end
abbrev yx:Stmt:=top 20
def Fi:bC Jy Mp (aF yx):={}
abbrev lG:Stmt:=top 21
def Bc:bC ["table"] ["table"] (aF lG):={}
abbrev mL:Stmt:=top 22
def uW:bC ["graph","steps","tops","feeds"] m9 (aF mL):={}
def a0F{K:aH}{H:Hp}{vs:List V}{bs:List (List Int)}(h:Paired (wZ ex K H) vs bs):Paired (λv (r:Bv)=>∃q,v=.ref q/\bM K H q (r.2.map V.int)) vs (bs.map λb=>(none,b)):=by
 induction h with
 |nil=>exact .nil
 |cons h _ ih =>
  obtain⟨q,e,h,_⟩:=h;exact .cons ⟨q,e,h⟩ ih
inductive a5f(K:aH)(vs:List V)(H:Hp)(Q:VK)(u_3:XK):Prop
 |mk (g:V) (n:Nat) (ts:List bY) (a:Addr) (xs:List V) (ss:List bT) (_:vs=[g,.ref a]) (_:uP K H g n ts) (_:n<=10) (_:bM K H a xs) (_:Paired (uR K H) xs ss) (_:ss.length<=800) (_:Bx n ts ss (cB n ts ss)=.ok) (_:(∀b∈(cB n ts ss).aR,b.length<=4)) (_:∀r pt pf vt fs H',aJ H H'->H' r=some (.tup [.ref pt,.ref pf])->H' pt=some (.lst vt)->H' pf=some (.lst (fs.map V.ref))->Paired (wZ [pt,pf] K H') vt (cB n ts ss).aR->Paired (Aw [pt,pf] H') fs (cB n ts ss).dH->Q (.ref r) H')
def a0G(H:Hp)(v:V)(r:gR):Prop:=∃p,v=.ref p/\H p=some (.tup [.int r.m,.int r.b])
def wK(H:Hp):List (List Key×V)->cQ->Prop:=Paired λkv tr=>kv.1=lZ tr.1/\a0G H kv.2 tr.2
inductive VH(H:Hp)(v:V)(T:cQ):Prop
 |mk (p O:_) (_:v=.ref p) (_:H p=some (.dT O)) (_:wK H O T)
def a0G.keep{H H':Hp}{v:V}{r:gR}(k:pZ H H')(h:a0G H v r):a0G H' v r:=by
 obtain⟨p,e,h⟩:=h;exact⟨p,e,k _ _ h⟩
def VH.keep{H H':Hp}{v:V}{T:cQ}(s:aJ H H')(h:VH H v T):VH H' v T:=by
 obtain⟨p,O,e,h1,h2⟩:=h;exact⟨p,O,e,s _ _ h1,Paired.bV h2 λ_ _ z=>⟨z.1,z.2.keep (.of s)⟩⟩
inductive Zg(vs:List V)(H:Hp)(Q:VK)(u_3:XK):Prop
 |mk (t:Addr) (O:List (List Key×V)) (T:cQ) (_:vs=[.ref t]) (_:H t=some (.dT O)) (_:qy H O T) (_:T.length<=900) (_:(T.map (·.1)).Nodup) (_:∀p kvs' H',aJ H H'->H' p=some (.dT kvs')->wK H' kvs' T->Q (.ref p) H')
section
variable{K:aH}{κ:Type} [DecidableEq κ]
def Ld(B:Bl mg)(Ct:Ĩ mg)(U:Used w K mg)(j5:Fd K mg)(jr:Dn K mg "is_below" fW tW)(oG:Dn K mg "joint" oW j4)(mY:Dn K mg "less" rZ j4)(Hu:Dn K mg "bag_behind" fX CG)(vC:Dn K mg "run" Gh m9)(uw:Dn K mg "fault_behind" fB FZ)(w6:Dn K mg "run_whole" lV m9)(xg:Ī K mg)(zJ:Dn K mg "run_narrow" mL m9):bf P w K mg base gb 6 zJ.f zJ.fd m9 (a5f K):=by
 have a6E:bf P w K mg base gb 5 _ _ _ _:=PJ B U j5 jr oG mY Hu vC uw w6;have a6F:bf P w K mg base gb 5 _ _ _ _:=(JZ B Ct xg).mono ();refine zJ.F.ok uW λeV A outer s H vs Q E hr h=>?_;obtain⟨g,n,ts,a,xs,ss,rfl,hg,dJ,hA,pA,l8,qI,b4,q⟩:=h;refine⟨_,(aD (Ah (bh a6E hr Z w6.m w6.F.kp w6.b .nil b8 (J (pv 0) (J (pv 1) aj))) (jU (K:=K) (n:=2) Z Z (bZ (aM 2 uW.nd) (bZ (aM 3 uW.nd) jw))))
   (aD (gY (bh a6F hr Z xg.m xg.F.kp xg.b .nil b8 (J (pv 2) aj)))
   (aB (bF (bw (J (pv 2) (J (pv 3) aj))))))),?_⟩
 refine⟨_,Z,_,Z,g,n,ts,a,xs,ss,Z,hg,dJ,hA,pA,(),qI,λr pt pf vt fs H1 s1 hr1 fpt fpf hpt hpf pT pF=>?_⟩;refine⟨r,_,Z,cL.of hr1,Z,_,_,Z,_,_,Z,Z,?_⟩;have lT:(cB n ts ss).aR.length<=900:=by
  have:=(zx dJ qI).tl;omega
 refine⟨_,Z,pt,vt,(cB n ts ss).aR.map (λb=>(none,b)),Z,bM.of hpt,a0F pT,by rw[aK];exact lT,?_,λH2 s2=>?_⟩
 ·intro r' hr';obtain⟨b,hb,rfl⟩:=gF.mp hr';exact b4 b hb
 ·refine⟨_,Z,_,Z,(),λp3 H3 n3=>?_⟩;have s23:=s2.trans n3.same;exact q p3 pt pf vt fs H3 (s1.trans s23) n3.here (s23 _ _ hpt) (s23 _ _ hpf) (Paired.bV pT λ_ _ ⟨p,e,h,ne⟩=>⟨p,e,s23.seq h,ne⟩) (Paired.bV pF λ_ _ ⟨h,ne⟩=>⟨s23 _ _ h,ne⟩)
abbrev a0H(K:PySem.W.Frag)(mg:Str->Option Value):=Dn K mg "without_sources" lG ["table"]
def Bd(B:Bl mg)(yC:a0H K mg):bf P w K mg base gb 1 yC.f yC.fd ["table"] Zg:=by
 refine yC.F.ok Bc λeV A outer s H vs Q E hr h=>?_;obtain⟨t,O,T,rfl,ht,hT,lT,nd,q⟩:=h;have hw2:(A.deeper (PyProof.Rows.envOfC "without_sources" (aF lG) s⁻¹ yC.f eV)).units+2<cLine:=by have:=hr.un;omega
 refine⟨_,(aB (bF (gq (Vr (K:=K) Z Z hw2) Z B.dict () (J (ć (jF ["state","row"] [none,none]  (by kernel_rfl) Z (vo (qN (K:=K) Z xG HX HY vh (pv 0))) (λ_ _ _ _ _=>(jU (K:=K) (n:=2) Z Z (bZ (aM 0 (show(["state","row"]:List Str).Nodup by decide)) (bZ (aM 1 (show(["state","row"]:List Str).Nodup by decide)) jw)))) (λ_ _ _ _ _=>fQ) λ_ _ _ _ _=>(bw (J (pv 0) (J (bw (J (aQ (aN (K:=K) Z) (pv 1) aq) (J (aQ (aN (K:=K) Z) (pv 1) aq) aj))) aj))))) aj)))),⟨_,Z,.inr (.inr (.inl ⟨Z,.inr ⟨_,ht⟩⟩)),t,O,Z,Z,ht,λpv H1 n1=>⟨pv,t,O,Z,n1.here,n1.same _ _ ht,λo as pk=>?_⟩⟩⟩;have h1t:=n1.same _ _ ht;have Xi:Nd H (cI H1 t (.iC o (.dT O))):=(Nd.of n1.same).trans (Nd.iC h1t);have Ę:cI H1 t (.iC o (.dT O)) t=some (.iC o (.dT O)):=cP;have Xj:∀c,c≠t->cI H1 t (.iC o (.dT O)) c=H1 c:=λc hc=>aO hc;generalize cI H1 t (.iC o (.dT O))=G0 at pk Xi Ę Xj ⊢;have lk:=aV hT;have la:=aV pk;refine YW (λi ys G=>aJ G0 G/\∃kw,Paired (PrL G) ys kw/\wK G kw (T.take i)) ⟨aJ.refl _,[],.nil,.nil⟩ (λi ys G hi ⟨sG,kw,p1,p2⟩=>⟨sG _ _ Ę,?_⟩) (λi ys G a0 v0 p G1 ha0 hv0 ⟨sG,kw,p1,p2⟩ nw=>?_) (λys G pl ⟨sG,kw,p1,p2⟩ hpl=>?_)
 ·rw[aV p1,aV p2,fP];omega
 ·obtain⟨kv,hkv,hak⟩:=bx pk ha0;obtain⟨⟨st,row⟩,hsx,ek,hrow⟩:=bx hT hkv;have ek:kv.1=lZ st:=ek;have hv0':v0=kv.2:=by
   rw[d7,hkv]at hv0;exact(dM hv0).symm
  subst hv0';rw[ek]at hak;have ŧ:=sG.trans nw.same;obtain⟨pr,qr,asr,VB,hpr,_⟩:=hrow.keep (Xi.tups.trans (.of ŧ));refine⟨p,_,Z,cL.of nw.here,Z,_,_,Z,_,_,Z,Z,?_⟩;rw[VB];refine⟨_,Z,_,Z,pr,_,_,.int row.m,Z,Z,cL.of hpr,Z,_,Z,pr,_,_,.int row.b,Z,Z,cL.of hpr,Z,(),λq1 G2 m2=>⟨(),λq2 G3 m3=>?_⟩⟩;have uU:=nw.same.trans (m2.same.trans m3.same);refine⟨sG.trans uU,kw++[(lZ st,.ref q1)],dG (Paired.bV p1 λ_ _ ⟨pp,kp,e,h1,h2⟩=>⟨pp,kp,e,uU _ _ h1,uU _ _ h2⟩) ⟨q2,a0,Z,m3.here,(sG.trans uU) _ _ hak⟩,?_⟩;rw[jQ,hsx];exact dG (Paired.bV p2 λ_ _ z=>⟨z.1,z.2.keep (.of uU)⟩) ⟨Z,q1,Z,m3.same _ _ m2.here⟩
 ·have n2:=gW.nY (o:=.lst ys) hpl;generalize cI G pl (.lst ys)=G2 at n2 ⊢;have g2t:=n2.same _ _ (sG _ _ Ę);rw[show T.take as.length=T by grind]at p2;have tu:pZ G (cI G2 t (.dT O)):=λc zs e=>Nd.Gr g2t _ _ (n2.same _ _ e);have sF:aJ H (cI G2 t (.dT O)):=λc u e=>by
   by_cases z:c=t
   ·rw[z]at e ⊢;rw[cP,<-e,ht]
   ·rw[aO z];refine(sG.trans n2.same) c u ?_;rw[Xj c z];exact n1.same _ _ e
  have ť:pl≠t:=λz=>by have:=n2.here;grind
  refine⟨t,o,O,O,ht,g2t,?_⟩;refine⟨pl,ys,kw,Z,by rw[aO ť];exact n2.here,Paired.bV p1 λ_ _ ⟨pp,kp,e,h1,h2⟩=>⟨pp,kp,e,tu _ _ h1,tu _ _ h2⟩,?_,λpd H5 n5=>?_⟩
  ·have go:∀{kw:List (List Key×V)}{T:cQ},wK G kw T->kw.map (·.1)=T.map λx=>lZ x.1:=λ{kw T} h=>by
    induction h with
    |nil=>rfl
    |cons a _ ih=>grind
   rw[go p2];have e2:(T.map λx=>lZ x.1)=(T.map (·.1)).map lZ:=by rw[qt];rfl
   rw[e2];exact DR.mpr (nd.imp λ{a b} ne e=>ne (uG e))
  ·exact q pd kw H5 (sF.trans n5.same) n5.here (Paired.bV p2 λ_ _ z=>⟨z.1,z.2.keep (tu.trans (.of n5.same))⟩)
inductive ī(Qn:Hl P w K mg base κ)(vs:List V)(H:Hp)(Q:VK)(u_3:XK):Prop
 |mk (d a:Addr) (xs:List V) (ss:List bT) (_:vs=[.ref a,.ref d]) (_:Qn.At H d) (_:Qn.n<=10) (_:bM K H a xs) (_:Paired (uR K H) xs ss) (_:ss.length<=800) (_:Bx Qn.n Qn.ts ss (cB Qn.n Qn.ts ss)=.ok) (_:(∀b∈(cB Qn.n Qn.ts ss).aR,b.length<=4)) (_:(∀k,k<ss.length->Ar Qn (cB Qn.n Qn.ts ss).aR (K8 Qn.pq ss (cB Qn.n Qn.ts ss).aR (cB Qn.n Qn.ts ss).dH k) (ss.getD k .leaf) ((cB Qn.n Qn.ts ss).aR.getD k []) ((cB Qn.n Qn.ts ss).dH.getD k []))) (_:(∀T∈K8 Qn.pq ss (cB Qn.n Qn.ts ss).aR (cB Qn.n Qn.ts ss).dH ss.length,T.length<=900/\(T.map (·.1)).Nodup)) (_:∀pl ys H',aJ H H'->H' pl=some (.lst ys)->Paired (VH H') ys (K8 Qn.pq ss (cB Qn.n Qn.ts ss).aR (cB Qn.n Qn.ts ss).dH ss.length)->Q (.ref pl) H')
def Fj(B:Bl mg)(Bz:mg "zip" = none)(Ct:Ĩ mg)(U:Used w K mg)(Qn:Hl P w K mg base κ)(j5:Fd K mg)(jr:Dn K mg "is_below" fW tW)(oG:Dn K mg "joint" oW j4)(mY:Dn K mg "less" rZ j4)(Hu:Dn K mg "bag_behind" fX CG)(vC:Dn K mg "run" Gh m9)(uw:Dn K mg "fault_behind" fB FZ)(w6:Dn K mg "run_whole" lV m9)(xg:Ī K mg)(zJ:Dn K mg "run_narrow" mL m9)(vA:Dn K mg "states_behind" gh FW)(qz:Dn K mg "note" uQ Cz)(wX:Dn K mg "fill_along" jW Jw)(wJ:Dn K mg "fill_joined" iB Jx)(yh:Dn K mg "going_up" nP Jy)(yC:a0H K mg)(zK:Dn K mg "tables" yx Mp):bf P w K mg base gb 12 zK.f zK.fd Mp (ī Qn):=by
 have a6G:bf P w K mg base gb 11 _ _ _ _:=(Ld B Ct U j5 jr oG mY Hu vC uw w6 xg zJ).mono ();have a6H:bf P w K mg base gb 11 _ _ _ _:=Ru B Bz Qn oG vA qz wX wJ yh;have a6I:bf P w K mg base gb 11 _ _ _ _:=(Bd B yC).mono ();refine zK.F.ok Fi λeV A outer s H vs Q E hr h=>?_;obtain⟨d,a,xs,ss,rfl,hD,dJ,hA,pA,l8,qI,b4,ok,sm,q⟩:=h;refine⟨_,(aD (Ah (bh a6G hr Z zJ.m zJ.F.kp zJ.b .nil b8 (J (zq (K:=K) Z (pv 1) Z) (J (pv 0) aj))) (jU (K:=K) (n:=2) Z Z (bZ (aM 2 Fi.nd) (bZ (aM 3 Fi.nd) jw))))
   (aB (bF (jF ["table"] [none]  (by kernel_rfl) Z (fU (K:=K) Z (bh a6H hr Z yh.m yh.F.kp yh.b .nil b8 (J (pv 0) (J (pv 1) (J (pv 2) (J (pv 3) aj)))))) (λ_ _ _ _ _=>(aM 0 (show(["table"]:List Str).Nodup by grind) Z (Or.inl Z))) (λ_ _ _ _ _=>fQ) λ_ _ _ _ _=>(bh a6I hr Z yC.m yC.F.kp yC.b .nil b8 (J (pv 0) aj)))))),?_⟩
 obtain⟨dx,fs,hd,_,_,_,g,hgl,hg⟩:=Qn.ins hD;have RI:=zx dJ qI;refine⟨_,Z,d,_,dx,fs,_,Z,hd,Qn.cl,Qn.fK,hgl,_,Z,⟨g,Qn.n,Qn.ts,a,xs,ss,Z,hg,dJ,hA,pA,l8,qI,b4,λr pt pf vt fs' H1 s1 hr1 hpt hpf pT pF=>⟨r,_,Z,cL.of hr1,Z,_,_,Z,_,_,Z,Z,⟨_,Z,_,Z,_,Z,_,Z,?_⟩⟩⟩⟩;refine⟨d,a,pt,pf,xs,vt,fs',ss,(cB Qn.n Qn.ts ss).aR,(cB Qn.n Qn.ts ss).dH,Z,(Nd.of s1).at Qn hD,s1.seq hA,Paired.bV pA λ_ _ h=>h.same s1,bM.of hpt,Paired.bV pT λ_ _ ⟨p,e,h,_⟩=>⟨p,e,h⟩,bM.of hpf,Paired.bV pF λ_ _ ⟨h,_⟩=>h,(),RI.tl,RI.fl,λb hb=>(RI.sm b hb).1,ok,λpl ps H2 s2 fpl hpl pP nd fr=>⟨pl,Z,⟨_,bM.of hpl⟩,?_⟩⟩;have lg:=nH Qn.pq ss (cB Qn.n Qn.ts ss).aR (cB Qn.n Qn.ts ss).dH ss.length;have lp:=aV pP;refine wB (K:=K) (a:=pl) (xs:=ps.map V.ref) (λi ys G=>aJ H2 G/\Paired (VH G) ys ((K8 Qn.pq ss (cB Qn.n Qn.ts ss).aR (cB Qn.n Qn.ts ss).dH ss.length).take i)) ⟨aJ.refl _,.nil⟩ (λi ys G hi ⟨sG,p⟩=>⟨bM.of (sG _ _ hpl),?_⟩) (λi x ys G hx ⟨sG,p⟩=>?_) (λys G ⟨sG,p⟩ pr hpr=>?_)
 ·rw[aV p,fP];exact eE (cG ())
 ·rw[d7]at hx;obtain⟨p0,hp0,rfl⟩:=mU.mp hx;obtain⟨T,hT,kv,h1,h2⟩:=bx pP hp0;obtain⟨sl,sn⟩:=sm T (iU hT);refine⟨_,Z,p0,kv,T,Z,sG _ _ h1,h2.keep (.of sG),sl,sn,λp' kv' G1 s' h1' h2'=>⟨sG.trans s',?_⟩⟩;rw[jQ,hT];exact dG (Paired.bV p λ_ _ h=>h.keep s') ⟨p',kv',Z,h1',h2'⟩
 ·have n3:=gW.nY (o:=.lst ys) hpr;rw[show(ps.map V.ref).length=ss.length by grind,show(K8 Qn.pq ss (cB Qn.n Qn.ts ss).aR (cB Qn.n Qn.ts ss).dH ss.length).take ss.length=K8 Qn.pq ss (cB Qn.n Qn.ts ss).aR (cB Qn.n Qn.ts ss).dH ss.length from Ib (Og lg)]at p;exact q pr ys _ (s1.trans (s2.trans (sG.trans n3.same))) n3.here (Paired.bV p λ_ _ h=>h.keep n3.same)
end
end K
namespace L2
open PyProof.Rows Bg
section
variable{X:Cx}{K:aH}
inductive a3b(K:aH)(x:V)(y:V)(H:Hp)(Q:VK):Prop
 |mk (a b xs ys:_) (_:x=.ref a) (_:y=.ref b) (_:cL K H a xs) (_:cL K H b ys) (_:xs≠[]) (_:ys≠[]) (_:xs.length+ys.length<=1000) (_:∀p H',gW H p (.tup (xs++ys)) H'->Q (.ref p) H')
def Ĭ(e:X.K=K):sX X (binaryOp .Add) (a3b K):=by
 subst e;exact Wq.weak λx y H Q ⟨a,b,xs,ys,e1,e2,h1,h2,n1,n2,z,q⟩=>⟨a,b,xs,ys,e1,e2,h1,h2,n1,eE (cG z),λe=>absurd e n2,λ_ p hp=>q p _ (gW.nY hp)⟩
end
end L2
namespace HT
open PyProof.Rows Bg
section
variable{prog:Program}{w:World}{A:Around}{E:Value->Shared->Prop}{s:Shared}
def a0I{t b:Addr}{vs ws:List Value}{Q:Value->Shared->Prop}(ht:IsTup s.heap t vs.toArray)(hb:IsTup s.heap b ws.toArray)(hv:vs=[])(h1:Q (.ref b) s):wpAny (model prog w) A (binaryOp .Add (.ref t) (.ref b)) Q E s:=by
 obtain⟨⟨cls,dd,data,sl⟩,ho,hc,n,hd⟩:=id ht;obtain⟨⟨cls2,dd2,data2,sl2⟩,ho2,hc2,n2,hd2⟩:=id hb;simp only at hc hd hc2 hd2;subst hc hd hc2 hd2;exact Oh ⟨_,ho,Z⟩ ⟨_,ho2,Z⟩ NQ Od Nr Np (Nk _ _)
   (tuple_addW0 t b vs.toArray ws.toArray n n2 dd dd2 sl sl2 (by simp[hv])) ⟨ho,ho2,h1⟩
def zL{t sl:Addr}{items:Array Value}{vl vu:Value}{lo hi:Option Int}{Q:Value->Shared->Prop}(ht:IsTup s.heap t items)(hs:s.heap.IsSliceOf sl vl vu .none)(pl:IsPart vl lo)(pu:IsPart vu hi)
  (hw:lU items.size 0 lo=0/\lU items.size items.size hi=items.size) (h:Q (.ref t) s):wpAny (model prog w) A (getItem (.ref t) (.ref sl)) Q E s:=by
 obtain⟨os,hos,hcs,hds⟩:=id hs;have hTs:s.TypeIs (.ref sl) "slice" :=⟨os,hos,hcs⟩;unfold getItem;try with_reducible refine fL ?_
 first|refine M (ao ?_)|skip
 refine M (wpAny_sequenceKey ht.typeIs () ?_);refine M (oJ (name:=Str.ofString "__getitem__") ht.typeIs Nf
  (gC Nf ht.typeIs entry_tuple_getitem ?_ (args_tuple_getitem _ _)))
 show wpAny _ _ (Builtin.Tuple.tupleItemsOf (.ref t) >>= _) _ _ s;refine M (tupleItemsOf_ ht (M (vX hTs ?_)));rw[aG ()];refine M (uZ hs pl pu ?_);show wpAny _ _ (if(((lU items.size 0 lo:Nat):Int)==0&&(1:Int)==1&&(lU items.size items.size hi-lU items.size 0 lo)==items.size)=true then _ else _) _ _ s;rw[aG (by rw[hw.1,hw.2];simp)];refine M (M (vX ht.typeIs (ao ?_)));rw[aG ()];exact M (kY (M (ao (ao ⟨_,Z,ao h⟩))))
end
end HT
namespace L2
open PyProof.Rows Bg
section
variable{X:Cx}
inductive a6J(x:V)(lo:Option Int)(hi:Option Int)(H:Hp)(Q:VK):Prop
 |mk (a xs:_) (_:x=.ref a) (_:H a=some (.tup xs)) (_:∀p H',aJ H H'->H' p=some (.tup (uO xs lo hi))->Q (.ref p) H')
def Hv:SlR X a6J:=by
 intro Y s σ H x v vl vu lo hi sl Q I rx hs pl pu h;obtain⟨a,xs,rfl,hx,q⟩:=h;by_cases hw:HT.lU xs.length 0 lo=0/\HT.lU xs.length xs.length hi=xs.length
 ·cases rx;obtain⟨cA,r,ht,hz⟩:=I.tuple (cL.of hx);have hlen:cA.toArray.size=xs.length:=by rw[iH];exact r.length.symm
  refine⟨"tuple",_,PyProof.Rows.slot_tuple_getitem.lookup,ht.typeIs,?_⟩;refine HT.zL ht hs pl pu (by rw[hlen];exact hw) ⟨.ref a,H,I,Z,q a H (aJ.refl _) ?_⟩;have e:uO xs lo hi=xs:=by
   unfold uO;grind
  grind
 ·exact Ö Y s σ H _ v vl vu lo hi sl Q I rx hs pl pu ⟨a,xs,Z,cL.of hx,hw,λp hp=>q p _ (Lw.qX hp _) cP⟩
inductive a5g(x:V)(y:V)(H:Hp)(Q:VK):Prop
 |mk (a b xs ys:_) (_:x=.ref a) (_:y=.ref b) (_:H a=some (.tup xs)) (_:H b=some (.tup ys)) (_:xs.length+ys.length<=1000) (_:∀p H',aJ H H'->H' p=some (.tup (xs++ys))->Q (.ref p) H')
def PK:sX X (binaryOp .Add) a5g:=by
 intro Y s σ H x y v u Q I rx ry h;obtain⟨a,b,xs,ys,rfl,rfl,ha,hb,hz,q⟩:=h;by_cases hx:xs=[]
 ·cases rx;cases ry;obtain⟨cA,r1,p1,_⟩:=I.tuple (cL.of ha);obtain⟨its2,r2,p2,_⟩:=I.tuple (cL.of hb);exact HT.a0I p1 p2 (r1.BX.mpr hx) ⟨.ref b,H,I,Z,q b H (aJ.refl _) (by rw[hx];exact hb)⟩
 ·exact Wq Y s σ H _ _ v u Q I rx ry ⟨a,b,xs,ys,Z,Z,cL.of ha,cL.of hb,hx,eE (cG hz),λe=>q a H (aJ.refl _) (by rw[e,lR];exact ha),λ_ p hp=>q p _ (Lw.qX hp _) cP⟩
end
end L2
namespace L2
open PyProof.Rows
section
variable{K:aH}{a:Addr}{xs:List V}{ix:List (Option Nat)}{g:TG}{tt:TT}{te:TE}{σ:St}{H1:Hp}{Q:VK}
def Hw(Pv:Nat->List V->Hp->Prop)(h0:Pv 0 [] H1)(hl:∀i ys H,i<=xs.length->Pv i ys H->cL K H a xs/\ys.length<=sizeLine)
  (hs:∀i x ys H,xs[i]?=some x->Pv i ys H->g x (qu ix σ) H λσ2 H2=>tt σ2 H2 λb H3=>if b=true then te σ2 H3 λv H4=>Pv (i+1) (ys++[v]) H4 else Pv (i+1) ys H3)
  (hd:∀ys H,Pv xs.length ys H->∀p,H p=none->Q (.ref p) (cI H p (.lst ys))):mW ix g tt te σ H1 Q (Itt K a):=by
 refine⟨λi m ys H=>m=xs.length-i/\i<=xs.length/\Pv i ys H,⟨xs.length,by simp,dh _,h0⟩,?_⟩;rintro i m ys H ⟨rfl,hi,p⟩;obtain⟨q,z⟩:=hl i ys H hi p;by_cases hlt:i<xs.length
 ·refine .inr ⟨⟨xs,xs[i],q,by simp[hlt]⟩,z,λys' H'=>Pv (i+1) ys' H',λys' H' p'=>⟨xs.length-(i+1),(),Z,hlt,p'⟩,λx H' y=>?_⟩;obtain⟨e',y⟩:=y;subst e';exact hs i x ys _ (y xs q) p
 ·have ei:i=xs.length:=()
  subst ei;exact .inl ⟨⟨xs,q,aL _⟩,z,λpp hp=>hd ys H p pp hp⟩
end
end L2
namespace K
open L2 Lw Bg
variable{K:aH}{P:Program}{w:World}{mg:Str->Option Value}{base:Heap}{ex:List (Str×V)}{n c:Nat}{ts:List bY}
abbrev fC:Stmt:=top 32
def J0:bC wO wO (aF fC):={}
abbrev cU:Stmt:=top 33
def Dd:bC wQ wQ (aF cU):={}
def sV(s:dY)(p:Nat)(x:Int):dY:=s.take p++([x]++s.drop p)
def Le(s:dY)(p:Nat):dY:=s.take p++s.drop (p+1)
def Xv(s:dY)(p:Nat)(h:p<=s.length):uO (s.map V.int) none (some (p:Int))=(s.take p).map V.int:=by
 unfold uO;rw[HT.Ow,HT.QK,Ud,Af,aK,Nat.min_eq_left h,Ui]
def Xw(s:dY)(p:Nat)(h:p<=s.length):uO (s.map V.int) (some (p:Int)) none=(s.drop p).map V.int:=by
 unfold uO;rw[HT.Ow,HT.QK,aK,Nat.min_eq_left h,Uh];exact Ib (by rw[lQ,aK];exact aL _)
inductive a0J(vs:List V)(H:Hp)(Q:VK)(u_3:XK):Prop
 |mk (a:Addr) (s:dY) (p:Nat) (x:Int) (_:vs=[.ref a,.int p,.int x]) (_:oV H a s) (_:p<=s.length) (_:s.length<=100) (_:∀b H',aJ H H'->oV H' b (sV s p x)->Q (.ref b) H')
inductive VJ(vs:List V)(H:Hp)(Q:VK)(u_3:XK):Prop
 |mk (a:Addr) (s:dY) (p:Nat) (_:vs=[.ref a,.int p]) (_:oV H a s) (_:p<s.length) (_:s.length<=100) (_:∀b H',aJ H H'->oV H' b (Le s p)->Q (.ref b) H')
def tZ(j6:Dn K mg "with_number" fC wO):bf P w K mg base gb 1 j6.f j6.fd wO a0J:=by
 refine j6.F.ok J0 λeV A outer s H vs Q E hr h=>?_;obtain⟨a,st,p,x,rfl,ha,hp,l1,q⟩:=h;refine⟨_,(aB (bF (bH PK (bH PK (jE Hv (pv 0) mq (mD (pv 1))) (bw (J (pv 2) aj))) (jE Hv (pv 0) (mD (pv 1)) mq)))),⟨_,Z,_,Z,_,Z,a,_,Z,ha,λb1 H1 s1 h1=>?_⟩⟩;rw[Xv st p hp]at h1;refine⟨_,Z,(),λb2 H2 n2=>⟨b1,b2,_,_,Z,Z,n2.same _ _ h1,n2.here,?_,λb3 H3 s3 h3=>?_⟩⟩
 ·grind
 have uU:=n2.same.trans s3;refine⟨_,Z,_,Z,_,Z,a,_,Z,(s1.trans uU) _ _ ha,λb4 H4 s4 h4=>?_⟩;rw[Xw st p hp]at h4;refine⟨b3,b4,_,_,Z,Z,s4 _ _ h3,h4,?_,λb5 H5 s5 h5=>q b5 H5 (s1.trans (uU.trans (s4.trans s5))) ?_⟩
 ·grind
 ·show H5 b5=some (.tup ((sV st p x).map V.int));rw[h5];unfold sV;grind
def pI(j7:Dn K mg "without_number" cU wQ):bf P w K mg base gb 1 j7.f j7.fd wQ VJ:=by
 refine j7.F.ok Dd λeV A outer s H vs Q E hr h=>?_;obtain⟨a,st,p,rfl,ha,hp,l1,q⟩:=h;refine⟨_,(aB (bF (bH PK (jE Hv (pv 0) mq (mD (pv 1))) (jE Hv (pv 0) (mD (bH fD (pv 1) aq)) mq)))),⟨_,Z,_,Z,_,Z,a,_,Z,ha,λb1 H1 s1 h1=>?_⟩⟩;rw[Xv st p ()]at h1;refine⟨_,Z,_,Z,_,_,Z,Z,_,Z,a,_,Z,s1 _ _ ha,λb4 H4 s4 h4=>?_⟩;try dsimp only at h4
 rw[show((p:Int)+1)=((p+1:Nat):Int) by omega,Xw st (p+1) ()]at h4;refine⟨b1,b4,_,_,Z,Z,s4 _ _ h1,h4,?_,λb5 H5 s5 h5=>q b5 H5 (s1.trans (s4.trans s5)) ?_⟩
 ·grind
 ·show H5 b5=some (.tup ((Le st p).map V.int));rw[h5];unfold Le;grind
abbrev jY:Stmt:=top 31
def Lf:bC Gb Gb (aF jY):={}
def PL:Int:=1000000000000000000000000000000
def WtV(K:aH)(H:Hp)(v:V)(o:Option (List Int)):Prop:=match o with
 |none=>v=.non
 |some ws=>∃a,v=.ref a/\bM K H a (ws.map V.int)
def Zh(m:Nat):Option (List Int)->Bool
 |none=>true
 |some ws=>decide (ws.length=m)&&ws.all λx=>decide (0<=x)&&decide (x<PL)
def wtL(m:Nat):Option (List Int)->List Int
 |none=>List.replicate m 1
 |some ws=>ws
def btF:V->Option V
 |.int y=>some (.bl (oR PL (some y)))
 |_=>none
theorem a1q:∀ws:List Int,(ws.map V.int).filterMap btF=(ws.map λy=>oR PL (some y)).map V.bl
 | []=>rfl
 |x::r=>by
  rw[cH,Nm (show btF (V.int x)=some (.bl (oR PL (some x)))from Z),a1q r]
  rfl
def a0K(x:Int):oR PL (some x)=(decide (0<=x)&&decide (x<PL)):=by
 unfold oR;dsimp only;exact Bool.decide_and ..
inductive Zi(K:aH)(vs:List V)(H:Hp)(Q:VK)(u_3:XK):Prop
 |mk (m:Nat) (v:V) (o:Option (List Int)) (_:vs=[.int m,v]) (_:WtV K H v o) (_:m<=100) (_:(∀ws,o=some ws->ws.length<=200)) (_:Zh m o=true) (_:∀p H',aJ H H'->H p=none->H' p=some (.lst ((wtL m o).map V.int))->Q (.ref p) H')
def uX(B:Bl mg)(Ct:Ĩ mg)(j5:Fd K mg)(jr:Dn K mg "is_below" fW tW)(sW:Dn K mg "weights_of" jY Gb):bf P w K mg base gb 3 sW.f sW.fd Gb (Zi K):=by
 have ģ:bf P w K mg base gb 2 _ _ _ _:=yj B j5 jr;refine sW.F.ok Lf λeV A outer s H vs Q E hr h=>?_;obtain⟨m,v,o,rfl,hV,a65,hw,ok,q⟩:=h;refine⟨_,(aD (dD (aP Í (pv 1) uM)
   (aB (bF (jF ["k"] [none]  (by kernel_rfl) Z (jB Z B.range (J (pv 0) aj)) (λ_ _ _ _ _=>(aM 0 (show(["k"]:List Str).Nodup by decide))) (λ_ _ _ _ _=>fQ) λ_ _ _ _ _=>aq)))
   bO)
   (aD (dD (PW.pt (Jf (aP Lr (bG (cJ (K:=K) Z) Z B.len () (J (pv 1) aj)) (pv 0)) (Je (tQ (fY (K:=K) Z (bG (Yv (K:=K) Z Z) Z B.all () (J (jF ["weight"] [none]  (by kernel_rfl) Z (fU (K:=K) Z (pv 1)) (λ_ _ _ _ _=>(aM 0 (show(["weight"]:List Str).Nodup by decide))) (λ_ _ _ _ _=>fQ) λ_ _ _ _ _=>(bh ģ hr Z jr.m jr.F.kp jr.b .nil b8 (J (Oq (v:=.int 1000000000000000000000000000000) Z Ct.vD Ct.vG) (J (pv 0) aj)))) aj)) λ_=>rfl)))))
   (aB BP)
   bO)
   (aB (bF (gq (Ak (K:=K) Z) Z B.list () (J (pv 1) aj)))))),?_⟩
 cases o with
 |none =>
  obtain rfl:v=.non:=hV;refine⟨_,Z,Z,_,Z,iD ?_⟩;refine⟨_,Z,_,Z,(),(),?_⟩;rw[jz];refine Ι (λ_=>some (V.int 1)) () (λi H' N hi s1 hN=>hN H' s1) (λH1 p H2 s1 n2=>q p H2 (s1.trans n2.same) (s1.free n2.fresh) ?_);rw[n2.here];show some (HO.lst _)=some (HO.lst ((List.replicate m (1:Int)).map V.int));rw[Ck (f:=λ_=>some (V.int 1)) (g:=λ_=>V.int 1) (λ_ _=>rfl),List.map_const',rW,List.map_replicate]
 |some ws =>
  obtain⟨a,rfl,hA⟩:=hV;have lw:=hw ws rfl;have ok':=ok;unfold Zh at ok';rw[ql,dU,DY]at ok';obtain⟨e1,e2⟩:=ok';refine⟨_,Z,Z,_,Z,cX ⟨_,Z,a,_,Z,.inl hA,_,Z,Z,_,Z,?_⟩⟩;rw[aK,e1,bB rfl];refine cX ⟨_,Z,a,Z,⟨_,hA⟩,O5 btF hA () (λx G5 N hx s5 hN5=>?_) λG5 p6 H6 s5 n6=>?_⟩
  ·obtain⟨y,hy,rfl⟩:=gF.mp hx;exact⟨_,Z,PL,some y,Z,hN5 G5 s5⟩
  rw[a1q]at n6;refine⟨p6,_,_,Z,bM.of n6.here,oO.bls _,?_⟩;have e7:(ws.map λy=>oR PL (some y)).all id=true:=by
   rw[List.all_map,DY];intro x hx;show oR PL (some x)=true;rw[a0K];exact e2 x hx
  rw[e7];refine⟨_,Z,cX ⟨_,Z,a,_,Z,.inl ((s5.trans n6.same).seq hA),λp8 H8 n8=>q p8 H8 (s5.trans (n6.same.trans n8.same)) ((s5.trans n6.same).free n8.fresh) n8.here⟩⟩
def ū(pg:Addr)(l u:V):List (Str×V):=[("graph",.ref pg),("leaf",l),("whole",u)]
inductive a0L(K:aH)(C:Addr)(vs:List V)(H:Hp)(Q:VK)(u_3:XK):Prop
 |mk (d dx g t:Addr) (n:Nat) (xs:List V) (l u:V) (_:vs=[.ref d,.ref g,l,u]) (_:H d=some (.ins C dx [])) (_:cL K H g [.int n,.ref t]) (_:H t=some (.lst xs)) (_:xs.length<=1000) (_:∀pg pt H',Sd d H H'->H pt=none->H' d=some (.ins C dx (ū pg l u))->H' pg=some (.tup [.int n,.ref pt])->H' pt=some (.lst xs)->Q .non H')
def qJ(B:Bl mg)(cF:qH K mg){C:Addr}(cl:Cls K C)(fK:fu K C "graph")(ig:fu K C "leaf")(fV:fu K C "whole"):bf P w K mg base gb 1 cF.bN.f cF.bN.fd W4 (a0L K C):=by
 refine cF.bN.F.ok yu λeV A outer s H vs Q E hr h=>?_;obtain⟨d,dx,g,t,n,xs,l,u,rfl,hd,hg,ht,lx,q⟩:=h;refine⟨_,(aD (Ai (pv 0) (bw (J (aQ (aN (K:=K) Z) (pv 1) aq) (J (gq (Ak (K:=K) Z) Z B.list () (J (aQ (aN (K:=K) Z) (pv 1) aq) aj)) aj))) Z)
   (aD (Ai (pv 0) (pv 2) Z)
   (aB (Ai (pv 0) (pv 3) Z)))),?_⟩
 refine⟨_,Z,g,_,_,V.int n,Z,Z,hg,cD (j:=0) Z,_,Z,g,_,_,V.ref t,Z,Z,hg,cD (j:=1) Z,t,_,Z,.inl (bM.of ht),λpt H1 n1=>⟨(),λpg H2 n2=>?_⟩⟩;have h2:=n2.same _ _ (n1.same _ _ hd);refine⟨_,Z,d,_,_,_,Z,h2,cl,fK,(),?_⟩;generalize hU1:cI H2 d _=U1;have u1:wF H2 d (.ins C dx (wj "graph" (.ref pg) [])) U1:=by rw[<-hU1];exact wF.nY
 refine⟨_,Z,_,Z,d,_,_,_,Z,u1.here,cl,ig,(by show 1<1000;decide),?_⟩;generalize hU2:cI U1 d _=U2;have u2:wF U1 d (.ins C dx (wj "leaf" l (wj "graph" (.ref pg) []))) U2:=by rw[<-hU2];exact wF.nY
 refine⟨_,Z,_,Z,d,_,_,_,Z,u2.here,cl,fV,(by show 2<1000;decide),?_⟩;generalize hU3:cI U2 d _=U3;have u3:wF U2 d (.ins C dx (ū pg l u)) U3:=by rw[<-hU3];exact wF.nY
 have sr:∀c,c≠d->U3 c=H2 c:=λc hc=>by rw[u3.rest _ hc,u2.rest _ hc,u1.rest _ hc]
 have dt:pt≠d:=λe=>by have:=n1.fresh;grind
 have dg:pg≠d:=λe=>by have:=n2.fresh;rw[e,n1.same _ _ hd]at this;cases this
 exact q pg pt U3 (λc o hc hh=>by rw[sr c hc];exact n2.same _ _ (n1.same _ _ hh)) n1.fresh u3.here (by rw[sr _ dg];exact n2.here) (by rw[sr _ dt];exact n2.same _ _ n1.here)
inductive zO(K:aH)(C:Addr)(ex:List (Str×V))(n:Nat)(ts:List bY)(ws:List Int)(H:Hp)(d:Addr):Prop
 |mk (dx pg pt xs l u pw:_) (_:H d=some (.ins C dx (ū pg (.ref l) (.ref u)++(ex++[(("weights" : Str),V.ref pw)])))) (_:H pg=some (.tup [.int n,.ref pt])) (_:H pt=some (.lst xs)) (_:Paired (mX H) xs ts) (_:ts.length<=1000) (_:H l=some (.tup [])) (_:H u=some (.tup [])) (_:H pw=some (.lst (ws.map V.int)))
def VL{H H':Hp}{v:V}{t:Int×Int}(k:pZ H H')(h:mX H v t):mX H' v t:=by
 obtain⟨p,e,h⟩:=h;exact⟨p,e,k _ _ h⟩
def zO.keep{C:Addr}{ws:List Int}{H H':Hp}{d:Addr}(a:Nd H H')(h:zO K C ex n ts ws H d):zO K C ex n ts ws H' d:=by
 obtain⟨dx,pg,pt,xs,l,u,pw,h1,h2,h3,h4,h5,h6,h7,h8⟩:=h;exact⟨dx,pg,pt,xs,l,u,pw,a _ _ (λ_ z=>by cases z) (λ_ z=>by cases z) h1,a.tups _ _ h2,a.lst h3,Paired.bV h4 λ_ _ z=>VL a.tups z,h5,a.tups _ _ h6,a.tups _ _ h7,a.lst h8⟩
def zO.ins{K:aH}{C:Addr}{ex:List (Str×V)}{n:Nat}{ts:List bY}{ws:List Int}{H:Hp}{d:Addr}(hx:∀m,m∈(Jv:List Str)->ex.lookup m=none)(h:zO K C ex n ts ws H d):∃dx fs,H d=some (.ins C dx fs)/\(∀m,m∈(Jv:List Str)->fs.lookup m=none)/\
  (∃a,fs.lookup ("leaf" : Str)=some (.ref a)/\oV H a [])/\(∃a,fs.lookup ("whole" : Str)=some (.ref a)/\oV H a [])/\∃g,fs.lookup ("graph" : Str)=some g/\uP K H g n ts:=by
 obtain⟨dx,pg,pt,xs,l,u,pw,h1,h2,h3,h4,h5,h6,h7,h8⟩:=h;refine⟨dx,_,h1,λm hm=>?_,⟨l,Z,h6⟩,⟨u,Z,h7⟩,.ref pg,Z,pg,pt,Z,cL.of h2,xs,bM.of h3,Paired.bV h4 λ_ _ ⟨p,e,h⟩=>⟨p,e,cL.of h⟩,h5⟩;have e:=hx m hm;have go:∀m∈(Jv:List Str),(m==("graph" : Str))=false/\(m==("leaf" : Str))=false/\(m==("whole" : Str))=false/\(m==("weights" : Str))=false:=()
 obtain⟨g1,g2,g3,g4⟩:=go m hm;have lk:∀(l1 l2:List (Str×V)),l1.lookup m=none->(l1++l2).lookup m=l2.lookup m:=λl1 l2 h=>by
  grind
 have fq:(ū pg (.ref l) (.ref u)).lookup m=none:=by
  unfold ū;grind
 grind
def zO.wts{C:Addr}{ws:List Int}{H:Hp}{d:Addr}(hx:ex.lookup ("weights" : Str)=none)(h:zO K C ex n ts ws H d):∃dx fs pw,H d=some (.ins C dx fs)/\fs.lookup ("weights" : Str)=some (.ref pw)/\H pw=some (.lst (ws.map V.int)):=by
 obtain⟨dx,pg,pt,xs,l,u,pw,h1,h2,h3,h4,h5,h6,h7,h8⟩:=h;refine⟨dx,_,pw,h1,?_,h8⟩;show List.lookup _ (ex++_)=_;clear h1
 induction ex with
 |nil=>rfl
 |cons a l1 ih =>
  rw[Io]at hx;rw[List.cons_append,Io];cases c:("weights" : Str)==a.1 with
  |true=>rw[c]at hx;cases hx
  |false=>rw[c]at hx;exact ih hx
def gj(s:dY)(i:Nat):Int:=s.getD i 0
def ZQ{s:dY}{i:Nat}(h:i<s.length):Sg (s.map V.int) (i:Int)=some (.int (gj s i)):=by
 refine cD ?_;rw[d7,bR h];unfold gj;rw[gw,bR h];rfl
def rQ(c:Int)(m:Nat)(s:dY):Prop:=s.length=m/\∀x∈s,0<=x/\x<c
noncomputable def Ŭ(c:Nat)(ws:List Int):PQ Key where
 leaf:=[]
 whole:=[]
 bt:=λa b=>decide (a<b)
 sh:=lZ
 jn:=λs _=>[s]
 inn:=λs p _=>(List.range c).map λk:Nat=>(sV s p (k:Int),0)
 tie:=λs a b _=>if gj s a≠gj s b then [(s,0)]else []
 out:=λs p v=>[(Le s p,ws.getD v 0*gj s p)]
 Ok:=rQ (c:Int)
noncomputable def ĭ(ws:List Int):PQ Key where
 leaf:=[]
 whole:=[]
 bt:=λa b=>decide (b<a)
 sh:=lZ
 jn:=λs _=>[s]
 inn:=λs p _=>[(sV s p 0,0),(sV s p 1,0)]
 tie:=λs a b _=>if gj s a+gj s b<2 then [(s,0)]else []
 out:=λs p v=>[(Le s p,ws.getD v 0*gj s p)]
 Ok:=rQ 2
def uI(s:dY)(a b:Nat):dY:=(List.range s.length).map λk=>if k=a\/k=b then max (gj s k) 1 else gj s k
noncomputable def ZR(ws:List Int):PQ Bool where
 leaf:=[]
 whole:=[]
 bt:=λa b=>decide (a<b)
 sh:=λs=>s.map λx=>decide (x=2)
 jn:=λs t=>[List.zipWith max s t]
 inn:=λs p _=>[(sV s p 0,0),(sV s p 2,0)]
 tie:=λs a b _=>if(gj s a=0/\gj s b=2)\/(gj s a=2/\gj s b=0)then [(uI s a b,0)]else [(s,0)]
 out:=λs p v=>if gj s p=0 then []else [(Le s p,if gj s p=2 then ws.getD v 0 else 0)]
 Ok:=rQ 3
theorem vI{P:Program}{w:World}:∀s:dY,Paired (λv (x:Key)=>∀u,cV v u->(cO P w).is x u=true) (s.map V.int) (lZ s)
 | []=>.nil
 |i::s=>.cons (λu ⟨t,e⟩=>by rw[e,Uj];exact N8 i) (vI s)
section
variable{C:Addr}{ws:List Int}
def qj{κ:Type} [DecidableEq κ] (d_:Dm K C "is_better" "Question.is_better" fG lC) (pq:PQ κ) (hb:pq.bt=λa b=>decide (a<b)) (At:Hp->Addr->Prop):bf P w K mg base gb 1 d_.f d_.fd lC (Jz pq At):=by
 refine d_.F.ok w5 λeV A outer s H vs Q E hr h=>?_;obtain⟨d,a,b,rfl,hD,q⟩:=h;refine⟨_,(aB (bF (qM BR (pv 1) (pv 2)))),?_⟩;rw[hb]at q;exact⟨_,Z,_,Z,_,_,Z,Z,q⟩
def Bf(d_:Dm K C "is_better" "Apart.is_better" lD lC)(At:Hp->Addr->Prop):bf P w K mg base gb 1 d_.f d_.fd lC (Jz (ĭ ws) At):=by
 refine d_.F.ok Az λeV A outer s H vs Q E hr h=>?_;obtain⟨d,a,b,rfl,hD,q⟩:=h;exact⟨_,(aB (bF (qM BV (pv 1) (pv 2)))),⟨_,Z,_,Z,_,_,Z,Z,q⟩⟩
def uc(d_:Dm K C "shared" "Question.shared" gK wN)(pq:PQ Key)(hs:pq.sh=lZ)(At:Hp->Addr->Prop):bf P w K mg base gb 1 d_.f d_.fd wN (JB (cO P w) pq At):=by
 refine d_.F.ok Ax λeV A outer s H vs Q E hr h=>?_;obtain⟨d,a,m,st,rfl,hD,ha,ok,m5,q⟩:=h;refine⟨_,(aB (bF (pv 1))),?_⟩;exact⟨_,Z,q a H (aJ.refl _) ⟨_,ha,by rw[hs];exact vI st⟩⟩
def ud(d_:Dm K C "joined" "Question.joined" gM lC)(pq:PQ Key)(hj:pq.jn=λs _=>[s])(At:Hp->Addr->Prop):bf P w K mg base gb 1 d_.f d_.fd lC (JC pq At):=by
 refine d_.F.ok Ay λeV A outer s H vs Q E hr h=>?_;obtain⟨d,a,b,m,st,t,rfl,hD,ha,hb,ok,ok',m5,sh,q⟩:=h;refine⟨_,(aB (bF (cu (J (pv 1) aj)))),?_⟩;refine⟨_,Z,(),λp H1 n1=>q p _ H1 n1.same n1.here ?_⟩;rw[hj];exact .cons ⟨a,Z,ha.keep (.of n1.same)⟩ .nil
def Df(B:Bl mg)(c4:c<=4)(cl:Cls K C)(nm:fu K C "many")(d_:Dm K C "put_in" "Colours.put_in" mK iz)(j6:Dn K mg "with_number" fC wO):bf P w K mg base gb 2 d_.f d_.fd iz (Xc (Ŭ c ws) (zO K C [("many",.int c)] n ts ws)):=by
 have Į:bf P w K mg base gb 1 _ _ _ _:=tZ j6;refine d_.F.ok CQ λeV A outer s H vs Q E hr h=>?_;obtain⟨d,a,m,spot,v,st,rfl,hD,ha,ok,m4,sp,q⟩:=h;refine⟨_,(aB (bF (jF ["colour","state","spot"] [none,some 1,some 2]  (by kernel_rfl) Z (jB Z B.range (J (zq (K:=K) Z (pv 0) Z) aj)) (λ_ _ _ _ _=>(aM 0 (show(["colour","state","spot"]:List Str).Nodup by decide))) (λ_ _ _ _ _=>fQ) λ_ _ _ _ _=>(bw (J (bh Į hr Z j6.m j6.F.kp j6.b .nil b8 (J (pv 1) (J (pv 2) (J (pv 0) aj)))) (J aq aj)))))),?_⟩;have l1:st.length=m:=ok.1;obtain⟨dx,pg,pt,xs,l,u,pw,h1,_⟩:=id hD;refine⟨_,Z,d,C,dx,_,.int c,Z,h1,cl,nm,Z,_,Z,(),(),?_⟩;refine u6 (n:=c) (λi ys G=>aJ H G/\Paired (ţ G) ys ((List.range i).map λk:Nat=>(sV st spot (k:Int),(0:Int)))) ⟨aJ.refl _,.nil⟩ (λi ys G hi ⟨_,p⟩=>?_) (λi ys G hi ⟨sG,p⟩=>?_) (λys G ⟨sG,p⟩ pr hpr=>?_)
 ·rw[aV p,aK,rW];exact eE (cG ())
 ·rw[Int.zero_add];refine⟨_,Z,_,Z,_,Z,a,st,spot,(i:Int),Z,ha.keep (.of sG),(),(),λb G1 s1 hb=>⟨(),λp2 G2 n2=>?_⟩⟩;have s12:=s1.trans n2.same;refine⟨sG.trans s12,?_⟩;rw[vV,eO];exact dG (Paired.bV p λ_ _ h=>h.keep (.of s12)) ⟨p2,b,Z,n2.here,hb.keep (.of n2.same)⟩
 ·have n3:=gW.nY (o:=.lst ys) hpr;exact q pr ys _ (sG.trans n3.same) n3.here (Paired.bV p λ_ _ h=>h.keep (.of n3.same))
def GF(d_:Dm K C "tied" "Colours.tied" oX sE)(At:Hp->Addr->Prop)(Ti:Int×Int->Prop):bf P w K mg base gb 2 d_.f d_.fd sE (Xe (Ŭ c ws) At Ti):=by
 refine d_.F.ok Gx λeV A outer s H vs Q E hr h=>?_;obtain⟨d,a,p,m,cW,bA,t,st,rfl,hD,ha,ok,m5,o1,o2,ne,ti,hp,q⟩:=h;have l1:st.length=m:=ok.1;refine⟨_,(aB (bF (oN (aP Lr (aQ (aN (K:=K) Z) (pv 1) (pv 2)) (aQ (aN (K:=K) Z) (pv 1) (pv 3))) (cu (J (bw (J (pv 1) (J aq aj))) aj)) (cu aj)))),⟨_,Z,_,Z,a,_,_,_,Z,Z,cL.of ha,ZQ (),_,Z,_,Z,a,_,_,_,Z,Z,cL.of ha,ZQ (),Z,_,Z,?_⟩⟩;by_cases c1:gj st cW=gj st bA
 ·rw[bB (show V.int (gj st cW)=V.int (gj st bA) by rw[c1])];refine cX ⟨(),λp1 H1 n1=>q p1 [] H1 n1.same n1.here ?_⟩;show Paired _ _ (if gj st cW≠gj st bA then [(st,(0:Int))]else []);rw[aA (λz=>z c1)];exact .nil
 ·rw[cM (show ¬V.int (gj st cW)=V.int (gj st bA)from λz=>c1 (V.int.inj z))];refine iD ⟨_,Z,(),λp1 H1 n1=>⟨(),λp2 H2 n2=>q p2 _ H2 (n1.same.trans n2.same) n2.here ?_⟩⟩;show Paired _ _ (if gj st cW≠gj st bA then [(st,(0:Int))]else []);rw[aG c1];exact .cons ⟨p1,a,Z,n2.same _ _ n1.here,ha.keep (.of (n1.same.trans n2.same))⟩ .nil
def yD(hC:c<=4)(cl:Cls K C)(nw:fu K C "weights")(lw:ws.length=n)(d_:Dm K C "taken_out" "Colours.taken_out" jx iz)(j7:Dn K mg "without_number" cU wQ):bf P w K mg base gb 2 d_.f d_.fd iz (Xd (Ŭ c ws) (zO K C [("many",.int c)] n ts ws) (λv=>v<n)):=by
 have į:bf P w K mg base gb 1 _ _ _ _:=pI j7;refine d_.F.ok yw λeV A outer s H vs Q E hr h=>?_;obtain⟨d,a,m,spot,v,st,rfl,hD,ha,ok,m5,sp,vn,q⟩:=h;have l1:st.length=m:=ok.1;refine⟨_,(aB (bF (cu (J (bw (J (bh į hr Z j7.m j7.F.kp j7.b .nil b8 (J (pv 1) (J (pv 2) aj))) (J (bH wg (aQ (bK (K:=K) Z) (zq (K:=K) Z (pv 0) Z) (pv 3)) (aQ (aN (K:=K) Z) (pv 1) (pv 2))) aj))) aj)))),?_⟩;obtain⟨dx,fs,pw,h1,hl,hw⟩:=hD.wts rfl;refine⟨_,Z,_,Z,a,st,spot,Z,ha,(),(),λb H1 s1 hb=>?_⟩;have ew:Sg (ws.map V.int) (v:Int)=some (.int (ws.getD v 0)):=by
  refine cD ?_;grind
 have bd : -(2^64)<gj st spot/\gj st spot<2^64:=by
  have hm:gj st spot∈st:=by
   unfold gj;grind
  have:=ok.2 _ hm;have:=hC;omega
 refine⟨_,Z,d,C,dx,fs,.ref pw,Z,s1 _ _ h1,cl,nw,hl,_,Z,pw,_,_,_,Z,Z,bM.of (s1 _ _ hw),ew,_,Z,_,Z,a,_,_,_,Z,Z,cL.of (s1 _ _ ha),ZQ (),_,_,Z,Z,.inr bd,(),λp2 H2 n2=>⟨(),λp3 H3 n3=>q p3 _ H3 (s1.trans (n2.same.trans n3.same)) n3.here ?_⟩⟩;exact .cons ⟨p2,b,Z,n3.same _ _ n2.here,hb.keep (.of (n2.same.trans n3.same))⟩ .nil
def Lg(d_:Dm K C "tied" "Apart.tied" sS sE)(At:Hp->Addr->Prop)(Ti:Int×Int->Prop):bf P w K mg base gb 2 d_.f d_.fd sE (Xe (ĭ ws) At Ti):=by
 refine d_.F.ok La λeV A outer s H vs Q E hr h=>?_;obtain⟨d,a,p,m,cW,bA,t,st,rfl,hD,ha,ok,m5,o1,o2,ne,ti,hp,q⟩:=h;have l1:st.length=m:=ok.1;refine⟨_,(aB (bF (oN (aP BR (bH fD (aQ (aN (K:=K) Z) (pv 1) (pv 2)) (aQ (aN (K:=K) Z) (pv 1) (pv 3))) aq) (cu (J (bw (J (pv 1) (J aq aj))) aj)) (cu aj)))),⟨_,Z,_,Z,a,_,_,_,Z,Z,cL.of ha,ZQ (),_,Z,_,Z,a,_,_,_,Z,Z,cL.of ha,ZQ (),_,_,Z,Z,_,_,Z,Z,_,Z,?_⟩⟩;by_cases c1:gj st cW+gj st bA<2
 ·rw[bB c1];refine iD ⟨_,Z,(),λp1 H1 n1=>⟨(),λp2 H2 n2=>q p2 _ H2 (n1.same.trans n2.same) n2.here ?_⟩⟩;show Paired _ _ (if gj st cW+gj st bA<2 then [(st,(0:Int))]else []);rw[aG c1];exact .cons ⟨p1,a,Z,n2.same _ _ n1.here,ha.keep (.of (n1.same.trans n2.same))⟩ .nil
 ·rw[cM c1];refine cX ⟨(),λp1 H1 n1=>q p1 [] H1 n1.same n1.here ?_⟩;show Paired _ _ (if gj st cW+gj st bA<2 then [(st,(0:Int))]else []);rw[aA c1];exact .nil
def Bh(cl:Cls K C)(nw:fu K C "weights")(lw:ws.length=n)(d_:Dm K C "taken_out" "Apart.taken_out" lE iz)(j7:Dn K mg "without_number" cU wQ):bf P w K mg base gb 2 d_.f d_.fd iz (Xd (ĭ ws) (zO K C [] n ts ws) (λv=>v<n)):=by
 have į:bf P w K mg base gb 1 _ _ _ _:=pI j7;refine d_.F.ok Ba λeV A outer s H vs Q E hr h=>?_;obtain⟨d,a,m,spot,v,st,rfl,hD,ha,ok,m5,sp,vn,q⟩:=h;have l1:st.length=m:=ok.1;refine⟨_,(aB (bF (cu (J (bw (J (bh į hr Z j7.m j7.F.kp j7.b .nil b8 (J (pv 1) (J (pv 2) aj))) (J (bH wg (aQ (bK (K:=K) Z) (zq (K:=K) Z (pv 0) Z) (pv 3)) (aQ (aN (K:=K) Z) (pv 1) (pv 2))) aj))) aj)))),?_⟩;obtain⟨dx,fs,pw,h1,hl,hw⟩:=hD.wts rfl;refine⟨_,Z,_,Z,a,st,spot,Z,ha,(),(),λb H1 s1 hb=>?_⟩;have ew:Sg (ws.map V.int) (v:Int)=some (.int (ws.getD v 0)):=by
  refine cD ?_;grind
 have bd : -(2^64)<gj st spot/\gj st spot<2^64:=by
  have hm:gj st spot∈st:=by
   unfold gj;grind
  have:=ok.2 _ hm;omega
 exact⟨_,Z,d,C,dx,fs,.ref pw,Z,s1 _ _ h1,cl,nw,hl,_,Z,pw,_,_,_,Z,Z,bM.of (s1 _ _ hw),ew,_,Z,_,Z,a,_,_,_,Z,Z,cL.of (s1 _ _ ha),ZQ (),_,_,Z,Z,.inr bd,(),λp2 H2 n2=>⟨(),λp3 H3 n3=>q p3 _ H3 (s1.trans (n2.same.trans n3.same)) n3.here (.cons ⟨p2,b,Z,n3.same _ _ n2.here,hb.keep (.of (n2.same.trans n3.same))⟩ .nil)⟩⟩
def GJ(B:Bl mg)(d_:Dm K C "put_in" "Apart.put_in" oY iz)(j6:Dn K mg "with_number" fC wO)(At:Hp->Addr->Prop):bf P w K mg base gb 2 d_.f d_.fd iz (Xc (ĭ ws) At):=by
 have Į:bf P w K mg base gb 1 _ _ _ _:=tZ j6;refine d_.F.ok Gy λeV A outer s H vs Q E hr h=>?_;obtain⟨d,a,m,spot,v,st,rfl,hD,ha,ok,m4,sp,q⟩:=h;have l1:st.length=m:=ok.1;refine⟨_,(aB (bF (jF W6 [none,some 1,some 2]  (by kernel_rfl) Z (wD (K:=K) Z (bw (J aq (J aq aj)))) (λ_ _ _ _ _=>(aM 0 (show(W6:List Str).Nodup by decide))) (λ_ _ _ _ _=>fQ) λ_ _ _ _ _=>(bw (J (bh Į hr Z j6.m j6.F.kp j6.b .nil b8 (J (pv 1) (J (pv 2) (J (pv 0) aj)))) (J aq aj)))))),⟨(),λpt H1 n1=>⟨pt,Z,⟨_,cL.of n1.here⟩,Hw (K:=K) (a:=pt) (xs:=[V.int 0,V.int 1]) (λi ys G=>aJ H1 G/\Paired (ţ G) ys ([(sV st spot 0,(0:Int)),(sV st spot 1,0)].take i)) ⟨aJ.refl _,.nil⟩ (λi ys G hi ⟨sG,p⟩=>⟨cL.of (sG _ _ n1.here),?_⟩) (λi x ys G hx ⟨sG,p⟩=>?_) λys G ⟨sG,p⟩ pr hpr=>?_⟩⟩⟩
 ·rw[aV p,fP];exact eE (cG (by show min i 2<=1000;omega))
 ·obtain⟨xx,rfl,e⟩:∃xx:Int,x=V.int xx/\[(sV st spot 0,(0:Int)),(sV st spot 1,0)].take (i+1)=[(sV st spot 0,(0:Int)),(sV st spot 1,0)].take i++[(sV st spot xx,0)]:=by
   rcases i with _|_|i
   ·cases hx;exact⟨0,Z,Z⟩
   ·cases hx;exact⟨1,Z,Z⟩
   ·cases hx
  refine⟨_,Z,_,Z,_,Z,a,st,spot,xx,Z,ha.keep (.of (n1.same.trans sG)),(),(),λb G1 s1 hb=>⟨(),λp2 G2 n2=>?_⟩⟩;have s12:=s1.trans n2.same;refine⟨sG.trans s12,?_⟩;rw[e];exact dG (Paired.bV p λ_ _ h=>h.keep (.of s12)) ⟨p2,b,Z,n2.here,hb.keep (.of n2.same)⟩
 ·have n3:=gW.nY (o:=.lst ys) hpr;exact q pr ys _ (n1.same.trans (sG.trans n3.same)) n3.here (Paired.bV p λ_ _ h=>h.keep (.of n3.same))
def GK(B:Bl mg)(d_:Dm K C "put_in" "Watch.put_in" pC iz)(j6:Dn K mg "with_number" fC wO)(At:Hp->Addr->Prop):bf P w K mg base gb 2 d_.f d_.fd iz (Xc (ZR ws) At):=by
 have Į:bf P w K mg base gb 1 _ _ _ _:=tZ j6;refine d_.F.ok GD λeV A outer s H vs Q E hr h=>?_;obtain⟨d,a,m,spot,v,st,rfl,hD,ha,ok,m4,sp,q⟩:=h;have l1:st.length=m:=ok.1;refine⟨_,(aB (bF (jF W6 [none,some 1,some 2]  (by kernel_rfl) Z (wD (K:=K) Z (bw (J aq (J aq aj)))) (λ_ _ _ _ _=>(aM 0 (show(W6:List Str).Nodup by decide))) (λ_ _ _ _ _=>fQ) λ_ _ _ _ _=>(bw (J (bh Į hr Z j6.m j6.F.kp j6.b .nil b8 (J (pv 1) (J (pv 2) (J (pv 0) aj)))) (J aq aj)))))),⟨(),λpt H1 n1=>⟨pt,Z,⟨_,cL.of n1.here⟩,Hw (K:=K) (a:=pt) (xs:=[V.int 0,V.int 2]) (λi ys G=>aJ H1 G/\Paired (ţ G) ys ([(sV st spot 0,(0:Int)),(sV st spot 2,0)].take i)) ⟨aJ.refl _,.nil⟩ (λi ys G hi ⟨sG,p⟩=>⟨cL.of (sG _ _ n1.here),?_⟩) (λi x ys G hx ⟨sG,p⟩=>?_) λys G ⟨sG,p⟩ pr hpr=>?_⟩⟩⟩
 ·rw[aV p,fP];exact eE (cG (by show min i 2<=1000;omega))
 ·obtain⟨xx,rfl,e⟩:∃xx:Int,x=V.int xx/\[(sV st spot 0,(0:Int)),(sV st spot 2,0)].take (i+1)=[(sV st spot 0,(0:Int)),(sV st spot 2,0)].take i++[(sV st spot xx,0)]:=by
   rcases i with _|_|i
   ·cases hx;exact⟨0,Z,Z⟩
   ·cases hx;exact⟨2,Z,Z⟩
   ·cases hx
  refine⟨_,Z,_,Z,_,Z,a,st,spot,xx,Z,ha.keep (.of (n1.same.trans sG)),(),(),λb G1 s1 hb=>⟨(),λp2 G2 n2=>?_⟩⟩;have s12:=s1.trans n2.same;refine⟨sG.trans s12,?_⟩;rw[e];exact dG (Paired.bV p λ_ _ h=>h.keep (.of s12)) ⟨p2,b,Z,n2.here,hb.keep (.of n2.same)⟩
 ·have n3:=gW.nY (o:=.lst ys) hpr;exact q pr ys _ (n1.same.trans (sG.trans n3.same)) n3.here (Paired.bV p λ_ _ h=>h.keep (.of n3.same))
def Bj(cl:Cls K C)(nw:fu K C "weights")(lw:ws.length=n)(d_:Dm K C "taken_out" "Watch.taken_out" lF iz)(j7:Dn K mg "without_number" cU wQ):bf P w K mg base gb 2 d_.f d_.fd iz (Xd (ZR ws) (zO K C [] n ts ws) (λv=>v<n)):=by
 have į:bf P w K mg base gb 1 _ _ _ _:=pI j7;refine d_.F.ok Bb λeV A outer s H vs Q E hr h=>?_;obtain⟨d,a,m,spot,v,st,rfl,hD,ha,ok,m5,sp,vn,q⟩:=h;have l1:st.length=m:=ok.1;refine⟨_,(aD (dD (aP jM (aQ (aN (K:=K) Z) (pv 1) (pv 2)) aq)
   (aB (bF (cu aj)))
   bO)
   (aB (bF (cu (J (bw (J (bh į hr Z j7.m j7.F.kp j7.b .nil b8 (J (pv 1) (J (pv 2) aj))) (J (oN (aP jM (aQ (aN (K:=K) Z) (pv 1) (pv 2)) aq) (aQ (bK (K:=K) Z) (zq (K:=K) Z (pv 0) Z) (pv 3)) aq) aj))) aj))))),?_⟩
 obtain⟨dx,fs,pw,h1,hl,hw⟩:=hD.wts rfl;refine⟨_,Z,_,Z,a,_,_,_,Z,Z,cL.of ha,ZQ (),Z,_,Z,?_⟩;by_cases c0:gj st spot=0
 ·rw[bB (show V.int (gj st spot)=V.int 0 by rw[c0])];refine iD ⟨(),λp1 H1 n1=>q p1 [] H1 n1.same n1.here ?_⟩;show Paired _ _ (if gj st spot=0 then []else _);rw[aG c0];exact .nil
 rw[cM (show ¬V.int (gj st spot)=V.int 0 from λz=>c0 (V.int.inj z))];refine cX ⟨_,Z,_,Z,a,st,spot,Z,ha,(),(),λb H1 s1 hb=>?_⟩;have ew:Sg (ws.map V.int) (v:Int)=some (.int (ws.getD v 0)):=by
  refine cD ?_;grind
 refine⟨_,Z,_,Z,a,_,_,_,Z,Z,cL.of (s1 _ _ ha),ZQ (),Z,_,Z,?_⟩;have fin:∀x:Int,x=(if gj st spot=2 then ws.getD v 0 else 0)->∀p2 H2,gW H1 p2 (.tup [.ref b,.int x]) H2->∀p3 H3,gW H2 p3 (.lst [.ref p2]) H3->Q (.ref p3) H3:=λx ex p2 H2 n2 p3 H3 n3=>by
  refine q p3 _ H3 (s1.trans (n2.same.trans n3.same)) n3.here ?_;show Paired _ _ (if gj st spot=0 then []else [(Le st spot,if gj st spot=2 then ws.getD v 0 else 0)]);rw[aA c0,<-ex];exact .cons ⟨p2,b,Z,n3.same _ _ n2.here,hb.keep (.of (n2.same.trans n3.same))⟩ .nil
 by_cases c2:gj st spot=2
 ·rw[bB (show V.int (gj st spot)=V.int 2 by rw[c2])];exact iD ⟨_,Z,d,C,dx,fs,.ref pw,Z,s1 _ _ h1,cl,nw,hl,_,Z,pw,_,_,_,Z,Z,bM.of (s1 _ _ hw),ew,(),λp2 H2 n2=>⟨(),λp3 H3 n3=>fin _ (by rw[aG c2]) p2 H2 n2 p3 H3 n3⟩⟩
 ·rw[cM (show ¬V.int (gj st spot)=V.int 2 from λz=>c2 (V.int.inj z))];exact cX ⟨(),λp2 H2 n2=>⟨(),λp3 H3 n3=>fin _ () p2 H2 n2 p3 H3 n3⟩⟩
end
end K
namespace Te
open PyProof.Rows
open AutoSeq1 (wpAny_loadPart')
variable{Q:Value->Shared->Prop}
section
variable{prog:Program}{w:World}{A:Around}{E:Value->Shared->Prop}{s:Shared}{q t:Addr}{i:Nat}{ys:Array Value}
def nref(t:Addr):¬((Value.ref t==Value.none)=true):=cY
def more{y:Value}(hq:s.heap.IsTupleIter q t i)(ht:s.heap.IsTuple t ys)(hy:ys[i]?=some y)
  (k:∀g,g.IsTupleIter q t (i+1)->Heap.SameBut q s.heap g->Q y { s with heap:=g}):wpAny (model prog w) A (Builtin.SmallTypes.nextOf (.ref q)) Q E s:=by
 have ty:=hq.typeIs;obtain⟨oq,g1,g2,g3⟩:=hq;obtain⟨ot,g4,_,m,g5⟩:=ht;unfold Builtin.SmallTypes.nextOf;refine M (oJ (name:=Str.ofString "__next__") ty Nb (gC Nb ty Z0 ((show wpAny _ _ (field (.ref q) 0 >>= _) _ _ s from M (gk g1 g3 (x:=.ref t) Z ((show wpAny _ _ (if(Value.ref t==Value.none)=true then _ else _) _ _ s from ?_))))) (ZX _)));rw[aA (nref t)];refine(show wpAny _ _ (field (.ref q) 1 >>= _) _ _ s from M (gk g1 g3 (x:=.int i 0) Z ((show wpAny _ _ (seqItems? (.ref t) >>= _) _ _ s from M (oM g4 g5 ?_)))));simp only[Int.toNat_natCast,hy];refine M (wpAny_setField g1 g3 (by simp) (ao ⟨y,Z,ao (k _ ⟨_,Dv _ g1 (Obj.isFreed_of_fields (Obj.data_mapFields g3 _)),(Obj.cls_mapFields ..).trans g2,?_⟩ (rT ..))⟩));rw[Obj.data_mapFields g3];simp[rawInt]
def PN(hh:A.handled=none)(hq:s.heap.IsTupleIter q t i)(ht:s.heap.IsTuple t ys)(hy:ys[i]?=none)
  (k:∀g e,Heap.ExtBut q s.heap g->(∃o,g.get? e=some o/\o.cls=.type "StopIteration")->E (.ref e) { s with heap:=g}):wpAny (model prog w) A (Builtin.SmallTypes.nextOf (.ref q)) Q E s:=by
 have ty:=hq.typeIs;obtain⟨oq,g1,g2,g3⟩:=hq;obtain⟨ot,g4,_,m,g5⟩:=ht;unfold Builtin.SmallTypes.nextOf;refine M (oJ (name:=Str.ofString "__next__") ty Nb (gC Nb ty Z0 ((show wpAny _ _ (field (.ref q) 0 >>= _) _ _ s from M (gk g1 g3 (x:=.ref t) Z ((show wpAny _ _ (if(Value.ref t==Value.none)=true then _ else _) _ _ s from ?_))))) (ZX _)));rw[aA (nref t)];refine(show wpAny _ _ (field (.ref q) 1 >>= _) _ _ s from M (gk g1 g3 (x:=.int i 0) Z ((show wpAny _ _ (seqItems? (.ref t) >>= _) _ _ s from M (oM g4 g5 ?_)))));simp only[Int.toNat_natCast,hy];refine M (kY (M (wpAny_setField g1 g3 (by simp) (show wpAny _ _ (newExc (.type "StopIteration") [] >>= _) _ _ _ from M ?_))));simp only[newExc,newTuple];refine M (kI (M (m:=firstArgMember _ _) (IV (a:=Value.none) (by first|rfl|(simp only[firstArgMember];rfl)) (kI ?_ (by size_fits)))) (by size_fits));simp only[raiseNew];refine M (Oe ?_);first
  |rw[show A.in1.handled=none from hh]
  |rw[hh]
 refine M (ao (Oi (k _ _ (((rT ..).extBut.push _).push _) ⟨_,bU _ Z,Z⟩)))
def keepI{h h':Heap}(x:h.IsTupleIter q t i)(k:∀o,h.get? q=some o->h'.get? q=some o):h'.IsTupleIter q t i:=by
 obtain⟨o,e,r⟩:=x;exact⟨o,k o e,r⟩
def zP{h h':Heap}(x:h.IsTuple t ys)(k:∀o,h.get? t=some o->h'.get? t=some o):h'.IsTuple t ys:=by
 obtain⟨o,e,r⟩:=x;exact⟨o,k o e,r⟩
def draws(hh:A.handled=none)(q t:Addr)(ne:t≠q)(ys:Array Value):Draws prog w A q [q,t] ys.size (λj v=>ys[j]?=some v) (λj h=>h.IsTupleIter q t j/\h.IsTuple t ys) where
 live:=λ_ _ st=>by
  obtain⟨⟨o,e,_⟩,_⟩:=st
  exact⟨o,e⟩
 frame:=λ_ _ _ st k=>⟨keepI st.1 λo e=>k q (by simp) o e,zP st.2 λo e=>k t (by simp) o e⟩
 item:=λj s Q E lt st k=>more st.1 st.2 (y:=ys[j]) (by simp[lt]) λg hg sb=>k _ g s.toks (by simp[lt]) ⟨hg,zP st.2 λo e=>sb.extBut _ _ ne e⟩ sb
 done:=λs Q E st k=>PN hh st.1 st.2 (by simp) k
end
set_option tactic.hygienic true in
def İ(t:Addr)(ys:Array Value)(m:Nat)(dct:Option Addr)(sl:Array (Option Value)) :
  Meets (Builtin.«enumerate.__new__» ⟨[.type "enumerate",.ref t],[]⟩) (λ_ R s=>s.heap.get? t=some { cls:=.type "tuple",dict:=dct,data:=.seq ys m,slots:=sl}/\
   R (.ok (.ret (.ref (s.heap.push { cls:=.type "tuple_iterator",data:=.fields #[.ref t,.int 0 0]}).objs.size))) { s with heap:=(s.heap.push { cls:=.type "tuple_iterator",data:=.fields #[.ref t,.int 0 0]}).push { cls:=.type "enumerate",data:=.fields #[.none,.bool false,.ref s⁻¹,rawInt 0,.none,.none]}}) :=
 .of_wp λprog w A R s h=>by
  obtain⟨hp,g,d,tk,os⟩:=s;obtain⟨hl,h⟩:=h;have sub:=sub_enumerate;have hT:Heap.IsTuple (Shared.heap ⟨hp,g,d,tk,os⟩) t ys:=⟨_,hl,Z,m,Z⟩
  wp_walk using Ua hl
  refine wpAny_stack_any λst=>ao ?_;split
  ·rename_i c _ _ _ _ _;cases(c==Value.type "enumerate")<;>(wp_walk using Ua hl,DN hT;exact⟨_,Z,h⟩)
  ·wp_walk using Ua hl,DN hT
   exact⟨_,Z,h⟩
section
variable{prog:Program}{w:World}{A:Around}{E:Value->Shared->Prop}{s:Shared}
def Zj{t:Addr}{ys:Array Value}(hT:s.heap.IsTuple t ys)
  (h:∀g,IsEnum g (s⁻¹+1) s⁻¹ 0 .none->g.IsTupleIter s⁻¹ t 0->(∀b o,s.heap.get? b=some o->g.get? b=some o)->Q (.ref (s⁻¹+1)) { s with heap:=g}) :
  wpAny (model prog w) A (call (.type "enumerate") [.ref t]) Q E s:=by
 obtain⟨⟨c,dct,dt,sl⟩,hl,hc,n,hd⟩:=hT;replace hc:c=.type "tuple" := hc;replace hd:dt=.seq ys n:=hd;subst hc hd;refine callType_new PySem.F.called_enumerate () (PySem.F.typeCall_enumerate_1 _) (PySem.F.newCall_enumerate_1 _) (λobj=>PySem.F.args_object_init_2 obj _) PySem.F.entry_enumerate_new (İ t ys n dct sl) ⟨hl,?_⟩;have sz:(s.heap.push { cls:=.type "tuple_iterator",data:=.fields #[.ref t,.int 0 0]}).objs.size=s⁻¹+1:=kW ..;show _/\_;rw[sz];have he:IsEnum ((s.heap.push { cls:=.type "tuple_iterator",data:=.fields #[.ref t,.int 0 0]}).push { cls:=.type "enumerate",data:=.fields #[.none,.bool false,.ref s⁻¹,rawInt 0,.none,.none]}) (s⁻¹+1) s⁻¹ 0 .none:=by
  have:=bU (s.heap.push { cls:=.type "tuple_iterator",data:=.fields #[.ref t,.int 0 0]}) (o:={ cls:=.type "enumerate",data:=.fields #[.none,.bool false,.ref s⁻¹,rawInt 0,.none,.none]}) rfl;rw[sz]at this;exact this
 exact⟨⟨_,he,Z⟩,h _ he ⟨_,bJ _ (bU _ Z),Z,Z⟩ λb o x=>bJ _ (bJ _ x)⟩
end
end Te
namespace L2
open PyProof.Rows
variable{K:aH}
def a3c(K:aH)(a:Addr):It :=
 ⟨λi H=>∃xs x,cL K H a xs/\xs[i]?=some x,λi H x H'=>∃p y,x=.ref p/\gW H p (.tup [.int i,y]) H'/\∀xs,cL K H a xs->xs[i]?=some y,λi H=>∃xs,cL K H a xs/\xs.length=i⟩
def MF{h:Heap}{a it:Addr}{ys:Array Value}{i:Nat}(ht:h.IsTuple a ys)(hi:h.IsTupleIter it a i):a≠it:=λz=>by
 obtain⟨o,e,c,_⟩:=ht;obtain⟨o',e',c',_⟩:=hi;grind
def VN{P:Program}{w:World}{elts:List Expr}{k:Nat}{pos:Pos}(a it e:Addr)(hei:e≠it):Turn P w K (.Tuple elts k pos) (a3c K a) [e,it] e (λi h=>(∃old,IsEnum h e it i old)/\h.IsTupleIter it a i) where
 mem:=by simp
 obj:=λi h st b hb=>by
  obtain⟨⟨old,he⟩,hit⟩:=st
  rcases b7.mp hb with rfl|hb
  ·grind
  ·rw[bL.mp hb]
   obtain⟨o,e1,c,d⟩:=hit
   grind
 keep:=λi h h' st kk=>by
  obtain⟨⟨old,he⟩,hit⟩:=st
  exact⟨⟨old,kk e (by simp) _ he⟩,Te.keepI hit λo q=>kk it (by simp) o q⟩
 item:=by
  intro X hP hw hK hc i Y s σ H E I hf st hg
  subst hP hw hK
  obtain⟨xs,x,hq,hx⟩:=hg
  obtain⟨cA,rv,pl,hz⟩:=I.tuple hq
  have pl:s.heap.IsTuple a cA.toArray:=pl
  obtain⟨u,hu,ru⟩:=rv.get hx
  obtain⟨⟨old,he⟩,hit⟩:=st
  have hlt:i<cA.toArray.size:=by
   grind
  have hea:e≠a:=λz=>by
   obtain⟨o,e1,c,_⟩:=pl
   grind
  refine wpAny_pyNext_enum_itemD (Te.draws (show X.A.in1.handled=none from I.ok.hd hc) it a (MF pl hit) cA.toArray) he ⟨hit,pl⟩ hlt hei () λu' h' tk hu' ho hst hT hsz hk=>?_
  have eu:u'=u:=by
   have:cA[i]?=some u':=by simpa using hu'
   rw[hu]at this
   exact(dM this).symm
  subst eu
  refine⟨_,Z,Z7 ho λh2 he2 hs2=>?_⟩
  have eT:s⁻¹≠e:=gD (aX he)
  have iT:s⁻¹≠it:=by
   obtain⟨o,e1,_⟩:=hit
   exact gD (aX e1)
  have hT2:h2.get? s⁻¹=some { cls:=.type "tuple",data:=.seq #[.int i tk,u']}:=(hs2.2 _ eT).trans hT
  have kp:∀b o,b∉[e,it]->s.heap.get? b=some o->h2.get? b=some o:=λb o hb q=>by
   simp only[List.mem_cons,List.not_mem_nil,or_false,not_or]at hb
   exact(hs2.2 b hb.1).trans (hk b o hb.1 hb.2 q)
  have I1:bI X Y σ H { s with heap:=h2,toks:=tk+1}:=(zp I [e,it] (λc hc=>hf c hc) kp).tok (tk+1)
  have hfree:H s⁻¹=none:=I.hok.fresh (aL _)
  have I2:bI X Y σ (cI H s⁻¹ (.tup [.int i,x])) { s with heap:=h2,toks:=tk+1}:=by
   refine bI.track I1 hfree I.sz (gD I.lt) (λy c q=>?_) (λp hp=>bW (aX (I.pin p hp).1)) ⟨(by show 2<=sizeLine;decide),[.int i tk,u'],.cons ⟨_,Z⟩ (.cons ru .nil),⟨_,hT2,Z,_,Z⟩⟩
   obtain⟨v,oc,q1,_⟩:=I.cell y c q
   exact bW (aX q1)
  refine⟨.ref s⁻¹,_,I2,Z,⟨_,x,Z,gW.nY hfree,λys hy=>by rw[I.yW hy hq];exact hx⟩,⟨⟨u',?_⟩,Te.keepI hst.1 λo q=>(hs2.2 it (Ne.symm hei)).trans q⟩,λb hb=>?_⟩
  ·grind
  ·have f0:=(hf b hb).1
   rw[aO ?_]
   ·exact f0
   grind
 done:=by
  intro X hP hw hK hc i Y s σ H E I hf st hg
  subst hP hw hK
  obtain⟨xs,hq,hx⟩:=hg
  obtain⟨cA,rv,pl,hz⟩:=I.tuple hq
  have pl:s.heap.IsTuple a cA.toArray:=pl
  obtain⟨⟨old,he⟩,hit⟩:=st
  obtain⟨g0,g1,g2,g3,g4,g5⟩:=hf it (by simp)
  have hl:cA.toArray.size=i:=by rw[iH,<-hx];exact rv.length.symm
  exact wpAny_pyNext_enum_endD (Te.draws (show X.A.in1.handled=none from I.ok.hd hc) it a (MF pl hit) cA.toArray) he ⟨(),pl⟩ λh' eb=>⟨Z,I.turned (t':=s.toks) (λb o hb q=>eb b o hb q) g0 g1 g3 g4 g5⟩
 self:=λ_ _ _ _ _ st h=>by
  obtain⟨⟨old,he⟩,_⟩:=st
  exact NK he h
section
variable{X:Cx}
def a3d(K:aH)(ta:TA):TI:=λσ H R=>ta σ H λvs H1=>∃a,vs=[.ref a]/\(∃xs,cL K H1 a xs)/\R (a3c K a) H1
def ı{elts:List Expr}{k:Nat}{tpos:Pos}{l:Expr}{ta:TA}{p pos:Pos}(e0:X.K=K)(hg:Gl X "enumerate")(hm:X.mg "enumerate" = none)(ha:PA X [l] ta)(hs:@&(starEach [l] X.env=[(false,eval l X.env)])) :
  PI X (.Tuple elts k tpos) (.Call (.Name "enumerate" p) [l] [] pos) (a3d K ta):=by
 subst e0;intro Y s σ H R I h;refine xM (vZ I hg hm boot_enumerate (zT (jJ (ha pos Y s σ H _ I h) λus s1 ⟨vs,H1,I1,r1,q1⟩=>?_) hs (by rfl)));obtain⟨a,e,⟨xs,hq⟩,q⟩:=q1;subst e;obtain⟨u,rfl,ru⟩:=vals1 r1;cases ru;obtain⟨cA,rv,pl,hz⟩:=I1.tuple hq;refine Te.Zj (show s1.heap.IsTuple a cA.toArray from pl) λh' he hit hk=>NK he ?_;have I2:bI X Y σ H1 { s1 with heap:=h'}:=I1.kept (t':=s1.toks) hk;refine⟨s1⁻¹+1,[s1⁻¹+1,s1⁻¹],_,_,H1,Z,I2,VN a s1⁻¹ (s1⁻¹+1) (gD (xQ _)),⟨⟨_,he⟩,hit⟩,λb hb=>?_,q⟩;have hb':s1⁻¹<=b:=by
  grind
 exact I1.Gn hb' (I1.hok.fresh hb')
end
def Ĵ{a:Addr}{xs:List V}{ix:List (Option Nat)}{g:TG}{tt:TT}{te:TE}{σ:St}{H1:Hp}{Q:VK}(Pv:Nat->List V->Hp->Prop)(h0:Pv 0 [] H1)(hl:∀i ys H,i<=xs.length->Pv i ys H->cL K H a xs/\ys.length<=sizeLine)
  (hs:∀(i:Nat) x ys H p H0,xs[i]?=some x->Pv i ys H->gW H p (.tup [.int i,x]) H0->g (.ref p) (qu ix σ) H0 λσ2 H2=>tt σ2 H2 λb H3=>if b=true then te σ2 H3 λv H4=>Pv (i+1) (ys++[v]) H4 else Pv (i+1) ys H3)
  (hd:∀ys H,Pv xs.length ys H->∀p,H p=none->Q (.ref p) (cI H p (.lst ys))):mW ix g tt te σ H1 Q (a3c K a):=by
 refine⟨λi m ys H=>m=xs.length-i/\i<=xs.length/\Pv i ys H,⟨xs.length,by simp,dh _,h0⟩,?_⟩;rintro i m ys H ⟨rfl,hi,p⟩;obtain⟨q,z⟩:=hl i ys H hi p;by_cases hlt:i<xs.length
 ·refine .inr ⟨⟨xs,xs[i],q,by simp[hlt]⟩,z,Pv (i+1),λys' H' p'=>⟨xs.length-(i+1),(),Z,hlt,p'⟩,λx H' y=>?_⟩;obtain⟨pp,y0,rfl,nw,ex⟩:=y;exact hs i y0 ys H pp H' (ex xs q) p nw
 ·have e:i=xs.length:=()
  subst e;exact .inl ⟨⟨xs,q,Z⟩,z,hd ys H p⟩
end L2
namespace Tz
open PyProof.Rows
variable{a z I Z96 b i1 i2:Addr}{f0 f1 x:Value}{k:Nat}{xs ys:Array Value}{Q:Value->Shared->Prop}
abbrev Zo(h:Heap)(z I Z96:Addr)(f0 f1:Value):Prop:=h.get? z=some { cls:=.type "zip",dict:=none,data:=.fields #[f0,f1,.bool false,.ref I,.ref Z96],slots:=#[]}
abbrev Po(h:Heap)(T:Addr)(a b:Value):Prop:=h.get? T=some { cls:=.type "tuple",data:=.seq #[a,b]}
section
variable{Z98:Model}{prog:Program}{w:World}{A:Around}{E:Value->Shared->Prop}{s:Shared}
def alive{Q:Option Obj->Shared->Prop}(h:Q (s.heap.get? a) s):wpAny Z98 A (loadIfAlive a) Q E s:=λ_ _ _=>h
def Xx{Q:Bool->Shared->Prop}(hz:Zo s.heap z I Z96 f0 f1)(hf:f0=.none\/∃T:Nat,f0=rawInt (T:Int))(yes:Q true s)(no:∀g b,Zo g z I Z96 f0 b->Heap.SameBut z s.heap g->Q false { s with heap:=g}) :
  wpAny (model prog w) A (Builtin.SmallTypes.ownedTupleIsFree (.ref z)) Q E s:=by
 unfold Builtin.SmallTypes.ownedTupleIsFree;refine M (gk hz Z (x:=f0) Z ?_);rcases hf with rfl|⟨T,rfl⟩
 ·exact ao yes
 ·show wpAny _ _ (loadIfAlive _ >>= _) _ _ s;refine M (alive ?_);cases c:s.heap.get? ((T:Int).toNat)with
  |none=>exact ao yes
  |some o =>
   show wpAny _ _ (field (.ref z) 1 >>= _) _ _ s;refine M (gk hz Z (x:=f1) Z ?_);by_cases e:(f1 != Value.bool true)=true
   ·rw[aG e];refine M (iV hz (by simp) λg hg sb=>ao (no g _ hg sb))
   ·rw[aA e];exact M (ao (ao (no s.heap f1 hz ⟨Z,λ_ _=>rfl⟩)))
def Fr0(f0:Value):Prop:=f0=.none\/∃T:Nat,f0=rawInt (T:Int)
def Xy{T:Addr}{a b:Value}{Q:Unit->Shared->Prop}(hT:Po s.heap T a b)
  (h:∀g,g.get? T=some { cls:=.type "tuple",data:=.seq ((#[a,b]:Array Value).setIfInBounds k x)}->Heap.SameBut T s.heap g->Q ⟨⟩ { s with heap:=g}):wpAny (model prog w) A (updateSeq T (·.setIfInBounds k x)) Q E s:=wpAny_updateSeq_pair hT h
def item{y c d:Value}(D:ZipApart z I Z96 i1 i2 a b)(hz:Zo s.heap z I Z96 f0 f1)(hf:Fr0 f0)(hI:Po s.heap I (.ref i1) (.ref i2))(hO:Po s.heap Z96 c d)
  (h1:s.heap.IsTupleIter i1 a k) (h2:s.heap.IsTupleIter i2 b k) (t1:s.heap.IsTuple a xs) (t2:s.heap.IsTuple b ys) (hx:xs[k]?=some x) (hy:ys[k]?=some y)
  (hQ:∀g,(∃e0 e1,Zo g z I Z96 e0 e1/\Fr0 e0)->(∃c d,Po g Z96 c d)->g.IsTupleIter i1 a (k+1)->g.IsTupleIter i2 b (k+1)->Po g s⁻¹ x y->(∀c o,c≠z->c≠Z96->c≠i1->c≠i2->s.heap.get? c=some o->g.get? c=some o)->Q (.ref s⁻¹) { s with heap:=g}) :
  wpAny (model prog w) A (Builtin.«zip.__next__» ⟨[.ref z],[]⟩) (λfin s'=>∃v,fin=.done (.ret v)/\Q v s') E s:=by
 refine(show wpAny _ _ (field (.ref z) 2 >>= _) _ _ _ from M (gk hz Z (x:=.bool false) Z ((show wpAny _ _ (field (.ref z) 3 >>= _) _ _ _ from M (gk hz Z (x:=.ref I) Z (M (oM hI Z ((show wpAny _ _ (Builtin.SmallTypes.ownedTupleIsFree (.ref z) >>= _) _ _ _ from M (Xx hz hf ?_ λg0 b0 hz0 sb0=>?_))))))))))
 ·simp only[if_true];refine M (kY (M (gk hz Z (x:=.ref Z96) Z (M (iV hz (by simp) λg1 hz1 Em=>M ?_)))));replace hz1:Zo g1 z I Z96 .ellipsis f1:=hz1;simp only[List.zipIdx_cons,List.zipIdx_nil,List.forIn_cons,List.forIn_nil];refine M (M (Ae ((show wpAny _ _ (Builtin.SmallTypes.nextOf (.ref i1) >>= _) _ _ _ from M (Te.more (Te.keepI h1 λo e=>Em.extBut _ _ D.i1z e) (Te.zP t1 λo e=>Em.extBut _ _ D.l1z e) hx λg2 k1 Q8=>ao ?_)))));have hO2:Po g2 Z96 c d:=Q8.extBut _ _ D.TOi1 (Em.extBut _ _ D.TOz hO);refine M (oM hO2 Z (M (Xy hO2 λg3 hO3 YH=>M (xW (ao (M (M (Ae ?_))))))));replace hO3:Po g3 Z96 x d:=hO3;have st:∀c' o,c'≠z->c'≠i1->c'≠Z96->s.heap.get? c'=some o->g3.get? c'=some o:=λc' o n1 n2 n3 e=>YH.extBut _ _ n3 (Q8.extBut _ _ n2 (Em.extBut _ _ n1 e));refine(show wpAny _ _ (Builtin.SmallTypes.nextOf (.ref i2) >>= _) _ _ _ from M (Te.more (Te.keepI h2 λo e=>st _ _ D.i2z D.i12.symm D.TOi2.symm e) (Te.zP t2 λo e=>st _ _ D.l2z D.l2i1 D.l2TO e) hy λg4 k2 ĵ=>ao ?_));have hO4:Po g4 Z96 x d:=ĵ.extBut _ _ D.TOi2 hO3;refine M (oM hO4 Z (M (Xy hO4 λg5 hO5 sb5=>M (xW (ao (ao ?_))))));replace hO5:Po g5 Z96 x y:=hO5;refine M (oM hO5 Z (M (Iu ?_)));have sz:g5.objs.size=s⁻¹:=by rw[sb5.1,ĵ.1,YH.1,Q8.1,Em.1]
  have hz5:Zo g5 z I Z96 .ellipsis f1:=sb5.extBut _ _ D.TOz.symm (ĵ.extBut _ _ D.i2z.symm (YH.extBut _ _ D.TOz.symm (Q8.extBut _ _ D.i1z.symm hz1)));have st5:∀c' o,c'≠z->c'≠Z96->c'≠i1->c'≠i2->s.heap.get? c'=some o->g5.get? c'=some o:=λc' o n1 n2 n3 n4 e=>sb5.extBut _ _ n2 (ĵ.extBut _ _ n4 (st c' o n1 n3 n2 e));have k1':g5.IsTupleIter i1 a (k+1):=Te.keepI k1 λo e=>sb5.extBut _ _ D.TOi1.symm (ĵ.extBut _ _ D.i12 (YH.extBut _ _ D.TOi1.symm e));have k2':g5.IsTupleIter i2 b (k+1):=Te.keepI k2 λo e=>sb5.extBut _ _ D.TOi2.symm e;have zl:z<g5.objs.size:=aX hz5;refine(show wpAny _ _ (Builtin.SmallTypes.ownedTupleHandOut (.ref z) (.ref g5.objs.size) >>= _) _ _ _ from M ?_);unfold Builtin.SmallTypes.ownedTupleHandOut;have hz6:Zo (g5.push { cls:=.type "tuple",data:=.seq #[x,y]}) z I Z96 .ellipsis f1:=bJ _ hz5;refine M (iV hz6 (by simp) λg7 hz7 sb7=>?_);replace hz7:Zo g7 z I Z96 (rawInt g5.objs.size) f1:=hz7;refine iV hz7 (by simp) λg8 hz8 sb8=>?_;replace hz8:Zo g8 z I Z96 (rawInt g5.objs.size) (.bool false):=hz8;have up:∀c' o,c'≠z->g5.get? c'=some o->g8.get? c'=some o:=λc' o n1 e=>sb8.extBut _ _ n1 (sb7.extBut _ _ n1 (bJ _ e));have hT8:Po g8 g5.objs.size x y:=sb8.extBut _ _ (gD zl) (sb7.extBut _ _ (gD zl) (bU _ Z));refine ao ⟨_,Z,?_⟩;show Q (.ref g5.objs.size) _;rw[sz]at hT8 ⊢;exact hQ g8 ⟨_,_,hz8,.inr ⟨_,Z⟩⟩ ⟨_,_,up _ _ D.TOz hO5⟩ (Te.keepI k1' λo e=>up _ o D.i1z e) (Te.keepI k2' λo e=>up _ o D.i2z e) hT8 λc' o n1 n2 n3 n4 e=>up c' o n1 (st5 c' o n1 n2 n3 n4 e)
 ·rw[aA cY];refine(show wpAny _ _ (forIn (#[Value.ref i1,Value.ref i2]:Array Value) _ _ >>= _) _ _ _ from ?_);rw[<-Tr];simp only[List.forIn_cons,List.forIn_nil];refine M (M (M (fL ((show wpAny _ _ (Builtin.SmallTypes.nextOf (.ref i1) >>= _) _ _ _ from M (Te.more (Te.keepI h1 λo e=>sb0.extBut _ _ D.i1z e) (Te.zP t1 λo e=>sb0.extBut _ _ D.l1z e) hx λg2 k1 Q8=>ao (ao (M (M (fL ?_))))))))));have st:∀c' o,c'≠z->c'≠i1->s.heap.get? c'=some o->g2.get? c'=some o:=λc' o n1 n2 e=>Q8.extBut _ _ n2 (sb0.extBut _ _ n1 e);refine(show wpAny _ _ (Builtin.SmallTypes.nextOf (.ref i2) >>= _) _ _ _ from M (Te.more (Te.keepI h2 λo e=>st _ _ D.i2z D.i12.symm e) (Te.zP t2 λo e=>st _ _ D.l2z D.l2i1 e) hy λg4 k2 ĵ=>ao (ao (ao ?_))));refine M (Iu ?_ (show 2<=sizeLine by decide));have sz:g4.objs.size=s⁻¹:=by rw[ĵ.1,Q8.1,sb0.1]
  have hz4:Zo g4 z I Z96 f0 b0:=ĵ.extBut _ _ D.i2z.symm (Q8.extBut _ _ D.i1z.symm hz0);have hO4:Po g4 Z96 c d:=ĵ.extBut _ _ D.TOi2 (st _ _ D.TOz D.TOi1 hO);have k1':g4.IsTupleIter i1 a (k+1):=Te.keepI k1 λo e=>ĵ.extBut _ _ D.i12 e;have up:∀c' o,g4.get? c'=some o->(g4.push { cls:=.type "tuple",data:=.seq #[x,y]}).get? c'=some o:=λc' o e=>bJ _ e;have hT:Po (g4.push { cls:=.type "tuple",data:=.seq #[x,y]}) g4.objs.size x y:=bU _ rfl;refine ao ⟨_,Z,?_⟩;show Q (.ref g4.objs.size) _;rw[sz]at hT ⊢;exact hQ _ ⟨_,_,up _ _ hz4,hf⟩ ⟨_,_,up _ _ hO4⟩ (Te.keepI k1' λo e=>up _ o e) (Te.keepI k2 λo e=>up _ o e) hT λc' o n1 n2 n3 n4 e=>up c' o (ĵ.extBut _ _ n4 (st c' o n1 n3 e))
def ended{Q:Fin->Shared->Prop}(hh:A.handled=none)(D:ZipApart z I Z96 i1 i2 a b)(hz:Zo s.heap z I Z96 f0 f1)(hf:Fr0 f0)(hI:Po s.heap I (.ref i1) (.ref i2))
  (h1:s.heap.IsTupleIter i1 a k) (t1:s.heap.IsTuple a xs) (hx:xs[k]?=none)
  (hE:∀g e,(∀c o,c≠z->c≠Z96->c≠i1->c≠i2->s.heap.get? c=some o->g.get? c=some o)->(∃o,g.get? e=some o/\o.cls=.type "StopIteration")->E (.ref e) { s with heap:=g}) :
  wpAny (model prog w) A (Builtin.«zip.__next__» ⟨[.ref z],[]⟩) Q E s:=by
 refine(show wpAny _ _ (field (.ref z) 2 >>= _) _ _ _ from M (gk hz Z (x:=.bool false) Z ((show wpAny _ _ (field (.ref z) 3 >>= _) _ _ _ from M (gk hz Z (x:=.ref I) Z (M (oM hI Z ((show wpAny _ _ (Builtin.SmallTypes.ownedTupleIsFree (.ref z) >>= _) _ _ _ from M (Xx hz hf ?_ λg0 b0 hz0 sb0=>?_))))))))))
 ·simp only[if_true];refine M (kY (M (gk hz Z (x:=.ref Z96) Z (M (iV hz (by simp) λg1 hz1 Em=>M ?_)))));replace hz1:Zo g1 z I Z96 .ellipsis f1:=hz1;simp only[List.zipIdx_cons,List.zipIdx_nil,List.forIn_cons,List.forIn_nil];refine M (M (Ae ((show wpAny _ _ (Builtin.SmallTypes.nextOf (.ref i1) >>= _) _ _ _ from M (Te.PN hh (Te.keepI h1 λo e=>Em.extBut _ _ D.i1z e) (Te.zP t1 λo e=>Em.extBut _ _ D.l1z e) hx λg2 e2 Q8 st2=>?_)))));obtain⟨oe,hoe,hce⟩:=st2;have hz2:Zo g2 z I Z96 .ellipsis f1:=Q8 _ _ D.i1z.symm hz1;have nez:e2≠z:=λv=>by
   grind
  exact iV hz2 (by simp) λg3 _ YH=>hE g3 e2 (λc' o n1 _ n3 _ v=>YH.extBut _ _ n1 (Q8 _ _ n3 (Em.extBut _ _ n1 v))) ⟨oe,YH.extBut _ _ nez hoe,hce⟩
 ·rw[aA cY];refine(show wpAny _ _ (forIn (#[Value.ref i1,Value.ref i2]:Array Value) _ _ >>= _) _ _ _ from ?_);rw[<-Tr];simp only[List.forIn_cons,List.forIn_nil];exact M (M (M (fL ((show wpAny _ _ (Builtin.SmallTypes.nextOf (.ref i1) >>= _) _ _ _ from M (Te.PN hh (Te.keepI h1 λo e=>sb0.extBut _ _ D.i1z e) (Te.zP t1 λo e=>sb0.extBut _ _ D.l1z e) hx λg2 e2 Q8 st2=>hE g2 e2 (λc' o n1 _ n3 _ v=>Q8 _ _ n3 (sb0.extBut _ _ n1 v)) st2))))))
def next_item{y c d:Value}{Q:Option Value->Shared->Prop}(D:ZipApart z I Z96 i1 i2 a b)(hz:Zo s.heap z I Z96 f0 f1)(hf:Fr0 f0)(hI:Po s.heap I (.ref i1) (.ref i2))(hO:Po s.heap Z96 c d)
  (h1:s.heap.IsTupleIter i1 a k) (h2:s.heap.IsTupleIter i2 b k) (t1:s.heap.IsTuple a xs) (t2:s.heap.IsTuple b ys) (hx:xs[k]?=some x) (hy:ys[k]?=some y)
  (hQ:∀g,(∃e0 e1,Zo g z I Z96 e0 e1/\Fr0 e0)->(∃c d,Po g Z96 c d)->g.IsTupleIter i1 a (k+1)->g.IsTupleIter i2 b (k+1)->Po g s⁻¹ x y->(∀c o,c≠z->c≠Z96->c≠i1->c≠i2->s.heap.get? c=some o->g.get? c=some o)->Q (some (.ref s⁻¹)) { s with heap:=g}) :
  wpAny (model prog w) A (pyNext (.ref z)) Q E s:=by
 have ty:s.TypeIs (.ref z) "zip" :=⟨_,hz,Z⟩;unfold pyNext;exact M (tL (oJ (name:=Str.ofString "__next__") ty Nu (gC Nu ty PySem.F.entry_zip_next (item D hz hf hI hO h1 h2 t1 t2 hx hy λg a1 a2 a3 a4 a5 a6=>ao (hQ g a1 a2 a3 a4 a5 a6)) (PySem.F.args_zip_next_1 _))))
def next_end{Q:Option Value->Shared->Prop}(hh:A.handled=none)(D:ZipApart z I Z96 i1 i2 a b)(hz:Zo s.heap z I Z96 f0 f1)(hf:Fr0 f0)(hI:Po s.heap I (.ref i1) (.ref i2))
  (h1:s.heap.IsTupleIter i1 a k) (t1:s.heap.IsTuple a xs) (hx:xs[k]?=none) (hQ:∀g,(∀c o,c≠z->c≠Z96->c≠i1->c≠i2->s.heap.get? c=some o->g.get? c=some o)->Q none { s with heap:=g}):wpAny (model prog w) A (pyNext (.ref z)) Q E s:=by
 have ty:s.TypeIs (.ref z) "zip" :=⟨_,hz,Z⟩;unfold pyNext;refine M (tL (oJ (name:=Str.ofString "__next__") ty Nu (gC Nu ty PySem.F.entry_zip_next (ended hh D hz hf hI h1 t1 hx λg e fr st=>?_) (PySem.F.args_zip_next_1 _))));obtain⟨o,ho,hc⟩:=st;exact M (vU (T:="StopIteration") (b:=true) ⟨o,ho,hc⟩ Iw (ao (hQ _ fr)))
def MJ(hz:Zo s.heap z I Z96 f0 f1)(h:Q (.ref z) s):wpAny (model prog w) A (pyIter (.ref z)) Q E s:=by
 have ty:s.TypeIs (.ref z) "zip" :=⟨_,hz,Z⟩;exact Im ty PySem.F.slot_zip_iter (gC PySem.F.slot_zip_iter ty PySem.F.entry_zip_iter (show wpAny _ _ (ret (.ref z)) _ _ s from ao ⟨_,Z,"zip",_,ty,PySem.F.slot_zip_next.lookup,h⟩) (PySem.F.args_zip_iter_1 _))
end
abbrev z1(h:Heap)(a:Addr):Heap:=h.push { cls:=.type "tuple_iterator",data:=.fields #[.ref a,.int 0 0]}
abbrev z2(h:Heap)(a b:Addr):Heap:=(z1 h a).push { cls:=.type "tuple_iterator",data:=.fields #[.ref b,.int 0 0]}
abbrev z3(h:Heap)(a b:Addr):Heap:=(z2 h a b).push { cls:=.type "tuple",data:=.seq #[.ref h.objs.size,.ref (z1 h a).objs.size]}
abbrev z4(h:Heap)(a b:Addr):Heap:=(z3 h a b).push { cls:=.type "tuple",data:=.seq #[.none,.none]}
abbrev z5(h:Heap)(a b:Addr):Heap:=(z4 h a b).push { cls:=.type "zip",data:=.fields #[.none,.bool false,.bool false,.ref (z2 h a b).objs.size,.ref (z3 h a b).objs.size]}
def a0M(a b:Addr)(xs ys:Array Value):Meets (Builtin.«zip.__new__» ⟨[.type "zip",.ref a,.ref b],[]⟩) (λ_ R s=>s.heap.IsTuple a xs/\s.heap.IsTuple b ys/\R (.ok (.ret (.ref (z4 s.heap a b).objs.size))) { s with heap:=z5 s.heap a b}) :=
 .of_wp λprog w A R s h=>by
  obtain⟨hp,g,d,tk,os⟩:=s;obtain⟨ha,hb,h⟩:=h;have sub:=sub_zip;have hA:Heap.IsTuple (Shared.heap ⟨hp,g,d,tk,os⟩) a xs:=ha;have hB:Heap.IsTuple (Shared.heap ⟨hp.push { cls:=.type "tuple_iterator",data:=.fields #[.ref a,.int 0 0]},g,d,tk,os⟩) b ys:=Te.zP hb λo e=>bJ _ e
  wp_walk using DN hA,DN hB
  exact⟨_,Z,h⟩
section
variable{prog:Program}{w:World}{A:Around}{E:Value->Shared->Prop}{s:Shared}
def Ķ(ha:s.heap.IsTuple a xs)(hb:s.heap.IsTuple b ys)
  (h:∀g,Zo g (s⁻¹+4) (s⁻¹+2) (s⁻¹+3) .none (.bool false)->Po g (s⁻¹+2) (.ref s⁻¹) (.ref (s⁻¹+1))->Po g (s⁻¹+3) .none .none->g.IsTupleIter s⁻¹ a 0->g.IsTupleIter (s⁻¹+1) b 0->(∀c o,s.heap.get? c=some o->g.get? c=some o)->Q (.ref (s⁻¹+4)) { s with heap:=g}) :
  wpAny (model prog w) A (call (.type "zip") [.ref a,.ref b]) Q E s:=by
 refine callType_new PySem.F.called_zip () (PySem.F.typeCall_zip_2 _ _) (PySem.F.newCall_zip_2 _ _) (λobj=>PySem.F.args_object_init_3 obj _ _) PySem.F.entry_zip_new (a0M a b xs ys) ⟨ha,hb,?_⟩;have e1:(z1 s.heap a).objs.size=s⁻¹+1:=kW ..;have e2:(z2 s.heap a b).objs.size=s⁻¹+2:=by rw[kW,e1]
 have e3:(z3 s.heap a b).objs.size=s⁻¹+3:=by rw[kW,e2]
 have e4:(z4 s.heap a b).objs.size=s⁻¹+4:=by rw[kW,e3]
 have up:=λ(h:Heap) (u:Obj) (c:Addr) (o:Obj) (e:h.get? c=some o)=>bJ u e;have k5:(z5 s.heap a b).get? (z4 s.heap a b).objs.size=some _:=bU _ rfl;have k4:(z5 s.heap a b).get? (z3 s.heap a b).objs.size=some _:=up _ _ _ _ (bU _ Z);have k3:(z5 s.heap a b).get? (z2 s.heap a b).objs.size=some _:=up _ _ _ _ (up _ _ _ _ (bU _ Z));have k2:(z5 s.heap a b).get? (z1 s.heap a).objs.size=some _:=up _ _ _ _ (up _ _ _ _ (up _ _ _ _ (bU _ Z)));have k1:(z5 s.heap a b).get? s⁻¹=some _:=up _ _ _ _ (up _ _ _ _ (up _ _ _ _ (up _ _ _ _ (bU _ Z))));show _/\_;rw[e2,e3,e4]at k5;rw[e1,e2]at k3;rw[e3]at k4;rw[e1]at k2;rw[e4];exact⟨⟨_,k5,Z⟩,h _ k5 k3 k4 ⟨_,k1,Z,Z⟩ ⟨_,k2,Z,Z⟩ λc o x=>up _ _ _ _ (up _ _ _ _ (up _ _ _ _ (up _ _ _ _ (up _ _ _ _ x))))⟩
end
end Tz
namespace L2
open PyProof.Rows
variable{K:aH}
def a3e(K:aH)(a b:Addr):It :=
 ⟨λi H=>∃xs ys x y,cL K H a xs/\cL K H b ys/\xs[i]?=some x/\ys[i]?=some y,
 λi H v H'=>∃p x y,v=.ref p/\gW H p (.tup [x,y]) H'/\(∀xs,cL K H a xs->xs[i]?=some x)/\∀ys,cL K H b ys->ys[i]?=some y,
 λi H=>∃xs,cL K H a xs/\xs.length<=i⟩
def Zk{P:Program}{w:World}{nm:Str}{pos:Pos}(a b z TI TO i1 i2:Addr)(D:ZipApart z TI TO i1 i2 a b) :
  Turn P w K (.Name nm pos) (a3e K a b) [z,TI,TO,i1,i2] z (λi h=>(∃f0 f1,Tz.Zo h z TI TO f0 f1/\Tz.Fr0 f0)/\Tz.Po h TI (.ref i1) (.ref i2)/\(∃x y,Tz.Po h TO x y)/\h.IsTupleIter i1 a i/\h.IsTupleIter i2 b i) where
 mem:=by simp
 obj:=λi h st c hc=>by
  obtain⟨⟨f0,f1,hz,_⟩,hTI,⟨x,y,hTO⟩,⟨o1,e1,c1,d1⟩,⟨o2,e2,c2,d2⟩⟩:=st
  grind
 keep:=λi h h' st kk=>by
  obtain⟨⟨f0,f1,hz,ff⟩,hTI,⟨x,y,hTO⟩,h1,h2⟩:=st
  exact⟨⟨f0,f1,kk z (by simp) _ hz,ff⟩,kk TI (by simp) _ hTI,⟨x,y,kk TO (by simp) _ hTO⟩,Te.keepI h1 λo q=>kk i1 (by simp) o q,Te.keepI h2 λo q=>kk i2 (by simp) o q⟩
 item:=by
  intro X hP hw hK hc i Y s σ H E I hf st hg
  subst hP hw hK
  obtain⟨xs,ys,x,y,hq1,hq2,hx,hy⟩:=hg
  obtain⟨Rm,rv1,Y4,hz1⟩:=I.tuple hq1
  obtain⟨its2,rv2,pl2,hz2⟩:=I.tuple hq2
  obtain⟨u1,hu1,ru1⟩:=rv1.get hx
  obtain⟨u2,hu2,Ţ⟩:=rv2.get hy
  obtain⟨⟨f0,f1,hz,ff⟩,hTI,⟨x0,y0,hTO⟩,h1,h2⟩:=st
  refine Tz.next_item D hz ff hTI hTO h1 h2 (show s.heap.IsTuple a Rm.toArray from Y4) (show s.heap.IsTuple b its2.toArray from pl2) (x:=u1) (y:=u2) () () λh3 a1 a2 a3 a4 a5 hk=>?_
  refine⟨_,Z,ao ?_⟩
  have lt:∀{c o},s.heap.get? c=some o->s⁻¹≠c:=λe=>gD (aX e)
  have nz:=lt hz
  have nTI:=lt hTI
  have nTO:=lt hTO
  have n1:s⁻¹≠i1:=by obtain⟨_,e,_⟩:=h1;exact lt e
  have n2:s⁻¹≠i2:=by obtain⟨_,e,_⟩:=h2;exact lt e
  have kp:∀c o,c∉[z,TO,i1,i2]->s.heap.get? c=some o->h3.get? c=some o:=λc o hc q=>by
   grind
  have I1:bI X Y σ H { s with heap:=h3}:=zp I [z,TO,i1,i2] (λc hc=>hf c ()) kp
  have hfree:H s⁻¹=none:=I.hok.fresh (aL _)
  have I2:bI X Y σ (cI H s⁻¹ (.tup [x,y])) { s with heap:=h3}:=by
   refine bI.track I1 hfree I.sz (gD I.lt) (λy c q=>?_) (λp hp=>bW (aX (I.pin p hp).1)) ⟨(by show 2<=sizeLine;decide),[u1,u2],.cons ru1 (.cons Ţ .nil),⟨_,a5,Z,_,Z⟩⟩
   obtain⟨v,oc,q1,_⟩:=I.cell y c q
   exact bW (aX q1)
  refine⟨.ref s⁻¹,_,I2,Z,⟨_,x,y,Z,gW.nY hfree,λxs' hy'=>by rw[I.yW hy' hq1];exact hx,λys' hy'=>by rw[I.yW hy' hq2];exact hy⟩,
   ⟨a1,hk TI _ D.TIz D.TITO D.TIi1 D.TIi2 hTI,a2,a3,a4⟩,λc hc=>?_⟩
  have f0:=(hf c hc).1
  rw[aO ?_]
  ·exact f0
  grind
 done:=by
  intro X hP hw hK hc i Y s σ H E I hf st hg
  subst hP hw hK
  obtain⟨xs,hq1,hl⟩:=hg
  obtain⟨Rm,rv1,Y4,hz1⟩:=I.tuple hq1
  have l1:=rv1.length
  obtain⟨⟨f0,f1,hz,ff⟩,hTI,⟨x0,y0,hTO⟩,h1,h2⟩:=st
  refine Tz.next_end (I.ok.hd hc) D hz ff hTI h1 (show s.heap.IsTuple a Rm.toArray from Y4) (by simp;omega) λh' hk=>⟨Z,zp I [z,TO,i1,i2] (λc hc=>hf c ()) λc o hc q=>?_⟩
  grind
 self:=λ_ _ _ _ _ st h=>by
  obtain⟨⟨f0,f1,hz,ff⟩,_⟩:=st
  exact Tz.MJ hz h
section
variable{X:Cx}
def a5h(K:aH)(ta:TA):TI:=λσ H R=>ta σ H λvs H1=>∃a b,vs=[.ref a,.ref b]/\(∃xs,cL K H1 a xs)/\(∃ys,cL K H1 b ys)/\R (a3e K a b) H1
def a0N{nm:Str}{tpos:Pos}{l m:Expr}{ta:TA}{p pos:Pos}(e0:X.K=K)(hg:Gl X "zip")(hm:X.mg "zip" = none)(ha:PA X [l,m] ta)(hs:@&(starEach [l,m] X.env=[(false,eval l X.env),(false,eval m X.env)]))(hs2:@&(starEach [m] X.env=[(false,eval m X.env)])) :
  PI X (.Name nm tpos) (.Call (.Name "zip" p) [l,m] [] pos) (a5h K ta):=by
 subst e0;intro Y s σ H R I h;refine xM (vZ I hg hm boot_zip ?_);refine zT (jJ (ha pos Y s σ H _ I h) λus s1 ⟨vs,H1,I1,r1,q1⟩=>?_) (by rw[hs,hs2]) (by rw[hs2];rfl);obtain⟨a,b,e,⟨xs,hq1⟩,⟨ys,hq2⟩,q⟩:=q1;subst e;obtain⟨u1,u2,rfl,r1,r2⟩:=vals2 r1;cases r1;cases r2;obtain⟨Rm,rv1,Y4,hz1⟩:=I1.tuple hq1;obtain⟨its2,rv2,pl2,hz2⟩:=I1.tuple hq2;have pa:s1.heap.IsTuple a Rm.toArray:=Y4;have pb:s1.heap.IsTuple b its2.toArray:=pl2;refine Tz.Ķ pa pb λh' hz hTI hTO h1 h2 hk=>Tz.MJ hz ?_;have I2:bI X Y σ H1 { s1 with heap:=h'}:=I1.kept (t':=s1.toks) hk;have la:a<s1⁻¹:=by obtain⟨o,e,_⟩:=pa;exact aX e
 have lb:b<s1⁻¹:=by obtain⟨o,e,_⟩:=pb;exact aX e
 refine⟨s1⁻¹+4,[s1⁻¹+4,s1⁻¹+2,s1⁻¹+3,s1⁻¹,s1⁻¹+1],_,_,H1,Z,I2,Zk a b _ _ _ _ _ (zipApart_new la lb),⟨⟨_,_,hz,.inl Z⟩,hTI,⟨_,_,hTO⟩,h1,h2⟩,λc hc=>?_,q⟩;have hb':s1⁻¹<=c:=by
  grind
 exact I1.Gn hb' (I1.hok.fresh hb')
end
def a0O{a b:Addr}{xs ys:List V}{ix:List (Option Nat)}{g:TG}{tt:TT}{te:TE}{σ:St}{H1:Hp}{Q:VK}(el:xs.length=ys.length)(Pv:Nat->List V->Hp->Prop)(h0:Pv 0 [] H1)(hl:∀i us H,i<=xs.length->Pv i us H->cL K H a xs/\cL K H b ys/\us.length<=sizeLine)
  (hs:∀(i:Nat) x y us H p H0,xs[i]?=some x->ys[i]?=some y->Pv i us H->gW H p (.tup [x,y]) H0->g (.ref p) (qu ix σ) H0 λσ2 H2=>tt σ2 H2 λb H3=>if b=true then te σ2 H3 λv H4=>Pv (i+1) (us++[v]) H4 else Pv (i+1) us H3)
  (hd:∀us H,Pv xs.length us H->∀p,H p=none->Q (.ref p) (cI H p (.lst us))):mW ix g tt te σ H1 Q (a3e K a b):=by
 refine⟨λi m us H=>m=xs.length-i/\i<=xs.length/\Pv i us H,⟨xs.length,by simp,dh _,h0⟩,?_⟩;rintro i m us H ⟨rfl,hi,p⟩;obtain⟨q,q2,z⟩:=hl i us H hi p;by_cases hlt:i<xs.length
 ·refine .inr ⟨⟨xs,ys,xs[i],ys[i],q,q2,by simp[hlt],by simp[el▸hlt]⟩,z,Pv (i+1),λys' H' p'=>⟨xs.length-(i+1),(),Z,hlt,p'⟩,λx H' y=>?_⟩;obtain⟨pp,x0,y0,rfl,nw,ex,ey⟩:=y;exact hs i x0 y0 us H pp H' (ex xs q) (ey ys q2) p nw
 ·have e:i=xs.length:=()
  subst e;exact .inl ⟨⟨xs,q,aL _⟩,z,hd us H p⟩
end L2
namespace Tm
open PyProof.Rows
section
variable{prog:Program}{w:World}{A:Around}{E:Value->Shared->Prop}{s:Shared}{t:Addr}{xs:Array (Int×Tok)}
def a0P{Q:Value->Shared->Prop}(hh:A.handled=none)(ht:s.heap.IsTuple t (intItems xs))(hne:0<xs.size)
  (h:∀v g tk,(intItems xs)[argBest (λi j=>decide (numAt xs i>numAt xs j)) (xs.size-1)]?=some v->(∀b o,s.heap.get? b=some o->g.get? b=some o)->Q v { s with heap:=g,toks:=tk}):wpAny (model prog w) A (call (.builtin "max") [.ref t]) Q E s:=by
 have lt:t<s⁻¹:=by
  obtain⟨_,e,_⟩:=ht;exact aX e
 refine call_max_walk (DN ht ⟨s⁻¹,[s⁻¹,t],[s⁻¹],_,_,_,_,Z,Walks.tuple (A:=A.in1) hh _ t (bW lt) (intItems xs),⟨⟨_,bU _ Z,Z,Z⟩,Te.zP ht λo e=>bJ _ e⟩,λb hb=>?_,by simpa [intItems]using hne,CmpOf.ints_gt (numAt xs) (λ_ _=>intItems_at),λv g tk hP hk=>?_⟩)
 ·show b<(s.heap.push _).objs.size;rw[kW];grind
 ·refine h v g tk (by simpa [intItems]using hP) λb o e=>hk b o (λhm=>?_) (bJ _ e);rw[bL.mp hm]at e;exact absurd (aX e) (xT _)
end
end Tm
namespace L2
open PyProof.Rows
section
variable{X:Cx}{K:aH}
inductive a5i(K:aH)(xs:List V)(H:Hp)(Q:VK):Prop
 |mk (p ns:_) (_:xs=[.ref p]) (_:cL K H p (List.map V.int ns)) (_:0<ns.length) (_:∀Z98,Z98∈ns->(∀a∈ns,a<=Z98)->Q (.int Z98) H)
def Zm(e:X.K=K)(cm:X.calm=true):jL X (.builtin "max") (a5i K):=by
 subst e;intro Y s σ H xs us Q I r h;obtain⟨p,ns,rfl,hL,hne,q⟩:=h;obtain⟨u,rfl,rx⟩:=vals1 r;cases rx;obtain⟨cA,r',pl,hz⟩:=I.tuple hL;have pl:s.heap.IsTuple p cA.toArray:=pl;have hi:=ints_of r';have hlen:=hi.length;obtain⟨zs,ez⟩:=hi.allInts.items;have hsz:0<zs.size:=by
  have:=congrArg Array.size ez;rw[iH]at this;have e2:(intItems zs).size=zs.size:=by simp[intItems]
  omega
 have en:zs.toList.map (·.1)=ns:=by
  rw[<-nums_intItems,<-ez];exact hi.numsOf
 refine Tm.a0P (xs:=zs) (I.ok.hd cm) () hsz λv h' tk hv hk=>?_;obtain⟨t,rfl⟩:=intItems_at hv;obtain⟨h1,h2⟩:=argBest_gt (numAt zs) (zs.size-1);refine⟨.int _,H,I.kept hk,⟨t,Z⟩,q _ ?_ λa ha=>?_⟩
 ·rw[numAt_eq,<-en];exact getD_mem (by rw[aK,vP];omega)
 ·rw[<-en]at ha;obtain⟨j,hj,rfl⟩:=mem_getD ha;rw[aK,vP]at hj;rw[<-numAt_eq];exact h2 j ()
end
end L2
namespace K
open L2 Lw Bg
variable{K:aH}{P:Program}{w:World}{mg:Str->Option Value}{base:Heap}{T:cQ}{wd j':Nat}{E us:List Int}{σ:St}{α:Type}{B:List bY}{g:TG}
def in2{x a b:Int}:inV (V.int x) [V.int a,V.int b]=true↔x=a\/x=b:=by
 show(Ø (V.int a) (V.int x)||(Ø (V.int b) (V.int x)||false))=true↔_;show((a==x)||((b==x)||false))=true↔_;grind
theorem MK{P:Program}{w:World}:∀bs:List Bool,Paired (λv (x:Bool)=>∀u,cV v u->(Dk.Ju P w).is x u=true) (bs.map V.bl) bs
 | []=>.nil
 |b::bs=>.cons (λu e=>by
   have e:u=Value.bool b:=e
   rw[e]
   exact N8 b) (MK bs)
section
variable{C:Addr}{ex:List (Str×V)}{n:Nat}{ts:List bY}{ws:List Int}
def GP(B:Bl mg)(d_:Dm K C "shared" "Watch.shared" oZ wN)(At:Hp->Addr->Prop):bf P w K mg base gb 1 d_.f d_.fd wN (JB (Dk.Ju P w) (ZR ws) At):=by
 refine d_.F.ok Gz λeV A outer s H vs Q E hr h=>?_;obtain⟨d,a,m,st,rfl,hD,ha,ok,m5,q⟩:=h;have l1:st.length=m:=ok.1;refine⟨_,(aB (bF (gq j9 Z B.tuple () (J (jF ["number"] [none]  (by kernel_rfl) Z (wD (K:=K) Z (pv 1)) (λ_ _ _ _ _=>(aM 0 (show(["number"]:List Str).Nodup by decide))) (λ_ _ _ _ _=>fQ) λ_ _ _ _ _=>(qM jM (pv 0) aq)) aj)))),⟨_,Z,a,Z,⟨_,cL.of ha⟩,?_⟩⟩;refine Hw (K:=K) (a:=a) (xs:=st.map V.int) (λi ys G=>G=H/\ys=((st.take i).map λx=>decide (x=2)).map V.bl) ⟨Z,Z⟩ (λi ys G hi ⟨e,ey⟩=>⟨by rw[e];exact cL.of ha,?_⟩) (λi x ys G hx ⟨e,ey⟩=>?_) (λys G ⟨e,ey⟩ pr hpr=>?_)
 ·rw[ey,aK,aK,fP];exact eE (cG ())
 ·subst e;rw[d7]at hx;obtain⟨y,hy,rfl⟩:=mU.mp hx;refine⟨_,Z,Z,Z,?_⟩;rw[ey,jQ,hy,eO,eO];congr 1;show [V.bl (decide (V.int y=V.int 2))]=[V.bl (decide (y=2))];congr 2;exact Ip.mpr ⟨λz=>V.int.inj z,λz=>by rw[z]⟩
 ·subst e;rw[aK,gO]at ey;have n1:=gW.nY (o:=.lst ys) hpr;generalize cI G pr (.lst ys)=G1 at n1 ⊢;refine⟨pr,ys,Z,.inl ⟨bM.of n1.here,λl hl=>?_⟩⟩;have n2:=gW.nY (o:=.tup ys) hl;refine q l _ (n1.same.trans n2.same) ⟨ys,n2.here,?_⟩;rw[ey];exact MK _
def GQ(B:Bl mg)(Bz:mg "zip" = none)(d_:Dm K C "joined" "Watch.joined" pB lC)(At:Hp->Addr->Prop):bf P w K mg base gb 1 d_.f d_.fd lC (JC (ZR ws) At):=by
 refine d_.F.ok GC λeV A outer s H vs Q E hr h=>?_;obtain⟨d,a,b,m,st,t,rfl,hD,ha,hb,ok,ok',m5,sh,q⟩:=h;have l1:st.length=m:=ok.1;have l2:t.length=m:=ok'.1;refine⟨_,(aB (bF (cu (J (gq j9 Z B.tuple () (J (jF ["pair"] [none]  (by kernel_rfl) Z (a0N (K:=K) Z Z Bz (J (pv 1) (J (pv 2) aj))) (λ_ _ _ _ _=>(aM 0 (show(["pair"]:List Str).Nodup by decide))) (λ_ _ _ _ _=>fQ) λ_ _ _ _ _=>(bG (Zm (K:=K) Z Z) Z B.max () (J (pv 0) aj))) aj)) aj)))),⟨_,Z,_,Z,a,b,Z,⟨_,cL.of ha⟩,⟨_,cL.of hb⟩,?_⟩⟩;have lz:(List.zipWith max st t).length=m:=()
 refine a0O (K:=K) (a:=a) (b:=b) (xs:=st.map V.int) (ys:=t.map V.int) () (λi us G=>aJ H G/\us=((List.zipWith max st t).take i).map V.int) ⟨aJ.refl _,Z⟩ (λi us G hi ⟨sG,ey⟩=>⟨cL.of (sG _ _ ha),cL.of (sG _ _ hb),?_⟩) (λi x y us G p G0 hx hy ⟨sG,ey⟩ nw=>?_) (λus G ⟨sG,ey⟩ pr hpr=>?_)
 ·rw[ey,aK,fP];exact eE (cG ())
 ·rw[d7]at hx hy;obtain⟨x',hx',rfl⟩:=mU.mp hx;obtain⟨y',hy',rfl⟩:=mU.mp hy;refine⟨_,Z,p,[x',y'],Z,cL.of nw.here,(by show 0<2;decide),λZ98 hM hb'=>⟨sG.trans nw.same,?_⟩⟩;have eM:Z98=max x' y':=by
   have h1:=hb' x' (aU ..);have h2:=hb' y' (bD _ (aU ..));grind
  have ez:(List.zipWith max st t)[i]?=some Z98:=by
   rw[List.getElem?_zipWith,hx',hy',eM]
  rw[ey,jQ,ez,eO];rfl
 ·rw[aK,l1,<-lz,gO]at ey;have n1:=gW.nY (o:=.lst us) hpr;generalize cI G pr (.lst us)=G1 at n1 ⊢;refine⟨pr,us,Z,.inl ⟨bM.of n1.here,λl hl=>?_⟩⟩;have n2:=gW.nY (o:=.tup us) hl;generalize cI G1 l (.tup us)=G2 at n2 ⊢;refine⟨(),λp3 G3 n3=>q p3 _ G3 (sG.trans (n1.same.trans (n2.same.trans n3.same))) n3.here (.cons ⟨l,Z,?_⟩ .nil)⟩;show G3 l=some (.tup ((List.zipWith max st t).map V.int));rw[<-ey];exact n3.same _ _ n2.here
def Lh(B:Bl mg)(d_:Dm K C "tied" "Watch.tied" pG sE)(At:Hp->Addr->Prop)(Ti:Int×Int->Prop):bf P w K mg base gb 1 d_.f d_.fd sE (Xe (ZR ws) At Ti):=by
 refine d_.F.ok Lb λeV A outer s H vs Q E hr h=>?_;obtain⟨d,a,p,m,cW,bA,t,st,rfl,hD,ha,ok,m5,o1,o2,ne,ti,hp,q⟩:=h;have l1:st.length=m:=ok.1;have hu:(A.deeper (PyProof.Rows.envOfC "Watch.tied" (aF pG) s⁻¹ d_.f eV)).units+64<cLine:=by have:=hr.un;omega
 refine⟨_,(aD (dD (aP (O4 (K:=K) Z hu) (bG (Pn (K:=K) Z) Z B.sorted () (J (cu (J (aQ (aN (K:=K) Z) (pv 1) (pv 2)) (J (aQ (aN (K:=K) Z) (pv 1) (pv 3)) aj))) aj)) (cu (J aq (J aq aj))))
   (aB (bF (cu (J (bw (J (pv 1) (J aq aj))) aj))))
   bO)
   (aB (bF (cu (J (bw (J (gq j9 Z B.tuple () (J (jF ["k","number","one","other"] [none,none,some 2,some 3]  (by kernel_rfl) Z (ı (K:=K) Z Z B.enumerate (J (pv 1) aj)) (λ_ _ _ _ _=>(jU (K:=K) (n:=2) Z Z (bZ (aM 0 (show(["k","number","one","other"]:List Str).Nodup by decide)) (bZ (aM 1 (show(["k","number","one","other"]:List Str).Nodup by decide)) jw)))) (λ_ _ _ _ _=>fQ) λ_ _ _ _ _=>(oN (aP (Η (K:=K) Z) (pv 0) (bw (J (pv 2) (J (pv 3) aj))) (by with_unfolding_all rfl)) (bG (Ls Z) Z B.max () (J (pv 1) (J aq aj))) (pv 1))) aj)) (J aq aj))) aj))))),?_⟩
 refine⟨_,Z,_,Z,a,_,_,_,Z,Z,cL.of ha,ZQ (),_,Z,_,Z,a,_,_,_,Z,Z,cL.of ha,ZQ (),(),λp1 H1 n1=>?_⟩;refine⟨p1,[gj st cW,gj st bA],Z,bM.of n1.here,by show 2<64;decide,λp2 H2 zs n2 pm sd=>?_⟩;refine⟨(),λp3 H3 n3=>?_⟩;have uU:=n1.same.trans (n2.same.trans n3.same);refine⟨_,_,.lst (bM.of (n3.same _ _ n2.here)) (zF.ints zs),.lst (bM.of (show H3 p3=some (.lst ([0,2].map V.int))from n3.here)) (zF.ints [0,2]),shaped_ints zs,shaped_ints _,_,Z,?_⟩;rw[Jl];have key:zs=[0,2]↔((gj st cW=0/\gj st bA=2)\/(gj st cW=2/\gj st bA=0)):=by
  constructor
  ·intro e;have pm:=pm;rw[e]at pm;have m1:gj st cW∈([0,2]:List Int):=pm.mem_iff.mpr (aU ..);have m2:gj st bA∈([0,2]:List Int):=pm.mem_iff.mpr (bD _ (aU ..));have m3:(0:Int)∈[gj st cW,gj st bA]:=pm.mem_iff.mp (aU ..);have m4:(2:Int)∈[gj st cW,gj st bA]:=pm.mem_iff.mp (bD _ (aU ..));simp only[List.mem_cons,List.not_mem_nil,or_false]at m1 m2 m3 m4;omega
  ·intro h;have ln:=pm.length_eq
   match zs,ln,pm,sd with
   | [x,y],_,pm,sd =>
    have hxy:x<=y:=(zZ.mp sd).1 y (bL.mpr Z);have m1:x∈[gj st cW,gj st bA]:=pm.mem_iff.mp (aU ..);have m2:y∈[gj st cW,gj st bA]:=pm.mem_iff.mp (bD _ (aU ..));have m3:gj st cW∈[x,y]:=pm.mem_iff.mpr (aU ..);have m4:gj st bA∈[x,y]:=pm.mem_iff.mpr (bD _ (aU ..));simp only[List.mem_cons,List.not_mem_nil,or_false]at m1 m2 m3 m4;have e1:x=0:=()
    have e2:y=2:=()
    rw[e1,e2]
 by_cases c:(gj st cW=0/\gj st bA=2)\/(gj st cW=2/\gj st bA=0)
 ·rw[bB (key.mpr c)];refine cX ⟨_,Z,a,Z,⟨_,cL.of (uU _ _ ha)⟩,?_⟩;have ll:(uI st cW bA).length=m:=by unfold uI;rw[aK,rW];exact l1
  refine Ĵ (K:=K) (a:=a) (xs:=st.map V.int) (λi us G=>aJ H3 G/\us=((uI st cW bA).take i).map V.int) ⟨aJ.refl _,Z⟩ (λi us G hi ⟨sG,ey⟩=>⟨cL.of (sG _ _ (uU _ _ ha)),?_⟩) (λi x us G pp G0 hx ⟨sG,ey⟩ nw=>?_) (λus G ⟨sG,ey⟩ pr hpr=>?_)
  ·rw[ey,aK,fP];exact eE (cG ())
  ·rw[d7]at hx;obtain⟨x',hx',rfl⟩:=mU.mp hx;have il:i<st.length:=(fO.mp hx').1;have ea:gj st i=x':=by
    unfold gj;rw[gw,hx'];rfl
   refine⟨pp,_,Z,cL.of nw.here,Z,_,_,Z,_,_,Z,Z,?_⟩;refine⟨_,Z,_,Z,_,Z,(),λp4 G4 n4=>⟨p4,_,Z,.inr (cL.of n4.here),Z,Z,_,Z,?_⟩⟩;have s4:=sG.trans (nw.same.trans n4.same);have el:(uI st cW bA)[i]?=some (if i=cW\/i=bA then max x' 1 else x'):=by
    unfold uI;rw[d7,Nx il,<-ea];rfl
   have nx:∀z:Int,z=(if i=cW\/i=bA then max x' 1 else x')->us++[V.int z]=((uI st cW bA).take (i+1)).map V.int:=λz hz=>by
    rw[ey,jQ,el,eO,hz];rfl
   by_cases ci:i=cW\/i=bA
   ·rw[show(if false=true then !inV (V.int (i:Int)) [V.int (cW:Int),V.int (bA:Int)]else inV (V.int (i:Int)) [V.int (cW:Int),V.int (bA:Int)])=true by
     rw[aA cY];exact in2.mpr ()]
    refine iD ⟨_,Z,_,_,Z,s4,nx _ ?_⟩;rw[aG ci];by_cases c1:(1:Int)>x'
    ·rw[aG c1];omega
    ·rw[aA c1];omega
   ·rw[show(if false=true then !inV (V.int (i:Int)) [V.int (cW:Int),V.int (bA:Int)]else inV (V.int (i:Int)) [V.int (cW:Int),V.int (bA:Int)])=false by
     rw[aA cY];exact xP.mpr (λz=>ci (by have:=in2.mp z;omega))]
    exact cX ⟨_,Z,s4,nx _ (by rw[aA ci])⟩
  ·rw[aK,l1,<-ll,gO]at ey;have m1:=gW.nY (o:=.lst us) hpr;generalize cI G pr (.lst us)=G1 at m1 ⊢;refine⟨pr,us,Z,.inl ⟨bM.of m1.here,λl hl=>?_⟩⟩;have m2:=gW.nY (o:=.tup us) hl;generalize cI G1 l (.tup us)=G2 at m2 ⊢;refine⟨(),λp4 G3 m3=>⟨(),λp5 G4 m4=>q p5 _ G4 (uU.trans (sG.trans (m1.same.trans (m2.same.trans (m3.same.trans m4.same))))) m4.here ?_⟩⟩;show Paired _ _ (if(gj st cW=0/\gj st bA=2)\/(gj st cW=2/\gj st bA=0)then [(uI st cW bA,(0:Int))]else [(st,0)]);rw[aG c];refine .cons ⟨p4,l,Z,m4.same _ _ m3.here,?_⟩ .nil;show G4 l=some (.tup ((uI st cW bA).map V.int));rw[<-ey];exact m4.same _ _ (m3.same _ _ m2.here)
 ·rw[cM (λz=>c (key.mp z))];refine iD ⟨_,Z,(),λp4 H4 n4=>⟨(),λp5 H5 n5=>q p5 _ H5 (uU.trans (n4.same.trans n5.same)) n5.here ?_⟩⟩;show Paired _ _ (if(gj st cW=0/\gj st bA=2)\/(gj st cW=2/\gj st bA=0)then [(uI st cW bA,(0:Int))]else [(st,0)]);rw[aA c];exact .cons ⟨p4,a,Z,n5.same _ _ n4.here,ha.keep (.of (uU.trans (n4.same.trans n5.same)))⟩ .nil
end
def Kpt(H H' G:Hp):Prop:=∀c u,(H c=none\/∀ys,u≠.lst ys)->H' c=some u->G c=some u
def zO.own{C:Addr}{ex:List (Str×V)}{n:Nat}{ts:List bY}{ws:List Int}{H H' G:Hp}{d dx pg pt l u pw:Addr}{xs:List V}(h1:H' d=some (.ins C dx (ū pg (.ref l) (.ref u)++(ex++[(("weights" : Str),V.ref pw)]))))(h2:H' pg=some (.tup [.int n,.ref pt]))(f3:H pt=none)(h3:H' pt=some (.lst xs))(h4:Paired (mX H') xs ts)(h5:ts.length<=1000)(h6:H' l=some (.tup []))(h7:H' u=some (.tup []))(f8:H pw=none)(h8:H' pw=some (.lst (ws.map V.int)))(k:Kpt H H' G):zO K C ex n ts ws G d :=
 ⟨dx,pg,pt,xs,l,u,pw,k _ _ (.inr λ_ z=>by cases z) h1,k _ _ (.inr λ_ z=>by cases z) h2,k _ _ (.inl f3) h3,Paired.bV h4 λ_ _ ⟨p,e,h⟩=>⟨p,e,k _ _ (.inr λ_ z=>by cases z) h⟩,h5,k _ _ (.inr λ_ z=>by cases z) h6,k _ _ (.inr λ_ z=>by cases z) h7,k _ _ (.inl f8) h8⟩
inductive Xz(K:aH)(C:Addr)(vs:List V)(H:Hp)(Q:VK)(u_3:XK):Prop
 |mk (d dx g t:Addr) (n:Nat) (xs:List V) (ts:List bY) (v:V) (o:Option (List Int)) (_:vs=[.ref d,.ref g,v]) (_:H d=some (.ins C dx [])) (_:cL K H g [.int n,.ref t]) (_:H t=some (.lst xs)) (_:Paired (mX H) xs ts) (_:ts.length<=1000) (_:n<=100) (_:WtV K H v o) (_:(∀ws,o=some ws->ws.length<=200)) (_:Zh n o=true) (_:∀H',Sd d H H'->(∀G,Kpt H H' G->zO K C [] n ts (wtL n o) G d)->Q .non H')
inductive a0Q(K:aH)(C:Addr)(vs:List V)(H:Hp)(Q:VK)(u_3:XK):Prop
 |mk (d dx g t:Addr) (n c:Nat) (xs:List V) (ts:List bY) (v:V) (o:Option (List Int)) (_:vs=[.ref d,.ref g,.int c,v]) (_:c<=4) (_:H d=some (.ins C dx [])) (_:cL K H g [.int n,.ref t]) (_:H t=some (.lst xs)) (_:Paired (mX H) xs ts) (_:ts.length<=1000) (_:n<=100) (_:WtV K H v o) (_:(∀ws,o=some ws->ws.length<=200)) (_:Zh n o=true) (_:∀H',Sd d H H'->(∀G,Kpt H H' G->zO K C [("many",.int c)] n ts (wtL n o) G d)->Q .non H')
def Sd.a6K{d C dx:Addr}{fs:List (Str×V)}{H H':Hp}{a:Addr}{xs:List V}(e:Sd d H H')(hd:H d=some (.ins C dx fs))(h:bM K H a xs):bM K H' a xs:=by
 rcases h with(h|⟨o,h⟩)|h
 ·exact .inl (.inl (e _ _ (λz=>by grind) h))
 ·exact .inl (.inr ⟨o,e _ _ (λz=>by grind) h⟩)
 ·exact .inr h
def Sd.tupI{d C dx:Addr}{fs:List (Str×V)}{H H':Hp}{a:Addr}{xs:List V}(e:Sd d H H')(hd:H d=some (.ins C dx fs))(h:cL K H a xs):cL K H' a xs:=by
 rcases h with(h|⟨o,h⟩)|h
 ·exact .inl (.inl (e _ _ (λz=>by grind) h))
 ·exact .inl (.inr ⟨o,e _ _ (λz=>by grind) h⟩)
 ·exact .inr h
def Sd.wtI{d C dx:Addr}{fs:List (Str×V)}{H H':Hp}(e:Sd d H H')(hd:H d=some (.ins C dx fs)):∀{v:V}{o:Option (List Int)},WtV K H v o->WtV K H' v o
 |_,none,h=>h
 |_,some _,⟨a,e1,h⟩=>⟨a,e1,e.a6K hd h⟩
def Sd.a3f{d C dx:Addr}{fs:List (Str×V)}{H H':Hp}(e:Sd d H H')(hd:H d=some (.ins C dx fs)){v:V}{t:Int×Int}(h:mX H v t):mX H' v t:=by
 obtain⟨p,e1,h⟩:=h;exact⟨p,e1,e _ _ (λz=>by grind) h⟩
def Li(B:Bl mg)(Ct:Ĩ mg)(cF:qH K mg)(dB:CZ K mg)(j5:Fd K mg)(jr:Dn K mg "is_below" fW tW)(sW:Dn K mg "weights_of" jY Gb):bf P w K mg base gb 5 dB.bN.f dB.bN.fd Ga (Xz K dB.C):=by
 have gU:bf P w K mg base gb 4 _ _ _ _:=(qJ B cF dB.cl dB.fK dB.ig dB.fV).mono ();have ķ:bf P w K mg base gb 4 _ _ _ _:=(uX B Ct j5 jr sW).mono ();refine dB.bN.F.ok CT (λvs H Q E h=>?_) (λeV A outer s H vs Q E hr h=>?_)
 ·obtain⟨d,dx,g,t,n,xs,ts,v,o,rfl,_⟩:=h;rfl
 obtain⟨d,dx,g,t,n,xs,ts,v,o,rfl,hd,hg,ht,pT,lT,n1,hV,hw,ok,q⟩:=h;refine⟨_,(aD (gY (Pr Z cF.m cF.uH gU hr cF.bN.b .nil b8 (J (pv 0) (J (pv 1) (J (bw aj) (J (bw aj) aj))))))
   (aB (Ai (pv 0) (bh ķ hr Z sW.m sW.F.kp sW.b .nil b8 (J (aQ (aN (K:=K) Z) (pv 1) aq) (J (pv 2) aj))) Z))),?_⟩
 refine⟨_,Z,_,Z,(),λp1 H1 m1=>⟨(),λp2 H2 m2=>?_⟩⟩;have s2:aJ H H2:=m1.same.trans m2.same;have lx:xs.length<=1000:=by rw[aV pT];exact lT
 refine⟨d,dx,g,t,n,xs,.ref p1,.ref p2,Z,s2 _ _ hd,s2.wC hg,s2 _ _ ht,lx,λpg pt H3 s3 ft h3d h3g h3t=>?_⟩;have e3:Sd d H H3:=λc o hc hh=>s3 c o hc (s2 _ _ hh);have np1:p1≠d:=λe=>by have:=m1.fresh;grind
 have np2:p2≠d:=λe=>by have:=m2.fresh;rw[e,m1.same _ _ hd]at this;cases this
 have h3l:H3 p1=some (.tup []):=s3 _ _ np1 (m2.same _ _ m1.here);have h3u:H3 p2=some (.tup []):=s3 _ _ np2 m2.here;refine⟨_,Z,g,_,_,V.int n,Z,Z,e3.tupI hd hg,cD (j:=0) Z,_,Z,n,v,o,Z,e3.wtI hd hV,n1,hw,ok,λpw H4 s4 f4 h4=>?_⟩;refine⟨_,Z,d,_,_,_,Z,s4 _ _ h3d,dB.cl,dB.fH,(by show 3<1000;decide),?_⟩;generalize hU:cI H4 d _=U;have u1:wF H4 d (.ins dB.C dx (ū pg (.ref p1) (.ref p2)++([]++[(("weights" : Str),V.ref pw)]))) U:=by rw[<-hU];exact wF.nY
 have up:∀c u,c≠d->H3 c=some u->U c=some u:=λc u hc e=>by rw[u1.rest c hc];exact s4 _ _ e
 have nd:∀c u,(∀dx fs,u≠.ins dB.C dx fs)->H3 c=some u->c≠d:=λc u hn e z=>by grind
 have dpw:pw≠d:=λe=>by grind
 have fw:H pw=none:=by
  cases hh:H pw with
  |none=>rfl
  |some u =>
   have:=e3 pw u (λz=>by rw[z,h3d]at f4;cases f4) hh;rw[f4]at this;cases this
 have pT4:Paired (mX U) xs ts:=Paired.bV pT λ_ _ h=>by
  obtain⟨pp,e1,e2⟩:=e3.a3f hd h;exact⟨pp,e1,up _ _ (nd _ _ (λ_ _ z=>by cases z) e2) e2⟩
 exact q U (λc u hc e=>up c u hc (e3 c u hc e)) λG k=>zO.own u1.here (up _ _ (nd _ _ (λ_ _ z=>by cases z) h3g) h3g) (s2.free ft) (up _ _ (nd _ _ (λ_ _ z=>by cases z) h3t) h3t) pT4 lT (up _ _ np1 h3l) (up _ _ np2 h3u) fw (by rw[u1.rest _ dpw];exact h4) k
def Lj(B:Bl mg)(Ct:Ĩ mg)(cF:qH K mg)(dw:Dc K mg)(j5:Fd K mg)(jr:Dn K mg "is_below" fW tW)(sW:Dn K mg "weights_of" jY Gb):bf P w K mg base gb 5 dw.bN.f dw.bN.fd Ga (Xz K dw.C):=by
 have gU:bf P w K mg base gb 4 _ _ _ _:=(qJ B cF dw.cl dw.fK dw.ig dw.fV).mono ();have ķ:bf P w K mg base gb 4 _ _ _ _:=(uX B Ct j5 jr sW).mono ();refine dw.bN.F.ok CV (λvs H Q E h=>?_) (λeV A outer s H vs Q E hr h=>?_)
 ·obtain⟨d,dx,g,t,n,xs,ts,v,o,rfl,_⟩:=h;rfl
 obtain⟨d,dx,g,t,n,xs,ts,v,o,rfl,hd,hg,ht,pT,lT,n1,hV,hw,ok,q⟩:=h;refine⟨_,(aD (gY (Pr Z cF.m cF.uH gU hr cF.bN.b .nil b8 (J (pv 0) (J (pv 1) (J (bw aj) (J (bw aj) aj))))))
   (aB (Ai (pv 0) (bh ķ hr Z sW.m sW.F.kp sW.b .nil b8 (J (aQ (aN (K:=K) Z) (pv 1) aq) (J (pv 2) aj))) Z))),?_⟩
 refine⟨_,Z,_,Z,(),λp1 H1 m1=>⟨(),λp2 H2 m2=>?_⟩⟩;have s2:aJ H H2:=m1.same.trans m2.same;have lx:xs.length<=1000:=by rw[aV pT];exact lT
 refine⟨d,dx,g,t,n,xs,.ref p1,.ref p2,Z,s2 _ _ hd,s2.wC hg,s2 _ _ ht,lx,λpg pt H3 s3 ft h3d h3g h3t=>?_⟩;have e3:Sd d H H3:=λc o hc hh=>s3 c o hc (s2 _ _ hh);have np1:p1≠d:=λe=>by have:=m1.fresh;grind
 have np2:p2≠d:=λe=>by have:=m2.fresh;rw[e,m1.same _ _ hd]at this;cases this
 have h3l:H3 p1=some (.tup []):=s3 _ _ np1 (m2.same _ _ m1.here);have h3u:H3 p2=some (.tup []):=s3 _ _ np2 m2.here;refine⟨_,Z,g,_,_,V.int n,Z,Z,e3.tupI hd hg,cD (j:=0) Z,_,Z,n,v,o,Z,e3.wtI hd hV,n1,hw,ok,λpw H4 s4 f4 h4=>?_⟩;refine⟨_,Z,d,_,_,_,Z,s4 _ _ h3d,dw.cl,dw.fH,(by show 3<1000;decide),?_⟩;generalize hU:cI H4 d _=U;have u1:wF H4 d (.ins dw.C dx (ū pg (.ref p1) (.ref p2)++([]++[(("weights" : Str),V.ref pw)]))) U:=by rw[<-hU];exact wF.nY
 have up:∀c u,c≠d->H3 c=some u->U c=some u:=λc u hc e=>by rw[u1.rest c hc];exact s4 _ _ e
 have nd:∀c u,(∀dx fs,u≠.ins dw.C dx fs)->H3 c=some u->c≠d:=λc u hn e z=>by grind
 have dpw:pw≠d:=λe=>by grind
 have fw:H pw=none:=by
  cases hh:H pw with
  |none=>rfl
  |some u =>
   have:=e3 pw u (λz=>by rw[z,h3d]at f4;cases f4) hh;rw[f4]at this;cases this
 have pT4:Paired (mX U) xs ts:=Paired.bV pT λ_ _ h=>by
  obtain⟨pp,e1,e2⟩:=e3.a3f hd h;exact⟨pp,e1,up _ _ (nd _ _ (λ_ _ z=>by cases z) e2) e2⟩
 exact q U (λc u hc e=>up c u hc (e3 c u hc e)) λG k=>zO.own u1.here (up _ _ (nd _ _ (λ_ _ z=>by cases z) h3g) h3g) (s2.free ft) (up _ _ (nd _ _ (λ_ _ z=>by cases z) h3t) h3t) pT4 lT (up _ _ np1 h3l) (up _ _ np2 h3u) fw (by rw[u1.rest _ dpw];exact h4) k
def GR(B:Bl mg)(Ct:Ĩ mg)(cF:qH K mg)(bQ:vH K mg)(j5:Fd K mg)(jr:Dn K mg "is_below" fW tW)(sW:Dn K mg "weights_of" jY Gb):bf P w K mg base gb 5 bQ.bN.f bQ.bN.fd W5 (a0Q K bQ.C):=by
 have gU:bf P w K mg base gb 4 _ _ _ _:=(qJ B cF bQ.cl bQ.fK bQ.ig bQ.fV).mono ();have ķ:bf P w K mg base gb 4 _ _ _ _:=(uX B Ct j5 jr sW).mono ();have ģ:bf P w K mg base gb 4 _ _ _ _:=(yj B j5 jr).mono ();refine bQ.bN.F.ok zH (λvs H Q E h=>?_) (λeV A outer s H vs Q E hr h=>?_)
 ·obtain⟨d,dx,g,t,n,c,xs,ts,v,o,rfl,_⟩:=h;rfl
 obtain⟨d,dx,g,t,n,c,xs,ts,v,o,rfl,c4,hd,hg,ht,pT,lT,n1,hV,hw,ok,q⟩:=h;refine⟨_,(aD (dD (tQ (fY (K:=K) Z (bh ģ hr Z jr.m jr.F.kp jr.b .nil b8 (J (bH fD (Oq (v:=.int 4) Z Ct.yq Ct.yr) aq) (J (pv 2) aj))) λ_=>rfl))
   (aB BP)
   bO)
   (aD (gY (Pr Z cF.m cF.uH gU hr cF.bN.b .nil b8 (J (pv 0) (J (pv 1) (J (bw aj) (J (bw aj) aj))))))
   (aD (Ai (pv 0) (pv 2) Z)
   (aB (Ai (pv 0) (bh ķ hr Z sW.m sW.F.kp sW.b .nil b8 (J (aQ (aN (K:=K) Z) (pv 1) aq) (J (pv 3) aj))) Z))))),?_⟩
 have bl:oR (4+1) (some (c:Int))=true:=bB (show 0<=(c:Int)/\(c:Int)<4+1 by omega);refine⟨_,_,Z,Z,_,Z,4+1,some (c:Int),Z,?_⟩;rw[bl];refine⟨_,Z,cX ⟨_,Z,_,Z,(),λp1 H1 m1=>⟨(),λp2 H2 m2=>?_⟩⟩⟩;have s2:aJ H H2:=m1.same.trans m2.same;have lx:xs.length<=1000:=by rw[aV pT];exact lT
 refine⟨d,dx,g,t,n,xs,.ref p1,.ref p2,Z,s2 _ _ hd,s2.wC hg,s2 _ _ ht,lx,λpg pt H3 s3 ft h3d h3g h3t=>?_⟩;have e3:Sd d H H3:=λc o hc hh=>s3 c o hc (s2 _ _ hh);have np1:p1≠d:=λe=>by have:=m1.fresh;grind
 have np2:p2≠d:=λe=>by have:=m2.fresh;rw[e,m1.same _ _ hd]at this;cases this
 have h3l:H3 p1=some (.tup []):=s3 _ _ np1 (m2.same _ _ m1.here);have h3u:H3 p2=some (.tup []):=s3 _ _ np2 m2.here;refine⟨_,Z,_,Z,d,_,_,_,Z,h3d,bQ.cl,bQ.JW,(by show 3<1000;decide),?_⟩;generalize hU0:cI H3 d _=U0;have u0:wF H3 d (.ins bQ.C dx (ū pg (.ref p1) (.ref p2)++[(("many" : Str),V.int c)])) U0:=by rw[<-hU0];exact wF.nY
 have e4:Sd d H U0:=λc' u hc hh=>by rw[u0.rest c' hc];exact e3 c' u hc hh
 refine⟨_,Z,g,_,_,V.int n,Z,Z,e4.tupI hd hg,cD (j:=0) Z,_,Z,n,v,o,Z,e4.wtI hd hV,n1,hw,ok,λpw H4 s4 f4 h4=>?_⟩;refine⟨_,Z,d,_,_,_,Z,s4 _ _ u0.here,bQ.cl,bQ.fH,(by show 4<1000;decide),?_⟩;generalize hU:cI H4 d _=U;have u1:wF H4 d (.ins bQ.C dx (ū pg (.ref p1) (.ref p2)++([(("many" : Str),V.int c)]++[(("weights" : Str),V.ref pw)]))) U:=by rw[<-hU];exact wF.nY
 have up:∀c' u,c'≠d->H3 c'=some u->U c'=some u:=λc' u hc e=>by
  rw[u1.rest c' hc];refine s4 _ _ ?_;rw[u0.rest c' hc];exact e
 have nd:∀c' u,(∀dx fs,u≠.ins bQ.C dx fs)->H3 c'=some u->c'≠d:=λc' u hn e z=>by grind
 have dpw:pw≠d:=λe=>by rw[e,u0.here]at f4;cases f4
 have fw:H pw=none:=by
  cases hh:H pw with
  |none=>rfl
  |some u =>
   have:=e4 pw u (λz=>by rw[z,u0.here]at f4;cases f4) hh;rw[f4]at this;cases this
 have pT4:Paired (mX U) xs ts:=Paired.bV pT λ_ _ h=>by
  obtain⟨pp,e1,e2⟩:=e3.a3f hd h;exact⟨pp,e1,up _ _ (nd _ _ (λ_ _ z=>by cases z) e2) e2⟩
 exact q U (λc' u hc e=>up c' u hc (e3 c' u hc e)) λG k=>zO.own u1.here (up _ _ (nd _ _ (λ_ _ z=>by cases z) h3g) h3g) (s2.free ft) (up _ _ (nd _ _ (λ_ _ z=>by cases z) h3t) h3t) pT4 lT (up _ _ np1 h3l) (up _ _ np2 h3u) fw (by rw[u1.rest _ dpw];exact h4) k
def Zn(c:Nat):∀m,m∈(Jv:List Str)->([(("many" : Str),V.int (c:Int))]).lookup m=none:=λm hm=>by
 have go:∀m∈(Jv:List Str),(m==("many" : Str))=false:=()
 rw[Io,go m hm];rfl
noncomputable def a3g(B:Bl mg)(D:vH K mg){c:Nat}(c4:c<=4)(n:Nat)(ts:List bY)(ws:List Int)(lw:ws.length=n)(j6:Dn K mg "with_number" fC wO)(j7:Dn K mg "without_number" cU wQ):Hl P w K mg base Key where
 C:=D.C
 cl:=D.cl
 knd:=cO P w
 pq:=Ŭ c ws
 At:=zO K D.C [("many",.int c)] n ts ws
 Pl:=λv=>v<n
 Ti:=λ_=>True
 n:=n
 ts:=ts
 keep:=λa h=>zO.keep a h
 ins:=λh=>zO.ins (Zn c) h
 ig:=D.ig
 fV:=D.fV
 fK:=D.fK
 nZ:=⟨_,_,D.eX.mt,D.eX.b,(qj D.eX _ Z _).mono ()⟩
 rz:=⟨_,_,D.jc.mt,D.jc.b,(uc D.jc _ Z _).mono ()⟩
 vq:=⟨_,_,D.jd.mt,D.jd.b,(ud D.jd _ Z _).mono ()⟩
 vy:=⟨_,_,D.je.mt,D.je.b,(Df B c4 D.cl D.JW D.je j6).mono ()⟩
 oh:=⟨_,_,D.eY.mt,D.eY.b,(yD c4 D.cl D.fH lw D.eY j7).mono ()⟩
 Ew:=⟨_,_,D.pH.mt,D.pH.b,(GF D.pH _ _).mono ()⟩
noncomputable def a3h(B:Bl mg)(D:CZ K mg)(n:Nat)(ts:List bY)(ws:List Int)(lw:ws.length=n)(j6:Dn K mg "with_number" fC wO)(j7:Dn K mg "without_number" cU wQ):Hl P w K mg base Key where
 C:=D.C
 cl:=D.cl
 knd:=cO P w
 pq:=ĭ ws
 At:=zO K D.C [] n ts ws
 Pl:=λv=>v<n
 Ti:=λ_=>True
 n:=n
 ts:=ts
 keep:=λa h=>zO.keep a h
 ins:=λh=>zO.ins (λ_ _=>rfl) h
 ig:=D.ig
 fV:=D.fV
 fK:=D.fK
 nZ:=⟨_,_,D.eX.mt,D.eX.b,(Bf D.eX _).mono ()⟩
 rz:=⟨_,_,D.jc.mt,D.jc.b,(uc D.jc _ Z _).mono ()⟩
 vq:=⟨_,_,D.jd.mt,D.jd.b,(ud D.jd _ Z _).mono ()⟩
 vy:=⟨_,_,D.je.mt,D.je.b,(GJ B D.je j6 _).mono ()⟩
 oh:=⟨_,_,D.eY.mt,D.eY.b,(Bh D.cl D.fH lw D.eY j7).mono ()⟩
 Ew:=⟨_,_,D.pH.mt,D.pH.b,(Lg D.pH _ _).mono ()⟩
noncomputable def a3i(B:Bl mg)(Bz:mg "zip" = none)(D:Dc K mg)(n:Nat)(ts:List bY)(ws:List Int)(lw:ws.length=n)(j6:Dn K mg "with_number" fC wO)(j7:Dn K mg "without_number" cU wQ):Hl P w K mg base Bool where
 C:=D.C
 cl:=D.cl
 knd:=Dk.Ju P w
 pq:=ZR ws
 At:=zO K D.C [] n ts ws
 Pl:=λv=>v<n
 Ti:=λ_=>True
 n:=n
 ts:=ts
 keep:=λa h=>zO.keep a h
 ins:=λh=>zO.ins (λ_ _=>rfl) h
 ig:=D.ig
 fV:=D.fV
 fK:=D.fK
 nZ:=⟨_,_,D.eX.mt,D.eX.b,(qj D.eX _ Z _).mono ()⟩
 rz:=⟨_,_,D.jc.mt,D.jc.b,(GP B D.jc _).mono ()⟩
 vq:=⟨_,_,D.jd.mt,D.jd.b,(GQ B Bz D.jd _).mono ()⟩
 vy:=⟨_,_,D.je.mt,D.je.b,(GK B D.je j6 _).mono ()⟩
 oh:=⟨_,_,D.eY.mt,D.eY.b,(Bj D.cl D.fH lw D.eY j7).mono ()⟩
 Ew:=⟨_,_,D.pH.mt,D.pH.b,(Lh B D.pH _ _).mono ()⟩
namespace Go
theorem zy:∀{xs ys:List Int},xs.Pairwise (· < ·)->ys.Pairwise (· < ·)->(∀v,v∈xs↔v∈ys)->xs=ys
 | [],[],_,_,_=>rfl
 | [],y::ys,_,_,h=>absurd ((h y).mpr aU) dW
 |x::xs,[],_,_,h=>absurd ((h x).mp aU) dW
 |x::xs,y::ys,hx,hy,h=>by
  rw[zZ]at hx hy
  have e:x=y:=by
   rcases b7.mp ((h x).mp aU)with h1|h1
   ·exact h1
   ·rcases b7.mp ((h y).mpr aU)with h2|h2
    ·exact h2.symm
    ·have a:=hy.1 x h1
     have b:=hx.1 y h2
     omega
  subst e
  rw[zy hx.2 hy.2 λv=>⟨λhv=>?_,λhv=>?_⟩]
  ·grind
  grind
end Go
structure Bk{κ:Type}(pq:PQ κ):Prop where
 leaf:pq.Ok 0 pq.leaf
 inn:∀{m s p v},pq.Ok m s->p<=m->(pq.inn s p v).length<=4/\∀x∈pq.inn s p v,pq.Ok (m+1) x.1
 tie:∀{m s a b t},pq.Ok m s->a<m->b<m->(pq.tie s a b t).length<=4/\∀x∈pq.tie s a b t,pq.Ok m x.1
 out:∀{m s p v},pq.Ok (m+1) s->p<m+1->(pq.out s p v).length<=4/\∀x∈pq.out s p v,pq.Ok m x.1
 jn:∀{m s t},pq.Ok m s->pq.Ok m t->(pq.jn s t).length<=4/\∀x∈pq.jn s t,pq.Ok m x
 fin:∀{m:Nat}{l:List dY},m<=4->l.Nodup->(∀s∈l,pq.Ok m s)->l.length<=900
def dN(T:cQ):Nat:=(T.map λx=>x.2.m.natAbs).sum
structure Bm{κ:Type}(pq:PQ κ)(m:Nat)(T:cQ):Prop where
 nd:(T.map (·.1)).Nodup
 ok:∀x∈T,pq.Ok m x.1
def Bm.nil{κ:Type}{pq:PQ κ}{m:Nat}:Bm pq m []:=⟨Ad,λ_ h=>absurd h dW⟩
def Bm.len{κ:Type}{pq:PQ κ}(pk:Bk pq){m:Nat}(h:Bm pq m T)(m4:m<=4):T.length<=900:=by
 have:=pk.fin m4 h.nd (λs hs=>by
  obtain⟨x,hx,rfl⟩:=gF.mp hs;exact h.ok x hx)
 rw[aK]at this;exact this
def Zq(T:cQ)(s:dY)(r:gR):(wI T s r).map (·.1)=if(T.any λx=>decide (x.1=s))=true then T.map (·.1)else T.map (·.1)++[s]:=by
 unfold wI;split
 ·rw[qt];refine zY λx _=>?_;grind
 grind
set_option tactic.hygienic true in
def a0R{κ:Type}{pq:PQ κ}{m:Nat}{s:dY}{r:gR}(h:Bm pq m T)(hs:pq.Ok m s):Bm pq m (wI T s r):=by
 have e:=Zq T s r;refine⟨?_,λx hx=>?_⟩
 ·rw[e];split
  ·exact h.nd
  ·rename_i c;refine xO.mpr ⟨h.nd,Du _ _,λa ha b hb ab=>?_⟩;grind
 ·have:x.1∈(wI T s r).map (·.1):=gF.mpr ⟨x,hx,Z⟩;rw[e]at this;split at this
  ·obtain⟨y,hy,ey⟩:=gF.mp this;rw[<-ey];exact h.ok y hy
  ·rcases cN.mp this with z|z
   ·obtain⟨y,hy,ey⟩:=gF.mp z;rw[<-ey];exact h.ok y hy
   grind
def XC{κ:Type}{pq:PQ κ}{bt:Int->Int->Bool}{m:Nat}{s:dY}{r:gR}(h:Bm pq m T)(hs:pq.Ok m s):Bm pq m (nA bt T s r):=by
 unfold nA;split<;>exact a0R h hs
def XD{s:dY}{r:gR}(nd:(T.map (·.1)).Nodup):dN (wI T s r)+((K1 T s).map λo=>o.m.natAbs).getD 0=dN T+r.m.natAbs:=by
 induction T with
 |nil=>exact Nat.add_comm (r.m.natAbs+0) 0
 |cons x T ih =>
  rw[cH,jP]at nd;have ih:=ih nd.2;unfold wI K1 at ih ⊢;by_cases c:x.1=s
  ·rw[tK,bB c,Bool.true_or,aG Z,zV (by exact bB c)];have e:(T.map λy=>if y.1=s then(y.1,r)else y)=T:=by
    have:∀y∈T,(λy:dY×gR=>if y.1=s then(y.1,r)else y) y=id y:=λy hy=>aA λz=>nd.1 (gF.mpr ⟨y,hy,z.trans c.symm⟩);rw[zY this,List.map_id]
   rw[cH,aG c,e];unfold dN;rw[cH,cH,vW,vW];show r.m.natAbs+_+x.2.m.natAbs=_;omega
  ·rw[tK,cM c,Bool.false_or,zW (by exact λz=>c (iI z))];by_cases d:(T.any λy=>decide (y.1=s))=true
   ·rw[aG d]at ih ⊢;rw[cH,aA c];unfold dN at ih ⊢;rw[cH,cH,vW,vW];omega
   ·rw[aA d]at ih ⊢;unfold dN at ih ⊢;rw[List.cons_append,cH,cH,vW,vW];omega
set_option tactic.hygienic true in
def RM{bt:Int->Int->Bool}{s:dY}{r:gR}(nd:(T.map (·.1)).Nodup):dN (nA bt T s r)<=dN T+r.m.natAbs:=by
 unfold nA;split
 ·rename_i e;have:=XD (s:=s) (r:=r) nd;omega
 ·rename_i o e;have:=XD (s:=s) (r:=⟨o.m+r.m,(vp bt r o).b,(vp bt r o).src⟩) nd;rw[e]at this;have h2:(o.m+r.m).natAbs<=o.m.natAbs+r.m.natAbs:=Int.natAbs_add_le _ _;have e3:((some o).map λo:gR=>o.m.natAbs).getD 0=o.m.natAbs:=rfl;rw[e3]at this;show dN (wI T s _)<=_;have:dN (wI T s ⟨o.m+r.m,(vp bt r o).b,(vp bt r o).src⟩)+o.m.natAbs=dN T+(o.m+r.m).natAbs:=this;omega
section
variable{κ:Type} [DecidableEq κ]
theorem Bo{pq:PQ κ}{bt:Int->Int->Bool}{m:Nat}{old:dY}{row:gR}:∀{l:List (dY×Int)}{T:cQ},Bm pq m T->(∀x∈l,pq.Ok m x.1)->Bm pq m (qO bt old row l T)/\dN (qO bt old row l T)<=dN T+l.length*row.m.natAbs
 | [],T,h,_=>⟨h,by show dN T<=dN T+0*_;omega⟩
 |x::l,T,h,hl=>by
  have h1:Bm pq m (nA bt T x.1 ⟨row.m,row.b+x.2,[old]⟩):=XC h (hl x (aU ..))
  have s1:=RM (bt:=bt) (s:=x.1) (r:=⟨row.m,row.b+x.2,[old]⟩) h.nd
  have s1:dN (nA bt T x.1 ⟨row.m,row.b+x.2,[old]⟩)<=dN T+row.m.natAbs:=s1
  obtain⟨h2,s2⟩:=Bo (bt:=bt) (old:=old) (row:=row) h1 (λy hy=>hl y (bD _ hy))
  refine⟨h2,cZ s2 ?_⟩
  rw[lN,Nat.succ_mul]
  omega
theorem J6{pq:PQ κ}{kh:bT}{B:List Int}{m m':Nat}:∀{S T:cQ},Bm pq m' T->(∀x∈S,pq.Ok m x.1)->(∀s,pq.Ok m s->(Vy pq s kh B).length<=4/\∀x∈Vy pq s kh B,pq.Ok m' x.1)->Bm pq m' (tX pq kh B S T)/\dN (tX pq kh B S T)<=dN T+4*dN S
 | [],T,h,_,_=>⟨h,by show dN T<=dN T+_;omega⟩
 |x::S,T,h,hS,hb=>by
  obtain⟨l4,ob⟩:=hb x.1 (hS x (aU ..))
  obtain⟨h1,s1⟩:=Bo (bt:=pq.bt) (old:=x.1) (row:=x.2) h ob
  obtain⟨h2,s2⟩:=J6 h1 (λy hy=>hS y (bD _ hy)) hb
  refine⟨h2,cZ s2 ?_⟩
  have e:dN (x::S)=x.2.m.natAbs+dN S:=by unfold dN;grind
  rw[e]
  have:(Vy pq x.1 kh B).length*x.2.m.natAbs<=4*x.2.m.natAbs:=Nat.mul_le_mul_right _ l4
  omega
def Zr{pq:PQ κ}(pk:Bk pq){kh:bT}{B:List Int}{m m':Nat}(m4:m'<=4){S:cQ}(hS:∀x∈S,pq.Ok m x.1)(hb:∀s,pq.Ok m s->(Vy pq s kh B).length<=4/\∀x∈Vy pq s kh B,pq.Ok m' x.1):a2N pq kh B S []:=by
 intro i hi x hx j hj;have h1:=(J6 (pq:=pq) (kh:=kh) (B:=B) (m:=m) (m':=m') (S:=S.take i) Bm.nil (λy hy=>hS y (lH hy)) hb).1;obtain⟨_,ob⟩:=hb x.1 (hS x (iU hx));have h2:=(Bo (bt:=pq.bt) (old:=x.1) (row:=x.2) (l:=(Vy pq x.1 kh B).take j) h1 λy hy=>ob y (lH hy)).1;have:=h2.len pk m4;omega
theorem J7{pq:PQ κ}{bt:Int->Int->Bool}{m:Nat}{cW bA:dY}{row more:gR}:∀{l:List dY}{T:cQ},Bm pq m T->(∀x∈l,pq.Ok m x)->Bm pq m (wU bt cW bA row more l T)/\dN (wU bt cW bA row more l T)<=dN T+l.length*(row.m.natAbs*more.m.natAbs)
 | [],T,h,_=>⟨h,by show dN T<=dN T+0*_;omega⟩
 |x::l,T,h,hl=>by
  have h1:Bm pq m (nA bt T x ⟨row.m*more.m,row.b+more.b,[cW,bA]⟩):=XC h (hl x (aU ..))
  have s1:=RM (bt:=bt) (s:=x) (r:=⟨row.m*more.m,row.b+more.b,[cW,bA]⟩) h.nd
  have s1:dN (nA bt T x ⟨row.m*more.m,row.b+more.b,[cW,bA]⟩)<=dN T+(row.m*more.m).natAbs:=s1
  rw[Int.natAbs_mul]at s1
  obtain⟨h2,s2⟩:=J7 (bt:=bt) (cW:=cW) (bA:=bA) (row:=row) (more:=more) h1 (λy hy=>hl y (bD _ hy))
  refine⟨h2,cZ s2 ?_⟩
  rw[lN,Nat.succ_mul]
  omega
theorem J8{pq:PQ κ}(pk:Bk pq){m:Nat}{cW:dY}{row:gR}(oo:pq.Ok m cW):∀{A T:cQ},Bm pq m T->(∀x∈A,pq.Ok m x.1)->Bm pq m (ou pq cW row A T)/\dN (ou pq cW row A T)<=dN T+4*(row.m.natAbs*dN A)
 | [],T,h,_=>⟨h,by show dN T<=dN T+_;omega⟩
 |x::A,T,h,hA=>by
  obtain⟨l4,oj⟩:=pk.jn oo (hA x (aU ..))
  obtain⟨h1,s1⟩:=J7 (bt:=pq.bt) (cW:=cW) (bA:=x.1) (row:=row) (more:=x.2) h oj
  obtain⟨h2,s2⟩:=J8 pk oo (row:=row) h1 (λy hy=>hA y (bD _ hy))
  refine⟨h2,cZ s2 ?_⟩
  have e:dN (x::A)=x.2.m.natAbs+dN A:=by unfold dN;grind
  rw[e,Nat.mul_add]
  have:=Nat.mul_le_mul_right (row.m.natAbs*x.2.m.natAbs) l4
  omega
theorem sum_filter(p:dY×gR->Bool):∀A:cQ,dN (A.filter p)<=dN A
 | []=>aL _
 |x::A=>by
  have ih:=sum_filter p A
  have e:dN (x::A)=x.2.m.natAbs+dN A:=by unfold dN;grind
  by_cases c:p x=true
  ·rw[Sx c]
   have e':dN (x::A.filter p)=x.2.m.natAbs+dN (A.filter p):=by unfold dN;grind
   omega
  grind
theorem PX{pq:PQ κ}(pk:Bk pq){m:Nat}{A:cQ}(hA:∀x∈A,pq.Ok m x.1):∀{S T:cQ},Bm pq m T->(∀x∈S,pq.Ok m x.1)->Bm pq m (jN pq A S T)/\dN (jN pq A S T)<=dN T+4*(dN S*dN A)
 | [],T,h,_=>⟨h,by show dN T<=dN T+_;omega⟩
 |x::S,T,h,hS=>by
  have hA':∀y∈gP pq x.1 A,pq.Ok m y.1:=λy hy=>hA y (kJ.mp hy).1
  obtain⟨h1,s1⟩:=J8 pk (hS x (aU ..)) (row:=x.2) h hA'
  obtain⟨h2,s2⟩:=PX pk hA h1 (λy hy=>hS y (bD _ hy))
  refine⟨h2,cZ s2 ?_⟩
  have e:dN (x::S)=x.2.m.natAbs+dN S:=by unfold dN;grind
  rw[e,Nat.add_mul]
  have f:dN (gP pq x.1 A)<=dN A:=sum_filter _ A
  have:=Nat.mul_le_mul_left x.2.m.natAbs f
  omega
def RN{pq:PQ κ}(pk:Bk pq){m:Nat}(m4:m<=4){A S:cQ}(hA:∀x∈A,pq.Ok m x.1)(hS:∀x∈S,pq.Ok m x.1):a0r pq A S []:=by
 intro i x hx j y hy l hl;have h1:=(PX pk hA (S:=S.take i) Bm.nil λz hz=>hS z (lH hz)).1;have ox:=hS x (iU hx);have h2:=(J8 pk ox (row:=x.2) (A:=(gP pq x.1 A).take j) h1 λz hz=>hA z (kJ.mp (lH hz)).1).1;have oy:=hA y (kJ.mp (iU hy)).1;have h3:=(J7 (bt:=pq.bt) (cW:=x.1) (bA:=y.1) (row:=x.2) (more:=y.2) (l:=(pq.jn x.1 y.1).take l) h2 λz hz=>(pk.jn ox oy).2 z (lH hz)).1;have:=h3.len pk m4;omega
end
namespace Go
def getD_at{ss:List bT}{i:Nat}{s:bT}(h:ss[i]?=some s):ss.getD i .leaf=s:=by
 rw[gw,h];rfl
section
variable{n:Nat}{ts:List bY}{ss:List bT}
def J9{i:Nat}{s:bT}(h:ss[i]?=some s)(g1:(aW n ts ss i).2=true)(g2:(aW n ts ss (i+1)).2=true):∃b,qd n ts (ss.take i) s (sH s (aW n ts ss i).1)=some b/\s.need<=(aW n ts ss i).1.pile.length/\(aW n ts ss (i+1)).1=⟨(aW n ts ss i).1.aR++[b],(aW n ts ss i).1.dH++[(aW n ts ss i).1.pile.drop (dZ s (aW n ts ss i).1)],(aW n ts ss i).1.pile.take (dZ s (aW n ts ss i).1)++[i]⟩:=by
 rw[RL,aG g1]at g2 ⊢;cases d:rA n ts ss i (aW n ts ss i).1 with
 |none=>grind
 |some r =>
  unfold rA at d;rw[getD_at h]at d;by_cases c:s.need<=(aW n ts ss i).1.pile.length
  ·rw[aG c]at d;obtain⟨b,hb,er⟩:=mU.mp d;exact⟨b,hb,c,er.symm⟩
  ·rw[aA c]at d;cases d
theorem XF(go:∀i,i<=ss.length->(aW n ts ss i).2=true)(dJ:n<=10){k:Nat}{s:bT}(h:ss[k]?=some s):∀j,k+1<=j->j<=ss.length->(aW n ts ss j).1.dH.getD k []=(aW n ts ss k).1.pile.drop (dZ s (aW n ts ss k).1)
 |0,h1,_=>absurd h1 ()
 |j+1,h1,h2=>by
  have kl:=(fO.mp h).1
  obtain⟨b,_,_,e⟩:=J9 (n:=n) (ts:=ts) (s:=ss[j]'()) (bR ()) (go j ()) (go (j+1) h2)
  have I:=jX dJ (go j ())
  rw[e]
  show((aW n ts ss j).1.dH++[_]).getD k []=_
  by_cases c:j=k
  ·subst c
   rw[gw,xr (by rw[I.fl];omega),I.fl,Ag]
   grind
  ·rw[gw,zU (by rw[I.fl];omega),<-gw]
   exact XF go dJ h j () ()
abbrev jH(n:Nat)(ts:List bY)(ss:List bT)(k:Nat):List Int:=(cB n ts ss).aR.getD k []
abbrev um(n:Nat)(ts:List bY)(ss:List bT)(k:Nat):List Nat:=(cB n ts ss).dH.getD k []
theorem VP(go:∀i,i<=ss.length->(aW n ts ss i).2=true)(dJ:n<=10){k:Nat}:∀j,k+1<=j->j<=ss.length->(aW n ts ss j).1.aR.getD k []=(aW n ts ss (k+1)).1.aR.getD k []
 |0,h1,_=>absurd h1 ()
 |j+1,h1,h2=>by
  by_cases c:j=k
  ·rw[c]
  obtain⟨b,_,_,e⟩:=J9 (n:=n) (ts:=ts) (s:=ss[j]'()) (bR ()) (go j ()) (go (j+1) h2)
  have I:=jX dJ (go j ())
  rw[e]
  show((aW n ts ss j).1.aR++[_]).getD k []=_
  rw[gw,zU (by rw[I.tl];omega),<-gw]
  exact VP go dJ j () ()
def P0(go:∀i,i<=ss.length->(aW n ts ss i).2=true)(dJ:n<=10){k j:Nat}(h1:k+1<=j)(h2:j<=ss.length):(aW n ts ss j).1.aR.getD k []=jH n ts ss k:=by
 rw[VP go dJ j h1 h2];exact(VP go dJ ss.length () (aL _)).symm
structure StE(n:Nat)(ts:List bY)(ss:List bT)(k:Nat)(s:bT):Prop where
 aZ:qd n ts (ss.take k) s ((um n ts ss k).map (jH n ts ss))=some (jH n ts ss k)
 len:(um n ts ss k).length=s.need
 lt:∀j∈um n ts ss k,j<k
 pile:(aW n ts ss (k+1)).1.pile=(aW n ts ss k).1.pile.take (dZ s (aW n ts ss k).1)++[k]
 feed:um n ts ss k=(aW n ts ss k).1.pile.drop (dZ s (aW n ts ss k).1)
def Bp(go:∀i,i<=ss.length->(aW n ts ss i).2=true)(dJ:n<=10){k:Nat}{s:bT}(h:ss[k]?=some s):StE n ts ss k s:=by
 have kl:=(fO.mp h).1;obtain⟨b,hb,hn,e⟩:=J9 (n:=n) (ts:=ts) h (go k ()) (go (k+1) ());have I:=jX dJ (go k ());have ef:um n ts ss k=(aW n ts ss k).1.pile.drop (dZ s (aW n ts ss k).1):=XF go dJ h ss.length () (aL _);have lt:∀j∈um n ts ss k,j<k:=λj hj=>by
  rw[ef]at hj;exact I.lt j (vM hj)
 have eu:sH s (aW n ts ss k).1=(um n ts ss k).map (jH n ts ss):=by
  unfold sH;rw[<-ef];exact zY λj hj=>P0 go dJ (lt j hj) ()
 have eb:jH n ts ss k=b:=by
  rw[<-P0 go dJ (Nat.le_refl (k+1)) (),e];show((aW n ts ss k).1.aR++[b]).getD k []=b;rw[gw,xr (by rw[I.tl];omega),I.tl,Ag];rfl
 refine⟨by rw[eb,<-eu];exact hb,?_,lt,by rw[e],ef⟩;rw[ef,lQ];unfold dZ;omega
def zA(p:Int->Bool):(Qw p).Pairwise (· < ·):=by
 unfold Qw;refine Ii _ ?_;rw[DR];exact List.pairwise_lt_range.imp λh=>by omega
def VR{l:List α}(h:l.length=1):∃i,l=[i]:=by
 rcases l with _|⟨i,_|⟨j,l⟩⟩
 ·cases h
 ·grind
 ·cases h
def two_of{l:List α}(h:l.length=2):∃i j,l=[i,j]:=by
 rcases l with _|⟨i,_|⟨j,_|⟨x,l⟩⟩⟩
 ·cases h
 ·cases h
 ·grind
 ·cases h
inductive StB(n:Nat)(ts:List bY)(ss:List bT)(k:Nat):bT->Prop
 |leaf:um n ts ss k=[]->jH n ts ss k=[]->StB n ts ss k .leaf
 |inn {i v}:um n ts ss k=[i]->i<k->0<=v->v<(n:Int)->v∉jH n ts ss i->jH n ts ss k=gQ (jH n ts ss i) [v]->bT.out v∉ss.take k->StB n ts ss k (.inn v)
 |tie {i a b}:um n ts ss k=[i]->i<k->(a,b)∈ts->a∈jH n ts ss i->b∈jH n ts ss i->jH n ts ss k=jH n ts ss i->StB n ts ss k (.tie a b)
 |out {i v}:um n ts ss k=[i]->i<k->v∈jH n ts ss i->jH n ts ss k=qi (jH n ts ss i) [v]->bT.out v∉ss.take k->StB n ts ss k (.out v)
 |join {i j}:um n ts ss k=[i,j]->i<k->j<k->jH n ts ss i=jH n ts ss j->jH n ts ss k=jH n ts ss i->StB n ts ss k .join
set_option tactic.hygienic true in
def a0S{k:Nat}{s:bT}(S:StE n ts ss k s):StB n ts ss k s:=by
 have hb:=S.aZ;cases s with
 |leaf=>exact .leaf (Nq.mp S.len) (dM hb).symm
 |inn v =>
  obtain⟨i,ei⟩:=VR S.len;have lt:=S.lt i ();rw[ei]at hb;unfold qd at hb;dsimp only at hb;split at hb
  ·rename_i c;exact .inn ei lt c.1.1 c.1.2 c.2.1 (dM hb).symm c.2.2
  ·cases hb
 |tie a b =>
  obtain⟨i,ei⟩:=VR S.len;have lt:=S.lt i ();rw[ei]at hb;unfold qd at hb;dsimp only at hb;split at hb
  ·rename_i c;have c2:qi [a,b] (jH n ts ss i)=[]:=c.2.1;have mm:∀x∈[a,b],x∈jH n ts ss i:=λx hx=>by
    cases d:decide (x∈jH n ts ss i)with
    |true=>grind
    |false =>
     have:x∈qi [a,b] (jH n ts ss i):=kJ.mpr ⟨hx,by rw[d];rfl⟩;grind
   exact .tie ei lt c.1 (mm a (by simp)) (mm b (by simp)) (dM hb).symm
  ·cases hb
 |out v =>
  obtain⟨i,ei⟩:=VR S.len;have lt:=S.lt i ();rw[ei]at hb;unfold qd at hb;dsimp only at hb;split at hb
  ·rename_i c;exact .out ei lt c.1 (dM hb).symm c.2
  ·cases hb
 |join =>
  obtain⟨i,j,ei⟩:=two_of S.len;have lt:=S.lt i (by rw[ei];simp);have lt':=S.lt j (by rw[ei];simp);rw[ei]at hb;unfold qd at hb;dsimp only at hb;split at hb
  ·rename_i c;exact .join ei lt lt' c (dM hb).symm
  ·cases hb
def Ĺ(dJ:n<=10)(all:∀(k:Nat) (s:bT),ss[k]?=some s->StB n ts ss k s):∀k,k<ss.length->(jH n ts ss k).Pairwise (· < ·)/\∀v∈jH n ts ss k,0<=v/\v<(n:Int):=by
 intro k
 induction k using Nat.strongRecOn with
 |_ k ih =>
  intro kl;have S:=all k _ (bR kl);generalize ss[k]=s at S;cases S with
  |leaf _ e=>rw[e];exact⟨.nil,λv h=>absurd h dW⟩
  | @inn i v _ lt v0 vn _ e _ =>
   rw[e];refine⟨zA _,λx hx=>?_⟩;have:=(zf.mp hx).2.2;rcases iI this with h|h
   ·exact(ih i lt ()).2 x h
   ·rw[bL.mp h];exact⟨v0,vn⟩
  | @tie i a b _ lt _ _ _ e=>rw[e];exact ih i lt ()
  | @out i v _ lt _ e _ =>
   rw[e];have:=ih i lt ();exact⟨this.1.filter _,λx hx=>this.2 x (kJ.mp hx).1⟩
  | @join i j _ lt _ _ e=>rw[e];exact ih i lt ()
def vJ(dJ:n<=10){p q:List Int}(hp:∀v∈p,0<=v/\v<(n:Int))(hq:∀v∈q,0<=v/\v<(n:Int)){v:Int}:v∈gQ p q↔v∈p\/v∈q:=by
 refine⟨λh=>iI (zf.mp h).2.2,λh=>zf.mpr ?_⟩;grind
def Fl(dJ:n<=10){p q:List Int}(ap:p.Pairwise (· < ·))(hp:∀v∈p,0<=v/\v<(n:Int))(h:∀v∈q,v∈p):gQ p q=p/\gQ q p=p:=by
 have hq:=λv hv=>hp v (h v hv);refine⟨zy (zA _) ap λv=>?_,zy (zA _) ap λv=>?_⟩
 ·rw[vJ dJ hp hq];exact⟨λz=>z.elim id (h v),.inl⟩
 ·rw[vJ dJ hq hp];exact⟨λz=>z.elim (h v) id,.inr⟩
def MN{b:List Int}(h:b.Pairwise (· < ·)):b.Nodup:=h.imp λh=>by omega
def XH(dJ:n<=10){p:List Int}{v:Int}(ap:p.Pairwise (· < ·))(hp:∀v∈p,0<=v/\v<(n:Int))(hv:0<=v/\v<(n:Int))(h:v∉p):(gQ p [v]).length=p.length+1:=by
 have:(gQ p [v]).Perm (v::p):=(HN (MN (zA _)) (jP.mpr ⟨h,MN ap⟩)).mpr λx=>by
  show x∈gQ p [v]↔_;rw[show x∈gQ p [v]↔x∈p\/x∈[v]from vJ dJ hp (λy hy=>by rw[bL.mp hy];exact hv)];simp[or_comm]
 rw[this.length_eq];rfl
def XJ{p:List Int}{v:Int}(ap:p.Pairwise (· < ·))(h:v∈p):(qi p [v]).length+1=p.length:=by
 have:(qi p [v]).Perm (p.erase v):=(HN ((MN ap).filter _) ((MN ap).erase v)).mpr λx=>by
  rw[(MN ap).mem_erase_iff,kJ];simp[and_comm]
 rw[this.length_eq,List.length_erase_of_mem h];grind
theorem RQ(go:∀i,i<=ss.length->(aW n ts ss i).2=true)(dJ:n<=10):∀i,i<=ss.length->(aW n ts ss i).1.pile.Pairwise (· < ·)
 |0,_=>.nil
 |i+1,il=>by
  have S:=Bp (n:=n) (ts:=ts) go dJ (List.getElem?_eq_getElem (show i<ss.length by omega))
  have I:=jX dJ (go i ())
  rw[S.pile]
  refine S9.mpr ⟨(RQ go dJ i ()).sublist (Nz _ _),Du _ _,λa ha b hb=>?_⟩
  rw[bL.mp hb]
  exact I.lt a (lH ha)
end
end Go
namespace Go
section
variable{κ:Type} [DecidableEq κ]
variable{n:Nat}{ts:List bY}{ss:List bT}
abbrev zM(pq:PQ κ)(n:Nat)(ts:List bY)(ss:List bT)(k:Nat):List cQ:=K8 pq ss (cB n ts ss).aR (cB n ts ss).dH k
def Qa(pq:PQ κ){k j:Nat}(h:j<k):(zM pq n ts ss (k+1)).getD j []=(zM pq n ts ss k).getD j []:=by
 show(zM pq n ts ss k++[_]).getD j []=_;rw[gw,zU (by rw[nH];exact h),<-gw]
def Qc(pq:PQ κ)(k:Nat):(zM pq n ts ss (k+1)).getD k []=K7 pq (cB n ts ss).aR (zM pq n ts ss k) (ss.getD k .leaf) (jH n ts ss k) (um n ts ss k):=by
 show(zM pq n ts ss k++[_]).getD k []=_;rw[gw,xr (by rw[nH];grind),nH,Ag];rfl
theorem Qd(pq:PQ κ){j:Nat}:∀{k:Nat},j<k->(zM pq n ts ss k).getD j []=(zM pq n ts ss (j+1)).getD j []
 |0,h=>absurd h (Ac _)
 |k+1,h=>by
  by_cases c:j=k
  ·rw[c]
  ·rw[Qa pq (show j<k by omega)]
   exact Qd pq ()
structure GoI(pq:PQ κ)(n:Nat)(ts:List bY)(ss:List bT)(k:Nat):Prop where
 ok:∀j,j<k->Bm pq (jH n ts ss j).length ((zM pq n ts ss k).getD j [])
 cost:∃c:Nat->Nat,(∀j,j<k->dN ((zM pq n ts ss k).getD j [])<=16^c j)/\((aW n ts ss k).1.pile.map c).sum<=k
theorem ĺ{c:Nat->Nat}:∀{l:List Nat}{i:Nat},i∈l->c i<=(l.map c).sum
 |a::l,i,h=>by
  rw[cH,vW]
  rcases b7.mp h with h|h
  ·rw[h];omega
  ·have:=ĺ (c:=c) h
   omega
theorem a5j:∀{T:cQ}{x:dY×gR},x∈T->x.2.m.natAbs<=dN T
 |y::T,x,h=>by
  have e:dN (y::T)=y.2.m.natAbs+dN T:=by unfold dN;grind
  rw[e]
  rcases b7.mp h with h|h
  ·rw[h];omega
  ·have:=a5j h
   omega
def RT{c:Nat}(h:dN T<=16^c)(l:c<=800):qC T:=λx hx=>by
 have h1:=a5j hx;have e:(16:Nat)^c=2^(4*c):=by rw[Nat.pow_mul]
 have:(2:Nat)^(4*c)<2^4000:=Nat.pow_lt_pow_right () ();omega
def Qe{B:List Int}{v:Int}(h:v∈B):B.idxOf v<B.length:=Z5 h
def Ka(Qn:Hl P w K mg base κ)(pk:Bk Qn.pq){aR:List (List Int)}{iW:List cQ}{kh:bT}{aZ:List Int}{i:Nat}(nj:kh≠.join)(il:i<iW.length)(hT:Bm Qn.pq (aR.getD i []).length (iW.getD i []))(m4:(aR.getD i []).length<=4)(b4:aZ.length<=4)(fit:Hq Qn kh (gQ aZ (aR.getD i [])) (aR.getD i []).length)
  (hb:∀s,Qn.pq.Ok (aR.getD i []).length s->(Vy Qn.pq s kh (gQ aZ (aR.getD i []))).length<=4/\∀x∈Vy Qn.pq s kh (gQ aZ (aR.getD i [])),Qn.pq.Ok aZ.length x.1):Ar Qn aR iW kh aZ [i]/\Bm Qn.pq aZ.length (K7 Qn.pq aR iW kh aZ [i])/\dN (K7 Qn.pq aR iW kh aZ [i])<=4*dN (iW.getD i []):=by
 have l9:=hT.len pk m4;obtain⟨h1,h2⟩:=J6 (pq:=Qn.pq) (kh:=kh) (B:=gQ aZ (aR.getD i [])) (S:=iW.getD i []) Bm.nil hT.ok hb;refine⟨⟨nj,il,hT.ok,fit,(),Zr pk b4 hT.ok hb⟩,h1,?_⟩;have e:dN []=0:=rfl;rw[e,Nat.zero_add]at h2;exact h2
def two_step(Qn:Hl P w K mg base κ)(pk:Bk Qn.pq){aR:List (List Int)}{iW:List cQ}{aZ:List Int}{i j m ci cj:Nat}(il:i<iW.length)(jl:j<iW.length)(nij:i≠j)(em:aZ.length=m)(m4:m<=4)(hi:Bm Qn.pq m (iW.getD i []))(hj:Bm Qn.pq m (iW.getD j []))(si:dN (iW.getD i [])<=16^ci)(sj:dN (iW.getD j [])<=16^cj)(li:ci<=800)(lj:cj<=800):Ar Qn aR iW .join aZ [i,j]/\Bm Qn.pq aZ.length (K7 Qn.pq aR iW .join aZ [i,j])/\dN (K7 Qn.pq aR iW .join aZ [i,j])<=4*(dN (iW.getD i [])*dN (iW.getD j [])):=by
 have l1:=hi.len pk m4;have l2:=hj.len pk m4;obtain⟨h1,h2⟩:=PX pk (A:=iW.getD j []) hj.ok (S:=iW.getD i []) Bm.nil hi.ok;refine⟨⟨Z,il,jl,nij,m,(),hi.ok,hj.ok,hj.nd,(),l2,RT si li,RT sj lj,RN pk m4 hj.ok hi.ok⟩,by rw[em];exact h1,?_⟩;have e:dN []=0:=rfl;rw[e,Nat.zero_add]at h2;exact h2
def pow_step{c x:Nat}(h:x<=16^c):4*x<=16^(1+c):=by
 grind
def XM(Qn:Hl P w K mg base κ)(pk:Bk Qn.pq)(hPl:∀k:Nat,k<Qn.n->Qn.Pl k)(hTi:∀t∈Qn.ts,Qn.Ti t)(ne:∀t∈Qn.ts,t.1≠t.2)(dJ:Qn.n<=10)(l8:ss.length<=800)(qI:Bx Qn.n Qn.ts ss (cB Qn.n Qn.ts ss)=.ok)(b4:∀b∈(cB Qn.n Qn.ts ss).aR,b.length<=4){k:Nat}(kl:k<ss.length)(I:GoI Qn.pq Qn.n Qn.ts ss k):Ar Qn (cB Qn.n Qn.ts ss).aR (zM Qn.pq Qn.n Qn.ts ss k) (ss.getD k .leaf) (jH Qn.n Qn.ts ss k) (um Qn.n Qn.ts ss k)/\GoI Qn.pq Qn.n Qn.ts ss (k+1):=by
 have go:=ĩ dJ qI;have RI:=zx dJ qI;have all:∀(k:Nat) (s:bT),ss[k]?=some s->StB Qn.n Qn.ts ss k s:=λk s h=>a0S (Bp go dJ h);have tp:=Ĺ dJ all;have t4:∀j,j<ss.length->(jH Qn.n Qn.ts ss j).length<=4:=λj hj=>by
  have hl:j<(cB Qn.n Qn.ts ss).aR.length:=by rw[RI.tl];exact hj
  have e:jH Qn.n Qn.ts ss j=(cB Qn.n Qn.ts ss).aR[j]:=by
   show(cB Qn.n Qn.ts ss).aR.getD j []=_;rw[gw,bR hl];rfl
  rw[e];exact b4 _ (oK hl)
 have hs:=bR kl;have S:=Bp (n:=Qn.n) (ts:=Qn.ts) go dJ hs;have SB:=a0S S;have es:=getD_at hs;obtain⟨c,hc,hsum⟩:=I.cost;have c8:∀i∈um Qn.n Qn.ts ss k,c i<=800:=λi hi=>by
  have:c i<=_:=ĺ (c:=c) (l:=(aW Qn.n Qn.ts ss k).1.pile) (by rw[S.feed]at hi;exact vM hi);omega
 suffices h:Ar Qn (cB Qn.n Qn.ts ss).aR (zM Qn.pq Qn.n Qn.ts ss k) (ss.getD k .leaf) (jH Qn.n Qn.ts ss k) (um Qn.n Qn.ts ss k)/\Bm Qn.pq (jH Qn.n Qn.ts ss k).length (K7 Qn.pq (cB Qn.n Qn.ts ss).aR (zM Qn.pq Qn.n Qn.ts ss k) (ss.getD k .leaf) (jH Qn.n Qn.ts ss k) (um Qn.n Qn.ts ss k))/\dN (K7 Qn.pq (cB Qn.n Qn.ts ss).aR (zM Qn.pq Qn.n Qn.ts ss k) (ss.getD k .leaf) (jH Qn.n Qn.ts ss k) (um Qn.n Qn.ts ss k))<=16^(1+((um Qn.n Qn.ts ss k).map c).sum) by
  obtain⟨h1,h2,h3⟩:=h;refine⟨h1,⟨λj hj=>?_,λj=>if j=k then 1+((um Qn.n Qn.ts ss k).map c).sum else c j,λj hj=>?_,?_⟩⟩
  ·by_cases e:j=k
   ·rw[e,Qc];exact h2
   ·rw[Qa _ ()];exact I.ok j ()
  ·show dN _<=16^(if j=k then 1+((um Qn.n Qn.ts ss k).map c).sum else c j);by_cases e:j=k
   ·rw[aG e,e,Qc];exact h3
   ·rw[aA e,Qa _ ()];exact hc j ()
  ·have Z97:=jX dJ (go k ());rw[S.pile,eO,List.sum_append];have e1:((aW Qn.n Qn.ts ss k).1.pile.take (dZ ss[k] (aW Qn.n Qn.ts ss k).1)).map (λj=>if j=k then 1+((um Qn.n Qn.ts ss k).map c).sum else c j)=((aW Qn.n Qn.ts ss k).1.pile.take (dZ ss[k] (aW Qn.n Qn.ts ss k).1)).map c:=zY λj hj=>aA (by have:=Z97.lt j (lH hj);omega);have e2:([k].map λj=>if j=k then 1+((um Qn.n Qn.ts ss k).map c).sum else c j).sum=1+((um Qn.n Qn.ts ss k).map c).sum:=by
    show(if k=k then 1+((um Qn.n Qn.ts ss k).map c).sum else c k)+0=_;rw[aG Z,Nat.add_zero]
   rw[e1,e2,S.feed];have e3:((aW Qn.n Qn.ts ss k).1.pile.map c).sum=(((aW Qn.n Qn.ts ss k).1.pile.take (dZ ss[k] (aW Qn.n Qn.ts ss k).1)).map c).sum+(((aW Qn.n Qn.ts ss k).1.pile.drop (dZ ss[k] (aW Qn.n Qn.ts ss k).1)).map c).sum:=by
    rw[<-List.sum_append,<-eO,xK]
   omega
 rw[es];have lk:(zM Qn.pq Qn.n Qn.ts ss k).length=k:=nH _ _ _ _ k;have pa:=RQ (n:=Qn.n) (ts:=Qn.ts) go dJ k ();have fd:=S.feed;obtain⟨ak,bk⟩:=tp k kl;have k4:=t4 k kl;generalize ss[k]=s at SB fd ⊢;cases SB with
 |leaf ef et =>
  rw[ef,et];refine⟨trivial,⟨Du _ _,λx hx=>?_⟩,by show 1<=16^1;decide⟩;rw[bL.mp hx];exact pk.leaf
 | @inn i v ef lt v0 vn nv et _ =>
  obtain⟨ai,bi⟩:=tp i ();have ci:=hc i lt;have e1:gQ (jH Qn.n Qn.ts ss k) (jH Qn.n Qn.ts ss i)=jH Qn.n Qn.ts ss k:=(Fl dJ ak bk λx hx=>by rw[et];exact(vJ dJ bi λy hy=>by rw[bL.mp hy];exact⟨v0,vn⟩).mpr (.inl hx)).1;have e2:(jH Qn.n Qn.ts ss k).length=(jH Qn.n Qn.ts ss i).length+1:=by rw[et];exact XH dJ ai bi ⟨v0,vn⟩ nv
  have vk:v∈jH Qn.n Qn.ts ss k:=by rw[et];exact(vJ dJ bi λy hy=>by rw[bL.mp hy];exact⟨v0,vn⟩).mpr (.inr (List.mem_singleton_self v))
  rw[ef];obtain⟨h1,h2,h3⟩:=Ka Qn pk (aR:=(cB Qn.n Qn.ts ss).aR) (iW:=zM Qn.pq Qn.n Qn.ts ss k) (kh:=.inn v) (aZ:=jH Qn.n Qn.ts ss k) (i:=i) (λz=>by cases z) () (I.ok i lt) (t4 i ()) k4 (by
   rw[e1];exact⟨⟨v.toNat,()⟩,vk,e2,t4 i ()⟩) (λs hs=>by
   rw[e1];have q:(jH Qn.n Qn.ts ss k).idxOf v<(jH Qn.n Qn.ts ss i).length+1:=by rw[<-e2];exact Qe vk
   obtain⟨g1,g2⟩:=pk.inn (p:=(jH Qn.n Qn.ts ss k).idxOf v) (v:=v.toNat) hs (Nat.le_of_lt_succ q);exact⟨g1,λx hx=>by rw[e2];exact g2 x hx⟩)
  exact⟨h1,h2,cZ h3 (pow_step (by rw[Tt,Tv];exact ci))⟩
 | @tie i a b ef lt ht ma mb et =>
  obtain⟨ai,bi⟩:=tp i ();have ci:=hc i lt;have e1:gQ (jH Qn.n Qn.ts ss k) (jH Qn.n Qn.ts ss i)=jH Qn.n Qn.ts ss i:=by rw[et];exact(Fl dJ ai bi λ_ h=>h).1
  rw[ef];obtain⟨h1,h2,h3⟩:=Ka Qn pk (aR:=(cB Qn.n Qn.ts ss).aR) (iW:=zM Qn.pq Qn.n Qn.ts ss k) (kh:=.tie a b) (aZ:=jH Qn.n Qn.ts ss k) (i:=i) (λz=>by cases z) () (I.ok i lt) (t4 i ()) k4 (by
   rw[e1];exact⟨ma,mb,ne _ ht,Z,Nat.le_succ_of_le (t4 i ()),hTi _ ht⟩) (λs hs=>by
   rw[e1,et];exact pk.tie hs (Qe ma) (Qe mb))
  exact⟨h1,h2,cZ h3 (pow_step (by rw[Tt,Tv];exact ci))⟩
 | @out i v ef lt mv et _ =>
  obtain⟨ai,bi⟩:=tp i ();have ci:=hc i lt;have e1:gQ (jH Qn.n Qn.ts ss k) (jH Qn.n Qn.ts ss i)=jH Qn.n Qn.ts ss i:=(Fl dJ ai bi λx hx=>by rw[et]at hx;exact(kJ.mp hx).1).2;have e2:(jH Qn.n Qn.ts ss k).length+1=(jH Qn.n Qn.ts ss i).length:=by rw[et];exact XJ ai mv
  have bv:=bi v mv;rw[ef];obtain⟨h1,h2,h3⟩:=Ka Qn pk (aR:=(cB Qn.n Qn.ts ss).aR) (iW:=zM Qn.pq Qn.n Qn.ts ss k) (kh:=.out v) (aZ:=jH Qn.n Qn.ts ss k) (i:=i) (λz=>by cases z) () (I.ok i lt) (t4 i ()) k4 (by
   rw[e1];exact⟨⟨v.toNat,(),hPl _ ()⟩,mv,Z,Nat.le_succ_of_le (t4 i ())⟩) (λs hs=>by
   rw[e1];have hs':Qn.pq.Ok ((jH Qn.n Qn.ts ss k).length+1) s:=by rw[e2];exact hs
   exact pk.out hs' (by rw[e2];exact Qe mv))
  exact⟨h1,h2,cZ h3 (pow_step (by rw[Tt,Tv];exact ci))⟩
 | @join i j ef lt lt' eij et =>
  have nij:i≠j:=λz=>by
   have pd:=pa.sublist (List.drop_sublist (dZ .join (aW Qn.n Qn.ts ss k).1) _);rw[<-fd,ef]at pd;have:=(zZ.mp pd).1 j (List.mem_singleton_self j);omega
  have ci:=hc i lt;have cj:=hc j lt';have c1:=c8 i (by rw[ef];simp);have c2:=c8 j (by rw[ef];simp);have oi:=I.ok i lt;have oj:=I.ok j lt';rw[<-et]at oi;rw[<-eij,<-et]at oj;rw[ef];obtain⟨h1,h2,h3⟩:=two_step Qn pk (aR:=(cB Qn.n Qn.ts ss).aR) (iW:=zM Qn.pq Qn.n Qn.ts ss k) (aZ:=jH Qn.n Qn.ts ss k) () () nij Z k4 oi oj ci cj c1 c2;refine⟨h1,h2,cZ h3 (pow_step ?_)⟩;have e4:([i,j].map c).sum=c i+c j:=by
   show c i+(c j+0)=_;omega
  rw[e4,Nat.pow_add];exact Nat.mul_le_mul ci cj
theorem V0(Qn:Hl P w K mg base κ)(pk:Bk Qn.pq)(hPl:∀k:Nat,k<Qn.n->Qn.Pl k)(hTi:∀t∈Qn.ts,Qn.Ti t)(ne:∀t∈Qn.ts,t.1≠t.2)(dJ:Qn.n<=10)(l8:ss.length<=800)(qI:Bx Qn.n Qn.ts ss (cB Qn.n Qn.ts ss)=.ok)(b4:∀b∈(cB Qn.n Qn.ts ss).aR,b.length<=4):∀k,k<=ss.length->GoI Qn.pq Qn.n Qn.ts ss k
 |0,_=>⟨λj h=>absurd h (Ac _),λ_=>0,λj h=>absurd h (Ac _),aL _⟩
 |k+1,h=>(XM Qn pk hPl hTi ne dJ l8 qI b4 () (V0 Qn pk hPl hTi ne dJ l8 qI b4 k ())).2
def Mh(Qn:Hl P w K mg base κ)(pk:Bk Qn.pq)(hPl:∀k:Nat,k<Qn.n->Qn.Pl k)(hTi:∀t∈Qn.ts,Qn.Ti t)(ne:∀t∈Qn.ts,t.1≠t.2)(dJ:Qn.n<=10)(l8:ss.length<=800)(qI:Bx Qn.n Qn.ts ss (cB Qn.n Qn.ts ss)=.ok)(b4:∀b∈(cB Qn.n Qn.ts ss).aR,b.length<=4) :
  (∀k,k<ss.length->Ar Qn (cB Qn.n Qn.ts ss).aR (K8 Qn.pq ss (cB Qn.n Qn.ts ss).aR (cB Qn.n Qn.ts ss).dH k) (ss.getD k .leaf) ((cB Qn.n Qn.ts ss).aR.getD k []) ((cB Qn.n Qn.ts ss).dH.getD k []))/\
  (∀T∈K8 Qn.pq ss (cB Qn.n Qn.ts ss).aR (cB Qn.n Qn.ts ss).dH ss.length,T.length<=900/\(T.map (·.1)).Nodup):=by
 have A:=V0 Qn pk hPl hTi ne dJ l8 qI b4;refine⟨λk hk=>(XM Qn pk hPl hTi ne dJ l8 qI b4 hk (A k ())).1,λT hT=>?_⟩;obtain⟨j,hj,e⟩:=rR hT;rw[nH]at hj;have h:=(A ss.length (aL _)).ok j hj;have e2:(zM Qn.pq Qn.n Qn.ts ss ss.length).getD j []=T:=by
  rw[gw,bR (by rw[nH];exact hj),<-e];rfl
 rw[e2]at h;have RI:=zx dJ qI;have hl:j<(cB Qn.n Qn.ts ss).aR.length:=by rw[RI.tl];exact hj
 refine⟨h.len pk ?_,h.nd⟩;show((cB Qn.n Qn.ts ss).aR.getD j []).length<=4;rw[gw,bR hl];exact b4 _ (oK hl)
end
end Go
namespace Go
def codeS:dY->Nat
 | []=>0
 |x::s=>x.toNat+4*codeS s
theorem XQ{c:Int}(c4:c<=4):∀{m:Nat}{s:dY},rQ c m s->codeS s<4^m
 |_,[],⟨rfl,_⟩=>by decide
 |_,x::s,⟨rfl,h⟩=>by
  have h1:=h x (aU ..)
  have h2:=XQ c4 (m:=s.length) (s:=s) ⟨Z,λy hy=>h y (bD _ hy)⟩
  show x.toNat+4*codeS s<4^(s.length+1)
  rw[Nat.pow_succ]
  omega
theorem code_inj{c:Int}(c4:c<=4):∀{m:Nat}{s t:dY},rQ c m s->rQ c m t->codeS s=codeS t->s=t
 |_,[],[],_,_,_=>rfl
 |_,[],y::t,⟨h,_⟩,⟨h',_⟩,_=>by grind
 |_,x::s,[],⟨h,_⟩,⟨h',_⟩,_=>by grind
 |_,x::s,y::t,⟨h,a⟩,⟨h',b⟩,e=>by
  have e:x.toNat+4*codeS s=y.toNat+4*codeS t:=e
  have h1:=a x (aU ..)
  have h2:=b y (aU ..)
  have lt:t.length=s.length:=by
   grind
  have e1:x=y:=()
  have e2:s=t:=code_inj c4 (m:=s.length) ⟨Z,λz hz=>a z (bD _ hz)⟩ ⟨lt,λz hz=>b z (bD _ hz)⟩ ()
  rw[e1,e2]
theorem Ļ{α β:Type}{f:α->β}:∀{l:List α},l.Nodup->(∀a∈l,∀b∈l,f a=f b->a=b)->(l.map f).Nodup
 | [],_,_=>Ad
 |a::l,nd,h=>by
  rw[jP]at nd
  rw[cH,jP]
  refine⟨λz=>?_,Ļ nd.2 λx hx y hy=>h x (bD _ hx) y (bD _ hy)⟩
  grind
def Hx{c:Int}(c4:c<=4){m:Nat}{l:List dY}(m4:m<=4)(nd:l.Nodup)(h:∀s∈l,rQ c m s):l.length<=900:=by
 have h1:=RD (m:=4^m) (Ļ (f:=codeS) nd λa ha b hb=>code_inj c4 (h a ha) (h b hb)) (λx hx=>by
  obtain⟨s,hs,rfl⟩:=gF.mp hx;exact XQ c4 (h s hs))
 rw[aK]at h1;have h2:4^m<=4^4:=Nat.pow_le_pow_right () m4;grind
def Kc{c:Int}{m p:Nat}{s:dY}{x:Int}(h:rQ c m s)(hp:p<=m)(hx:0<=x/\x<c):rQ c (m+1) (sV s p x):=by
 obtain⟨h1,h2⟩:=h;refine⟨?_,λy hy=>?_⟩
 ·show(s.take p++([x]++s.drop p)).length=m+1;grind
 ·rcases cN.mp (show y∈s.take p++([x]++s.drop p)from hy)with z|z
  ·exact h2 y (lH z)
  ·rcases cN.mp z with z|z
   ·rw[bL.mp z];exact hx
   ·exact h2 y (vM z)
def V1{c:Int}{m p:Nat}{s:dY}(h:rQ c (m+1) s)(hp:p<m+1):rQ c m (Le s p):=by
 obtain⟨h1,h2⟩:=h;refine⟨?_,λy hy=>?_⟩
 ·show(s.take p++s.drop (p+1)).length=m;grind
 ·rcases cN.mp (show y∈s.take p++s.drop (p+1)from hy)with z|z
  ·exact h2 y (lH z)
  ·exact h2 y (vM z)
def Qf(c:Int):rQ c 0 []:=⟨Z,λ_ h=>absurd h dW⟩
def a5k{c:Int}{m i:Nat}{s:dY}(h:rQ c m s)(hi:i<m):0<=gj s i/\gj s i<c:=by
 have l:i<s.length:=by rw[h.1];exact hi
 unfold gj;rw[gw,bR l];exact h.2 _ (oK l)
def a0T{m a b:Nat}{s:dY}(h:rQ 3 m s):rQ 3 m (uI s a b):=by
 refine⟨by unfold uI;rw[aK,rW];exact h.1,λy hy=>?_⟩;obtain⟨k,hk,rfl⟩:=gF.mp hy;have:=a5k h (i:=k) (by rw[<-h.1];exact mV.mp hk);split
 ·omega
 ·exact this
theorem V2{c:Int}:∀{m:Nat}{s t:dY},rQ c m s->rQ c m t->rQ c m (List.zipWith max s t)
 |_,[],_,⟨rfl,_⟩,_=>⟨Z,λ_ h=>absurd h dW⟩
 |_,x::s,[],⟨h,_⟩,⟨h',_⟩=>by grind
 |_,x::s,y::t,⟨rfl,a⟩,⟨h',b⟩=>by
  have lt:t.length=s.length:=by
   grind
  obtain⟨l,g⟩:=V2 (m:=s.length) (s:=s) (t:=t) ⟨Z,λz hz=>a z (bD _ hz)⟩ ⟨lt,λz hz=>b z (bD _ hz)⟩
  refine⟨(),λz hz=>?_⟩
  rcases b7.mp (show z∈max x y::List.zipWith max s t from hz)with e|e
  ·have:=a x (aU ..)
   have:=b y (aU ..)
   rw[e]
   omega
  ·exact g z e
def Bq{c:Int}{m:Nat}{s:dY}{a:Int}(h:rQ c m s):[(s,a)].length<=4/\∀x∈[(s,a)],rQ c m x.1:=⟨by show 1<=4;decide,λx hx=>by rw[bL.mp hx];exact h⟩
def MP{c:Int}{m:Nat}:([]:List (dY×Int)).length<=4/\∀x∈([]:List (dY×Int)),rQ c m x.1:=⟨dh _,λx hx=>absurd hx dW⟩
def RV{c:Int}{m:Nat}{s t:dY}{a b:Int}(h:rQ c m s)(h':rQ c m t):[(s,a),(t,b)].length<=4/\∀x∈[(s,a),(t,b)],rQ c m x.1:=⟨by show 2<=4;decide,λx hx=>by
 rcases b7.mp hx with e|e
 ·rw[e];exact h
 ·rw[bL.mp e];exact h'⟩
def okC{c:Nat}(c4:c<=4)(ws:List Int):Bk (Ŭ c ws) where
 leaf:=Qf _
 inn:=λ{m s p v} h hp=>by
  refine⟨by show((List.range c).map _).length<=4;rw[aK,rW];exact c4,λx hx=>?_⟩
  obtain⟨k,hk,rfl⟩:=gF.mp (show x∈(List.range c).map _ from hx)
  have:=mV.mp hk
  exact Kc h hp ⟨(),()⟩
 tie:=λ{m s a b t} h ha hb=>by
  show(if gj s a≠gj s b then [(s,(0:Int))]else []).length<=4/\∀x∈(if gj s a≠gj s b then [(s,(0:Int))]else []),rQ c m x.1
  split
  ·exact Bq h
  ·exact MP
 out:=λh hp=>Bq (V1 h hp)
 jn:=λ{m s t} h _=>⟨by show 1<=4;decide,λx hx=>by rw[bL.mp (show x∈[s]from hx)];exact h⟩
 fin:=λm4 nd h=>Hx (c:=(c:Int)) () m4 nd h
def okA(ws:List Int):Bk (ĭ ws) where
 leaf:=Qf _
 inn:=λh hp=>RV (Kc h hp ⟨(),()⟩) (Kc h hp ⟨(),()⟩)
 tie:=λ{m s a b t} h ha hb=>by
  show(if gj s a+gj s b<2 then [(s,(0:Int))]else []).length<=4/\∀x∈(if gj s a+gj s b<2 then [(s,(0:Int))]else []),rQ 2 m x.1
  split
  ·exact Bq h
  ·exact MP
 out:=λh hp=>Bq (V1 h hp)
 jn:=λ{m s t} h _=>⟨by show 1<=4;decide,λx hx=>by rw[bL.mp (show x∈[s]from hx)];exact h⟩
 fin:=λm4 nd h=>Hx (c:=2) () m4 nd h
def okW(ws:List Int):Bk (ZR ws) where
 leaf:=Qf _
 inn:=λh hp=>RV (Kc h hp ⟨(),()⟩) (Kc h hp ⟨(),()⟩)
 tie:=λ{m s a b t} h ha hb=>by
  show(if(gj s a=0/\gj s b=2)\/(gj s a=2/\gj s b=0)then [(uI s a b,(0:Int))]else [(s,0)]).length<=4/\∀x∈(if(gj s a=0/\gj s b=2)\/(gj s a=2/\gj s b=0)then [(uI s a b,(0:Int))]else [(s,0)]),rQ 3 m x.1
  split
  ·exact Bq (a0T h)
  ·exact Bq h
 out:=λ{m s p v} h hp=>by
  show(if gj s p=0 then []else [(Le s p,if gj s p=2 then ws.getD v 0 else 0)]).length<=4/\∀x∈(if gj s p=0 then []else [(Le s p,if gj s p=2 then ws.getD v 0 else 0)]),rQ 3 m x.1
  split
  ·exact MP
  ·exact Bq (V1 h hp)
 jn:=λ{m s t} h h'=>⟨by show 1<=4;decide,λx hx=>by rw[bL.mp (show x∈[List.zipWith max s t]from hx)];exact V2 h h'⟩
 fin:=λm4 nd h=>Hx (c:=3) () m4 nd h
end Go
def getD_at{ss:List bT}{i:Nat}{s:bT}(h:ss[i]?=some s):ss.getD i .leaf=s:=by
 rw[gw,h];rfl
def Qg{ss:List bT}{i:Nat}{s:bT}(h:ss[i]?=some s):ss.take (i+1)=ss.take i++[s]:=by
 obtain⟨il,e⟩:=fO.mp h;rw[zR il,e]
structure Kp where
 P:List (List Int)
 G:List Int
 B:List bY
variable{κ:Kp}
def Kp.top(κ:Kp):List Int:=κ.P.getLastD []
def Can(n:Nat)(ts:List bY)(κ:Kp):bT->Prop
 |.leaf=>True
 |.inn v=>κ.P≠[]/\(0<=v/\v<(n:Int))/\v∉κ.top/\v∉κ.G
 |.tie a b=>κ.P≠[]/\(a,b)∈ts/\(a,b)∉κ.B/\a∈κ.top/\b∈κ.top
 |.out v=>κ.P≠[]/\v∈κ.top/\v∉κ.G
 |.join=>1<κ.P.length/\κ.top.Perm (κ.P.getD (κ.P.length-2) [])
noncomputable def KN(κ:Kp):bT->Kp
 |.leaf=>{ κ with P:=κ.P++[[]]}
 |.inn v=>{ κ with P:=κ.P.dropLast++[κ.top++[v]]}
 |.tie a b=>{ κ with B:=κ.B++[(a,b)]}
 |.out v=>{ κ with P:=κ.P.dropLast++[κ.top.erase v],G:=κ.G++[v]}
 |.join=>{ κ with P:=κ.P.dropLast}
structure KOk(n c:Nat)(κ:Kp):Prop where
 nd:∀b∈κ.P,b.Nodup/\∀v∈b,0<=v/\v<(n:Int)
 pl:κ.P.length<=c
 gl:κ.G.length<=c
 bl:κ.B.length<=c
def sZ{P:List (List Int)}(h:P≠[]):P=P.dropLast++[P.getLastD []]:=by
 have e:=(List.dropLast_concat_getLast h).symm;grind
def KOk.V3{n c:Nat}(h:KOk n c κ):κ.top.Nodup/\∀v∈κ.top,0<=v/\v<(n:Int):=by
 by_cases e:κ.P=[]
 ·unfold Kp.top;rw[e];exact⟨.nil,λv hv=>absurd hv dW⟩
 ·refine h.nd _ ?_;have:κ.P.getLastD []∈κ.P.dropLast++[κ.P.getLastD []]:=gB _ aU
  rwa [<-sZ e]at this
def KOk.do{n c:Nat}{ts:List bY}{s:bT}(h:KOk n c κ)(hc:Can n ts κ s):KOk n (c+1) (KN κ s):=by
 have dl:∀b∈κ.P.dropLast,b.Nodup/\∀v∈b,0<=v/\v<(n:Int):=λb hb=>h.nd b ((List.dropLast_sublist _).subset hb);have l1:κ.P.dropLast.length<=c:=by rw[S8];have:=h.pl;omega
 have h1:=h.pl;have h2:=h.gl;have h3:=h.bl;have cat:∀b:List Int,b.Nodup->(∀v∈b,0<=v/\v<(n:Int))->∀x∈κ.P.dropLast++[b],x.Nodup/\∀v∈x,0<=v/\v<(n:Int):=λb hb hv x hx=>by
  rcases cN.mp hx with hx|hx
  ·exact dl x hx
  ·rw[bL.mp hx];exact⟨hb,hv⟩
 cases s with
 |leaf =>
  refine⟨λb hb=>?_,by show(κ.P++[[]]).length<=_;grind,by show κ.G.length<=_;omega,by show κ.B.length<=_;omega⟩;rcases cN.mp hb with hb|hb
  ·exact h.nd b hb
  grind
 |inn v =>
  obtain⟨_,hv,hn,_⟩:=hc;refine⟨cat _ ?_ ?_,by show(κ.P.dropLast++[_]).length<=_;grind,by show κ.G.length<=_;omega,by show κ.B.length<=_;omega⟩
  ·rw[xO];refine⟨h.V3.1,by simp,λa ha b hb e=>?_⟩;grind
  ·intro x hx;rcases cN.mp hx with hx|hx
   ·exact h.V3.2 x hx
   ·rw[bL.mp hx];exact hv
 |tie a b=>exact⟨h.nd,by show κ.P.length<=_;omega,by show κ.G.length<=_;omega,by show(κ.B++[_]).length<=_;rw[cC];show κ.B.length+1<=_;omega⟩
 |out v =>
  refine⟨cat _ (h.V3.1.erase v) (λx hx=>h.V3.2 x (List.mem_of_mem_erase hx)),by show(κ.P.dropLast++[_]).length<=_;grind,by show(κ.G++[v]).length<=_;grind,by show κ.B.length<=_;omega⟩
 |join=>exact⟨dl,by show κ.P.dropLast.length<=_;omega,by show κ.G.length<=_;omega,by show κ.B.length<=_;omega⟩
theorem qR{α β:Type}{R:α->β->Prop}:∀{xs:List α}{ys:List β}{y:β},Paired R xs (ys++[y])->∃xs' x,xs=xs'++[x]/\Paired R xs' ys/\R x y
 | [],ys,y,h=>by
  have:=aV h
  rw[cC]at this
  exact absurd this (by show ¬0=ys.length+1;omega)
 |x::r,[],y,h=>by
  cases h with
  |cons h1 h2 =>
   cases h2
   exact⟨[],x,Z,.nil,h1⟩
 |x::r,z::ys,y,h=>by
  cases h with
  |cons h1 h2 =>
   obtain⟨xs',x',e,p,q⟩:=qR h2
   exact⟨x::xs',x',by rw[e];rfl,.cons h1 p,q⟩
structure Qh(n:Nat)(ts:List bY)(ss:List bT)(i:Nat)(κ:Kp)(E:List Int):Prop where
 go:(aW n ts ss i).2=true
 rel:Paired (λj b=>∀v,v∈(aW n ts ss i).1.aR.getD j []↔v∈b) (aW n ts ss i).1.pile κ.P
 asc:∀b∈(aW n ts ss i).1.aR,b.Pairwise (· < ·)
 outs:∀v,bT.out v∈ss.take i↔v∈κ.G
 ties:∀a b,bT.tie a b∈ss.take i↔(a,b)∈κ.B
 ins:∀v,bT.inn v∈ss.take i↔v∈E
 ok:KOk n i κ
def a5l{n:Nat}{ts:List bY}{ss:List bT}:Qh n ts ss 0 ⟨[],[],[]⟩ [] :=
 ⟨Z,.nil,λb h=>absurd h dW,λv=>by simp,λa b=>by simp,λv=>by simp,⟨λb h=>absurd h dW,aL _,aL _,aL _⟩⟩
def zA(p:Int->Bool):(Qw p).Pairwise (· < ·):=by
 unfold Qw;refine Ii _ ?_;rw[DR];exact List.pairwise_lt_range.imp λh=>by omega
theorem zy:∀{xs ys:List Int},xs.Pairwise (· < ·)->ys.Pairwise (· < ·)->(∀v,v∈xs↔v∈ys)->xs=ys
 | [],[],_,_,_=>rfl
 | [],y::ys,_,_,h=>absurd ((h y).mpr aU) dW
 |x::xs,[],_,_,h=>absurd ((h x).mp aU) dW
 |x::xs,y::ys,hx,hy,h=>by
  rw[zZ]at hx hy
  have e:x=y:=by
   rcases b7.mp ((h x).mp aU)with h1|h1
   ·exact h1
   ·rcases b7.mp ((h y).mpr aU)with h2|h2
    ·exact h2.symm
    ·have a:=hy.1 x h1
     have b:=hx.1 y h2
     omega
  subst e
  rw[zy hx.2 hy.2 λv=>⟨λhv=>?_,λhv=>?_⟩]
  ·grind
  grind
def Dg{n:Nat}{ts:List bY}{ss:List bT}{i:Nat}{κ':Kp}{E':List Int}{s:bT}{b:List Int}{uo:List Nat}(dJ:n<=10)(D:Qh n ts ss i κ E)(h:ss[i]?=some s)(hn:s.need<=(aW n ts ss i).1.pile.length)(hl:(aW n ts ss i).1.pile.take (dZ s (aW n ts ss i).1)=uo)
  (hb:qd n ts (ss.take i) s (sH s (aW n ts ss i).1)=some b) (as:b.Pairwise (· < ·))
  (rel:Paired (λj b=>∀v,v∈(aW n ts ss i).1.aR.getD j []↔v∈b) uo κ'.P.dropLast) (ne:κ'.P≠[]) (mb:∀v,v∈b↔v∈κ'.top)
  (mo:∀v,bT.out v∈ss.take (i+1)↔v∈κ'.G) (mt:∀x y,bT.tie x y∈ss.take (i+1)↔(x,y)∈κ'.B) (mi:∀v,bT.inn v∈ss.take (i+1)↔v∈E') (ok:KOk n (i+1) κ'):Qh n ts ss (i+1) κ' E':=by
 have d:rA n ts ss i (aW n ts ss i).1=some ⟨(aW n ts ss i).1.aR++[b],(aW n ts ss i).1.dH++[(aW n ts ss i).1.pile.drop (dZ s (aW n ts ss i).1)],uo++[i]⟩:=by
  unfold rA;rw[getD_at h,aG hn,hb,hl];rfl
 have e:=Ĥ D.go d;have I:=jX dJ D.go;have tl:=I.tl;refine⟨by rw[e],?_,?_,mo,mt,mi,ok⟩
 ·rw[e,sZ ne];refine dG ?_ ?_
  ·have lt:∀j∈uo,j<i:=λj hj=>I.lt j (lH (hl▸hj));have:∀{xs:List Nat}{ys:List (List Int)},(∀j∈xs,j<i)->Paired (λj b=>∀v,v∈(aW n ts ss i).1.aR.getD j []↔v∈b) xs ys->Paired (λj b'=>∀v,v∈((aW n ts ss i).1.aR++[b]).getD j []↔v∈b') xs ys:=λ{xs}=>by
    induction xs with
    |nil=>intro ys _ h;cases h;exact .nil
    |cons x r ih =>
     intro ys hx h;cases h with
     |cons h1 h2 =>
      refine .cons (λv=>?_) (ih (λj hj=>hx j (bD _ hj)) h2);rw[gw,zU (by rw[tl];exact hx x aU),<-gw];exact h1 v
   exact this lt rel
  ·intro v;show v∈((aW n ts ss i).1.aR++[b]).getD i []↔_;rw[gw,xr (),tl,Ag];exact mb v
 ·rw[e];intro x hx;rcases cN.mp hx with hx|hx
  ·exact D.asc x hx
  ·rw[bL.mp hx];exact as
def Hy{n:Nat}{ts:List bY}{ss:List bT}{i:Nat}(dJ:n<=10)(D:Qh n ts ss i κ E)(ne:κ.P≠[]):∃uo j,(aW n ts ss i).1.pile=uo++[j]/\Paired (λj b=>∀v,v∈(aW n ts ss i).1.aR.getD j []↔v∈b) uo κ.P.dropLast/\(∀v,v∈(aW n ts ss i).1.aR.getD j []↔v∈κ.top)/\((aW n ts ss i).1.aR.getD j []).Pairwise (· < ·):=by
 have r:=D.rel;rw[sZ ne]at r;obtain⟨uo,j,e,p,q⟩:=qR r;refine⟨uo,j,e,p,q,?_⟩;have I:=jX dJ D.go;have jl:j<(aW n ts ss i).1.aR.length:=by rw[I.tl];exact I.lt j (by rw[e];simp)
 rw[gw,bR jl];exact D.asc _ (oK jl)
def Kd{s:bT}{r:RS}{uo:List Nat}{j:Nat}(h1:s.need=1)(e:r.pile=uo++[j]):s.need<=r.pile.length/\r.pile.take (dZ s r)=uo/\sH s r=[r.aR.getD j []]:=by
 have el:dZ s r=uo.length:=by unfold dZ;rw[e,h1,cC];show uo.length+1-1=_;omega
 refine⟨by rw[h1,e,cC];show 1<=uo.length+1;omega,by rw[el,e,List.take_left],?_⟩;unfold sH;grind
def Ke{P:List (List Int)}(h:P≠[]):P.getLastD []∈P:=by
 have:P.getLastD []∈P.dropLast++[P.getLastD []]:=gB _ aU
 rwa [<-sZ h]at this
def RW{P:List (List Int)}(l2:1<P.length):P.getD (P.length-2) []=P.dropLast.getLastD []:=by
 grind
def join_split{n:Nat}{ts:List bY}{ss:List bT}{i:Nat}(dJ:n<=10)(D:Qh n ts ss i κ E)(l2:1<κ.P.length):∃uo j1 j2,(aW n ts ss i).1.pile=uo++[j1,j2]/\bT.join.need<=(aW n ts ss i).1.pile.length/\(aW n ts ss i).1.pile.take (dZ .join (aW n ts ss i).1)=uo/\sH .join (aW n ts ss i).1=[(aW n ts ss i).1.aR.getD j1 [],(aW n ts ss i).1.aR.getD j2 []]/\Paired (λj b=>∀v,v∈(aW n ts ss i).1.aR.getD j []↔v∈b) uo κ.P.dropLast.dropLast/\(∀v,v∈(aW n ts ss i).1.aR.getD j1 []↔v∈κ.P.dropLast.getLastD [])/\(∀v,v∈(aW n ts ss i).1.aR.getD j2 []↔v∈κ.top)/\((aW n ts ss i).1.aR.getD j1 []).Pairwise (· < ·)/\((aW n ts ss i).1.aR.getD j2 []).Pairwise (· < ·)/\κ.P.dropLast≠[]/\κ.P.getD (κ.P.length-2) []=κ.P.dropLast.getLastD []:=by
 have ne:κ.P≠[]:=λz=>by grind
 have ne2:κ.P.dropLast≠[]:=λz=>by
  have:=S8 (xs:=κ.P);grind
 obtain⟨Y4,j2,e,p,q,as2⟩:=Hy dJ D ne;have I:=jX dJ D.go;rw[sZ ne2]at p;obtain⟨uo,j1,rfl,p0,q0⟩:=qR p;have e':(aW n ts ss i).1.pile=uo++[j1,j2]:=by rw[e,vR];rfl
 have el:dZ .join (aW n ts ss i).1=uo.length:=by unfold dZ;rw[e',cC];show uo.length+2-2=_;omega
 have jl:j1<(aW n ts ss i).1.aR.length:=by rw[I.tl];exact I.lt j1 (by rw[e'];simp)
 refine⟨uo,j1,j2,e',by rw[e',cC];show 2<=uo.length+2;omega,(),?_,p0,q0,q,?_,as2,ne2,?_⟩
 ·unfold sH;grind
 ·rw[gw,bR jl];exact D.asc _ (oK jl)
 ·exact RW l2
def a3j{n:Nat}{ts:List bY}{ss:List bT}{i:Nat}{s:bT}(dJ:n<=10)(D:Qh n ts ss i κ E)(h:ss[i]?=some s)(c:Can n ts κ s):∃E',(E'=match s with |.inn v=>E++[v]|_=>E)/\Qh n ts ss (i+1) (KN κ s) E':=by
 have tk:=Qg h;have ok:=D.ok.do c
 have mo:∀v,bT.out v∈ss.take (i+1)↔v∈κ.G\/s=.out v:=λv=>by rw[tk,cN,D.outs,bL,eq_comm]
 have mt:∀a b,bT.tie a b∈ss.take (i+1)↔(a,b)∈κ.B\/s=.tie a b:=λa b=>by rw[tk,cN,D.ties,bL,eq_comm]
 have mi:∀v,bT.inn v∈ss.take (i+1)↔v∈E\/s=.inn v:=λv=>by rw[tk,cN,D.ins,bL,eq_comm]
 have dl:∀b:List Int,(κ.P.dropLast++[b]).dropLast=κ.P.dropLast:=λb=>Dz;have gl:∀(P:List (List Int)) (b:List Int),(P++[b]).getLastD []=b:=λP b=>by rw[Â,Tc];rfl
 have ne:∀(P:List (List Int)) (b:List Int),P++[b]≠[]:=λP b z=>by simp at z
 cases s with
 |leaf =>
  refine⟨E,Z,Dg dJ D h (uo:=(aW n ts ss i).1.pile) (b:=[]) (dh _) ?_ Z .nil ?_ (ne _ _) ?_ ?_ ?_ ?_ ok⟩
  ·show List.take ((aW n ts ss i).1.pile.length-0) _=_;rw[Af,gO]
  ·show Paired _ _ (κ.P++[[]]).dropLast;rw[Dz];exact D.rel
  ·intro v;show _↔v∈(κ.P++[[]]).getLastD [];rw[gl]
  ·intro v;rw[mo];simp[KN]
  ·intro a b;rw[mt];simp[KN]
  ·intro v;rw[mi];simp
 |inn v =>
  obtain⟨hP,hv,hn,hg⟩:=c;obtain⟨uo,j,e,p,q,as⟩:=Hy dJ D hP;obtain⟨u1,u2,u3⟩:=Kd (s:=.inn v) Z e;refine⟨E++[v],Z,Dg dJ D h (uo:=uo) (b:=gQ ((aW n ts ss i).1.aR.getD j []) [v]) u1 u2 ?_ (zA _) ?_ (ne _ _) ?_ ?_ ?_ ?_ ok⟩
  ·rw[u3];unfold qd;dsimp only;rw[aG ⟨hv,λz=>hn ((q v).mp z),λz=>hg ((D.outs v).mp z)⟩];rfl
  ·show Paired _ _ (κ.P.dropLast++[_]).dropLast;rw[dl];exact p
  ·intro x;show _↔x∈(κ.P.dropLast++[κ.top++[v]]).getLastD [];rw[gl];unfold gQ;rw[zf,dU,q,cN];constructor
   ·exact λz=>z.2.2
   ·intro z;have bd:=D.ok.V3.2;refine⟨?_,?_,z⟩
    ·rcases z with z|z
     ·exact(bd x z).1
     ·rw[bL.mp z];exact hv.1
    ·rcases z with z|z
     ·have:=(bd x z).2;omega
     ·rw[bL.mp z];have:=hv.2;omega
  ·intro x;rw[mo];simp[KN]
  ·intro a b;rw[mt];simp[KN]
  ·intro x;rw[mi];simp[eq_comm]
 |tie x y =>
  obtain⟨hP,ht,hb,h1,h2⟩:=c;obtain⟨uo,j,e,p,q,as⟩:=Hy dJ D hP;obtain⟨u1,u2,u3⟩:=Kd (s:=.tie x y) Z e;refine⟨E,Z,Dg dJ D h (uo:=uo) (b:=(aW n ts ss i).1.aR.getD j []) u1 u2 ?_ as p hP q ?_ ?_ ?_ ok⟩
  ·rw[u3];unfold qd;dsimp only;rw[aG]
   ·rfl
   ·refine⟨ht,?_,λz=>hb ((D.ties x y).mp z)⟩;unfold qi;rw[List.filter_eq_nil_iff];intro v hv;have:v∈(aW n ts ss i).1.aR.getD j []:=by
     rcases b7.mp hv with rfl|hv
     ·exact(q _).mpr h1
     ·rw[bL.mp hv];exact(q _).mpr h2
    simpa using this
  ·intro v;rw[mo];simp[KN]
  ·intro a b;rw[mt];simp[KN,eq_comm]
  ·intro v;rw[mi];simp
 |out v =>
  obtain⟨hP,hv,hg⟩:=c;obtain⟨uo,j,e,p,q,as⟩:=Hy dJ D hP;obtain⟨u1,u2,u3⟩:=Kd (s:=.out v) Z e;refine⟨E,Z,Dg dJ D h (uo:=uo) (b:=qi ((aW n ts ss i).1.aR.getD j []) [v]) u1 u2 ?_ (Ii _ as) ?_ (ne _ _) ?_ ?_ ?_ ?_ ok⟩
  ·rw[u3];unfold qd;dsimp only;rw[aG ⟨(q v).mpr hv,λz=>hg ((D.outs v).mp z)⟩];rfl
  ·show Paired _ _ (κ.P.dropLast++[_]).dropLast;rw[dl];exact p
  ·intro x;show _↔x∈(κ.P.dropLast++[κ.top.erase v]).getLastD [];rw[gl,D.ok.V3.1.mem_erase_iff];unfold qi;rw[kJ,q];simp[and_comm]
  ·intro x;rw[mo];simp[KN,eq_comm]
  ·intro a b;rw[mt];simp[KN]
  ·intro x;rw[mi];simp
 |join =>
  obtain⟨l2,pm⟩:=c;obtain⟨uo,j1,j2,e,u1,u2,u3,p,q1,q2,as1,as2,ne2,eg⟩:=join_split dJ D l2;have eb:(aW n ts ss i).1.aR.getD j1 []=(aW n ts ss i).1.aR.getD j2 []:=zy as1 as2 λv=>by
   rw[q1,q2,<-eg];exact(pm.mem_iff).symm
  refine⟨E,Z,Dg dJ D h (uo:=uo) (b:=(aW n ts ss i).1.aR.getD j1 []) u1 u2 ?_ as1 p ne2 q1 ?_ ?_ ?_ ok⟩
  ·rw[u3];unfold qd;dsimp only;rw[aG]
   ·rfl
   ·exact eb
  ·intro v;rw[mo];simp[KN]
  ·intro a b;rw[mt];simp[KN]
  ·intro v;rw[mi];simp
def a0U{n:Nat}{ts:List bY}{ss:List bT}(dJ:n<=10)(D:Qh n ts ss ss.length κ E):(κ.P≠[[]]->Bx n ts ss (cB n ts ss)=.pile)/\(κ.P=[[]]->∀v:Nat,v<n->(∀j:Nat,j<v->(j:Int)∈E)->(v:Int)∉E->Bx n ts ss (cB n ts ss)=.place v)/\(κ.P=[[]]->(∀j:Nat,j<n->(j:Int)∈E)->Bx n ts ss (cB n ts ss)=match ts.find? λt=>!decide (t∈κ.B)with|some t=>.tie t.1 t.2|none=>.ok):=by
 have I:=jX dJ D.go;have l1:¬(cB n ts ss).aR.length<ss.length:=by unfold cB;rw[I.tl];omega
 have l2:Mx (cB n ts ss)=[[]]↔κ.P=[[]]:=by
  have r:=D.rel;unfold Mx cB;generalize (aW n ts ss ss.length).1.pile=pl at *
  generalize (aW n ts ss ss.length).1.aR=tp at *
  generalize κ.P=P at *
  cases r with
  |nil=>simp
  | @cons x b xs bs h1 h2 =>
   have e:tp.getD x []=[]↔b=[]:=by
    rw[Ss,Ss];exact⟨λh v hv=>h v ((h1 v).mpr hv),λh v hv=>h v ((h1 v).mp hv)⟩
   cases h2 with
   |nil =>
    grind
   |cons h3 h4 =>
    grind
 have ins:∀v,bT.inn v∈ss↔v∈E:=λv=>by have:=D.ins v;grind
 have tis:∀a b,bT.tie a b∈ss↔(a,b)∈κ.B:=λa b=>by have:=D.ties a b;grind
 refine⟨λh=>?_,λh v hv ok no=>?_,λh ok=>?_⟩
 ·unfold Bx;grind
 ·have ef:(List.range n).find? (λ(v:Nat)=>!decide (bT.inn (v:Int)∈ss))=some v:=Ä.mpr ⟨(),mV.mpr hv,λj hj=>by grind⟩;unfold Bx;grind
 ·have ef:(List.range n).find? (λ(v:Nat)=>!decide (bT.inn (v:Int)∈ss))=none:=DP.mpr λj hj=>by grind
  have eg:(λt:Int×Int=>!decide (bT.tie t.1 t.2∈ss))=λt=>!decide (t∈κ.B):=funext λt=>by grind
  unfold Bx;rw[aA l1,aG (l2.mpr h),ef,eg];try rfl
structure Tb(n m:Nat)(up:Nat->Nat)(aZ:Nat->List Int):Prop where
 pos:0<m
 ups:∀k,0<k->k<m->up k<k
 nd:∀k,(aZ k).Nodup
 lt:∀k,∀v∈aZ k,0<=v/\v<(n:Int)
 fr:∀k,0<k->k<m->∀v∈aZ k,v∈aZ (up k)\/∀j,j<k->v∉aZ j
 no:∀k,m<=k->aZ k=[]
inductive pK(m:Nat)(up:Nat->Nat)(k:Nat):Nat->Prop
 |self:k<m->pK m up k k
 |step {r:Nat}:0<r->r<m->pK m up k (up r)->pK m up k r
section
variable{n m:Nat}{up:Nat->Nat}{aZ:Nat->List Int}
def Tb.in_(T:Tb n m up aZ){k:Nat}{v:Int}(h:v∈aZ k):k<m:=by
 rcases xV k m with c|c
 ·exact c
 ·rw[T.no k c]at h;exact absurd h dW
def pK.le(T:Tb n m up aZ){k r:Nat}(h:pK m up k r):k<=r:=by
 induction h with
 |self=>grind
 |step r0 rm _ ih=>have:=T.ups _ r0 rm;omega
def pK.trans{k j r:Nat}(h1:pK m up k j)(h2:pK m up j r):pK m up k r:=by
 induction h2 with
 |self=>exact h1
 |step r0 rm _ ih=>exact .step r0 rm ih
def pK.kid(T:Tb n m up aZ){k r:Nat}(h:pK m up k r):r=k\/∃j,0<j/\j<m/\up j=k/\pK m up j r:=by
 induction h with
 |self=>exact .inl rfl
 | @step r r0 rm _ ih =>
  rcases ih with e|⟨j,a,b,c,d⟩
  ·exact .inr ⟨r,r0,rm,e,.self rm⟩
  ·exact .inr ⟨j,a,b,c,.step r0 rm d⟩
def pK.cmp{j r:Nat}(h1:pK m up j r)(h2:pK m up j' r):pK m up j j'\/pK m up j' j:=by
 induction h1 with
 |self=>exact .inr h2
 | @step r r0 rm h ih =>
  cases h2 with
  |self=>exact .inl (.step r0 rm h)
  |step _ _ h'=>exact ih h'
def Hz(T:Tb n m up aZ){j r:Nat}(j0:0<j)(jm:j<m)(j0':0<j')(jm':j'<m)(e:up j=up j')(h1:pK m up j r)(h2:pK m up j' r):j=j':=by
 have cW:∀{a b:Nat},0<a->a<m->up a=up b->pK m up a b->a=b:=λ{a b} a0 am e h=>by
  cases h with
  |self=>rfl
  |step b0 bm h =>
   rw[<-e]at h;have l1:=h.le T;have l2:=T.ups a a0 am;omega
 rcases h1.cmp h2 with h|h
 ·exact cW j0 jm e h
 ·exact(cW j0' jm' e.symm h).symm
def vK(T:Tb n m up aZ){j:Nat}{v:Int}(h:v∈aZ j)(fr:j=0\/v∉aZ (up j)):∀q,v∈aZ q->pK m up j q:=by
 have jm:=T.in_ h;have no:∀i,i<j->v∉aZ i:=λi hi=>by
  rcases fr with e|e
  ·omega
  ·rcases T.fr j () jm v h with z|z
   ·exact absurd z e
   ·exact z i hi
 intro q
 induction q using Nat.strongRecOn with
 |ind q ih =>
  intro hq;have qm:=T.in_ hq;by_cases c:q=j
  ·rw[c];exact .self jm
  ·have lj:j<q:=by
    grind
   rcases T.fr q () qm v hq with z|z
   ·exact .step () qm (ih _ (T.ups q () qm) z)
   ·exact absurd h (z j lj)
def conn(T:Tb n m up aZ){j r:Nat}{v:Int}(b:pK m up j r)(h:v∈aZ r):(v∈aZ j/\v∈aZ (up j))\/∀q,v∈aZ q->pK m up j q:=by
 induction b with
 |self jm =>
  by_cases c:v∈aZ (up j)
  ·exact .inl ⟨h,c⟩
  ·exact .inr (vK T h (.inr c))
 | @step r r0 rm b ih =>
  by_cases c:v∈aZ (up r)
  ·exact ih c
  ·exact .inr λq hq=>pK.trans (.step r0 rm b) (vK T h (.inr c) q hq)
def Fo(m:Nat)(up:Nat->Nat)(aZ:Nat->List Int)(k:Nat)(v:Int):Prop:=∃r,pK m up k r/\v∈aZ r
def ļ(T:Tb n m up aZ){j:Nat}{v:Int}(j0:0<j)(jm:j<m)(h:Fo m up aZ j v)(hu:v∈aZ (up j)):v∈aZ j:=by
 obtain⟨r,b,hr⟩:=h;rcases conn T b hr with z|z
 ·exact z.1
 ·have l1:=(z _ hu).le T;have l2:=T.ups j j0 jm;omega
def a0V(T:Tb n m up aZ){j:Nat}{v:Int}(j0:0<j)(jm:j<m)(j0':0<j')(jm':j'<m)(e:up j=up j')(ne:j≠j')(h:Fo m up aZ j v)(h':Fo m up aZ j' v):v∈aZ (up j):=by
 obtain⟨r,b,hr⟩:=h;obtain⟨r',b',hr'⟩:=h';rcases conn T b hr with z|z
 ·exact z.2
 ·exact absurd (Hz T j0 jm j0' jm' e (z _ hr') b') ne
def RX(T:Tb n m up aZ):∀r,r<m->pK m up 0 r:=by
 intro r
 induction r using Nat.strongRecOn with
 |ind r ih =>
  intro rm;by_cases c:r=0
  ·rw[c];exact .self T.pos
  ·have:=T.ups r () rm;exact .step () rm (ih _ this ())
def gV(up:Nat->Nat)(aZ:Nat->List Int)(r:Nat)(t:Int×Int):Prop:=t.1∈aZ r/\t.2∈aZ r/\(r=0\/¬(t.1∈aZ (up r)/\t.2∈aZ (up r)))
instance (up:Nat->Nat) (aZ:Nat->List Int) (r:Nat) (t:Int×Int):Decidable (gV up aZ r t):=by unfold gV;infer_instance
def RZ(T:Tb n m up aZ){r:Nat}{t:Int×Int}(h:gV up aZ r t):∀q,t.1∈aZ q->t.2∈aZ q->pK m up r q:=by
 obtain⟨h1,h2,h3⟩:=h;intro q q1 q2;rcases h3 with e|e
 ·exact vK T h1 (.inl e) q q1
 ·by_cases c:t.1∈aZ (up r)
  ·exact vK T h2 (.inr λz=>e ⟨c,z⟩) q q2
  ·exact vK T h1 (.inr c) q q1
def uf(T:Tb n m up aZ){r r':Nat}{t:Int×Int}(h:gV up aZ r t)(h':gV up aZ r' t):r=r':=by
 have l1:=(RZ T h r' h'.1 h'.2.1).le T;have l2:=(RZ T h' r h.1 h.2.1).le T;omega
def a0W(T:Tb n m up aZ){t:Int×Int}:∀q,t.1∈aZ q->t.2∈aZ q->∃r,r<m/\gV up aZ r t:=by
 intro q
 induction q using Nat.strongRecOn with
 |ind q ih =>
  intro q1 q2;have qm:=T.in_ q1;by_cases c:q=0
  ·exact⟨q,qm,q1,q2,.inl c⟩
  ·by_cases d:t.1∈aZ (up q)/\t.2∈aZ (up q)
   ·exact ih _ (T.ups q () qm) d.1 d.2
   ·exact⟨q,qm,q1,q2,.inr d⟩
end
def Kf(κ:Kp)(ss:List bT):Kp:=ss.foldl KN κ
def ug(n wd:Nat)(ts:List bY):Kp->List bT->Prop
 |_,[]=>True
 |κ,s::r=>(Can n ts κ s/\(KN κ s).top.length<=wd)/\ug n wd ts (KN κ s) r
section
variable{n:Nat}{ts:List bY}
def mO(κ:Kp)(a b:List bT):Kf κ (a++b)=Kf (Kf κ a) b:=List.foldl_append
theorem nD:∀{κ:Kp}{a b:List bT},ug n wd ts κ a->ug n wd ts (Kf κ a) b->ug n wd ts κ (a++b)
 |_,[],_,_,h=>h
 |_,_::_,_,h,h'=>⟨h.1,nD h.2 h'⟩
theorem zB:∀{κ:Kp}{a b:List bT},ug n wd ts κ (a++b)->ug n wd ts κ a/\ug n wd ts (Kf κ a) b
 |_,[],_,h=>⟨trivial,h⟩
 |_,_::_,_,h=>⟨⟨h.1,(zB h.2).1⟩,(zB h.2).2⟩
def qK(P:List (List Int))(b:List Int)(G:List Int)(B:List bY):(Kp.mk (P++[b]) G B).top=b:=by
 show(P++[b]).getLastD []=b;grind
def Ľ(P:List (List Int))(b:List Int)(G:List Int)(B:List bY):(Kp.mk (P++[b]) G B).P≠[]:=λz=>by
 have:P++[b]=[]:=z;simp at this
theorem V4:∀(vs:List Int) {P:List (List Int)}{b G:List Int}{B:List bY},vs.Nodup->(∀v∈vs,0<=v/\v<(n:Int))->(∀v∈vs,v∉b)->(∀v∈vs,v∉G)->b.length+vs.length<=wd->ug n wd ts ⟨P++[b],G,B⟩ (vs.map .inn)/\Kf ⟨P++[b],G,B⟩ (vs.map .inn)=⟨P++[b++vs],G,B⟩
 | [],P,b,G,B,_,_,_,_,_=>⟨trivial,by rw[lR];rfl⟩
 |v::vs,P,b,G,B,nd,lt,nb,ng,hw=>by
  rw[lN]at hw
  obtain⟨n1,n2⟩:=jP.mp nd
  have e:KN ⟨P++[b],G,B⟩ (.inn v)=⟨P++[b++[v]],G,B⟩:=by
   show Kp.mk ((P++[b]).dropLast++[(Kp.mk (P++[b]) G B).top++[v]]) G B=_
   rw[qK,Dz]
  obtain⟨i1,i2⟩:=V4 vs (P:=P) (b:=b++[v]) (G:=G) (B:=B) n2 (λx hx=>lt x (bD _ hx)) (λx hx z=>by
   grind) (λx hx=>ng x (bD _ hx)) ()
  refine⟨⟨⟨⟨Ľ _ _ _ _,lt v aU,?_,ng v aU⟩,?_⟩,?_⟩,?_⟩
  ·rw[qK];exact nb v aU
  ·rw[e,qK,cC,zX];omega
  ·grind
  ·show Kf (KN ⟨P++[b],G,B⟩ (.inn v)) (vs.map .inn)=_
   rw[e,i2,vR];rfl
theorem Qi:∀(vs:List Int) {P:List (List Int)}{b G:List Int}{B:List bY},vs.Nodup->b.Nodup->(∀v∈vs,v∈b)->(∀v∈vs,v∉G)->b.length<=wd->ug n wd ts ⟨P++[b],G,B⟩ (vs.map .out)/\∃b',b'.Nodup/\(∀v,v∈b'↔v∈b/\v∉vs)/\Kf ⟨P++[b],G,B⟩ (vs.map .out)=⟨P++[b'],G++vs,B⟩
 | [],P,b,G,B,_,nb,_,_,_=>⟨trivial,b,nb,λv=>by simp,by rw[lR];rfl⟩
 |v::vs,P,b,G,B,nd,nb,mb,ng,hw=>by
  obtain⟨n1,n2⟩:=jP.mp nd
  have e:KN ⟨P++[b],G,B⟩ (.out v)=⟨P++[b.erase v],G++[v],B⟩:=by
   show Kp.mk ((P++[b]).dropLast++[(Kp.mk (P++[b]) G B).top.erase v]) (G++[v]) B=_
   rw[qK,Dz]
  obtain⟨i1,b',d1,d2,i2⟩:=Qi vs (P:=P) (b:=b.erase v) (G:=G++[v]) (B:=B) n2 (nb.erase v) (λx hx=>nb.mem_erase_iff.mpr ⟨λz=>n1 (z▸hx),mb x (bD _ hx)⟩) (λx hx z=>by
   grind) (cZ List.length_erase_le hw)
  refine⟨⟨⟨⟨Ľ _ _ _ _,?_,ng v aU⟩,?_⟩,?_⟩,b',d1,λx=>?_,?_⟩
  ·rw[qK];exact mb v aU
  ·rw[e,qK];exact cZ List.length_erase_le hw
  ·rw[e];exact i1
  ·rw[d2,nb.mem_erase_iff,b7]
   constructor
   ·rintro⟨⟨h1,h2⟩,h3⟩
    exact⟨h2,λz=>z.elim h1 h3⟩
   ·rintro⟨h1,h2⟩
    exact⟨⟨λz=>h2 (.inl z),h1⟩,λz=>h2 (.inr z)⟩
  ·show Kf (KN ⟨P++[b],G,B⟩ (.out v)) (vs.map .out)=_
   grind
theorem Qj:∀(tl:List bY) {P:List (List Int)}{b G:List Int}{B:List bY},tl.Nodup->(∀t∈tl,t∈ts/\t∉B/\t.1∈b/\t.2∈b)->b.length<=wd->ug n wd ts ⟨P++[b],G,B⟩ (tl.map λt=>.tie t.1 t.2)/\Kf ⟨P++[b],G,B⟩ (tl.map λt=>.tie t.1 t.2)=⟨P++[b],G,B++tl⟩
 | [],P,b,G,B,_,_,_=>⟨trivial,by rw[lR];rfl⟩
 |t::tl,P,b,G,B,nd,ok,hw=>by
  obtain⟨n1,n2⟩:=jP.mp nd
  obtain⟨o1,o2,o3,o4⟩:=ok t aU
  obtain⟨i1,i2⟩:=Qj tl (P:=P) (b:=b) (G:=G) (B:=B++[t]) n2 (λs hs=>by
   grind) hw
  refine⟨⟨⟨⟨Ľ _ _ _ _,o1,o2,?_,?_⟩,?_⟩,i1⟩,?_⟩
  ·rw[qK];exact o3
  ·rw[qK];exact o4
  ·show(Kp.mk (P++[b]) G (B++[t])).top.length<=wd
   rw[qK];exact hw
  ·show Kf ⟨P++[b],G,B++[t]⟩ (tl.map _)=_
   rw[i2,vR];rfl
def XR{n:Nat}{ts:List bY}{P:List (List Int)}{b b' G:List Int}(pm:b'.Perm b):Can n ts ⟨P++[b]++[b'],G,B⟩ .join/\KN ⟨P++[b]++[b'],G,B⟩ .join=⟨P++[b],G,B⟩:=by
 refine⟨⟨?_,?_⟩,?_⟩
 ·show 1<(P++[b]++[b']).length;simp
 ·rw[qK];show b'.Perm ((P++[b]++[b']).getD ((P++[b]++[b']).length-2) []);have:(P++[b]++[b']).getD ((P++[b]++[b']).length-2) []=b:=by
   rw[RW (by simp),Dz,Â,Tc];rfl
  rw[this];exact pm
 ·show Kp.mk (P++[b]++[b']).dropLast G B=_;grind
end
def vL(x y:List Int):List Int:=x.filter λv=>!decide (v∈y)
def lW{x y:List Int}{v:Int}:v∈vL x y↔v∈x/\v∉y:=by
 unfold vL;grind
def kZ(aZ:Nat->List Int)(j k:Nat):List bT:=(vL (aZ j) (aZ k)).map .out++(vL (aZ k) (aZ j)).map .inn
section
variable{n m:Nat}{up:Nat->Nat}{aZ:Nat->List Int}{ts:List bY}
def ľ(T:Tb n m up aZ)(hW:∀k,(aZ k).length<=wd){j k:Nat}{P:List (List Int)}{b G:List Int}(pm:b.Perm (aZ j))(h1:∀v∈aZ j,v∉aZ k->v∉G)(h2:∀v∈aZ k,v∉aZ j->v∉G):ug n wd ts ⟨P++[b],G,B⟩ (kZ aZ j k)/\∃b',b'.Perm (aZ k)/\Kf ⟨P++[b],G,B⟩ (kZ aZ j k)=⟨P++[b'],G++vL (aZ j) (aZ k),B⟩:=by
 have nb:b.Nodup:=pm.nodup_iff.mpr (T.nd j);obtain⟨o1,b1,d1,d2,o2⟩:=Qi (n:=n) (ts:=ts) (vL (aZ j) (aZ k)) (P:=P) (b:=b) (G:=G) (B:=B) ((T.nd j).filter _) nb (λv hv=>pm.mem_iff.mpr (lW.mp hv).1) (λv hv=>h1 v (lW.mp hv).1 (lW.mp hv).2) (by rw[pm.length_eq];exact hW j);have m1:∀v,v∈b1↔v∈aZ j/\v∈aZ k:=λv=>by
  rw[d2,pm.mem_iff,lW];grind
 have pk:(b1++vL (aZ k) (aZ j)).Perm (aZ k):=by
  refine(HN (xO.mpr ⟨d1,(show(vL (aZ k) (aZ j)).Nodup from(T.nd k).filter _),λx hx y hy e=>?_⟩) (T.nd k)).mpr λv=>?_
  ·subst e;exact(lW.mp hy).2 ((m1 x).mp hx).1
  ·rw[cN,m1];show _\/v∈vL (aZ k) (aZ j)↔_;rw[lW];grind
 obtain⟨i1,i2⟩:=V4 (n:=n) (ts:=ts) (vL (aZ k) (aZ j)) (P:=P) (b:=b1) (G:=G++vL (aZ j) (aZ k)) (B:=B) ((T.nd k).filter _) (λv hv=>T.lt k v (lW.mp hv).1) (λv hv z=>(lW.mp hv).2 ((m1 v).mp z).1) (λv hv z=>by
  obtain⟨a,c⟩:=lW.mp hv;rcases cN.mp z with z|z
  ·grind
  ·exact(lW.mp z).2 a) (by have h1:=pk.length_eq;have h2:=hW k;rw[cC]at h1;rw[h1];exact h2)
 exact⟨nD o1 (),b1++vL (aZ k) (aZ j),pk,by unfold kZ;rw[mO,o2,i2]⟩
def Kg(n wd m:Nat)(up:Nat->Nat)(aZ:Nat->List Int)(ts tb:List bY)(j:Nat)(ss:List bT):Prop :=
 ∀P G B,(∀v,Fo m up aZ j v->v∉G)->(∀t∈B,∀r,pK m up j r->¬gV up aZ r t)->∃b G' B',b.Perm (aZ j)/\ug n wd ts ⟨P,G,B⟩ ss/\Kf ⟨P,G,B⟩ ss=⟨P++[b],G',B'⟩/\(∀v,v∈G'↔v∈G\/(Fo m up aZ j v/\v∉aZ j))/\∀t,t∈B'↔t∈B\/(t∈tb/\∃r,pK m up j r/\gV up aZ r t)
def xj(up:Nat->Nat)(aZ:Nat->List Int)(tb:List bY)(k:Nat):List bY:=tb.filter λt=>decide (gV up aZ k t)
def jO(m:Nat)(up:Nat->Nat)(k:Nat):List Nat:=(List.range m).filter λj=>decide (k<j)&&decide (up j=k)
def yE(T:Tb n m up aZ){k j:Nat}:j∈jO m up k↔0<j/\j<m/\up j=k:=by
 unfold jO;rw[kJ,mV,ql,dU,dU];constructor
 ·rintro⟨a,b,c⟩;exact⟨(),a,c⟩
 ·rintro⟨a,b,c⟩;have:=T.ups j a b;exact⟨b,(),c⟩
def Qk(m:Nat)(up:Nat->Nat)(k:Nat):(jO m up k).Nodup:=List.nodup_range.sublist Tg
end
section
variable{n:Nat}{ts:List bY}{ss:List bT}
theorem Kh(dJ:n<=10)(c:ug n wd ts ⟨[],[],[]⟩ ss):∀i,i<=ss.length->∃E,Qh n ts ss i (Kf ⟨[],[],[]⟩ (ss.take i)) E
 |0,_=>⟨[],a5l⟩
 |i+1,il=>by
  obtain⟨E,D⟩:=Kh dJ c i ()
  have hs:ss[i]?=some (ss[i]'()):=bR ()
  have c1:ug n wd ts ⟨[],[],[]⟩ (ss.take i++ss.drop i):=by rw[xK];exact c
  have c2:=(zB c1).2
  rw[HS (show i<ss.length by omega)]at c2
  obtain⟨E',_,D'⟩:=a3j dJ D hs c2.1.1
  refine⟨E',?_⟩
  rw[Qg hs,mO]
  exact D'
def a0X(c:ug n wd ts ⟨[],[],[]⟩ ss){i:Nat}(il:i<ss.length):(Kf ⟨[],[],[]⟩ (ss.take (i+1))).top.length<=wd:=by
 have c1:ug n wd ts ⟨[],[],[]⟩ (ss.take i++ss.drop i):=by rw[xK];exact c
 have c2:=(zB c1).2;rw[HS il]at c2;have hs:ss[i]?=some (ss[i]'il):=bR il;rw[Qg hs,mO];exact c2.1.2
end
section
variable{n:Nat}{ts:List bY}
theorem Ŀ:∀(a:List bT) {κ:Kp}{pre:List bT},ug n wd ts κ a->(∀v,(v∈κ.G\/∃b∈κ.P,v∈b)->bT.inn v∈pre)->∀v,(v∈(Kf κ a).G\/∃b∈(Kf κ a).P,v∈b)->bT.inn v∈pre++a
 | [],κ,pre,_,h,v,hv=>by rw[lR];exact h v hv
 |s::r,κ,pre,c,h,v,hv=>by
  have e:pre++s::r=(pre++[s])++r:=by rw[vR];rfl
  rw[e]
  refine Ŀ r c.2 (λu hu=>?_) v hv
  have old:∀{u},(u∈κ.G\/∃b∈κ.P,u∈b)->bT.inn u∈pre++[s]:=λhu=>uK _ (h _ hu)
  have dl:∀{b:List Int},b∈κ.P.dropLast->b∈κ.P:=λhb=>lH (by rw[List.dropLast_eq_take]at hb;exact hb)
  have can:=c.1.1
  cases s with
  |leaf =>
   rcases hu with hu|⟨b,hb,hu⟩
   ·exact old (.inl hu)
   ·rcases cN.mp (show b∈κ.P++[[]]from hb)with hb|hb
    ·grind
    grind
  |inn x =>
   rcases hu with hu|⟨b,hb,hu⟩
   ·exact old (.inl hu)
   ·rcases cN.mp (show b∈κ.P.dropLast++[κ.top++[x]]from hb)with hb|hb
    ·grind
    ·rw[bL.mp hb]at hu
     rcases cN.mp hu with hu|hu
     ·exact old (.inr ⟨_,Ke can.1,hu⟩)
     grind
  |tie x y=>exact old hu
  |out x =>
   rcases hu with hu|⟨b,hb,hu⟩
   ·rcases cN.mp (show u∈κ.G++[x]from hu)with hu|hu
    ·exact old (.inl hu)
    ·rw[bL.mp hu]
     exact old (.inr ⟨_,Ke can.1,can.2.1⟩)
   ·rcases cN.mp (show b∈κ.P.dropLast++[κ.top.erase x]from hb)with hb|hb
    ·grind
    ·rw[bL.mp hb]at hu
     exact old (.inr ⟨_,Ke can.1,List.mem_of_mem_erase hu⟩)
  |join =>
   rcases hu with hu|⟨b,hb,hu⟩
   ·exact old (.inl hu)
   ·exact old (.inr ⟨b,dl hb,hu⟩)
end
section
variable{n:Nat}{ts:List bY}{ss:List bT}
def a5m(dJ:n<=10)(c:ug n wd ts ⟨[],[],[]⟩ ss){G:List Int}(h:Kf ⟨[],[],[]⟩ ss=⟨[[]],G,B⟩)(cov:∀v:Int,0<=v->v<(n:Int)->v∈G)(mB:∀t,t∈B↔t∈ts):Bx n ts ss (cB n ts ss)=.ok:=by
 obtain⟨E,D⟩:=Kh dJ c ss.length (aL _);rw[gO,h]at D;have hE:∀j:Nat,j<n->(j:Int)∈E:=λj hj=>by
  have h1:=Ŀ ss c (pre:=[]) (λv hv=>by
   grind) (j:Int) (.inl ())
  have h2:=(D.ins (j:Int)).mp ();exact h2
 have:=(a0U dJ D).2.2 Z hE;grind
def Zt(dJ:n<=10)(c:ug n wd ts ⟨[],[],[]⟩ ss)(qI:Bx n ts ss (cB n ts ss)=.ok):∀b∈(cB n ts ss).aR,b.length<=wd:=by
 have go:=ĩ dJ qI;have I:=zx dJ qI;intro b hb;obtain⟨k,kl,e⟩:=rR hb;rw[I.tl]at kl;have eb:Go.jH n ts ss k=b:=by
  show(cB n ts ss).aR.getD k []=b;rw[gw,bR (by rw[I.tl];exact kl),<-e];rfl
 obtain⟨E',D'⟩:=Kh dJ c (k+1) ();have S:=Go.Bp (n:=n) (ts:=ts) go dJ (List.getElem?_eq_getElem kl);have r:=D'.rel;have wd':=a0X c kl;have ok':=D'.ok;generalize Kf ⟨[],[],[]⟩ (ss.take (k+1))=κ at r wd' ok';rw[S.pile]at r;have ne:κ.P≠[]:=λz=>by
  rw[z]at r;have:=aV r;simp at this
 rw[sZ ne]at r;obtain⟨xs',x,ex,_,hx⟩:=qR r;have ex':=(List.append_inj' ex Z).2;cases ex';rw[Go.P0 go dJ (Nat.le_refl _) ()]at hx;have hx':∀v,v∈Go.jH n ts ss k↔v∈κ.top:=hx;have nd:=(Go.Ĺ dJ (λk s h=>Go.a0S (Go.Bp go dJ h)) k kl).1;rw[eb]at hx' nd;have pm:b.Perm κ.top:=(HN (Go.MN nd) ok'.V3.1).mpr hx';rw[pm.length_eq];exact wd'
end
theorem MT{α:Type}(p q:α->Bool)(h:∀x,p x=true->q x=true):∀l:List α,l.countP p+l.countP (λx=>q x && !p x)=l.countP q
 | []=>rfl
 |x::l=>by
  have ih:=MT p q h l
  grind
theorem Fp{α:Type}(l:List α)(p:Nat->α->Bool):∀(js:List Nat) (q:α->Bool),js.Nodup->(∀j∈js,∀x,p j x=true->q x=true)->(∀j∈js,∀j'∈js,∀x,p j x=true->p j' x=true->j=j')->(js.map λj=>l.countP (p j)).sum<=l.countP q
 | [],_,_,_,_=>dh _
 |j::js,q,nd,hq,cW=>by
  obtain⟨n1,n2⟩:=jP.mp nd
  have ih:=Fp l p js (λx=>q x && !p j x) n2 (λi hi x hx=>by
   grind) (λa ha b hb x h1 h2=>cW a (bD _ ha) b (bD _ hb) x h1 h2)
  have:=MT (p j) q (hq j aU) l
  grind
section
open Classical
variable{n m:Nat}{up:Nat->Nat}{aZ:Nat->List Int}
noncomputable def cR (m:Nat) (up:Nat->Nat) (k:Nat):Nat:=(List.range m).countP λr=>decide (pK m up k r)
noncomputable def cT (m:Nat) (up:Nat->Nat) (aZ:Nat->List Int) (tb:List bY) (k:Nat):Nat:=tb.countP λt=>decide (∃r,pK m up k r/\gV up aZ r t)
def XS(T:Tb n m up aZ){k:Nat}(km:k<m):1+((jO m up k).map λj=>cR m up j).sum<=cR m up k:=by
 have kid:∀j∈jO m up k,0<j/\j<m/\up j=k:=λj hj=>(yE T).mp hj;have ne:∀j∈jO m up k,j≠k:=λj hj e=>by
  obtain⟨j0,jm,ju⟩:=kid j hj;have:=T.ups j j0 jm;omega
 have h:=Fp (List.range m) (λj r=>if j=k then decide (r=k)else decide (pK m up j r)) (k::jO m up k) (λr=>decide (pK m up k r)) (jP.mpr ⟨λz=>ne k z Z,Qk _ _ _⟩) (λj hj x hx=>by
  by_cases c:j=k
  ·rw[aG c,dU]at hx;rw[hx];exact bB (.self km)
  ·rw[aA c,dU]at hx;rcases b7.mp hj with e|hj
   ·grind
   ·obtain⟨j0,jm,ju⟩:=kid j hj;exact bB (pK.trans (.step j0 jm (by rw[ju];exact .self km)) hx)) (λa ha b hb x h1 h2=>by
  have nk:∀{j:Nat},j∈jO m up k->¬pK m up j k:=λ{j} hj z=>by
   obtain⟨j0,jm,ju⟩:=kid j hj;have:=T.ups j j0 jm;have:=z.le T;omega
  rcases b7.mp ha with ea|ha<;>rcases b7.mp hb with eb|hb
  ·rw[ea,eb]
  ·grind
  ·grind
  ·rw[aA (ne a ha),dU]at h1;rw[aA (ne b hb),dU]at h2;obtain⟨a0,am,au⟩:=kid a ha;obtain⟨b0,bm,bu⟩:=kid b hb;exact Hz T a0 am b0 bm (au.trans bu.symm) h1 h2)
 rw[cH,vW]at h;have e1:(List.range m).countP (λr=>if k=k then decide (r=k)else decide (pK m up k r))=1:=by
  have:(λr=>if k=k then decide (r=k)else decide (pK m up k r))=λr=>decide (r=k):=funext λr=>aG rfl;rw[this];have h1:=List.nodup_range (n:=m);have h2:List.count k (List.range m)=1:=()
  rw[<-h2];unfold List.count;grind
 have e2:(jO m up k).map (λj=>(List.range m).countP λr=>if j=k then decide (r=k)else decide (pK m up j r))=(jO m up k).map λj=>cR m up j:=zY λj hj=>by
  unfold cR;congr 1;funext r;rw[aA (ne j hj)]
 rw[e1,e2]at h;exact h
def a0Y(T:Tb n m up aZ){k:Nat}(km:k<m)(tb:List bY):(xj up aZ tb k).length+((jO m up k).map λj=>cT m up aZ tb j).sum<=cT m up aZ tb k:=by
 have kid:∀j∈jO m up k,0<j/\j<m/\up j=k:=λj hj=>(yE T).mp hj;have ne:∀j∈jO m up k,j≠k:=λj hj e=>by
  obtain⟨j0,jm,ju⟩:=kid j hj;have:=T.ups j j0 jm;omega
 have h:=Fp tb (λj t=>if j=k then decide (gV up aZ k t)else decide (∃r,pK m up j r/\gV up aZ r t)) (k::jO m up k) (λt=>decide (∃r,pK m up k r/\gV up aZ r t)) (jP.mpr ⟨λz=>ne k z Z,Qk _ _ _⟩) (λj hj x hx=>by
  by_cases c:j=k
  ·rw[aG c,dU]at hx;exact bB ⟨k,.self km,hx⟩
  ·rw[aA c,dU]at hx;obtain⟨r,br,hr⟩:=hx;rcases b7.mp hj with e|hj
   ·grind
   ·obtain⟨j0,jm,ju⟩:=kid j hj;exact bB ⟨r,pK.trans (.step j0 jm (by rw[ju];exact .self km)) br,hr⟩) (λa ha b hb x h1 h2=>by
  have nk:∀{j:Nat},j∈jO m up k->¬pK m up j k:=λ{j} hj z=>by
   obtain⟨j0,jm,ju⟩:=kid j hj;have:=T.ups j j0 jm;have:=z.le T;omega
  rcases b7.mp ha with ea|ha<;>rcases b7.mp hb with eb|hb
  ·rw[ea,eb]
  ·rw[aG ea,dU]at h1;rw[aA (ne b hb),dU]at h2;obtain⟨r,br,hr⟩:=h2;exact absurd (uf T hr h1▸br) (nk hb)
  ·rw[aG eb,dU]at h2;rw[aA (ne a ha),dU]at h1;obtain⟨r,br,hr⟩:=h1;exact absurd (uf T hr h2▸br) (nk ha)
  ·rw[aA (ne a ha),dU]at h1;rw[aA (ne b hb),dU]at h2;obtain⟨r,br,hr⟩:=h1;obtain⟨r',br',hr'⟩:=h2;have:=uf T hr hr';subst this;obtain⟨a0,am,au⟩:=kid a ha;obtain⟨b0,bm,bu⟩:=kid b hb;exact Hz T a0 am b0 bm (au.trans bu.symm) br br')
 rw[cH,vW]at h;have e1:tb.countP (λt=>if k=k then decide (gV up aZ k t)else decide (∃r,pK m up k r/\gV up aZ r t))=(xj up aZ tb k).length:=by
  unfold xj;grind
 have e2:(jO m up k).map (λj=>tb.countP λt=>if j=k then decide (gV up aZ k t)else decide (∃r,pK m up j r/\gV up aZ r t))=(jO m up k).map λj=>cT m up aZ tb j:=zY λj hj=>by
  unfold cT;congr 1;funext t;rw[aA (ne j hj)]
 rw[e1,e2]at h;exact h
theorem X3{α:Type}(L:Nat->List α)(c d:Nat->Nat):∀js:List Nat,(∀j∈js,(L j).length<=14*c j+d j)->(js.flatMap L).length<=14*(js.map c).sum+(js.map d).sum
 | [],_=>dh _
 |j::js,h=>by
  have ih:=X3 L c d js λi hi=>h i (bD _ hi)
  grind
def Zu(hW:∀k,(aZ k).length<=4)(j k:Nat):(kZ aZ j k).length<=8:=by
 have f1:(vL (aZ j) (aZ k)).length<=4:=cZ (Dw _ _) (hW j);have f2:(vL (aZ k) (aZ j)).length<=4:=cZ (Dw _ _) (hW k);unfold kZ;grind
end
section
variable{n m:Nat}{up:Nat->Nat}{aZ:Nat->List Int}{ts tb:List bY}
def M4(T:Tb n m up aZ)(hW:∀k,(aZ k).length<=wd){j k:Nat}{L:List bT}(j0:0<j)(jm:j<m)(ju:up j=k)(ly:Kg n wd m up aZ ts tb j L){P:List (List Int)}{G:List Int}(hK:∀v∈aZ k,v∉G)(hG:∀v,Fo m up aZ j v->v∉G)(hB:∀t∈B,∀r,pK m up j r->¬gV up aZ r t) :
  ∃b G' B',b.Perm (aZ k)/\ug n wd ts ⟨P,G,B⟩ (L++kZ aZ j k)/\Kf ⟨P,G,B⟩ (L++kZ aZ j k)=⟨P++[b],G',B'⟩/\(∀v,v∈G'↔v∈G\/(Fo m up aZ j v/\v∉aZ k))/\∀t,t∈B'↔t∈B\/(t∈tb/\∃r,pK m up j r/\gV up aZ r t):=by
 obtain⟨bj,G1,B1,pj,a1,e1,ŀ,ŭ⟩:=ly P G B hG hB;have a1r:∀v∈aZ j,Fo m up aZ j v:=λv hv=>⟨j,.self jm,hv⟩;obtain⟨a2,b2,p2,e2⟩:=ľ (ts:=ts) T hW (k:=k) (P:=P) (G:=G1) (B:=B1) pj (λv hv _ z=>by
  rcases(ŀ v).mp z with z|z
  ·exact hG v (a1r v hv) z
  ·exact z.2 hv) (λv hv nv z=>by
  rcases(ŀ v).mp z with z|z
  ·exact hK v hv z
  ·exact nv (ļ T j0 jm z.1 (ju▸hv)))
 refine⟨b2,_,B1,p2,nD a1 (by rw[e1];exact a2),by rw[mO,e1,e2],λv=>?_,ŭ⟩;rw[cN,ŀ,lW];constructor
 ·rintro((z|⟨z1,z2⟩)|⟨z1,z2⟩)
  ·exact .inl z
  ·exact .inr ⟨z1,λz=>z2 (ļ T j0 jm z1 (ju▸z))⟩
  ·exact .inr ⟨a1r v z1,z2⟩
 ·rintro(z|⟨z1,z2⟩)
  ·exact .inl (.inl z)
  ·by_cases c:v∈aZ j
   ·exact .inr ⟨c,z2⟩
   ·exact .inl (.inr ⟨z1,c⟩)
def Gj(n wd m:Nat)(up:Nat->Nat)(aZ:Nat->List Int)(ts tb:List bY)(k:Nat)(js:List Nat)(own:Bool)(ss:List bT):Prop :=
 ∀P G B,(∀v∈aZ k,v∉G)->(∀j∈js,∀v,Fo m up aZ j v->v∉G)->(∀t∈B,∀j∈js,∀r,pK m up j r->¬gV up aZ r t)->(own=true->∀t∈B,¬gV up aZ k t)->∃b G' B',b.Perm (aZ k)/\ug n wd ts ⟨P,G,B⟩ ss/\Kf ⟨P,G,B⟩ ss=⟨P++[b],G',B'⟩/\(∀v,v∈G'↔v∈G\/∃j∈js,Fo m up aZ j v/\v∉aZ k)/\∀t,t∈B'↔t∈B\/(t∈tb/\((∃j∈js,∃r,pK m up j r/\gV up aZ r t)\/(own=true/\gV up aZ k t)))
def Ł(up:Nat->Nat)(aZ:Nat->List Int)(tb:List bY)(k:Nat):List bT:=(xj up aZ tb k).map λt=>.tie t.1 t.2
def HB{k:Nat}{t:Int×Int}:t∈xj up aZ tb k↔t∈tb/\gV up aZ k t:=by
 unfold xj;rw[kJ,dU]
def a3k(T:Tb n m up aZ)(hW:∀k,(aZ k).length<=wd)(tn:tb.Nodup)(sub:∀t∈tb,t∈ts)(k:Nat)(own:Bool):Gj n wd m up aZ ts tb k [] own ((.leaf::(aZ k).map .inn)++if own=true then Ł up aZ tb k else []):=by
 intro P G B hK _ _ hO;obtain⟨i1,i2⟩:=V4 (n:=n) (wd:=wd) (ts:=ts) (aZ k) (P:=P) (b:=[]) (G:=G) (B:=B) (T.nd k) (T.lt k) (λv _ z=>absurd z dW) hK (by have:=hW k;show 0+_<=_;omega);have g1:Kf ⟨P,G,B⟩ (.leaf::(aZ k).map .inn)=⟨P++[aZ k],G,B⟩:=i2;have a0:ug n wd ts ⟨P,G,B⟩ (.leaf::(aZ k).map .inn):=by
  refine⟨⟨trivial,?_⟩,i1⟩;show(Kp.mk (P++[[]]) G B).top.length<=wd;rw[qK];exact dh _
 cases own with
 |false =>
  rw[aA cY,lR];exact⟨aZ k,G,B,Ea _,a0,g1,λv=>by simp,λt=>by simp⟩
 |true =>
  rw[aG rfl];obtain⟨a,e⟩:=Qj (n:=n) (wd:=wd) (ts:=ts) (xj up aZ tb k) (P:=P) (b:=aZ k) (G:=G) (B:=B) (tn.sublist Tg) (λt ht=>by
   obtain⟨t1,h⟩:=HB.mp ht;exact⟨sub t t1,λz=>hO Z t z h,h.1,h.2.1⟩) (hW k)
  refine⟨aZ k,G,B++xj up aZ tb k,Ea _,nD a0 (by rw[g1];exact a),by rw[mO,g1];exact e,λv=>by simp,λt=>?_⟩;rw[cN,HB];simp
def ł(T:Tb n m up aZ)(hW:∀k,(aZ k).length<=wd){j k:Nat}{js:List Nat}{own:Bool}{Z98 L:List bT}(km:k<m)(j0:0<j)(jm:j<m)(ju:up j=k)(nj:j∉js)(kd:∀i∈js,0<i/\i<m/\up i=k)(lm:Gj n wd m up aZ ts tb k js own Z98)(ly:Kg n wd m up aZ ts tb j L) :
  Gj n wd m up aZ ts tb k (j::js) own (Z98++(L++kZ aZ j k)++[.join])/\Gj n wd m up aZ ts tb k (j::js) own ((L++kZ aZ j k)++Z98++[.join]):=by
 have jk:¬pK m up j k:=λz=>by
  have l1:=z.le T;have l2:=T.ups j j0 jm;omega
 have sib:∀i∈js,∀v,Fo m up aZ i v->Fo m up aZ j v->v∈aZ k:=λi hi v h1 h2=>by
  obtain⟨i0,im,iu⟩:=kd i hi;exact iu▸a0V T i0 im j0 jm (iu.trans ju.symm) (λz=>nj (z▸hi)) h1 h2
 have a5n:∀i∈js,∀{t:Int×Int}{r r':Nat},pK m up i r->gV up aZ r t->pK m up j r'->gV up aZ r' t->False:=λi hi {t r r'} b1 h1 b2 h2=>by
  obtain⟨i0,im,iu⟩:=kd i hi;have:=uf T h1 h2;subst this;exact nj (Hz T i0 im j0 jm (iu.trans ju.symm) b1 b2▸hi)
 have mem:∀(P:Nat->Prop),(∃i∈j::js,P i)↔P j\/∃i∈js,P i:=λP=>by
  constructor
  ·rintro⟨i,hi,h⟩;rcases b7.mp hi with e|hi
   ·exact .inl (e▸h)
   ·exact .inr ⟨i,hi,h⟩
  ·rintro(h|⟨i,hi,h⟩)
   ·exact⟨j,aU,h⟩
   ·exact⟨i,bD _ hi,h⟩
 refine⟨λP G B hK hG hB hO=>?_,λP G B hK hG hB hO=>?_⟩
 ·obtain⟨b,G1,B1,pb,a1,e1,ŀ,ŭ⟩:=lm P G B hK (λi hi=>hG i (bD _ hi)) (λt ht i hi=>hB t ht i (bD _ hi)) hO;obtain⟨b2,G2,B2,pb2,a2,e2,mG2,mB2⟩:=M4 T hW j0 jm ju ly (P:=P++[b]) (G:=G1) (B:=B1) (λv hv z=>by
   rcases(ŀ v).mp z with z|⟨i,hi,_,z⟩
   ·exact hK v hv z
   ·exact z hv) (λv hv z=>by
   rcases(ŀ v).mp z with z|⟨i,hi,z1,z2⟩
   ·exact hG j aU v hv z
   ·exact z2 (sib i hi v z1 hv)) (λt ht r br hr=>by
   rcases(ŭ t).mp ht with z|⟨_,⟨i,hi,r',br',hr'⟩|⟨_,hk⟩⟩
   ·exact hB t z j aU r br hr
   ·exact a5n i hi br' hr' br hr
   ·exact jk (uf T hr hk▸br))
  obtain⟨c3,e3⟩:=XR (n:=n) (ts:=ts) (P:=P) (b:=b) (b':=b2) (G:=G2) (B:=B2) (pb2.trans pb.symm);have wide:(KN ⟨P++[b]++[b2],G2,B2⟩ .join).top.length<=wd:=by rw[e3,qK,pb.length_eq];exact hW k
  refine⟨b,G2,B2,pb,?_,?_,λv=>?_,λt=>?_⟩
  ·exact nD (nD a1 (by rw[e1];exact a2)) (by rw[mO,e1,e2];exact⟨⟨c3,wide⟩,trivial⟩)
  ·rw[mO,mO,e1,e2];exact e3
  ·rw[mG2,ŀ,mem];constructor
   ·rintro((z|z)|z)
    ·exact .inl z
    ·exact .inr (.inr z)
    ·exact .inr (.inl z)
   ·rintro(z|(z|z))
    ·exact .inl (.inl z)
    ·exact .inr z
    ·exact .inl (.inr z)
  ·rw[mB2,ŭ,mem];constructor
   ·rintro((z|⟨z0,z|z⟩)|⟨z0,z⟩)
    ·exact .inl z
    ·exact .inr ⟨z0,.inl (.inr z)⟩
    ·exact .inr ⟨z0,.inr z⟩
    ·exact .inr ⟨z0,.inl (.inl z)⟩
   ·rintro(z|⟨z0,(z|z)|z⟩)
    ·exact .inl (.inl z)
    ·exact .inr ⟨z0,z⟩
    ·exact .inl (.inr ⟨z0,.inl z⟩)
    ·exact .inl (.inr ⟨z0,.inr z⟩)
 ·obtain⟨b2,G2,B2,pb2,a2,e2,mG2,mB2⟩:=M4 T hW j0 jm ju ly (P:=P) (G:=G) (B:=B) hK (hG j aU) (λt ht=>hB t ht j aU);obtain⟨b,G1,B1,pb,a1,e1,ŀ,ŭ⟩:=lm (P++[b2]) G2 B2 (λv hv z=>by
   rcases(mG2 v).mp z with z|z
   ·exact hK v hv z
   ·exact z.2 hv) (λi hi v hv z=>by
   rcases(mG2 v).mp z with z|⟨z1,z2⟩
   ·exact hG i (bD _ hi) v hv z
   ·exact z2 (sib i hi v hv z1)) (λt ht i hi r br hr=>by
   rcases(mB2 t).mp ht with z|⟨_,r',br',hr'⟩
   ·exact hB t z i (bD _ hi) r br hr
   ·exact a5n i hi br hr br' hr') (λho t ht hk=>by
   rcases(mB2 t).mp ht with z|⟨_,r',br',hr'⟩
   ·exact hO ho t z hk
   ·exact jk (uf T hr' hk▸br'))
  obtain⟨c3,e3⟩:=XR (n:=n) (ts:=ts) (P:=P) (b:=b2) (b':=b) (G:=G1) (B:=B1) (pb.trans pb2.symm);have wide:(KN ⟨P++[b2]++[b],G1,B1⟩ .join).top.length<=wd:=by rw[e3,qK,pb2.length_eq];exact hW k
  refine⟨b2,G1,B1,pb2,?_,?_,λv=>?_,λt=>?_⟩
  ·exact nD (nD a2 (by rw[e2];exact a1)) (by rw[mO,e2,e1];exact⟨⟨c3,wide⟩,trivial⟩)
  ·rw[mO,mO,e2,e1];exact e3
  ·rw[ŀ,mG2,mem];constructor
   ·rintro((z|z)|z)
    ·exact .inl z
    ·exact .inr (.inl z)
    ·exact .inr (.inr z)
   ·rintro(z|(z|z))
    ·exact .inl (.inl z)
    ·exact .inl (.inr z)
    ·exact .inr z
  ·rw[ŭ,mB2,mem];constructor
   ·rintro((z|⟨z0,z⟩)|⟨z0,z|z⟩)
    ·exact .inl z
    ·exact .inr ⟨z0,.inl (.inl z)⟩
    ·exact .inr ⟨z0,.inl (.inr z)⟩
    ·exact .inr ⟨z0,.inr z⟩
   ·rintro(z|⟨z0,(z|z)|z⟩)
    ·exact .inl (.inl z)
    ·exact .inl (.inr ⟨z0,z⟩)
    ·exact .inr ⟨z0,.inl z⟩
    ·exact .inr ⟨z0,.inr z⟩
def Ń(T:Tb n m up aZ)(hW:∀k,(aZ k).length<=wd)(tn:tb.Nodup)(sub:∀t∈tb,t∈ts){k:Nat}{js:List Nat}{own:Bool}{Z98:List bT}(km:k<m)(mj:∀j,j∈js↔0<j/\j<m/\up j=k)(lm:Gj n wd m up aZ ts tb k js own Z98):Kg n wd m up aZ ts tb k (Z98++if own=true then []else Ł up aZ tb k):=by
 intro P G B hG hB;have kb:∀j∈js,∀r,pK m up j r->pK m up k r:=λj hj r b=>by
  obtain⟨j0,jm,ju⟩:=(mj j).mp hj;exact pK.trans (.step j0 jm (by rw[ju];exact .self km)) b
 have jk:∀j∈js,¬pK m up j k:=λj hj z=>by
  obtain⟨j0,jm,ju⟩:=(mj j).mp hj;have l1:=z.le T;have l2:=T.ups j j0 jm;omega
 have ex:∀{r:Nat},pK m up k r->r≠k->∃j∈js,pK m up j r:=λ{r} b ne=>by
  rcases b.kid T with e|⟨j,j0,jm,ju,bj⟩
  ·exact absurd e ne
  ·exact⟨j,(mj j).mpr ⟨j0,jm,ju⟩,bj⟩
 obtain⟨b,G1,B1,pb,a1,e1,ŀ,ŭ⟩:=lm P G B (λv hv=>hG v ⟨k,.self km,hv⟩) (λj hj v ⟨r,br,hr⟩=>hG v ⟨r,kb j hj r br,hr⟩) (λt ht j hj r br=>hB t ht r (kb j hj r br)) (λ_ t ht=>hB t ht k (.self km));have mG:∀v,v∈G1↔v∈G\/(Fo m up aZ k v/\v∉aZ k):=λv=>by
  rw[ŀ];constructor
  ·rintro(z|⟨j,hj,⟨r,br,hr⟩,z⟩)
   ·exact .inl z
   ·exact .inr ⟨⟨r,kb j hj r br,hr⟩,z⟩
  ·rintro(z|⟨⟨r,br,hr⟩,z⟩)
   ·exact .inl z
   ·obtain⟨j,hj,bj⟩:=ex br (λe=>z (e▸hr));exact .inr ⟨j,hj,⟨r,bj,hr⟩,z⟩
 have two:∀t,(∃r,pK m up k r/\gV up aZ r t)↔(∃j∈js,∃r,pK m up j r/\gV up aZ r t)\/gV up aZ k t:=λt=>by
  constructor
  ·rintro⟨r,br,hr⟩;by_cases c:r=k
   ·exact .inr (c▸hr)
   ·obtain⟨j,hj,bj⟩:=ex br c;exact .inl ⟨j,hj,r,bj,hr⟩
  ·rintro(⟨j,hj,r,br,hr⟩|h)
   ·exact⟨r,kb j hj r br,hr⟩
   ·exact⟨k,.self km,h⟩
 cases own with
 |true =>
  rw[aG Z,lR];refine⟨b,G1,B1,pb,a1,e1,mG,λt=>?_⟩;rw[ŭ,two];simp
 |false =>
  rw[aA cY];obtain⟨a,e⟩:=Qj (n:=n) (wd:=wd) (ts:=ts) (xj up aZ tb k) (P:=P) (b:=b) (G:=G1) (B:=B1) (tn.sublist Tg) (λt ht=>by
   obtain⟨t1,h⟩:=HB.mp ht;refine⟨sub t t1,λz=>?_,pb.mem_iff.mpr h.1,pb.mem_iff.mpr h.2.1⟩;rcases(ŭ t).mp z with z|⟨_,⟨j,hj,r,br,hr⟩|⟨z,_⟩⟩
   ·exact hB t z k (.self km) h
   ·exact jk j hj (uf T hr h▸br)
   ·cases z) (by rw[pb.length_eq];exact hW k)
  refine⟨b,G1,B1++xj up aZ tb k,pb,nD a1 (by rw[e1];exact a),by rw[mO,e1];exact e,mG,λt=>?_⟩;rw[cN,ŭ,HB,two];constructor
  ·rintro((z|⟨z0,z|⟨z,_⟩⟩)|⟨z0,z⟩)
   ·exact .inl z
   ·exact .inr ⟨z0,.inl z⟩
   ·cases z
   ·exact .inr ⟨z0,.inr z⟩
  ·rintro(z|⟨z0,z|z⟩)
   ·exact .inl (.inl z)
   ·exact .inl (.inr ⟨z0,.inl z⟩)
   ·exact .inr ⟨z0,z⟩
def zQ(pr:Nat)(aZ:Nat->List Int)(L:Nat->List bT)(k:Nat)(Z98:List bT)(j:Nat):List bT:=if j%2=pr then Z98++(L j++kZ aZ j k)++[.join]else(L j++kZ aZ j k)++Z98++[.join]
def rB(pr:Nat)(own:Bool)(tb:List bY)(m:Nat)(up:Nat->Nat)(aZ:Nat->List Int):Nat->Nat->List bT
 |0,_=>[]
 |f+1,k=>(jO m up k).foldl (zQ pr aZ (rB pr own tb m up aZ f) k) ((.leaf::(aZ k).map .inn)++if own=true then Ł up aZ tb k else [])++if own=true then []else Ł up aZ tb k
theorem M5(T:Tb n m up aZ)(hW:∀k,(aZ k).length<=wd){k:Nat}{own:Bool}{pr:Nat}{L:Nat->List bT}(km:k<m):∀(rest done:List Nat) (Z98:List bT),(rest++done).Nodup->(∀i∈rest++done,0<i/\i<m/\up i=k)->(∀j∈rest,Kg n wd m up aZ ts tb j (L j))->Gj n wd m up aZ ts tb k done own Z98->Gj n wd m up aZ ts tb k (rest.reverse++done) own (rest.foldl (zQ pr aZ L k) Z98)
 | [],done,Z98,_,_,_,h=>h
 |j::rest,done,Z98,nd,kd,ly,h=>by
  obtain⟨n1,n2⟩:=jP.mp nd
  obtain⟨j0,jm,ju⟩:=kd j aU
  have two:=ł T hW km j0 jm ju (λz=>n1 (gB _ z)) (λi hi=>kd i (bD _ (gB _ hi))) h (ly j aU)
  rw[List.reverse_cons,vR]
  show Gj n wd m up aZ ts tb k (rest.reverse++(j::done)) own (rest.foldl (zQ pr aZ L k) (zQ pr aZ L k Z98 j))
  refine M5 T hW km rest (j::done) _ ?_ (λi hi=>?_) (λi hi=>ly i (bD _ hi)) ?_
  ·exact(List.perm_middle.nodup_iff).mpr nd
  ·exact kd i (List.perm_middle.mem_iff.mp hi)
  ·unfold zQ
   split
   ·exact two.1
   ·exact two.2
theorem R0(T:Tb n m up aZ)(hW:∀k,(aZ k).length<=wd)(tn:tb.Nodup)(sub:∀t∈tb,t∈ts)(pr:Nat)(own:Bool):∀f k,k<m->m<=k+f->Kg n wd m up aZ ts tb k (rB pr own tb m up aZ f k)
 |0,k,km,mk=>absurd km ()
 |f+1,k,km,mk=>by
  have kid:∀j∈jO m up k,0<j/\j<m/\up j=k:=λj hj=>(yE T).mp hj
  have h:=M5 (ts:=ts) (tb:=tb) T hW (own:=own) (pr:=pr) (L:=rB pr own tb m up aZ f) km (jO m up k) [] _ (by rw[lR];exact Qk _ _ _) (λi hi=>kid i (by rwa [lR]at hi)) (λj hj=>by
   obtain⟨j0,jm,ju⟩:=kid j hj
   have:=T.ups j j0 jm
   exact R0 T hW tn sub pr own f j jm ()) (a3k (ts:=ts) T hW tn sub k own)
  rw[lR]at h
  exact Ń T hW tn sub km (λj=>by rw[List.mem_reverse];exact yE T) h
theorem Kl(pr:Nat)(L:Nat->List bT)(k:Nat):∀(js:List Nat) (Z98:List bT),(js.foldl (zQ pr aZ L k) Z98).length=Z98.length+(js.flatMap λj=>L j++(kZ aZ j k++[.join])).length
 | [],Z98=>by simp
 |j::js,Z98=>by
  show(js.foldl (zQ pr aZ L k) (zQ pr aZ L k Z98 j)).length=_
  rw[Kl pr L k js,List.flatMap_cons,cC]
  unfold zQ
  split<;>simp only[List.length_append,List.length_singleton]<;>omega
theorem M6(T:Tb n m up aZ)(hW:∀k,(aZ k).length<=4)(pr:Nat)(own:Bool)(tb:List bY):∀f k,k<m->(rB pr own tb m up aZ f k).length+9<=14*cR m up k+cT m up aZ tb k
 |0,k,km=>by
  have h:=XS T km
  show 0+9<=_
  omega
 |f+1,k,km=>by
  have h1:=XS T km
  have h2:=a0Y T km tb
  have hb:=hW k
  have h3:=X3 (λj=>rB pr own tb m up aZ f j++(kZ aZ j k++[bT.join])) (λj=>cR m up j) (λj=>cT m up aZ tb j) (jO m up k) λj hj=>by
   obtain⟨j0,jm,ju⟩:=(yE T).mp hj
   have ih:=M6 T hW pr own tb f j jm
   have:=Zu hW j k
   show(rB pr own tb m up aZ f j++(kZ aZ j k++[bT.join])).length<=14*cR m up j+cT m up aZ tb j
   rw[cC,cC,zX]
   omega
  unfold rB Ł
  have eo:(if own=true then(xj up aZ tb k).map λt=>bT.tie t.1 t.2 else []).length+(if own=true then []else(xj up aZ tb k).map λt=>bT.tie t.1 t.2).length=(xj up aZ tb k).length:=by
   cases own with
   |true=>rw[aG Z,aG Z,aK];rfl
   |false=>rw[aA cY,aA cY,aK];show 0+_=_;omega
  rw[cC,Kl,cC,lN,aK]
  omega
def M7(T:Tb n m up aZ)(hW:∀k,(aZ k).length<=4)(m20:m<=20)(pr:Nat)(own:Bool){tb:List bY}(a0Z:tb.length<=100){f k:Nat}(km:k<m):(rB pr own tb m up aZ f k).length<=400:=by
 have h:=M6 T hW pr own tb f k km;have h1:cR m up k<=m:=by
  unfold cR;exact cZ List.countP_le_length (by rw[rW];exact aL _)
 have h2:cT m up aZ tb k<=tb.length:=List.countP_le_length;omega
def Br(pr:Nat)(own:Bool)(tb:List bY)(m:Nat)(up:Nat->Nat)(aZ:Nat->List Int)(d:Nat):List bT:=rB pr own tb m up aZ d 0++(aZ 0).map .out
def Zv{d:Nat}(T:Tb n m up aZ)(dJ:n<=10)(hW:∀k,(aZ k).length<=wd)(tn:ts.Nodup)(inb:∀t∈ts,∃k,t.1∈aZ k/\t.2∈aZ k)(cov:∀v:Int,0<=v->v<(n:Int)->∃k,v∈aZ k)(md:m<=d)(pr:Nat)(own:Bool):Bx n ts (Br pr own ts m up aZ d) (cB n ts (Br pr own ts m up aZ d))=.ok/\∀b∈(cB n ts (Br pr own ts m up aZ d)).aR,b.length<=wd:=by
 obtain⟨b,G',B',pm,a,e,mG,mB⟩:=R0 (ts:=ts) T hW tn (λ_ h=>h) pr own d 0 T.pos () [] [] [] (λv _ z=>absurd z dW) (λt ht=>absurd ht dW);obtain⟨o1,b',d1,d2,o2⟩:=Qi (n:=n) (wd:=wd) (ts:=ts) (aZ 0) (P:=[]) (b:=b) (G:=G') (B:=B') (T.nd 0) (pm.nodup_iff.mpr (T.nd 0)) (λv hv=>pm.mem_iff.mpr hv) (λv hv z=>by
  rcases(mG v).mp z with z|z
  ·exact absurd z dW
  ·exact z.2 hv) (by rw[pm.length_eq];exact hW 0)
 have eb:b'=[]:=Ss.mpr λv hv=>((d2 v).mp hv).2 (pm.mem_iff.mp ((d2 v).mp hv).1);have A:ug n wd ts ⟨[],[],[]⟩ (Br pr own ts m up aZ d):=nD a (by rw[e];exact o1);have E:Kf ⟨[],[],[]⟩ (Br pr own ts m up aZ d)=⟨[[]],G'++aZ 0,B'⟩:=by
  unfold Br;rw[mO,e,o2,eb];rfl
 have qI:=a5m dJ A E (λv v0 vn=>by
  obtain⟨k,hk⟩:=cov v v0 vn;by_cases c:v∈aZ 0
  ·exact gB _ c
  ·refine uK _ ((mG v).mpr (.inr ⟨⟨k,RX T k (T.in_ hk),hk⟩,c⟩))) (λt=>by
  rw[mB];constructor
  ·rintro(z|z)
   ·exact absurd z dW
   ·exact z.1
  ·intro z;obtain⟨k,k1,k2⟩:=inb t z;obtain⟨r,rm,hr⟩:=a0W T k k1 k2;exact .inr ⟨z,r,RX T r rm,hr⟩)
 exact⟨qI,Zt dJ A qI⟩
end
abbrev rng(n:Nat):List Int:=(List.range n).map λi=>((i:Nat):Int)
def X4{n:Nat}{v:Int}:v∈rng n↔0<=v/\v<(n:Int):=by
 rw[gF];constructor
 ·grind
 ·rintro⟨h0,h1⟩;exact⟨v.toNat,mV.mpr (),()⟩
def Zw(n:Nat):(rng n).Nodup:=by
 unfold List.Nodup;rw[DR];exact List.pairwise_lt_range.imp λh=>by omega
def qU{rs:List Bv}{r:Bv}{k:Nat}(h:k<rs.length):rowAt (rs++[r]) k=rowAt rs k:=by
 unfold rowAt;grind
def uY{rs:List Bv}{r:Bv}:rowAt (rs++[r]) rs.length=r:=by
 unfold rowAt;rw[gw,xr (aL _),Ag];rfl
def xq(rs:List Bv)(k:Nat):Nat:=((rowAt rs k).1.getD 0).toNat
def dR(rs:List Bv)(k:Nat):List Int:=(rowAt rs k).2
def Dh{rs:List Bv}{k:Nat}(h:rs.length<=k):rowAt rs k=(none,[]):=by
 unfold rowAt;grind
def iG(rs:List Bv)(r:Bv)(k:Nat):dR (rs++[r]) k=if k=rs.length then r.2 else dR rs k:=by
 unfold dR;by_cases c:k=rs.length
 ·rw[aG c,c,uY]
 ·rw[aA c];by_cases d:k<rs.length
  ·rw[qU d]
  ·rw[Dh (),Dh ()]
def Dj(rs:List Bv)(r:Bv)(k:Nat):xq (rs++[r]) k=if k=rs.length then(r.1.getD 0).toNat else xq rs k:=by
 unfold xq;by_cases c:k=rs.length
 ·rw[aG c,c,uY]
 ·rw[aA c];by_cases d:k<rs.length
  ·rw[qU d]
  ·rw[Dh (),Dh ()]
structure Rw(n most:Nat)(rs:List Bv)(us:List Int):Prop where
 T:Tb n rs.length (xq rs) (dR rs)
 r0:(rowAt rs 0).1=none
 ru:∀k,0<k->k<rs.length->(rowAt rs k).1=some ((xq rs k:Nat):Int)
 nd:us.Nodup
 lt:∀v∈us,0<=v/\v<(n:Int)
 dis:∀v∈us,∀k,v∉dR rs k
 cov:∀v:Int,0<=v->v<(n:Int)->v∈us\/∃k,v∈dR rs k
 few:∀k,(dR rs k).length<=most
def Dl(us:List Int)(c:Nat):us.take (us.length-c)++us.drop (us.length-c)=us:=xK _ _
def a6L{n most c:Nat}{zs:List Int}(pm:us.Perm (rng n))(cm:c<=most)(hz:zs.Perm (us.drop (us.length-c)).reverse):Rw n most [(none,zs)] (us.take (us.length-c)):=by
 have ndu:us.Nodup:=pm.nodup_iff.mpr (Zw n);have inn:∀v∈us,0<=v/\v<(n:Int):=λv hv=>X4.mp (pm.mem_iff.mp hv);have Rf:=ndu;rw[<-Dl us c]at Rf;obtain⟨n1,n2,dj⟩:=xO.mp Rf;have mz:∀v,v∈zs↔v∈us.drop (us.length-c):=λv=>by grind
 have bg:∀k,dR [(none,zs)] k=if k=0 then zs else []:=λk=>by
  cases k with
  |zero=>rfl
  |succ k=>rfl
 have lz:zs.length<=most:=by
  rw[hz.length_eq,DK,lQ];omega
 refine⟨⟨Nat.zero_lt_one,λk h0 h1=>?_,λk=>?_,λk v hv=>?_,λk h0 h1=>?_,λk hk=>?_⟩,Z,λk h0 h1=>?_,n1,λv hv=>inn v (lH hv),λv hv k hk=>?_,λv v0 v1=>?_,λk=>?_⟩
 ·grind
 ·grind
 ·grind
 ·grind
 ·grind
 ·grind
 ·grind
 ·have:v∈us:=pm.mem_iff.mpr (X4.mpr ⟨v0,v1⟩);rw[<-Dl us c]at this;rcases cN.mp this with h|h
  ·exact .inl h
  ·exact .inr ⟨0,(mz v).mpr h⟩
 ·rw[bg];split
  ·exact lz
  ·exact dh _
def a3l{n most c f:Nat}{rs:List Bv}{ks zs:List Int}(W:Rw n most rs us)(fl:f<rs.length)(sb:List.Sublist ks (dR rs f))(lc:ks.length+c<=most)(hz:zs.Perm (ks++(us.drop (us.length-c)).reverse)):Rw n most (rs++[(some (f:Int),zs)]) (us.take (us.length-c)):=by
 have Rf:=W.nd;rw[<-Dl us c]at Rf;obtain⟨n1,n2,dj⟩:=xO.mp Rf;have mz:∀v,v∈zs↔v∈ks\/v∈us.drop (us.length-c):=λv=>by rw[hz.mem_iff,cN,List.mem_reverse]
 have lz:zs.length<=most:=by
  rw[hz.length_eq,cC,DK,lQ];omega
 have ll:(rs++[((some (f:Int),zs):Bv)]).length=rs.length+1:=by rw[cC,zX]
 have ndz:zs.Nodup:=hz.nodup_iff.mpr (xO.mpr ⟨(W.T.nd f).sublist sb,(List.reverse_perm _).nodup_iff.mpr n2,λx hx y hy e=>by
  subst e;exact W.dis x (vM (List.mem_reverse.mp hy)) f (sb.subset hx)⟩)
 have un:xq (rs++[((some (f:Int),zs):Bv)]) rs.length=f:=by
  rw[Dj,aG rfl];rfl
 refine⟨⟨(),λk h0 h1=>?_,λk=>?_,λk v hv=>?_,λk h0 h1 v hv=>?_,λk hk=>?_⟩,?_,λk h0 h1=>?_,n1,λv hv=>W.lt v (lH hv),λv hv k hk=>?_,λv v0 v1=>?_,λk=>?_⟩
 ·rw[ll]at h1;by_cases e:k=rs.length
  ·subst e;rw[un];exact fl
  ·rw[Dj,aA e];exact W.T.ups k h0 ()
 ·rw[iG];split
  ·exact ndz
  ·exact W.T.nd k
 ·rw[iG]at hv;split at hv
  ·rcases(mz v).mp hv with h|h
   ·exact W.T.lt f v (sb.subset h)
   ·exact W.lt v (vM h)
  ·exact W.T.lt k v hv
 ·rw[ll]at h1;by_cases e:k=rs.length
  ·subst e;rw[un];rw[iG,aG rfl]at hv;rcases(mz v).mp hv with h|h
   ·refine .inl ?_;rw[iG,aA ()];exact sb.subset h
   ·refine .inr λj hj=>?_;rw[iG,aA ()];exact W.dis v (vM h) j
  ·have kl:k<rs.length:=()
   rw[iG,aA e]at hv;rw[Dj,aA e];have ul:=W.T.ups k h0 kl;rcases W.T.fr k h0 kl v hv with h|h
   ·refine .inl ?_;rw[iG,aA ()];exact h
   ·refine .inr λj hj=>?_;rw[iG,aA ()];exact h j hj
 ·rw[ll]at hk;rw[iG,aA ()];exact W.T.no k ()
 ·rw[qU W.T.pos];exact W.r0
 ·rw[ll]at h1;by_cases e:k=rs.length
  ·subst e;rw[un,uY]
  ·rw[Dj,aA e,qU ()];exact W.ru k h0 ()
 ·rw[iG]at hk;split at hk
  ·rcases(mz v).mp hk with h|h
   ·exact W.dis v (lH hv) f (sb.subset h)
   ·exact dj v hv v h rfl
  ·exact W.dis v (lH hv) k hk
 ·rcases W.cov v v0 v1 with h|⟨k,h⟩
  ·rw[<-Dl us c]at h;rcases cN.mp h with h|h
   ·exact .inl h
   ·refine .inr ⟨rs.length,?_⟩;rw[iG,aG rfl];exact(mz v).mpr (.inr h)
  ·refine .inr ⟨k,?_⟩;have kl:=W.T.in_ h;rw[iG,aA ()];exact h
 ·rw[iG];split
  ·exact lz
  ·exact W.few k
def Ů(ex:List Addr)(H:Hp)(v:V)(r:Bv):Prop:=∃p b,v=.ref p/\H p=some (.tup [upV r.1,.ref b])/\H b=some (.lst (r.2.map V.int))/\b∉ex/\r.2.length<=1000
def Ů.same{ex:List Addr}{H H':Hp}{v:V}{r:Bv}(s:aJ H H')(h:Ů ex H v r):Ů ex H' v r:=by
 obtain⟨p,b,e,h1,h2,h3⟩:=h;exact⟨p,b,e,s _ _ h1,s _ _ h2,h3⟩
def Ů.chg{ex:List Addr}{H H':Hp}{l:Addr}{xs:List V}{o:HO}{v:V}{r:Bv}(hl:H l=some (.lst xs))(c:wF H l o H')(m:l∈ex)(h:Ů ex H v r):Ů ex H' v r:=by
 obtain⟨p,b,e,h1,h2,h3,h4⟩:=h;exact⟨p,b,e,(c.rest p λz=>by grind).trans h1,(c.rest b λz=>h3 (z▸m)).trans h2,h3,h4⟩
def Ů.l{ex:List Addr}{l:Addr}{H:Hp}{v:V}{r:Bv}(m:l∈ex)(h:Ů ex H v r):KR l H v r:=by
 obtain⟨p,b,e,h1,h2,h3,h4⟩:=h;exact⟨p,b,e,h1,h2,λz=>h3 (z▸m),h4⟩
def X5{ix:List (Option Nat)}{tt:TT}{te:TE}{H:Hp}{Q:VK}{pl:Addr}{c:Nat}{lo:Int}(h:H pl=some (.lst (us.map V.int)))(hc:c<=us.length)(lu:us.length<=900)
  (hs:∀(i:Nat) (H':Hp) (xs:List V) (y:V) (N:VK) (Z98:Hp->Prop),H' pl=some (.lst (xs++[y]))->(∀H2,wF H' pl (.lst xs) H2->N y H2)->g (.int (lo+i)) (qu ix σ) H' λσ2 H2=>tt σ2 H2 λb H3=>if b=true then te σ2 H3 N else Z98 H3)
  (hd:∀H1 p H2,wF H pl (.lst ((us.take (us.length-c)).map V.int)) H1->gW H1 p (.lst ((us.drop (us.length-c)).reverse.map V.int)) H2->Q (.ref p) H2):mW ix g tt te σ H Q (Wh lo c):=by
 refine u6 (λi ys H'=>ys=(us.drop (us.length-i)).reverse.map V.int/\wF H pl (.lst ((us.take (us.length-i)).map V.int)) H') ⟨?_,?_,λ_ _=>rfl⟩ (λi ys H' hi ⟨e,_⟩=>?_) (λi ys H' hi ⟨e,c1⟩=>?_) (λys H' ⟨e,c1⟩ p hp=>?_)
 ·rw[Af,List.drop_length];rfl
 ·rw[Af,gO];exact h
 ·rw[e,aK,DK,lQ];exact eE (cG ())
 ·have jl:us.length-(i+1)<us.length:=()
  have e1:us.length-i=us.length-(i+1)+1:=()
  have et:us.take (us.length-i)=us.take (us.length-(i+1))++[us[us.length-(i+1)]]:=by rw[e1,zR jl]
  have ed:us.drop (us.length-(i+1))=us[us.length-(i+1)]::us.drop (us.length-i):=by rw[HS jl,e1]
  have h1:=c1.here;rw[et,eO]at h1;refine hs i H' _ _ (λv H4=>ys++[v]=(us.drop (us.length-(i+1))).reverse.map V.int/\wF H pl (.lst ((us.take (us.length-(i+1))).map V.int)) H4) _ h1 λH2 c2=>⟨?_,c2.here,λb hb=>(c2.rest b hb).trans (c1.rest b hb)⟩;rw[e,ed,List.reverse_cons,eO];rfl
 ·subst e;exact hd H' p _ c1 (gW.nY hp)
abbrev tB:Stmt:=top 40
def Bs:bC ["_law_script","_law_k","_law_base"] Mq (aF tB):={}
inductive a6M(K:aH)(vs:List V)(H:Hp)(Q:VK)(u_3:XK):Prop
 |mk (a:Addr) (ns:List Int) (k:Int) (_:vs=[.ref a,.int k]) (_:ZL K H a ns) (_:ns.length<=63) (_:0<=k) (_:k<=1000) (_:∀z,Q (.int z) H)
inductive oH(H:Hp)(v:V)(s:bT):Prop
 |mk (p:_) (_:v=.ref p) (_:H p=some (.tup s.vs))
def oH.same{H H':Hp}{v:V}{s:bT}(e:aJ H H')(h:oH H v s):oH H' v s:=by
 obtain⟨p,rfl,h⟩:=h;exact⟨p,Z,e _ _ h⟩
def oH.v{K:aH}{H:Hp}{v:V}{s:bT}(h:oH H v s):uR K H v s:=by
 obtain⟨p,rfl,h⟩:=h;exact⟨p,Z,cL.of h⟩
def oH.chg{H H':Hp}{l:Addr}{xs:List V}{o:HO}{v:V}{s:bT}(hl:H l=some (.lst xs))(c:wF H l o H')(h:oH H v s):oH H' v s:=by
 obtain⟨p,rfl,h⟩:=h;exact⟨p,Z,(c.rest p λz=>by rw[z,hl]at h;cases h).trans h⟩
def Bt(B:Bl mg)(pY:Dn K mg "_law_at" tB Mq):bf P w K mg base gb 1 pY.f pY.fd Mq (a6M K):=by
 refine pY.F.ok Bs λeV A outer s H vs Q E hr h=>?_;obtain⟨a,ns,k,rfl,hS,h63,k0,k1,q⟩:=h;have hA:=hS.seq;refine⟨_,(aD (dD (aP BR (pv 1) (bG (cJ (K:=K) Z) Z B.len () (J (pv 0) aj)))
   (aB (bF (aQ (bK (K:=K) Z) (pv 0) (pv 1))))
   bO)
   (aD (aY 2 Bs.nd aq)
   (jV (dD (aP BV (bG (cJ (K:=K) Z) Z B.len () (J (pv 0) aj)) aq)
   (aB (aY 2 Bs.nd (bH jD (aQ (bK (K:=K) Z) (pv 0) (bH jD (bH fD (bH wg (pv 1) aq) aq) (bG (cJ (K:=K) Z) Z B.len () (J (pv 0) aj)))) aq)))
   bO)
   (aB (bF (bH jD (bH wg (bH fD (bH fD (pv 2) (bH wg aq (pv 1))) aq) (bH fD (bH fD (bH wg (pv 2) aq) (bH wg (pv 1) (pv 1))) aq)) aq)))))),?_⟩
 have hl:(ns.map V.int).length=ns.length:=aK _;refine⟨_,Z,_,Z,a,_,Z,.inl hA,_,_,Z,Z,_,Z,u5 (λc=>?_) λc=>?_⟩
 ·have c':k<(((ns.map V.int).length:Nat):Int):=iI c;rw[hl]at c';exact⟨_,Z,_,Z,a,_,_,_,Z,Z,hA,Wt k0 c',q _⟩
 refine⟨λσ' H'=>∃b:Int,-(2^32)<b/\b<2^32/\σ'=[some (.ref a),some (.int k),some (.int b)]/\H'=H,?_,?_⟩
 ·refine⟨_,Z,a,_,Z,.inl hA,_,_,Z,Z,_,Z,?_⟩;refine u5 (λc2=>?_) (λc2=>⟨113,(),(),Z,Z⟩);have c2':(0:Int)<(((ns.map V.int).length:Nat):Int):=iI c2;rw[hl]at c2';have m0:=qp (k*11+5) (show(ns.length:Int)≠0 by omega);have m1:=rU (k*11+5) c2';refine⟨_,Z,_,Z,_,_,Z,Z,.inr ⟨(),()⟩,_,_,Z,Z,_,Z,a,_,Z,.inl hA,_,_,Z,Z,(by rw[hl];exact c2'),a,_,_,_,Z,Z,hA,(by rw[hl];exact Wt m0 m1),_,_,Z,Z,(show(0:Int)<_ by decide),?_⟩;have e0:=qp (ns.getD ((k*11+5)%(ns.length:Int)).toNat 0) (show(999769:Int)≠0 by decide);have e1:=rU (ns.getD ((k*11+5)%(ns.length:Int)).toNat 0) (show(0:Int)<999769 by decide);exact⟨_,(),(),Z,Z⟩
 rintro σ' H' ⟨b,b0,b1,rfl,rfl⟩;refine⟨_,Z,_,Z,_,_,Z,Z,.inl ⟨(),()⟩,_,_,Z,Z,_,_,Z,Z,_,Z,_,_,Z,Z,.inr ⟨(),()⟩,_,Z,_,Z,_,_,Z,Z,.inl ⟨(),()⟩,_,_,Z,Z,_,_,Z,Z,_,_,Z,Z,.inl ⟨(),()⟩,_,_,Z,Z,(show(0:Int)<_ by decide),q _⟩
abbrev uJ:Stmt:=top 41
def iw:bC ["_law_script","_law_n","_law_most","_law_keys","_law_left","_law_many","_law_rows_here","_law_k","_law_up","_law_bag","_law_fresh"] W7 (aF uJ):={}
inductive ń(K:aH)(vs:List V)(H:Hp)(Q:VK)(u_3:XK):Prop
 |mk (a:Addr) (ns:List Int) (n most:Nat) (_:vs=[.ref a,.int n,.int most]) (_:ZL K H a ns) (_:ns.length<=63) (_:n<=10) (_:1<=most) (_:most<=10) (_:∀l xs rs H',aJ H H'->H l=none->H' l=some (.lst xs)->Paired (KR l H') xs rs->Rw n most rs []->rs.length<=20->Q (.ref l) H')
inductive RowW(K:aH)(a l pl:Addr)(v3:Option V)(n most many:Nat)(H:Hp)(m:Nat)(σ:St)(H':Hp):Prop
 |mk (xs:List V) (rs:List Bv) (us:List Int) (v7 v8 v9 v10:Option V) (_:σ=[some (.ref a),some (.int n),some (.int most),v3,some (.ref pl),some (.int many),some (.ref l),v7,v8,v9,v10]) (_:aJ H H') (_:H' l=some (.lst xs)) (_:H' pl=some (.lst (us.map V.int))) (_:Paired (Ů [l,pl] H') xs rs) (_:Rw n most rs us) (_:m=(many-rs.length)+us.length) (_:rs.length<=many+(n-us.length)) (_:us.length<=n)
def Zx(xs:List V)(k:Nat):uO xs none (some (k:Int))=xs.take k:=by
 unfold uO;have e1:HT.lU xs.length xs.length (some (k:Int))=min k xs.length:=HT.Ow _ _ k;have e2:HT.lU xs.length 0 none=0:=rfl;grind
def a00{l:List Nat}{n:Nat}(h:l.Perm (List.range n)):(l.map λi=>((i:Nat):Int)).Perm (rng n):=h.map _
def a3m{many r u c:Nat}(h:r<many\/(many<=r/\0<u))(c3:0<u->1<=c):(many-(r+1))+(u-c)<(many-r)+u:=by
 rcases h with h|h
 ·exact Nat.add_lt_add_of_lt_of_le (Nat.sub_lt_sub_left h (xQ r)) (Nat.sub_le u c)
 ·exact Nat.add_lt_add_of_le_of_lt (Nat.sub_le_sub_left (vY r) many) (Nat.sub_lt h.2 (c3 h.2))
def a3n{many r u c n:Nat}(h:r<many\/(many<=r/\0<u))(c3:0<u->1<=c)(b1:r<=many+(n-u))(b2:u<=n):r+1<=many+(n-(u-c)):=by
 rcases h with h|h
 ·exact cZ h (TV _ _)
 ·have s:=Nat.sub_lt h.2 (c3 h.2);exact cZ (Nat.succ_le_succ b1) (Nat.add_lt_add_left (Nat.sub_lt_sub_left (jy s b2) s) many)
def orQ{a b:TT}{H:Hp}{Q:Bool->Hp->Prop}{c1 c2:Bool}(h1:∀Q:Bool->Hp->Prop,Q c1 H->a σ H Q)(h2:∀Q:Bool->Hp->Prop,Q c2 H->b σ H Q)(h:Q (c1||c2) H):tOr a b σ H Q:=by
 refine h1 _ ?_;cases c1 with
 |false=>exact cX (h2 _ h)
 |true=>exact iD h
def Ql(B:Bl mg)(pY:Dn K mg "_law_at" tB Mq)(ů:Dn K mg "_law_rows" uJ W7):bf P w K mg base gb 2 ů.f ů.fd W7 (ń K):=by
 have R3:bf P w K mg base gb 1 _ _ _ _:=Bt B pY;refine ů.F.ok iw λeV A outer s H vs Q E hr h=>?_;obtain⟨a,ns,n,most,rfl,hS,h63,dJ,m1,m10,q⟩:=h;refine⟨_,(aD (aY 3 iw.nd (bG (O8 (K:=K) Z) Z B.sorted () (J (jF W8 [none,some 0]  (by kernel_rfl) Z (jB Z B.range (J (pv 1) aj)) (λ_ _ _ _ _=>(aM 0 (show(W8:List Str).Nodup by decide))) (λ_ _ _ _ _=>fQ) λ_ _ _ _ _=>(bw (J (bH jD (bh R3 hr Z pY.m pY.F.kp pY.b .nil b8 (J (pv 1) (J (bH fD aq (pv 0)) aj))) aq) (J (pv 0) aj)))) aj)))
   (aD (aY 4 iw.nd (jF ["_law_key","_law_v"] [none,none]  (by kernel_rfl) Z (fU (K:=K) Z (pv 3)) (λ_ _ _ _ _=>(jU (K:=K) (n:=2) Z Z (bZ (aM 0 (show(["_law_key","_law_v"]:List Str).Nodup by decide)) (bZ (aM 1 (show(["_law_key","_law_v"]:List Str).Nodup by decide)) jw)))) (λ_ _ _ _ _=>fQ) λ_ _ _ _ _=>(pv 1)))
   (aD (aY 5 iw.nd (bH fD aq (bH jD (bh R3 hr Z pY.m pY.F.kp pY.b .nil b8 (J (pv 0) (J aq aj))) aq)))
   (aD (aY 6 iw.nd (cu (J (bw (J uM (J (jF ["_law_k","_law_left"] [none,some 4]  (by kernel_rfl) Z (jB Z B.range (J (bG (Lx Z) Z B.min () (J (bG (cJ (K:=K) Z) Z B.len () (J (pv 4) aj)) (J (bH fD aq (bH jD (bh R3 hr Z pY.m pY.F.kp pY.b .nil b8 (J (pv 0) (J aq aj))) (pv 2))) aj))) aj)) (λ_ _ _ _ _=>(aM 0 (show(["_law_k","_law_left"]:List Str).Nodup by decide))) (λ_ _ _ _ _=>fQ) λ_ _ _ _ _=>(qN (K:=K) Z mR S6 S7 Hj (pv 1))) aj))) aj)))
   (aD (Ë jf (PW.pt (Jf (aP BR (bG (cJ (K:=K) Z) Z B.len () (J (pv 6) aj)) (pv 5)) (Je (aP BV (bG (cJ (K:=K) Z) Z B.len () (J (pv 4) aj)) aq))))
   (aD (aY 7 iw.nd (bG (cJ (K:=K) Z) Z B.len () (J (pv 6) aj)))
   (aD (aY 8 iw.nd (bH jD (bh R3 hr Z pY.m pY.F.kp pY.b .nil b8 (J (pv 0) (J (bH fD aq (pv 7)) aj))) (pv 7)))
   (aD (aY 9 iw.nd (jE (yc (K:=K) Z) (jF ["_law_v","_law_script","_law_k"] [none,some 0,some 7]  (by kernel_rfl) Z (fU (K:=K) Z (aQ (aN (K:=K) Z) (aQ (bK (K:=K) Z) (pv 6) (pv 8)) aq)) (λ_ _ _ _ _=>(aM 0 (show(["_law_v","_law_script","_law_k"]:List Str).Nodup by decide))) (λ_ _ _ _ _=>(wA (aP BV (bH jD (bh R3 hr Z pY.m pY.F.kp pY.b .nil b8 (J (pv 1) (J (bH fD (bH fD aq (bH wg aq (pv 2))) (pv 0)) aj))) aq) aq))) λ_ _ _ _ _=>(pv 0)) mq (mD (bH Ot (pv 2) aq))))
   (aD (aY 10 iw.nd (bH fD aq (bH jD (bh R3 hr Z pY.m pY.F.kp pY.b .nil b8 (J (pv 0) (J (bH fD aq (pv 7)) aj))) (bH Ot (pv 2) (bG (cJ (K:=K) Z) Z B.len () (J (pv 9) aj))))))
   (aB (gY (qw (K:=K) Z mR PySem.F.slot_list_append PySem.F.type_list_append jo (pv 6) (J (bw (J (pv 8) (J (bH mF (pv 9) (jF ["_law_j","_law_left"] [none,some 4]  (by kernel_rfl) Z (jB Z B.range (J (bG (Lx Z) Z B.min () (J (pv 10) (J (bG (cJ (K:=K) Z) Z B.len () (J (pv 4) aj)) aj))) aj)) (λ_ _ _ _ _=>(aM 0 (show(["_law_j","_law_left"]:List Str).Nodup by decide))) (λ_ _ _ _ _=>fQ) λ_ _ _ _ _=>(qN (K:=K) Z PySem.F.plainAttrs_list PySem.F.slot_list_pop PySem.F.type_list_pop Hj (pv 1)))) aj))) aj)))))))))
   (aB (bF (pv 6)))))))),?_⟩
 refine⟨_,Z,_,Z,(),(),?_⟩;rw[jz];refine u6 (λi ys H'=>∃(ps:List Addr) (zs:List Int),ys=ps.map V.ref/\ps.length=i/\zs.length=i/\aJ H H'/\∀k p,ps[k]?=some p->H' p=some (.tup [.int (zs.getD k 0),.int (k:Int)])) ⟨[],[],Z,Z,Z,aJ.refl _,λk p h=>by cases h⟩ (λi ys H' hi ⟨ps,zs,e,l,_⟩=>?_) (λi ys H1 hi ⟨ps,zs,e,l,lz,s1,hp⟩=>?_) ?_
 ·rw[e,aK,l];exact eE (cG ())
 ·refine⟨_,Z,_,Z,_,_,Z,Z,a,ns,_,Z,hS.same s1,h63,(),(),λz=>⟨_,_,Z,Z,(show(0:Int)<_ by decide),_,Z,(),λp2 H2 n2=>?_⟩⟩;obtain⟨z,nz⟩:∃z,gW H1 p2 (.tup [.int z,.int (0+(i:Int))]) H2:=⟨_,n2⟩;refine⟨ps++[p2],zs++[z],by rw[e,eO];rfl,by rw[cC,l];rfl,by rw[cC,lz];rfl,s1.trans n2.same,λk p hk=>?_⟩;by_cases c:k<ps.length
  ·rw[zU c]at hk;have:=n2.same _ _ (hp k p hk);rw[gw,zU (),<-gw];exact this
  ·have k1:=(fO.mp hk).1;rw[cC]at k1;have ek:k=i:=by
    have:k<ps.length+1:=k1;omega
   subst ek;rw[xr (),l,Ag]at hk;cases hk;rw[gw,xr (),lz,Ag];have:=nz.here;rw[show(0+(k:Int))=(k:Int) by omega]at this;exact this
 rintro ys H1 ⟨ps,zs,rfl,l,lz,s1,hp⟩ pk hpk;have n2:=gW.nY (H:=H1) (p:=pk) (o:=.lst (ps.map V.ref)) hpk;generalize cI H1 pk (.lst (ps.map V.ref))=H2 at n2 ⊢;have s2:aJ H H2:=s1.trans n2.same;refine⟨pk,ps.map V.ref,(List.range n).map λk=>[zs.getD k 0,(k:Int)],Z,bM.of n2.here,?_,λns h=>?_,by rw[aK];omega,λqq p3 H3 pq _ n3=>?_⟩
 ·have all:∀(m:Nat),m<=n->Paired (a2j K H2) ((ps.take m).map V.ref) ((List.range m).map λk=>[zs.getD k 0,(k:Int)]):=λm=>by
   induction m with
   |zero=>intro _;exact .nil
   |succ m ih =>
    intro hm;have hml:m<ps.length:=()
    rw[zR hml,eO,vV,eO];exact dG (ih ()) ⟨ps[m],Z,cL.of (n2.same _ _ (hp m _ (bR hml)))⟩
  have:=all n (aL _);rw[Ib ()]at this;exact this
 ·obtain⟨k,_,rfl⟩:=gF.mp h;exact λz=>by cases z
 have pq':qq.Perm (List.range n):=by rw[aK,l]at pq;exact pq
 have lq:qq.length=n:=by rw[pq'.length_eq,rW]
 refine⟨_,Z,p3,Z,⟨_,bM.of n3.here⟩,wB (K:=K) (a:=p3) (xs:=qq.map λi=>(ps.map V.ref).getD i V.non) (λi ys H'=>ys=uq (qq.take i)/\aJ H3 H') ⟨Z,aJ.refl _⟩ (λi ys H' hi ⟨e,s⟩=>⟨bM.of (s _ _ n3.here),?_⟩) (λi x ys H4 hx ⟨e,s4⟩=>?_) λys H4 ⟨e,s4⟩ p5 hp5=>?_⟩
 ·rw[e,aK,fP];exact eE (cG ())
 ·rw[d7]at hx;obtain⟨k,hk,rfl⟩:=mU.mp hx;have kn:k<n:=mV.mp (pq'.mem_iff.mp (iU hk));have kl:k<ps.length:=()
  have ex:(ps.map V.ref).getD k V.non=V.ref ps[k]:=by rw[gw,d7,bR kl];rfl
  rw[ex];have ht:=(n2.same.trans (n3.same.trans s4)) _ _ (hp k _ (bR kl));refine⟨ps[k],_,Z,cL.of ht,Z,_,_,Z,_,_,Z,Z,_,Z,?_,s4⟩;obtain⟨hil,hik⟩:=fO.mp hk;rw[e,zR hil,hik];unfold uq;rw[eO];rfl
 subst e;rw[aK,gO];have n5:gW H4 p5 (.lst (uq qq)) (cI H4 p5 (.lst (uq qq))):=gW.nY hp5;generalize cI H4 p5 (.lst (uq qq))=H5 at n5;have s5:=s2.trans (n3.same.trans (s4.trans n5.same));obtain⟨us,eus⟩:∃us:List Int,us=qq.map λi=>((i:Nat):Int):=⟨_,Z⟩;have pu:us.Perm (rng n):=by rw[eus];exact a00 pq'
 have lu:us.length=n:=by rw[pu.length_eq,aK,rW]
 have h5:H5 p5=some (.lst (us.map V.int)):=by
  rw[n5.here,eus];unfold uq;rw[qt];rfl
 have f5:H p5=none:=s2.free (n3.same.free (s4.free n5.fresh));refine⟨_,Z,a,ns,2,Z,hS.same s5,h63,(),(),λzm=>⟨_,_,Z,Z,(show(0:Int)<_ by decide),_,_,Z,Z,?_⟩⟩;have y0:=qp zm (show(4:Int)≠0 by decide);have y1:=rU zm (show(0:Int)<4 by decide);obtain⟨many,em⟩:∃k:Nat,1+zm%4=(k:Int):=⟨(1+zm%4).toNat,()⟩;dsimp only;rw[em];refine⟨_,Z,p5,_,Z,.inl (bM.of h5),_,Z,a,ns,3,Z,hS.same s5,h63,(),(),λz3=>?_⟩;have w0:=qp z3 (show(most:Int)≠0 by omega);have w1:=rU z3 (show(0:Int)<(most:Int) by omega);refine⟨_,Z,_,_,Z,Z,(show(0:Int)<(most:Int) by omega),_,_,Z,Z,_,_,Z,?_⟩;obtain⟨c,ec,c1,c2⟩:∃c:Nat,(if 1+z3%(most:Int)<(((us.map V.int).length:Nat):Int)then 1+z3%(most:Int)else(((us.map V.int).length:Nat):Int))=(c:Int)/\c<=most/\c<=us.length:=by
  rw[aK];split
  ·exact⟨(1+z3%(most:Int)).toNat,(),(),()⟩
  ·exact⟨us.length,Z,(),aL _⟩
 rw[ec];refine⟨_,Z,(),(),?_⟩;rw[jz];refine X5 h5 c2 () (λi H' xs y N Z98 h q=>⟨_,Z,.inl ⟨Z,_,bM.of h⟩,p5,xs,y,Z,Z,h,q⟩) (λH9 p9 Zd c9 dJ=>?_);refine⟨(),λp11 Xu Dt=>⟨(),λpr VG n12=>?_⟩⟩;have a6N:VG p5=some (.lst ((us.take (us.length-c)).map V.int)):=n12.same _ _ (Dt.same _ _ (dJ.same _ _ c9.here));have a5o:p5≠pr:=λz=>by have:=n12.fresh;rw[<-z,Dt.same _ _ (dJ.same _ _ c9.here)]at this;cases this
 have s12:aJ H VG:=(s5.chg f5 c9).trans (dJ.same.trans (Dt.same.trans n12.same));have f8:H pr=none:=(s5.chg f5 c9).free (dJ.same.free (Dt.same.free n12.fresh));have ne9:p9∉[pr,p5]:=λhm=>by
  rcases b7.mp hm with hm|hm
  ·have:=n12.fresh;rw[<-hm,Dt.same _ _ dJ.here]at this;cases this
  ·have:=dJ.fresh;rw[bL.mp hm,c9.here]at this;cases this
 have W0:=a6L (most:=most) (c:=c) pu c1 (Ea _);have lt:(us.take (us.length-c)).length=us.length-c:=by rw[fP];omega
 refine⟨RowW K a pr p5 (some (.ref p3)) n most many H,⟨_,[.ref p11],[(none,(us.drop (us.length-c)).reverse)],_,none,none,none,none,Z,s12,n12.here,a6N,.cons ⟨p11,p9,Z,n12.same _ _ Dt.here,n12.same _ _ (Dt.same _ _ dJ.here),ne9,?_⟩ .nil,W0,Z,?_,?_⟩,?_⟩
 ·show((us.drop (us.length-c)).reverse).length<=1000;rw[DK,lQ];omega
 ·show 1<=_;omega
 ·rw[lt];omega
 rintro m σ H1 ⟨xs,rs,us,v7,v8,v9,v10,rfl,s1,hl,hpl,hpr,W,em',b1,b2⟩;have lx:xs.length=rs.length:=aV hpr;have hS1:=hS.same s1;have r1:=W.T.pos;refine orQ (c1:=decide (((xs.length:Nat):Int)<(many:Int))) (c2:=decide ((((us.map V.int).length:Nat):Int)>0)) (λQ h=>⟨_,Z,pr,_,Z,.inl (bM.of hl),_,Z,_,_,Z,Z,_,Z,h⟩) (λQ h=>⟨_,Z,p5,_,Z,.inl (bM.of hpl),_,_,Z,Z,_,Z,h⟩) (u5 (λc=>?_) λc=>?_)
 rotate_left
 ·have cd:¬((xs.length:Nat):Int)<(many:Int)/\¬(((us.map V.int).length:Nat):Int)>0:=by simpa using c
  rw[aK]at cd;have e0:us=[]:=List.eq_nil_of_length_eq_zero ();rw[e0]at W;exact⟨_,Z,q pr xs rs H1 s1 f8 hl (Paired.bV hpr λ_ _ h=>h.l aU) W ()⟩
 all_goals
  have hc:rs.length<many\/(many<=rs.length/\0<us.length):=by
   have cd:((xs.length:Nat):Int)<(many:Int)\/(((us.map V.int).length:Nat):Int)>0:=by
    rcases Bool.or_eq_true_iff.mp c with z|z
    ·exact .inl (iI z)
    ·exact .inr (iI z)
   rw[aK]at cd;omega
  have r14:rs.length<=14:=by clear hc;omega
  refine⟨λσ' H'=>∃m',m'<m/\RowW K a pr p5 (some (.ref p3)) n most many H m' σ' H',λ_ _ h=>h,⟨_,Z,pr,_,Z,.inl (bM.of hl),?_⟩⟩;rw[lx];refine⟨_,Z,_,Z,_,_,Z,Z,a,ns,_,Z,hS1,h63,(),(),λz=>?_⟩;have u0:=qp z (show((rs.length:Nat):Int)≠0 by omega);have u1:=rU z (show(0:Int)<((rs.length:Nat):Int) by omega);refine⟨_,Z,_,_,Z,Z,(show(0:Int)<((rs.length:Nat):Int) by omega),?_⟩;obtain⟨f,ef⟩:∃f:Nat,z%((rs.length:Nat):Int)=(f:Int):=⟨(z%((rs.length:Nat):Int)).toNat,()⟩;dsimp only;rw[ef];have fl:f<rs.length:=()
  obtain⟨v,hx,⟨pt,bb,rfl,hT,hbb,hbl,_⟩⟩:=dF hpr (u9 fl);have lf:(rowAt rs f).2.length<=most:=W.few f;refine⟨_,Z,_,Z,pr,_,_,_,Z,Z,bM.of hl,cD hx,pt,_,_,_,Z,Z,cL.of hT,Z,bb,Z,⟨_,bM.of hbb⟩,wB (K:=K) (a:=bb) (xs:=(rowAt rs f).2.map V.int) (λi ys H'=>∃ks:List Int,ys=ks.map V.int/\List.Sublist ks ((rowAt rs f).2.take i)/\aJ H1 H') ⟨[],Z,List.nil_sublist _,aJ.refl _⟩ (λi ys H' hi ⟨ks,e,sb,s⟩=>⟨bM.of (s _ _ hbb),?_⟩) (λi x ys H2 hx ⟨ks,e,sb,s2⟩=>?_) λys H2 ⟨ks,e,sb,s2⟩ p3' hp3=>?_⟩
  ·have:=sb.length_le;rw[fP]at this;rw[e,aK];exact eE (cG ())
  ·rw[d7]at hx;obtain⟨u,hu,rfl⟩:=mU.mp hx;have et:(rowAt rs f).2.take (i+1)=(rowAt rs f).2.take i++[u]:=by rw[jQ,hu];rfl
   have ub:=W.T.lt f u (iU hu);refine⟨_,Z,_,Z,_,_,Z,Z,.inl ⟨(),()⟩,_,_,Z,Z,_,Z,_,_,Z,Z,a,ns,_,Z,hS1.same s2,h63,(),(),λz4=>⟨_,_,Z,Z,(show(0:Int)<_ by decide),_,_,Z,Z,_,Z,u5 (λc4=>⟨_,Z,ks++[u],by rw[e,eO];rfl,by rw[et];exact sb.append (List.Sublist.refl _),s2⟩) λc4=>⟨ks,e,by rw[et];exact sb.trans (List.sublist_append_left _ _),s2⟩⟩⟩
  subst e;rw[aK,gO]at sb;have n3:gW H2 p3' (.lst (ks.map V.int)) (cI H2 p3' (.lst (ks.map V.int))):=gW.nY hp3;generalize cI H2 p3' (.lst (ks.map V.int))=H3 at n3 ⊢;have uU:=s2.trans n3.same;have lk:=sb.length_le;have hl3:=uU _ _ hl;refine⟨_,Z,_,_,Z,Z,_,Z,p3',_,Z,bM.of n3.here,λpb H4 n4=>?_⟩;have e1:(most:Int)-1=((most-1:Nat):Int):=()
  rw[e1,Zx,<-Ui]at n4;have Qy:=uU.trans n4.same;have hpb:=n4.here;have fpb:H1 pb=none:=uU.free n4.fresh;replace sb:=(Nz (most-1) ks).trans sb;have km:(ks.take (most-1)).length+1<=most:=by rw[fP];omega
  generalize ks.take (most-1)=ks at hpb sb km;refine⟨_,Z,_,Z,_,_,Z,Z,a,ns,_,Z,hS1.same Qy,h63,(),(),λz5=>?_⟩;have t0:=qp z5 (show(most:Int)-((ks.length:Nat):Int)≠0 by omega);have t1:=rU z5 (show(0:Int)<(most:Int)-((ks.length:Nat):Int) by omega);refine⟨_,Z,_,Z,pb,_,Z,.inl (bM.of hpb),_,_,Z,Z,_,_,Z,Z,(by rw[aK];show(0:Int)<(most:Int)-((ks.length:Nat):Int);omega),_,_,Z,Z,?_⟩;rw[aK];dsimp only;obtain⟨fr,efr⟩:∃fr:Nat,1+z5%((most:Int)-((ks.length:Nat):Int))=(fr:Int):=⟨(1+z5%((most:Int)-((ks.length:Nat):Int))).toNat,()⟩;rw[efr];have frm:ks.length+fr<=most:=()
  have fr1:1<=fr:=()
  clear efr t0;have a3o:=Qy _ _ hpl;have hl4:=Qy _ _ hl;refine⟨_,Z,.inl ⟨Z,_,bM.of hl4⟩,_,Z,_,Z,_,Z,_,Z,p5,_,Z,.inl (bM.of a3o),_,_,Z,?_⟩;obtain⟨c,ec,c1,c2,c3⟩:∃c:Nat,(if(((us.map V.int).length:Nat):Int)<(fr:Int)then(((us.map V.int).length:Nat):Int)else(fr:Int))=(c:Int)/\c<=fr/\c<=us.length/\(1<=fr->0<us.length->1<=c):=by
   rw[aK];split
   ·exact⟨us.length,Z,(),aL _,λ_ h=>h⟩
   ·exact⟨fr,Z,aL _,(),λh _=>h⟩
  rw[ec];clear ec;refine⟨_,Z,(),(),?_⟩;rw[jz];refine X5 a3o c2 () (λi H' xs y N Z98 h q=>⟨_,Z,.inl ⟨Z,_,bM.of h⟩,p5,xs,y,Z,Z,h,q⟩) (λH6 p7 H7 c6 n7=>?_);have nb5:pb≠p5:=λz=>by rw[z,hpl]at fpb;cases fpb
  have nl5:pr≠p5:=a5o.symm;have hb7:=n7.same _ _ ((c6.rest pb nb5).trans hpb);refine⟨pb,p7,_,_,Z,Z,hb7,n7.here,(by rw[aK,aK,DK,lQ];omega),λp8 H8 n8'=>?_⟩;rw[<-eO]at n8';have hl8:=n8'.same _ _ (n7.same _ _ ((c6.rest pr nl5).trans hl4));have hp8:=n8'.same _ _ (n7.same _ _ c6.here);refine⟨(),λŨ Zd ur=>?_⟩;have a3p:=ur.same _ _ hl8;have a6O:=ur.same _ _ hp8;refine⟨pr,_,_,Z,Z,a3p,(by rw[lx];exact Tp r14 ()),λXu c11=>?_⟩;have lks:=sb.length_le;have W2:=a3l (c:=c) W fl sb () (Ea _);have lt2:(us.take (us.length-c)).length=us.length-c:=by rw[fP];omega
  have s8':aJ H6 Zd:=n7.same.trans (n8'.same.trans ur.same);have x8:p8∉[pr,p5]:=λhm=>by
   have f:=n8'.fresh;rcases b7.mp hm with hm|hm
   ·rw[hm,n7.same _ _ ((c6.rest pr nl5).trans hl4)]at f;cases f
   ·rw[bL.mp hm,n7.same _ _ c6.here]at f;cases f
  refine⟨_,?_,xs++[.ref Ũ],rs++[(some (f:Int),ks++(us.drop (us.length-c)).reverse)],us.take (us.length-c),_,_,_,_,Z,(((s1.trans Qy).chg f5 c6).trans s8').chg f8 c11,c11.here,(c11.rest p5 a5o).trans a6O,?_,W2,Z,?_,?_⟩
  ·rw[em',cC,zX,lt2];exact a3m hc (c3 fr1)
  ·refine dG (Paired.bV hpr λv t q=>(((q.same Qy).chg a3o c6 (bD _ aU)).same s8').chg a3p c11 aU) (Ů.chg a3p c11 aU ⟨Ũ,p8,Z,ur.here,ur.same _ _ n8'.here,x8,?_⟩);show(ks++(us.drop (us.length-c)).reverse).length<=1000;rw[cC,DK,lQ];omega
  ·rw[cC,zX,lt2];exact a3n hc (c3 fr1) b1 b2
  ·rw[lt2];omega
def Ņ(s t:Int×Int):Prop:=s.1<t.1\/(s.1=t.1/\s.2<t.2)
structure Web(n:Int)(ts:List bY):Prop where
 ok:∀t∈ts,0<=t.1/\t.1<t.2/\t.2<n
 up:ts.Pairwise Ņ
def a6P [DecidableEq α] {l U:List α} (nd:l.Nodup) (h:∀x∈l,x∈U):l.length<=U.length:=by
 induction l generalizing U with
 |nil=>grind
 |cons a r ih =>
  obtain⟨n1,n2⟩:=jP.mp nd;have am:=h a aU;have:=ih (U:=U.erase a) n2 λx hx=>(List.mem_erase_of_ne λe=>n1 ()).mpr (h x (bD _ hx));grind
def a3q:List bY:=(List.range 10).flatMap λ(a:Nat)=>((List.range 10).filter λ(b:Nat)=>decide (a<b)).map λ(b:Nat)=>(((a:Nat):Int),((b:Nat):Int))
def Ņ.asymm{s t:Int×Int}(h:Ņ s t)(h':Ņ t s):False:=by
 unfold Ņ at h h';omega
def Web.nd{n:Int}{ts:List bY}(h:Web n ts):ts.Nodup:=h.up.imp λl e=>by
 subst e;exact l.asymm l
def Web.few{n:Nat}{ts:List bY}(h:Web n ts)(dJ:n<=10):ts.length<=45:=by
 have:=a6P (U:=a3q) h.nd λt ht=>by
  have o:=h.ok t ht;unfold a3q;refine List.mem_flatMap.mpr ⟨t.1.toNat,mV.mpr (),gF.mpr ⟨t.2.toNat,kJ.mpr ⟨mV.mpr (),bB ()⟩,?_⟩⟩;grind
 have e:a3q.length=45:=()
 omega
abbrev rC:Stmt:=top 42
def mQ:bC ["_law_script","_law_rows_here","_law_n","_law_share","_law_found","_law_a","_law_b","_law_together"] W9 (aF rC):={}
def Qm(rs:List Bv)(t:Int×Int):Prop:=∃k,t.1∈dR rs k/\t.2∈dR rs k
inductive ņ(K:aH)(vs:List V)(H:Hp)(Q:VK)(u_3:XK):Prop
 |mk (a l:Addr) (ns:List Int) (ys:List V) (rs:List Bv) (n:Nat) (_:vs=[.ref a,.ref l,.int n]) (_:ZL K H a ns) (_:ns.length<=63) (_:H l=some (.lst ys)) (_:Paired (KR l H) ys rs) (_:rs.length<=40) (_:n<=10) (_:∀r xs ts H',aJ H H'->H r=none->H' r=some (.lst xs)->Paired (mX H') xs ts->(∀t∈ts,0<=t.1/\t.1<t.2/\t.2<(n:Int))->ts.Nodup->(∀t∈ts,Qm rs t)->ts.length<=45->Q (.ref r) H')
def wL{lo:Int}{n:Nat}{tb:TS}{D:Ends}{H:Hp}(Pv:Nat->St->Hp->Prop)(h0:Pv 0 σ H)
  (hs:∀(D':Ends) i σ H,i<n->Pv i σ H->(∀σ2 H2,Pv (i+1) σ2 H2->D'.nx σ2 H2)->D'.rt=D.rt->g (.int (lo+i)) σ H λσ2 H2=>tb D' σ2 H2) (hd:∀σ H,Pv n σ H->D.nx σ H) :
  ∃W:Nat->Nat->St->Hp->Prop,(∃m,W 0 m σ H)/\∀i m σ H,W i m σ H->
   ((Wh lo n).stop i H/\D.nx σ H)\/((Wh lo n).go i H/\∃N:St->Hp->Prop,(∀σ' H',N σ' H'->∃m',m'<m/\W (i+1) m' σ' H')/\∀x H',(Wh lo n).ZK i H x H'->g x σ H' λσ2 H2=>tb { D with nx:=N,ct:=N,bk:=D.nx} σ2 H2) :=
 Ei Pv h0 (λi σ H hi p=>hs _ i σ H hi p (λ_ _ h=>h) Z) hd
def Qo(B:Bl mg)(pY:Dn K mg "_law_at" tB Mq)(Ň:Dn K mg "_law_ties" rC W9):bf P w K mg base gb 2 Ň.f Ň.fd W9 (ņ K):=by
 have R3:bf P w K mg base gb 1 _ _ _ _:=Bt B pY;refine Ň.F.ok mQ λeV A outer s H vs Q E hr h=>?_;obtain⟨a,l,ns,ys,rs,n,rfl,hS,h63,hy,hpr,r40,hn,q⟩:=h;have hv:(A.deeper (PyProof.Rows.envOfC "_law_ties" (aF rC) s⁻¹ Ň.f eV)).units+65<cLine:=by have:=hr.un;omega
 have ly:ys.length=rs.length:=aV hpr;refine⟨_,(aD (aY 3 mQ.nd (bH jD (bh R3 hr Z pY.m pY.F.kp pY.b .nil b8 (J (pv 0) (J aq aj))) aq))
   (aD (aY 4 mQ.nd (cu aj))
   (aD (jC jf Z (jB Z B.range (J (pv 2) aj)) (aM 5 mQ.nd)
   (aB (jC jf Z (Lq Z B.range (J (bH fD (pv 5) aq) (J (pv 2) aj))) (aM 6 mQ.nd)
   (aD (Jk (i:=7) ["_law_row","_law_a","_law_b"] [none,some 5,some 6] mQ.nd Z Z (by kernel_rfl) Z (fU (K:=K) Z (pv 1)) (λ_ _ _ _ _=>(aM 0 (show(["_law_row","_law_a","_law_b"]:List Str).Nodup by decide))) (λ_ _ _ _ _=>(wA (PW.pt (tO (aP (uD (K:=K) Z hv) (pv 1) (aQ (aN (K:=K) Z) (pv 0) aq) (by with_unfolding_all rfl)) (uz (aP (uD (K:=K) Z hv) (pv 2) (aQ (aN (K:=K) Z) (pv 0) aq) (by with_unfolding_all rfl))))))) (λ_ _ _ _ _=>(pv 0)) (by rfl))
   (aB (dD (PW.pt (tO (aP BV (bG (cJ (K:=K) Z) Z B.len () (J (pv 7) aj)) aq) (uz (aP BR (bH jD (bh R3 hr Z pY.m pY.F.kp pY.b .nil b8 (J (pv 0) (J (bH fD (bH fD aq (bH wg aq (pv 5))) (pv 6)) aj))) aq) (pv 3)))))
   (aB (gY (qw (K:=K) Z mR PySem.F.slot_list_append PySem.F.type_list_append jo (pv 4) (J (bw (J (pv 5) (J (pv 6) aj))) aj))))
   bO))))))
   (aB (bF (pv 4)))))),?_⟩
 refine⟨_,Z,a,ns,4,Z,hS,h63,(),(),λz0=>⟨_,_,Z,Z,(show(0:Int)<_ by decide),?_⟩⟩;obtain⟨sh,esh⟩:∃sh:Int,sh=z0%5:=⟨_,Z⟩;dsimp only;rw[<-esh];refine⟨(),λr H0 nw=>?_⟩;refine⟨_,Z,_,Z,(),(),?_⟩;rw[jz];refine wL (n:=n) (λi σ H2=>∃(aa bb bo:Option V) (xs:List V) (ts:List bY),σ=[some (.ref a),some (.ref l),some (.int n),some (.int sh),some (.ref r),aa,bb,bo]/\aJ H H2/\H2 r=some (.lst xs)/\Paired (mX H2) xs ts/\ts.length<=10*i/\Web n ts/\(∀t∈ts,t.1<(i:Int))/\∀t∈ts,Qm rs t)
  ⟨none,none,none,[],[],Z,nw.same,nw.here,.nil,dh _,⟨λt h=>absurd h dW,.nil⟩,λt h=>absurd h dW,λt h=>absurd h dW⟩ ?_ ?_
 ·rintro D1 i σ H2 hi ⟨aa,bb,bo,xs,ts,rfl,sm,hr2,hp,hz,hw,hlt,bi⟩ dn1 _;refine⟨_,Z,_,_,Z,Z,_,Z,_,_,Z,⟨(),(),(),()⟩,?_⟩;refine wL (n:=_) (λj σ H3=>∃(bb bo:Option V) (xs:List V) (ts:List bY),σ=[some (.ref a),some (.ref l),some (.int n),some (.int sh),some (.ref r),some (.int (0+(i:Int))),bb,bo]/\aJ H H3/\H3 r=some (.lst xs)/\Paired (mX H3) xs ts/\ts.length<=10*i+j/\Web n ts/\(∀t∈ts,t.1<(i:Int)\/(t.1=(i:Int)/\t.2<(i:Int)+1+j))/\∀t∈ts,Qm rs t)
   ⟨bb,bo,xs,ts,Z,sm,hr2,hp,(),hw,λt h=>.inl (hlt t h),bi⟩ ?_ ?_
  ·rintro D2 j σ H3 hj ⟨bb,bo,xs,ts,rfl,sm,hr3,hp,hz,hw,hlt,bi⟩ dn _;have jn:(j:Int)+(0+(i:Int)+1)<n:=()
   have hy3:=sm _ _ hy;generalize eav:(0+(i:Int))=av;generalize ebv:(av+1+(j:Int))=bv;refine⟨_,Z,l,Z,⟨_,bM.of hy3⟩,è (λk=>if(decide (av∈dR rs k)&&decide (bv∈dR rs k))=true then ys[k]? else none) (bM.of hy3) () (λk x H4 N hk s4 hN=>?_) λH4 p4 H5 s4 n4=>?_⟩
   ·have kl:k<rs.length:=by rw[<-ly];exact(fO.mp hk).1
    obtain⟨v,hx,⟨pp,b,rfl,hTk,hb,_⟩⟩:=dF hpr (u9 kl);rw[hk]at hx;cases hx;have s04:=sm.trans s4;have hN':=hN H4 s4;rw[hk]at hN';refine⟨_,Z,_,Z,pp,_,_,_,Z,Z,cL.of (s04 _ _ hTk),Z,Am (bM.of (s04 _ _ hb)) ⟨_,Z,u5 (λc=>?_) λc=>?_⟩⟩
    ·refine⟨_,Z,_,Z,pp,_,_,_,Z,Z,cL.of (s04 _ _ hTk),Z,Am (bM.of (s04 _ _ hb)) ⟨_,Z,u5 (λd=>?_) λd=>?_⟩⟩
     ·rw[aG (by unfold dR;rw[c,d];rfl)]at hN';exact⟨_,Z,hN'⟩
     ·rw[aA (by unfold dR;rw[xP.mpr d];simp)]at hN';exact hN'
    ·refine cX ?_;rw[aA (by unfold dR;rw[xP.mpr c];simp)]at hN';exact hN'
   have s05:=sm.trans (s4.trans n4.same);have hr5:H5 r=some (.lst xs):=(s4.trans n4.same) _ _ hr3;have hp5:=Paired.bV hp λv t q=>mX.same (s4.trans n4.same) q;have lxs:xs.length=ts.length:=aV hp;have no:=λbv=>dn [some (V.ref a),some (.ref l),some (.int n),some (.int sh),some (.ref r),some (.int av),bv,some (.ref p4)] H5 ⟨bv,some (.ref p4),xs,ts,by rw[eav],s05,hr5,hp5,(),hw,λt ht=>by have:=hlt t ht;omega,bi⟩;refine⟨_,Z,p4,_,Z,.inl (bM.of n4.here),_,_,Z,Z,_,Z,u5 (λc=>?_) λc=>no _⟩;have c':=iI c;refine⟨_,Z,_,Z,_,_,Z,Z,.inl ⟨(),()⟩,_,_,Z,Z,_,Z,_,_,Z,Z,a,ns,_,Z,hS.same s05,h63,(),(),λz5=>⟨_,_,Z,Z,(show(0:Int)<_ by decide),_,Z,_,_,Z,Z,_,Z,u5 (λd=>?_) λd=>no _⟩⟩;have hrow:Qm rs (av,bv):=by
    have c3:0<((List.range ys.length).filterMap λk=>if(decide (av∈dR rs k)&&decide (bv∈dR rs k))=true then ys[k]? else none).length:=()
    obtain⟨x,hx⟩:=List.exists_mem_of_length_pos c3;obtain⟨k,_,e⟩:=Tj.mp hx;by_cases d2:(decide (av∈dR rs k)&&decide (bv∈dR rs k))=true
    ·rw[ql]at d2;exact⟨k,iI d2.1,iI d2.2⟩
    ·rw[aA d2]at e;cases e
   refine⟨_,Z,.inl ⟨Z,_,bM.of hr5⟩,_,Z,_,Z,(),λp6 H6 n6=>?_⟩;have h6:=n6.same _ _ hr5;refine⟨r,_,_,Z,Z,h6,(),λH7 c7=>?_⟩;refine dn _ _ ⟨some (.int bv),some (.ref p4),xs++[.ref p6],ts++[(av,bv)],by rw[eav];rfl,(s05.trans n6.same).chg nw.fresh c7,c7.here,?_,?_,⟨λt ht=>?_,?_⟩,λt ht=>?_,λt ht=>?_⟩
   ·exact dG (Paired.bV hp5 λv t q=>(mX.same n6.same q).chg h6 c7) (mX.chg h6 c7 ⟨p6,Z,n6.here⟩)
   ·rw[cC];show ts.length+1<=_;omega
   ·rcases cN.mp ht with ht|ht
    ·exact hw.ok t ht
    ·rw[bL.mp ht];exact⟨by show 0<=av;omega,by show av<bv;omega,by show bv<n;omega⟩
   ·refine S9.mpr ⟨hw.up,Du _ _,λt ht u hu=>?_⟩;rw[bL.mp hu];show t.1<av\/(t.1=av/\t.2<bv);have:=hlt t ht;omega
   ·rcases cN.mp ht with ht|ht
    ·have:=hlt t ht;omega
    ·rw[bL.mp ht];show av<(i:Int)\/(av=(i:Int)/\bv<(i:Int)+1+((j+1:Nat):Int));omega
   ·rcases cN.mp ht with ht|ht
    ·exact bi t ht
    ·rw[bL.mp ht];exact hrow
  ·rintro σ H3 ⟨bb,bo,xs,ts,rfl,sm,hr3,hp,hz,hw,hlt,bi⟩;exact dn1 _ _ ⟨_,bb,bo,xs,ts,Z,sm,hr3,hp,(),hw,λt ht=>by have:=hlt t ht;omega,bi⟩
 ·rintro σ H2 ⟨aa,bb,bo,xs,ts,rfl,sm,hr2,hp,hz,hw,hlt,bi⟩;have few:=hw.few hn;exact⟨_,Z,q r xs ts H2 sm nw.fresh hr2 hp (λt ht=>hw.ok t ht) hw.nd bi ()⟩
abbrev lX:Stmt:=top 43
def eN:bC ["_law_ties_here","_law_rows_here","_law_k","_law_early","_law_above","_law_bag","_law_mine","_law_steps","_law_j","_law_theirs"] CJ (aF lX):={}
inductive Dp(K:aH)(d:Nat)(vs:List V)(H:Hp)(Q:VK)(u_3:XK):Prop
 |mk (r l:Addr) (tx ys:List V) (tb:List bY) (rs:List Bv) (n most k:Nat) (early:Bool) (_:vs=[.ref r,.ref l,.int (k:Int),.bl early]) (_:H r=some (.lst tx)) (_:Paired (mX H) tx tb) (_:tb.length<=100) (_:H l=some (.lst ys)) (_:Paired (KR l H) ys rs) (_:Rw n most rs []) (_:most<=4) (_:rs.length<=20) (_:n<=10) (_:k<rs.length) (_:rs.length<=k+d) (_:∀p xs H',aJ H H'->H p=none->H' p=some (.lst xs)->Paired (oH H') xs (rB 0 early tb rs.length (xq rs) (dR rs) d k)->Q (.ref p) H')
inductive a5p(r l:Addr)(k:Nat)(early:Bool)(pA bk pM:Addr)(H H6':Hp)(L:List bT)(σ:St)(H':Hp):Prop
 |mk (jj th:Option V) (pS:Addr) (xs:List V) (_:σ=[some (.ref r),some (.ref l),some (.int (k:Int)),some (.bl early),some (.ref pA),some (.ref bk),some (.ref pM),some (.ref pS),jj,th]) (_:aJ H H') (_:aJ H6' H') (_:H pS=none) (_:H' pS=some (.lst xs)) (_:Paired (oH H') xs L)
def sy(m:Nat)(up:Nat->Nat)(k i:Nat):List Nat:=(List.range i).filter λj=>decide (k<j)&&decide (up j=k)
def a3r(m:Nat)(up:Nat->Nat)(k:Nat):sy m up k (k+1)=[]:=by
 unfold sy;rw[List.filter_eq_nil_iff];grind
def ň{m:Nat}{up:Nat->Nat}{k i:Nat}(h:i<=m)(L:Nat->List bT):((sy m up k i).flatMap L).length<=((jO m up k).flatMap L).length:=by
 unfold sy jO;have e:List.range m=List.range i++(List.range (m-i)).map (i + ·):=by
  rw[<-List.range_add];congr 1;omega
 rw[e,Ij,List.flatMap_append,cC];omega
def M8{m:Nat}{up:Nat->Nat}{k i:Nat}(h:k<i):sy m up k (i+1)=sy m up k i++if up i=k then [i]else []:=by
 unfold sy;rw[vV,Ij];grind
def iK{β:Type}{R:α->β->Prop}{xs xs':List α}{ys ys':List β}(h:Paired R xs ys)(q:Paired R xs' ys'):Paired R (xs++xs') (ys++ys'):=by
 induction h with
 |nil=>exact q
 |cons a _ ih=>exact .cons a ih
def Km{ta tb:TT}{H:Hp}{b1 b2:Bool}{Q:Bool->Hp->Prop}(h1:∀Q:Bool->Hp->Prop,Q b1 H->ta σ H Q)(h2:∀Q:Bool->Hp->Prop,Q b2 H->tb σ H Q)(h:Q (b1&&b2) H):a3E ta tb σ H Q:=by
 refine h1 _ ?_;grind
def HD{a:Addr}{ix:List (Option Nat)}{tt:TT}{te:TE}{H:Hp}{Q:VK}(xs:List Int)(c:Int->Bool)(S:Int->bT)(hx:bM K H a (xs.map V.int))(l9:xs.length<=900)
  (hs:∀(v:Int) (H1:Hp) (N:VK) (Z98:Hp->Prop),v∈xs->aJ H H1->(c v=true->∀p H2,gW H1 p (.tup (S v).vs) H2->N (.ref p) H2)->(c v=false->Z98 H1)->g (.int v) (qu ix σ) H1 λσ2 H2=>tt σ2 H2 λb H3=>if b=true then te σ2 H3 N else Z98 H3)
  (hd:∀H1 p ys H2,aJ H H1->gW H1 p (.lst ys) H2->Paired (oH H2) ys ((xs.filter c).map S)->Q (.ref p) H2):mW ix g tt te σ H Q (ş K a):=by
 refine wB (K:=K) (a:=a) (xs:=xs.map V.int) (λi ys H'=>aJ H H'/\Paired (oH H') ys (((xs.take i).filter c).map S)) ⟨aJ.refl _,.nil⟩ (λi ys H' hi ⟨s,p⟩=>⟨s.seq hx,?_⟩) (λi x ys H' hi ⟨s,p⟩=>?_) (λys H' ⟨s,p⟩ q hq=>?_)
 ·rw[aV p,aK];have:=Dw c (xs.take i);rw[fP]at this;exact eE (cG ())
 ·rw[d7]at hi;obtain⟨v,hv,rfl⟩:=mU.mp hi;have et:xs.take (i+1)=xs.take i++[v]:=by rw[jQ,hv];rfl
  refine hs v H' _ _ (iU hv) s (λcv p2 H2 n2=>⟨s.trans n2.same,?_⟩) (λcv=>⟨s,?_⟩)
  ·rw[et,Ij,eO,N5,cv];exact dG (Paired.bV p λ_ _ h=>h.same n2.same) ⟨p2,Z,n2.here⟩
  ·rw[et,Ij,eO,N5,cv];simp only[Bool.false_eq_true,if_false,List.filter_nil,List.map_nil,List.append_nil];exact p
 ·have nq:gW H' q (.lst ys) (cI H' q (.lst ys)):=gW.nY hq;rw[aK,gO]at p;exact hd H' q ys _ s nq (Paired.bV p λ_ _ h=>h.same nq.same)
def Ŋ(Gk:Dn K mg "_law_laid" lX CJ):bf P w K mg base gb 1 Gk.f Gk.fd CJ (Dp K 0):=by
 refine Gk.F.ok eN (len:=λvs H Q E h=>?_) (λeV A outer s H vs Q E hr h=>?_)
 ·obtain⟨r,l,tx,ys,tb,rs,n,most,k,early,_,_,_,_,_,_,_,_,_,_,h1,h2,_⟩:=h;omega
 ·obtain⟨r,l,tx,ys,tb,rs,n,most,k,early,_,_,_,_,_,_,_,_,_,_,h1,h2,_⟩:=h;omega
def ŋ(B:Bl mg)(Gk:Dn K mg "_law_laid" lX CJ)(d:Nat)(gZ4:bf P w K mg base gb (d+1) Gk.f Gk.fd CJ (Dp K d)):bf P w K mg base gb (d+2) Gk.f Gk.fd CJ (Dp K (d+1)):=by
 refine Gk.F.ok eN λeV A outer s H vs Q E hr h=>?_;obtain⟨r,l,tx,ys,tb,rs,n,most,k,early,rfl,hT,pT,a0Z,hL,pL,W,m4,r20,dJ,kl,dk,q⟩:=h;have hv:(A.deeper (PyProof.Rows.envOfC "_law_laid" (aF lX) s⁻¹ Gk.f eV)).units+65<cLine:=by have:=hr.un;omega
 have ly:=aV pL;have ltx:=aV pT;have T:=W.T;obtain⟨vk,hxk,⟨pk,bk,rfl,hTk,hbk,nbk,lbk⟩⟩:=dF pL (u9 kl);have hW4:∀j,(dR rs j).length<=4:=λj=>cZ (W.few j) m4;have b10:∀j,(dR rs j).length<=10:=λj=>cZ (hW4 j) ();have full:=M7 T hW4 r20 0 early a0Z (f:=d+1) kl;obtain⟨L,eL⟩:∃L:Nat->List bT,L=λj=>rB 0 early tb rs.length (xq rs) (dR rs) d j++(kZ (dR rs) j k++[.join]):=⟨_,Z⟩;obtain⟨M0,eM⟩:∃M0:List bT,M0=(.leaf::(dR rs k).map .inn)++if early=true then(xj (xq rs) (dR rs) tb k).map λt=>.tie t.1 t.2 else []:=⟨_,Z⟩
 obtain⟨F,eF⟩:∃F:List bT->Nat->List bT,F=zQ 0 (dR rs) (rB 0 early tb rs.length (xq rs) (dR rs) d) k:=⟨_,Z⟩;have fl:∀js:List Nat,(js.foldl F M0).length=M0.length+(js.flatMap L).length:=λjs=>by rw[eF,eL];exact Kl _ _ _ _ _
 have eS:rB 0 early tb rs.length (xq rs) (dR rs) (d+1) k=(jO rs.length (xq rs) k).foldl F M0++if early=true then []else(xj (xq rs) (dR rs) tb k).map λt=>.tie t.1 t.2:=by rw[eF,eM];rfl
 rw[eS]at q full;rw[cC,fl]at full;have a66:(xj (xq rs) (dR rs) tb k).length<=100:=cZ (Dw _ _) a0Z;have lM:M0.length<=120:=by
  rw[eM,cC,lN,aK];have:=b10 k;cases early with
  |true=>rw[aG Z,aK];omega
  |false=>rw[aA cY];show _+0<=_;omega
 refine⟨_,(aD (aY 4 eN.nd (cu aj))
   (jV (dD (aP BV (pv 2) aq)
   (aB (aY 4 eN.nd (aQ (aN (K:=K) Z) (aQ (bK (K:=K) Z) (pv 1) (aQ (aN (K:=K) Z) (aQ (bK (K:=K) Z) (pv 1) (pv 2)) aq)) aq)))
   bO)
   (aD (aY 5 eN.nd (aQ (aN (K:=K) Z) (aQ (bK (K:=K) Z) (pv 1) (pv 2)) aq))
   (aD (Jk (i:=6) Đ [none,none,some 5,some 4] eN.nd Z Z (by kernel_rfl) Z (fU (K:=K) Z (pv 0)) (λ_ _ _ _ _=>(jU (K:=K) (n:=2) Z Z (bZ (aM 0 (show(Đ:List Str).Nodup by decide)) (bZ (aM 1 (show(Đ:List Str).Nodup by decide)) jw)))) (λ_ _ _ _ _=>(wA (PW.pt (tO (aP (uD (K:=K) Z hv) (pv 0) (pv 2) (by with_unfolding_all rfl)) (tO (aP (uD (K:=K) Z hv) (pv 1) (pv 2) (by with_unfolding_all rfl)) (uz (tQ (PW.pt (tO (aP (uD (K:=K) Z hv) (pv 0) (pv 3) (by with_unfolding_all rfl)) (uz (aP (uD (K:=K) Z hv) (pv 1) (pv 3) (by with_unfolding_all rfl)))))))))))) (λ_ _ _ _ _=>(bw (J gn (J (pv 0) (J (pv 1) aj))))) (by rfl))
   (aD (aY 7 eN.nd (bH mF (cu (J (bw (J gn aj)) aj)) (jF ["_law_v"] [none]  (by kernel_rfl) Z (fU (K:=K) Z (pv 5)) (λ_ _ _ _ _=>(aM 0 (show(["_law_v"]:List Str).Nodup by decide))) (λ_ _ _ _ _=>fQ) λ_ _ _ _ _=>(bw (J gn (J (pv 0) aj))))))
   (jV (dD (fY (K:=K) Z (pv 3) λ_=>rfl)
   (aB (aY 7 eN.nd (bH mF (pv 7) (pv 6))))
   bO)
   (aD (jC jf Z (Lq Z B.range (J (bH fD (pv 2) aq) (J (bG (cJ (K:=K) Z) Z B.len () (J (pv 1) aj)) aj))) (aM 8 eN.nd)
   (aB (dD (aP jM (aQ (aN (K:=K) Z) (aQ (bK (K:=K) Z) (pv 1) (pv 8)) aq) (pv 2))
   (aD (aY 9 eN.nd (bH mF (bh gZ4 hr Z Gk.m Gk.F.kp Gk.b .nil b8 (J (pv 0) (J (pv 1) (J (pv 8) (J (pv 3) aj))))) (jF ["_law_v","_law_bag"] [none,some 5]  (by kernel_rfl) Z (fU (K:=K) Z (aQ (aN (K:=K) Z) (aQ (bK (K:=K) Z) (pv 1) (pv 8)) aq)) (λ_ _ _ _ _=>(aM 0 (show(["_law_v","_law_bag"]:List Str).Nodup by decide))) (λ_ _ _ _ _=>(wA (aP (jT (K:=K) Z hv) (pv 0) (pv 1) (by with_unfolding_all rfl)))) λ_ _ _ _ _=>(bw (J gn (J (pv 0) aj))))))
   (aD (aY 9 eN.nd (bH mF (pv 9) (jF ["_law_v","_law_rows_here","_law_j"] [none,some 1,some 8]  (by kernel_rfl) Z (fU (K:=K) Z (pv 5)) (λ_ _ _ _ _=>(aM 0 (show(["_law_v","_law_rows_here","_law_j"]:List Str).Nodup by decide))) (λ_ _ _ _ _=>(wA (aP (jT (K:=K) Z hv) (pv 0) (aQ (aN (K:=K) Z) (aQ (bK (K:=K) Z) (pv 1) (pv 2)) aq) (by with_unfolding_all rfl)))) λ_ _ _ _ _=>(bw (J gn (J (pv 0) aj))))))
   (aB (dD (aP jM (bH jD (pv 8) aq) aq)
   (aB (aY 7 eN.nd (bH mF (bH mF (pv 7) (pv 9)) (cu (J (bw (J gn aj)) aj)))))
   (aB (aY 7 eN.nd (bH mF (bH mF (pv 9) (pv 7)) (cu (J (bw (J gn aj)) aj)))))))))
   bO)))
   (aD (dD (fY (K:=K) Z (pv 3) λ_=>rfl)
   (aB (bF (pv 7)))
   bO)
   (aB (bF (bH mF (pv 7) (pv 6)))))))))))),?_⟩
 refine⟨(),λpa H7 n7=>?_⟩;have s7:=n7.same;refine Gs (P:=λσ' H'=>∃(pA:Addr) (ab:List Int),σ'=[some (.ref r),some (.ref l),some (.int (k:Int)),some (.bl early),some (.ref pA),none,none,none,none,none]/\H'=H7/\H7 pA=some (.lst (ab.map V.int))/\∀t:Int×Int,(¬(t.1∈ab/\t.2∈ab))↔(k=0\/¬(t.1∈dR rs (xq rs k)/\t.2∈dR rs (xq rs k)))) λJ1 ji ij=>⟨J1,?_,?_⟩
 ·refine⟨_,Z,_,_,Z,Z,_,Z,?_⟩;by_cases k0:k=0
  ·rw[cM ()];exact cX (ji _ _ ⟨pa,[],Z,Z,n7.here,λt=>⟨λ_=>.inl k0,λ_ z=>absurd z.1 dW⟩⟩)
  ·rw[bB ()];have ul:=T.ups k () kl;have a5q:=hTk;rw[W.ru k () kl]at a5q;obtain⟨vu,hxu,⟨pu,bu,rfl,hTu,hbu,nbu,lbu⟩⟩:=dF pL (u9 (show xq rs k<rs.length by omega));exact iD ⟨_,Z,_,Z,_,Z,l,_,_,_,Z,Z,bM.of (s7 _ _ hL),cD hxk,pk,_,_,_,Z,Z,cL.of (s7 _ _ a5q),Z,l,_,_,_,Z,Z,bM.of (s7 _ _ hL),cD hxu,pu,_,_,_,Z,Z,cL.of (s7 _ _ hTu),Z,ji _ _ ⟨bu,_,Z,Z,s7 _ _ hbu,λt=>⟨λh=>.inr h,λh=>h.elim (λz=>absurd z k0) id⟩⟩⟩
 intro σ' H8 h1;obtain⟨pA,ab,rfl,rfl,hA,mA⟩:=ij _ _ h1;clear ji ij h1;refine⟨_,Z,_,Z,l,_,_,_,Z,Z,bM.of (s7 _ _ hL),cD hxk,pk,_,_,_,Z,Z,cL.of (s7 _ _ hTk),Z,⟨_,Z,r,Z,⟨_,bM.of (s7 _ _ hT)⟩,wB (K:=K) (a:=r) (xs:=tx) (λi yo H'=>aJ H8 H'/\Paired (oH H') yo (((tb.take i).filter λt=>decide (gV (xq rs) (dR rs) k t)).map λt=>.tie t.1 t.2)) ⟨aJ.refl _,.nil⟩ (λi yo H' hi ⟨s,p⟩=>⟨bM.of (s _ _ (s7 _ _ hT)),?_⟩) (λi x yo H9 hx ⟨s9',p9⟩=>?_) λyo H9 ⟨s9',p9⟩ pM hpM=>?_⟩⟩
 ·rw[aV p,aK];have:=Dw (λt=>decide (gV (xq rs) (dR rs) k t)) (tb.take i);rw[fP]at this;exact eE (cG ())
 ·obtain⟨t,ht,⟨px,rfl,hpx⟩⟩:=bx pT hx;have et:tb.take (i+1)=tb.take i++[t]:=by rw[jQ,ht];rfl
  have s9:=s7.trans s9';refine⟨px,_,Z,cL.of (s9 _ _ hpx),Z,_,_,Z,_,_,Z,Z,?_⟩;have hb9:=s9 _ _ hbk;have hA9:=s9' _ _ hA;rw[et,Ij,eO,N5];refine Km (b1:=decide (t.1∈dR rs k)) (b2:=decide (t.2∈dR rs k) && !(decide (t.1∈ab)&&decide (t.2∈ab))) (λQ h=>⟨_,Z,_,Z,Am (bM.of hb9) ⟨_,Z,h⟩⟩) (λQ h=>Km (b1:=decide (t.2∈dR rs k)) (b2:=!(decide (t.1∈ab)&&decide (t.2∈ab))) (λQ h=>⟨_,Z,_,Z,Am (bM.of hb9) ⟨_,Z,h⟩⟩) (λQ h=>Km (b1:=decide (t.1∈ab)) (b2:=decide (t.2∈ab)) (Q:=λb H'=>Q (!b) H') (λQ h=>⟨_,Z,_,Z,Am (bM.of hA9) ⟨_,Z,h⟩⟩) (λQ h=>⟨_,Z,_,Z,Am (bM.of hA9) ⟨_,Z,h⟩⟩) h) h) ?_;have eh:(decide (t.1∈dR rs k)&&(decide (t.2∈dR rs k) && !(decide (t.1∈ab)&&decide (t.2∈ab))))=decide (gV (xq rs) (dR rs) k t):=by
   rw[tG,ql,ql,dU,dU,dU];unfold gV;rw[<-mA t];by_cases c1:t.1∈ab<;>by_cases c2:t.2∈ab<;>simp[c1,c2]
  rw[eh];refine u5 (λc=>?_) (λc=>?_)
  ·rw[aG c];refine⟨_,Z,_,Z,(),λŨ Zd ur=>⟨s9'.trans ur.same,?_⟩⟩;exact dG (Paired.bV p9 λ_ _ h=>h.same ur.same) ⟨Ũ,Z,ur.here⟩
  ·rw[aA c];refine⟨s9',?_⟩;rw[List.filter_nil,List.map_nil,lR];exact p9
 rw[ltx,gO]at p9;have nM:gW H9 pM (.lst yo) (cI H9 pM (.lst yo)):=gW.nY hpM;generalize cI H9 pM (.lst yo)=Zd at nM ⊢;have a3s:Paired (oH Zd) yo ((xj (xq rs) (dR rs) tb k).map λt=>.tie t.1 t.2):=Paired.bV p9 λ_ _ h=>h.same nM.same;have a6Q:=aV a3s;rw[aK]at a6Q;have a5r:=s7.trans (s9'.trans nM.same);have a67:=(s9'.trans nM.same) _ _ hA;refine⟨(),λp1 H1 n1=>⟨(),λp2 H2 n2=>?_⟩⟩;have s2:=a5r.trans (n1.same.trans n2.same);refine⟨_,Z,bk,Z,⟨_,bM.of (s2 _ _ hbk)⟩,?_⟩;refine HD (dR rs k) (λ_=>true) bT.inn (bM.of (s2 _ _ hbk)) (by have:=b10 k;omega) (λv H3 N Z98 _ s3 hN hM=>?_) (λH3 p3 ys3 H4 s3 n4 p4=>?_)
 ·exact⟨_,Z,(),λp H5 n5=>hN Z p H5 n5⟩
 rw[List.filter_eq_self.mpr (λ_ _=>rfl)]at p4;have Ġ:=s3.trans n4.same;have l4:=aV p4;rw[aK]at l4;refine⟨p2,p3,_,_,Z,Z,Ġ _ _ n2.here,n4.here,(by have:=b10 k;show 1+ys3.length<=1000;omega),λp5 H5 n5=>?_⟩;have a01:aJ Zd H5:=n1.same.trans (n2.same.trans (Ġ.trans n5.same));have s5':=a5r.trans a01;have f5':H p5=none:=(s2.trans Ġ).free n5.fresh;have P5':Paired (oH H5) ([.ref p1]++ys3) (.leaf::(dR rs k).map bT.inn):=.cons ⟨p1,Z,n5.same _ _ (Ġ _ _ (n2.same _ _ n1.here))⟩ (Paired.bV p4 λ_ _ h=>h.same n5.same);have hM5:=a01 _ _ nM.here;refine Gs (P:=λσ' H'=>∃(pS0:Addr) (xs:List V),σ'=[some (.ref r),some (.ref l),some (.int (k:Int)),some (.bl early),some (.ref pA),some (.ref bk),some (.ref pM),some (.ref pS0),none,none]/\aJ H5 H'/\H pS0=none/\H' pS0=some (.lst xs)/\Paired (oH H') xs M0) λJ1 ji ij=>⟨J1,?_,?_⟩
 ·refine⟨_,Z,early,Z,?_⟩;cases early with
  |false =>
   refine cX (ji _ _ ⟨p5,_,Z,aJ.refl _,f5',n5.here,?_⟩);rw[eM,aA cY,lR];exact P5'
  |true =>
   refine iD ⟨_,Z,_,Z,p5,pM,_,_,Z,Z,n5.here,hM5,(by have:=b10 k;rw[cC];show 1+ys3.length+_<=1000;omega),λp6 H6 n6=>ji _ _ ⟨p6,_,Z,n6.same,s5'.free n6.fresh,n6.here,?_⟩⟩;rw[eM,aG rfl];exact iK (Paired.bV P5' λ_ _ h=>h.same n6.same) (Paired.bV a3s λ_ _ h=>h.same (a01.trans n6.same))
 intro σ' H6' h1;obtain⟨pS0,xs0,rfl,s56,f5,hS0,P5⟩:=ij _ _ h1;clear ji ij h1;have s5:=s5'.trans s56;have hL5:=s5 _ _ hL;have hMM:=s56 _ _ hM5;have a5s:Paired (oH H6') yo ((xj (xq rs) (dR rs) tb k).map λt=>.tie t.1 t.2):=Paired.bV a3s λ_ _ h=>h.same (a01.trans s56);refine⟨_,Z,_,_,Z,Z,_,Z,l,_,Z,.inl (bM.of hL5),_,_,Z,⟨(),(),(),()⟩,?_⟩;refine wL (n:=_) (λi σ H'=>a5p r l k early pA bk pM H H6' ((sy rs.length (xq rs) k (k+1+i)).foldl F M0) σ H')
  ⟨none,none,pS0,_,Z,s5,aJ.refl _,f5,hS0,by rw[a3r];exact P5⟩ ?_ ?_
 ·rintro D1 i σ H6 hi ⟨jj,th,pS,xs,rfl,s6,s6m,fS,hS,pS'⟩ dn _;have jl:k+1+i<rs.length:=by rw[ly]at hi;omega
  obtain⟨j,ej⟩:∃j,j=k+1+i:=⟨_,Z⟩;have ejI:(k:Int)+1+(i:Int)=(j:Int):=()
  rw[ejI];rw[<-ej]at jl pS';have ej2:k+1+(i+1)=j+1:=()
  rw[ej2,M8 (show k<j by omega)]at dn;obtain⟨vj,hxj,⟨pj,bj,rfl,ZP,hbj,nbj,lbj⟩⟩:=dF pL (u9 jl);rw[W.ru j () jl]at ZP;have pre:=ň (up:=xq rs) (k:=k) (show j+1<=rs.length by omega) L;rw[M8 (show k<j by omega)]at pre;have lxs:=aV pS';rw[fl]at lxs;refine⟨_,Z,_,Z,l,_,_,_,Z,Z,bM.of (s6 _ _ hL),cD hxj,pj,_,_,_,Z,Z,cL.of (s6 _ _ ZP),Z,_,Z,Z,_,Z,?_⟩;by_cases c:xq rs j=k
  ·rw[aG c]at pre dn;rw[show decide (upV (some ((xq rs j:Nat):Int))=V.int (k:Int))=true from bB (by rw[c];rfl)];refine iD ?_;have eLj:L j=rB 0 early tb rs.length (xq rs) (dR rs) d j++((vL (dR rs j) (dR rs k)).map .out++(vL (dR rs k) (dR rs j)).map .inn++[.join]):=by rw[eL];rfl
   rw[List.flatMap_append,cC,List.flatMap_singleton]at pre;have lLj:=congrArg List.length eLj;rw[cC,cC,cC,aK,aK]at lLj;have lJ1:[bT.join].length=1:=rfl;refine⟨_,Z,_,Z,_,Z,_,Z,r,l,tx,ys,tb,rs,n,most,j,early,Z,s6 _ _ hT,Paired.bV pT λ_ _ h=>mX.same s6 h,a0Z,s6 _ _ hL,Paired.bV pL λ_ _ h=>KR.same s6 h,W,m4,r20,dJ,jl,(),λpJ xJ H8 s68 fJ hJ pJ'=>?_⟩;have lJ:=aV pJ';have s8:=s6.trans s68;refine⟨_,Z,_,Z,l,_,_,_,Z,Z,bM.of (s8 _ _ hL),cD hxj,pj,_,_,_,Z,Z,cL.of (s8 _ _ ZP),Z,bj,Z,⟨_,bM.of (s8 _ _ hbj)⟩,?_⟩;refine HD (dR rs j) (λv=>!decide (v∈dR rs k)) bT.out (bM.of (s8 _ _ hbj)) (by have:=b10 j;omega) (λv H9 N Z98 _ s9 hN hM=>?_) (λH9 p9 y9 Zd s9 ur Ũ=>?_)
   ·refine⟨_,Z,_,Z,yX (bM.of ((s8.trans s9) _ _ hbk)) ⟨_,Z,u5 (λe=>?_) λe=>hM (xP.mpr e)⟩⟩;exact⟨_,Z,(),λp H5 n5=>hN e p H5 n5⟩
   have l10:=aV Ũ;rw[aK]at l10;have a68:y9.length=(vL (dR rs j) (dR rs k)).length:=l10;have a3t:=s9.trans ur.same;refine⟨pJ,p9,_,_,Z,Z,a3t _ _ hJ,ur.here,(),λp11 Xu Dt=>?_⟩;have s11:=s8.trans (a3t.trans Dt.same);refine⟨_,Z,_,Z,bk,Z,⟨_,bM.of (s11 _ _ hbk)⟩,?_⟩;refine HD (dR rs k) (λv=>!decide (v∈dR rs j)) bT.inn (bM.of (s11 _ _ hbk)) (by have:=b10 k;omega) (λv VG N Z98 _ s12 hN hM=>?_) (λVG p12 y12 ũ s12 n13 p13=>?_)
   ·refine⟨_,Z,_,Z,_,Z,l,_,_,_,Z,Z,bM.of ((s11.trans s12) _ _ hL),cD hxj,pj,_,_,_,Z,Z,cL.of ((s11.trans s12) _ _ ZP),Z,yX (bM.of ((s11.trans s12) _ _ hbj)) ⟨_,Z,u5 (λe=>?_) λe=>hM (xP.mpr e)⟩⟩;exact⟨_,Z,(),λp H5 n5=>hN e p H5 n5⟩
   have l13:=aV p13;rw[aK]at l13;have a69:y12.length=(vL (dR rs k) (dR rs j)).length:=l13;have Ō:=s12.trans n13.same;refine⟨p11,p12,_,_,Z,Z,Ō _ _ Dt.here,n13.here,by rw[cC];omega,λp14 Zf n14=>?_⟩;have a5t:=a3t.trans (Dt.same.trans (Ō.trans n14.same));have ō:=s68.trans a5t;have Qy:=s6.trans ō;have a5u:Paired (oH Zf) (xJ++y9++y12) (rB 0 early tb rs.length (xq rs) (dR rs) d j++kZ (dR rs) j k):=by
    show Paired _ _ (_++((vL (dR rs j) (dR rs k)).map bT.out++(vL (dR rs k) (dR rs j)).map bT.inn));rw[<-vR];exact iK (iK (Paired.bV pJ' λ_ _ h=>h.same a5t) (Paired.bV Ũ λ_ _ h=>h.same (Dt.same.trans (Ō.trans n14.same)))) (Paired.bV p13 λ_ _ h=>h.same n14.same)
   have a5v:Paired (oH Zf) xs ((sy rs.length (xq rs) k j).foldl F M0):=Paired.bV pS' λ_ _ h=>h.same ō;have fin:∀(p17:Addr) (us:List V) (Ű:Hp),aJ Zf Ű->Zf p17=none->Ű p17=some (.lst us)->Paired (oH Ű) us (F ((sy rs.length (xq rs) k j).foldl F M0) j)->D1.nx [some (V.ref r),some (.ref l),some (.int (k:Int)),some (.bl early),some (.ref pA),some (.ref bk),some (.ref pM),some (.ref p17),some (.int (j:Int)),some (.ref p14)] Ű:=λp17 us Ű s17 f17 h17 q17 =>
    dn _ _ ⟨_,_,p17,us,Z,Qy.trans s17,s6m.trans (ō.trans s17),Qy.free f17,h17,by rw[List.foldl_append];exact q17⟩
   have j0:=qp (j:Int) (show(2:Int)≠0 by decide);refine⟨_,Z,_,_,Z,Z,(show(0:Int)<_ by decide),Z,_,Z,?_⟩;by_cases c2:j%2=0
   ·rw[show decide (V.int ((j:Int)%2)=V.int 0)=true from bB (congrArg V.int ())];refine iD ⟨_,Z,_,Z,pS,p14,_,_,Z,Z,ō _ _ hS,n14.here,(by simp only[List.length_append];omega),λp20 H20 n20=>?_⟩;refine⟨(),λp15 H15 n15=>⟨(),λp16 H16 n16=>?_⟩⟩;have Ko:=n15.same.trans n16.same;refine⟨p20,p16,_,_,Z,Z,Ko _ _ n20.here,n16.here,(by simp only[List.length_append,List.length_singleton];omega),λp17 Ű n17=>?_⟩;have Kq:=n20.same.trans (Ko.trans n17.same);refine fin p17 _ Ű Kq ((n20.same.trans Ko).free n17.fresh) n17.here ?_;rw[show ∀Z98,F Z98 j=Z98++(rB 0 early tb rs.length (xq rs) (dR rs) d j++kZ (dR rs) j k)++[.join]from λZ98=>by rw[eF];exact aG c2];exact iK (iK (Paired.bV a5v λ_ _ h=>h.same Kq) (Paired.bV a5u λ_ _ h=>h.same Kq)) (.cons ⟨p15,Z,n17.same _ _ (n16.same _ _ n15.here)⟩ .nil)
   ·rw[show decide (V.int ((j:Int)%2)=V.int 0)=false from cM λz=>c2 (by have:=V.int.inj z;omega)];refine cX ⟨_,Z,_,Z,p14,pS,_,_,Z,Z,n14.here,ō _ _ hS,(by simp only[List.length_append];omega),λp20 H20 n20=>?_⟩;refine⟨(),λp15 H15 n15=>⟨(),λp16 H16 n16=>?_⟩⟩;have Ko:=n15.same.trans n16.same;refine⟨p20,p16,_,_,Z,Z,Ko _ _ n20.here,n16.here,(by simp only[List.length_append,List.length_singleton];omega),λp17 Ű n17=>?_⟩;have Kq:=n20.same.trans (Ko.trans n17.same);refine fin p17 _ Ű Kq ((n20.same.trans Ko).free n17.fresh) n17.here ?_;rw[show ∀Z98,F Z98 j=(rB 0 early tb rs.length (xq rs) (dR rs) d j++kZ (dR rs) j k)++Z98++[.join]from λZ98=>by rw[eF];exact aA c2];exact iK (iK (Paired.bV a5u λ_ _ h=>h.same Kq) (Paired.bV a5v λ_ _ h=>h.same Kq)) (.cons ⟨p15,Z,n17.same _ _ (n16.same _ _ n15.here)⟩ .nil)
  ·rw[aA c,lR]at dn;rw[show decide (upV (some ((xq rs j:Nat):Int))=V.int (k:Int))=false from cM (λz=>c (by have:=V.int.inj z;omega))];exact cX (dn _ _ ⟨_,_,pS,xs,Z,s6,s6m,fS,hS,pS'⟩)
 rintro σ H6 ⟨jj,th,pS,xs,rfl,s6,s6m,fS,hS,pS'⟩;have eK:sy rs.length (xq rs) k (k+1+((ys.length:Int)-((k:Int)+1)).toNat)=jO rs.length (xq rs) k:=by
  unfold sy jO;congr 2;omega
 rw[eK]at pS';refine⟨_,Z,early,Z,?_⟩;cases early with
 |true =>
  rw[aG Z,lR]at q;exact iD ⟨_,Z,q pS xs H6 s6 fS hS pS'⟩
 |false =>
  rw[aA cY]at q;have lxs:=aV pS';rw[fl]at lxs;exact cX ⟨_,Z,_,Z,pS,pM,_,_,Z,Z,hS,s6m _ _ hMM,(),λp9 H9 n9=>q p9 _ H9 (s6.trans n9.same) (s6.free n9.fresh) n9.here (iK (Paired.bV pS' λ_ _ h=>h.same n9.same) (Paired.bV a5s λ_ _ h=>h.same (s6m.trans n9.same)))⟩
theorem Dr(B:Bl mg)(Gk:Dn K mg "_law_laid" lX CJ):∀d:Nat,bf P w K mg base gb (d+1) Gk.f Gk.fd CJ (Dp K d)
 |0=>Ŋ Gk
 |d+1=>ŋ B Gk d (Dr B Gk d)
namespace Go
section
variable{n:Nat}{ts:List bY}{ss:List bT}
structure a3u(n:Nat)(ts:List bY)(ss:List bT):Prop where
 dJ:n<=10
 go:∀i,i<=ss.length->(aW n ts ss i).2=true
 sb:∀(k:Nat) (s:bT),ss[k]?=some s->StB n ts ss k s
 se:∀(k:Nat) (s:bT),ss[k]?=some s->StE n ts ss k s
 last:∀j∈(aW n ts ss ss.length).1.pile,jH n ts ss j=[]
 ties:∀t∈ts,bT.tie t.1 t.2∈ss
set_option tactic.hygienic true in
def a1s(dJ:n<=10)(qI:Bx n ts ss (cB n ts ss)=.ok):a3u n ts ss:=by
 have go:=ĩ dJ qI;refine⟨dJ,go,λk s h=>a0S (Bp go dJ h),λk s h=>Bp go dJ h,λj hj=>?_,λt ht=>?_⟩
 ·unfold Bx at qI;split at qI
  ·cases qI
  ·split at qI
   ·rename_i e;have:jH n ts ss j∈Mx (cB n ts ss):=gF.mpr ⟨j,hj,Z⟩;rw[e]at this;exact bL.mp this
   ·cases qI
 ·unfold Bx at qI;split at qI
  ·cases qI
  ·split at qI
   ·split at qI
    ·cases qI
    ·split at qI
     ·cases qI
     ·rename_i e;have:=DP.mp e t ht;simpa using this
   ·cases qI
end
end Go
namespace Up
def HF(s:bT){i:Nat}(hi:i<5):decide (V.str s.word=V.str (Ge i))=decide (s.tag=i):=by
 have h:=JD s.tag (Vx s) i hi;rw[JF];by_cases c:s.tag=i
 ·rw[c,bB Z,bB rfl]
 ·rw[cM c]at h ⊢;refine cM λz=>?_;have e:=V.str.inj z;rw[e]at h;simp at h
def a3v(s:bT):decide (V.str s.word=V.str "leaf")=decide (s.tag=0):=HF s (i:=0) ()
def a6R(s:bT):decide (V.str s.word=V.str "in")=decide (s.tag=1):=HF s (i:=1) ()
def a5w(s:bT):decide (V.str s.word=V.str "out")=decide (s.tag=3):=HF s (i:=3) ()
def Ŏ(s:bT):decide (V.str s.word=V.str "join")=decide (s.tag=4):=HF s (i:=4) ()
end Up
abbrev wM:Stmt:=top 44
def dX:bC ["_law_steps","_law_pile","_law_sizes","_law_works_here","_law_k","_law_work","_law_size"] ["_law_steps"] (aF wM):={}
def NI(j:Nat):V:=.int (j:Int)
inductive ŏ(L:List Addr)(H:Hp)(v:V)(b:List Nat):Prop
 |mk (p:_) (_:v=.ref p) (_:H p=some (.lst (b.map NI))) (_:p∉L)
def ŏ.chg{L:List Addr}{H H':Hp}{v:V}{b:List Nat}{a:Addr}{o:HO}(m:a∈L)(c:wF H a o H')(h:ŏ L H v b):ŏ L H' v b:=by
 obtain⟨p,e,h1,h2⟩:=h;exact⟨p,e,(c.rest p λz=>h2 (by rw[z];exact m)).trans h1,h2⟩
def ŏ.same{L:List Addr}{H H':Hp}{v:V}{b:List Nat}(s:aJ H H')(h:ŏ L H v b):ŏ L H' v b:=by
 obtain⟨p,e,h1,h2⟩:=h;exact⟨p,e,s _ _ h1,h2⟩
def ZS(n:Nat)(ts:List bY)(ss:List bT)(i:Nat):List V:=(List.range i).map λk=>NI (Go.jH n ts ss k).length
inductive Ő(H:Hp)(pS pp pz pw:Addr)(n:Nat)(ts:List bY)(ss:List bT)(i:Nat)(pl wk:List Nat)(sz:Option V)(σ:St)(G:Hp):Prop
 |mk (pb:Addr) (wx:List V) (_:σ=[some (.ref pS),some (.ref pp),some (.ref pz),some (.ref pw),some (.int (i:Int)),some (.ref pb),sz]) (_:aJ H G) (_:G pp=some (.lst (pl.map NI))) (_:G pz=some (.lst (ZS n ts ss i))) (_:G pw=some (.lst wx)) (_:Paired (ŏ [pp,pz,pw] G) wx ((List.range i).map (Go.um n ts ss))) (_:G pb=some (.lst (wk.map NI))) (_:pb≠pp) (_:pb≠pz) (_:pb≠pw)
inductive a6S(H:Hp)(pS pp pz pw:Addr)(n:Nat)(ts:List bY)(ss:List bT)(i:Nat)(σ:St)(G:Hp):Prop
 |mk (wx:List V) (o4 o5 o6:Option V) (_:σ=[some (.ref pS),some (.ref pp),some (.ref pz),some (.ref pw),o4,o5,o6]) (_:aJ H G) (_:G pp=some (.lst ((aW n ts ss i).1.pile.map NI))) (_:G pz=some (.lst (ZS n ts ss i))) (_:G pw=some (.lst wx)) (_:Paired (ŏ [pp,pz,pw] G) wx ((List.range i).map (Go.um n ts ss)))
inductive Zy(vs:List V)(H:Hp)(Q:VK)(u_3:XK):Prop
 |mk (pS:Addr) (xs:List V) (ss:List bT) (n:Nat) (ts:List bY) (_:vs=[.ref pS]) (_:H pS=some (.lst xs)) (_:Paired (oH H) xs ss) (_:ss.length<=800) (_:Go.a3u n ts ss) (_:∀r pz pw wx H',aJ H H'->H' r=some (.lst [.ref pz,.ref pw])->H' pz=some (.lst (ZS n ts ss ss.length))->H' pw=some (.lst wx)->Paired (ŏ [] H') wx ((List.range ss.length).map (Go.um n ts ss))->Q (.ref r) H')
abbrev DZ8(K:PySem.W.Frag)(mg:Str->Option Value):=Dn K mg "_law_works" wM ["_law_steps"]
def Lk(B:Bl mg)(ZV:DZ8 K mg):bf P w K mg base gb 1 ZV.f ZV.fd ["_law_steps"] Zy:=by
 refine ZV.F.ok dX λeV A outer s H vs Q E hr h=>?_;obtain⟨pS,xs,ss,n,ts,rfl,hS,qS,l8,R,q⟩:=h;refine⟨_,(aD (aY 1 dX.nd (cu aj))
   (aD (aY 2 dX.nd (cu aj))
   (aD (aY 3 dX.nd (cu aj))
   (aD (jC jf Z (jB Z B.range (J (bG (cJ (K:=K) Z) Z B.len () (J (pv 0) aj)) aj)) (aM 4 dX.nd)
   (aD (aY 5 dX.nd (cu aj))
   (jV (dD (aP Lr (aQ (aN (K:=K) Z) (aQ (bK (K:=K) Z) (pv 0) (pv 4)) aq) gn)
   (aB (aY 5 dX.nd (cu (J (qN (K:=K) Z mR S6 S7 Hj (pv 1)) aj))))
   bO)
   (jV (dD (aP jM (aQ (aN (K:=K) Z) (aQ (bK (K:=K) Z) (pv 0) (pv 4)) aq) gn)
   (aB (aY 5 dX.nd (bH mF (cu (J (qN (K:=K) Z mR S6 S7 Hj (pv 1)) aj)) (pv 5))))
   bO)
   (aD (aY 6 dX.nd aq)
   (jV (dD (aP BV (bG (cJ (K:=K) Z) Z B.len () (J (pv 5) aj)) aq)
   (aB (aY 6 dX.nd (aQ (bK (K:=K) Z) (pv 2) (aQ (bK (K:=K) Z) (pv 5) aq))))
   bO)
   (jV (dD (aP jM (aQ (aN (K:=K) Z) (aQ (bK (K:=K) Z) (pv 0) (pv 4)) aq) gn)
   (aB (aY 6 dX.nd (bH fD (pv 6) aq)))
   bO)
   (jV (dD (aP jM (aQ (aN (K:=K) Z) (aQ (bK (K:=K) Z) (pv 0) (pv 4)) aq) gn)
   (aB (aY 6 dX.nd (bH Ot (pv 6) aq)))
   bO)
   (aD (gY (qw (K:=K) Z mR PySem.F.slot_list_append PySem.F.type_list_append jo (pv 2) (J (pv 6) aj)))
   (aD (gY (qw (K:=K) Z mR PySem.F.slot_list_append PySem.F.type_list_append jo (pv 3) (J (pv 5) aj)))
   (aB (gY (qw (K:=K) Z mR PySem.F.slot_list_append PySem.F.type_list_append jo (pv 1) (J (pv 4) aj))))))))))))))
   (aB (bF (cu (J (pv 2) (J (pv 3) aj))))))))),?_⟩
 refine⟨(),λpp H1 n1=>⟨(),λpz H2 n2=>⟨(),λpw H3 n3=>?_⟩⟩⟩;have s3:=n1.same.trans (n2.same.trans n3.same);have fpp:H pp=none:=n1.fresh;have fpz:H pz=none:=n1.same.free n2.fresh;have fpw:H pw=none:=(n1.same.trans n2.same).free n3.fresh;have lx:=aV qS;have tp:=Go.Ĺ R.dJ R.sb;have zpp:pz≠pp:=λz=>by have:=n2.fresh;rw[z,n1.here]at this;cases this
 have wpp:pw≠pp:=λz=>by have:=n3.fresh;rw[z,n2.same _ _ n1.here]at this;cases this
 have wpz:pw≠pz:=λz=>by have:=n3.fresh;rw[z,n2.here]at this;cases this
 have lsz:∀i,(ZS n ts ss i).length=i:=λi=>by unfold ZS;rw[aK,rW]
 have szn:∀i,ZS n ts ss (i+1)=ZS n ts ss i++[NI (Go.jH n ts ss i).length]:=λi=>by unfold ZS;rw[vV,eO];rfl
 refine⟨_,Z,pS,_,Z,.inl (bM.of (s3 _ _ hS)),_,Z,(),(),?_⟩;rw[jz];refine wL (n:=xs.length) (λi σ G=>a6S H pS pp pz pw n ts ss i σ G) ⟨[],_,_,_,Z,s3,n3.same _ _ (n2.same _ _ n1.here),n3.same _ _ n2.here,n3.here,.nil⟩ ?_ ?_
 ·rintro D i σ G0 hi ⟨wx,o4,o5,o6,rfl,sG0,V5,a02,a03,pW0⟩ dn _;rw[show(0:Int)+(i:Int)=(i:Int) by omega];have kl:i<ss.length:=()
  have hs:=bR kl;have SB:=R.sb i _ hs;have SE:=R.se i _ hs;obtain⟨vx,hvx,Ğ,rfl,hst⟩:=dF qS hs;have split:=xK (dZ ss[i] (aW n ts ss i).1) (aW n ts ss i).1.pile;rw[<-SE.feed]at split;have pil:=SE.pile;have lpl:=(jX R.dJ (R.go (i+1) ())).pl;rw[pil,cC,zX]at lpl;generalize (aW n ts ss i).1.pile.take (dZ ss[i] (aW n ts ss i).1)=uo at split pil lpl;generalize ss[i]=st at hs SB hst;rw[<-split]at V5;refine⟨(),λpb G1 m1=>?_⟩;have M9:pb≠pp:=λz=>by have:=m1.fresh;rw[z,V5]at this;cases this
  have Qp:pb≠pz:=λz=>by have:=m1.fresh;rw[z,a02]at this;cases this
  have Qq:pb≠pw:=λz=>by have:=m1.fresh;rw[z,a03]at this;cases this
  have ŧ:=sG0.trans m1.same;refine Gs (P:=λσ' G'=>Ő H pS pp pz pw n ts ss i (uo++(Go.um n ts ss i).dropLast) (Go.um n ts ss i).getLast?.toList o6 σ' G') λJ1 ji ij=>⟨J1,?_,?_⟩
  ·refine⟨_,Z,_,Z,pS,_,_,_,Z,Z,bM.of (ŧ _ _ hS),cD hvx,Ğ,st.vs,0,.str st.word,Z,Z,cL.of (ŧ _ _ hst),zu st,Z,_,Z,?_⟩;rw[Up.a3v];by_cases c0:st.tag=0
   ·rw[bB c0];have ef:Go.um n ts ss i=[]:=by cases SB<;>first|assumption|cases c0
    rw[ef]at V5;refine cX (ji _ _ ?_);rw[ef];exact(⟨pb,wx,Z,ŧ,m1.same _ _ V5,m1.same _ _ a02,m1.same _ _ a03,Paired.bV pW0 λ_ _ z=>z.same m1.same,m1.here,M9,Qp,Qq⟩)
   ·rw[cM c0];obtain⟨f0,j,ef⟩:∃f0 j,Go.um n ts ss i=f0++[j]:=by
     cases SB with
     |leaf=>exact absurd Z c0
     | @inn i' v ef lt=>exact⟨[],i',ef⟩
     | @tie i' a b ef lt=>exact⟨[],i',ef⟩
     | @out i' v ef lt=>exact⟨[],i',ef⟩
     | @join i' j' ef lt lt'=>exact⟨[i'],j',ef⟩
    rw[ef,<-vR,eO]at V5;have a5x:G1 pp=some (.lst ((uo++f0).map NI++[NI j])):=m1.same _ _ V5;refine iD ⟨_,Z,.inl ⟨Z,_,bM.of a5x⟩,pp,_,NI j,Z,Z,a5x,λG2 c2=>⟨(),λp3 G3 m3=>?_⟩⟩;have s2:=ŧ.chg fpp c2;have hz2:=(c2.rest pz zpp).trans (m1.same _ _ a02);have hw2:=(c2.rest pw wpp).trans (m1.same _ _ a03);refine ji _ _ ?_;rw[ef,Dz,Tc];refine⟨p3,wx,Z,s2.trans m3.same,m3.same _ _ c2.here,m3.same _ _ hz2,m3.same _ _ hw2,Paired.bV pW0 λ_ _ z=>((z.same m1.same).chg aU c2).same m3.same,m3.here,?_,?_,?_⟩
    ·intro z;have:=m3.fresh;rw[z,c2.here]at this;cases this
    ·intro z;have:=m3.fresh;rw[z,hz2]at this;cases this
    ·intro z;have:=m3.fresh;rw[z,hw2]at this;cases this
  clear V5 a02 a03 pW0 m1 ŧ M9 Qp Qq;intro σ1 G h1;obtain⟨pb,wx,rfl,sG,zG,hpz,HJ,pW,hb,M9,Qp,Qq⟩:=ij _ _ h1;clear ji ij h1;refine Gs (P:=λσ' G'=>Ő H pS pp pz pw n ts ss i uo (Go.um n ts ss i) o6 σ' G') λJ2 ji ij=>⟨J2,?_,?_⟩
  ·refine⟨_,Z,_,Z,pS,_,_,_,Z,Z,bM.of (sG _ _ hS),cD hvx,Ğ,st.vs,0,.str st.word,Z,Z,cL.of (sG _ _ hst),zu st,Z,_,Z,?_⟩;rw[Up.Ŏ];by_cases c0:st.tag=4
   ·rw[bB c0];obtain⟨i',j',ef⟩:∃i' j',Go.um n ts ss i=[i',j']:=by
     cases SB with
     | @join i' j' ef=>exact⟨i',j',ef⟩
     |_=>cases c0
    rw[ef]at zG hb;have zG:G pp=some (.lst (uo.map NI++[NI i'])):=by rw[zG,eO];rfl
    have hb:G pb=some (.lst [NI j']):=hb;refine iD ⟨_,Z,.inl ⟨Z,_,bM.of zG⟩,pp,_,NI i',Z,Z,zG,λG2 c2=>⟨(),λp3 G3 m3=>?_⟩⟩;have hb2:=(c2.rest pb M9).trans hb;have hz2:=(c2.rest pz zpp).trans hpz;have hw2:=(c2.rest pw wpp).trans HJ;refine⟨_,Z,p3,pb,_,_,Z,Z,m3.here,m3.same _ _ hb2,(by show 1+1<=1000;decide),λp4 G4 m4=>?_⟩;have Qx:=m3.same.trans m4.same;refine ji _ _ ?_;rw[ef];refine⟨p4,wx,Z,(sG.chg fpp c2).trans Qx,Qx _ _ c2.here,Qx _ _ hz2,Qx _ _ hw2,Paired.bV pW λ_ _ z=>(z.chg aU c2).same Qx,m4.here,?_,?_,?_⟩
    ·intro z;have:=m4.fresh;rw[z,m3.same _ _ c2.here]at this;cases this
    ·intro z;have:=m4.fresh;rw[z,m3.same _ _ hz2]at this;cases this
    ·intro z;have:=m4.fresh;rw[z,m3.same _ _ hw2]at this;cases this
   ·rw[cM c0];have ed:(Go.um n ts ss i).dropLast=[]/\(Go.um n ts ss i).getLast?.toList=Go.um n ts ss i:=by
     cases SB with
     |join=>exact absurd Z c0
     |leaf ef=>rw[ef];exact⟨Z,Z⟩
     |inn ef=>rw[ef];exact⟨Z,Z⟩
     |tie ef=>rw[ef];exact⟨Z,Z⟩
     |out ef=>rw[ef];exact⟨Z,Z⟩
    rw[ed.1,lR]at zG;rw[ed.2]at hb;exact cX (ji _ _ ⟨pb,wx,Z,sG,zG,hpz,HJ,pW,hb,M9,Qp,Qq⟩)
  clear zG hpz HJ pW hb sG M9 Qp Qq;intro σ1 G h1;obtain⟨pb,wx,rfl,sG,zG,hpz,HJ,pW,hb,M9,Qp,Qq⟩:=ij _ _ h1;clear ji ij h1;obtain⟨z0,Qz⟩:∃z0:Nat,z0=match Go.um n ts ss i with | []=>0|j::_=>(Go.jH n ts ss j).length:=⟨_,rfl⟩
  refine Gs (P:=λσ' G'=>Ő H pS pp pz pw n ts ss i uo (Go.um n ts ss i) (some (.int (z0:Int))) σ' G') λJ3 ji ij=>⟨J3,?_,?_⟩
  ·refine⟨_,Z,pb,_,Z,.inl (bM.of hb),_,_,Z,Z,_,Z,?_⟩;rw[aK];cases ef:Go.um n ts ss i with
   |nil =>
    rw[ef]at Qz hb;subst Qz;exact cX (ji _ _ ⟨pb,wx,Z,sG,zG,hpz,HJ,pW,by rw[ef];exact hb,M9,Qp,Qq⟩)
   |cons j js =>
    rw[ef]at Qz hb;have lt:j<i:=SE.lt j (by rw[ef];exact aU);rw[show decide ((0:Int)<(((j::js).length:Nat):Int))=true from bB (by rw[lN];omega)];have hzj:(ZS n ts ss i)[j]?=some (.int (z0:Int)):=by unfold ZS;rw[d7,Nx lt,Qz];rfl
    exact iD ⟨_,Z,_,Z,pb,_,0,NI j,Z,Z,bM.of hb,cD (j:=0) Z,pz,_,_,_,Z,Z,bM.of hpz,cD hzj,ji _ _ ⟨pb,wx,Z,sG,zG,hpz,HJ,pW,by rw[ef];exact hb,M9,Qp,Qq⟩⟩
  clear zG hpz HJ pW hb sG M9 Qp Qq;intro σ1 G h1;obtain⟨pb,wx,rfl,sG,zG,hpz,HJ,pW,hb,M9,Qp,Qq⟩:=ij _ _ h1;clear ji ij h1;refine Gs (P:=λσ' G'=>∃z1:Int,Ő H pS pp pz pw n ts ss i uo (Go.um n ts ss i) (some (.int z1)) σ' G'/\(st.tag=3->z1=((Go.jH n ts ss i).length:Int)+1)/\(st.tag≠3->z1=((Go.jH n ts ss i).length:Int))) λJ4 ji ij=>⟨J4,?_,?_⟩
  ·refine⟨_,Z,_,Z,pS,_,_,_,Z,Z,bM.of (sG _ _ hS),cD hvx,Ğ,st.vs,0,.str st.word,Z,Z,cL.of (sG _ _ hst),zu st,Z,_,Z,?_⟩;rw[Up.a6R];by_cases c0:st.tag=1
   ·rw[bB c0];have ez:z0+1=(Go.jH n ts ss i).length:=by
     cases SB with
     | @inn i' v ef lt v0 vn nv et =>
      rw[ef]at Qz;have Qz:z0=(Go.jH n ts ss i').length:=Qz;rw[et,Go.XH R.dJ (tp i' ()).1 (tp i' ()).2 ⟨v0,vn⟩ nv,Qz]
     |_=>cases c0
    exact iD ⟨_,Z,_,_,Z,Z,ji _ _ ⟨_,⟨pb,wx,Z,sG,zG,hpz,HJ,pW,hb,M9,Qp,Qq⟩,λz=>by omega,λ_=>by omega⟩⟩
   ·rw[cM c0];refine cX (ji _ _ ⟨_,⟨pb,wx,Z,sG,zG,hpz,HJ,pW,hb,M9,Qp,Qq⟩,λz=>?_,λz=>?_⟩)
    ·cases SB with
     | @out i' v ef lt mv et =>
      rw[ef]at Qz;have Qz:z0=(Go.jH n ts ss i').length:=Qz;have:=Go.XJ (tp i' ()).1 mv;rw[et,Qz];omega
     |_=>cases z
    ·cases SB with
     |leaf ef et=>rw[ef]at Qz;rw[et,Qz];rfl
     |inn=>exact absurd Z c0
     |tie ef lt _ _ _ et=>rw[ef]at Qz;rw[et,Qz]
     |out=>exact absurd Z z
     |join ef lt lt' e1 et=>rw[ef]at Qz;rw[et,Qz]
  clear zG hpz HJ pW hb sG M9 Qp Qq;intro σ1 G h1;obtain⟨z1,⟨pb,wx,rfl,sG,zG,hpz,HJ,pW,hb,M9,Qp,Qq⟩,y1,y2⟩:=ij _ _ h1;clear ji ij h1;refine Gs (P:=λσ' G'=>Ő H pS pp pz pw n ts ss i uo (Go.um n ts ss i) (some (NI (Go.jH n ts ss i).length)) σ' G') λJ5 ji ij=>⟨J5,?_,?_⟩
  ·refine⟨_,Z,_,Z,pS,_,_,_,Z,Z,bM.of (sG _ _ hS),cD hvx,Ğ,st.vs,0,.str st.word,Z,Z,cL.of (sG _ _ hst),zu st,Z,_,Z,?_⟩;rw[Up.a5w];by_cases c0:st.tag=3
   ·rw[bB c0];refine iD ⟨_,Z,_,_,Z,Z,ji _ _ ⟨pb,wx,?_,sG,zG,hpz,HJ,pW,hb,M9,Qp,Qq⟩⟩;rw[y1 c0,show((Go.jH n ts ss i).length:Int)+1-1=((Go.jH n ts ss i).length:Int) by omega];rfl
   ·rw[cM c0];refine cX (ji _ _ ⟨pb,wx,?_,sG,zG,hpz,HJ,pW,hb,M9,Qp,Qq⟩);rw[y2 c0];rfl
  clear zG hpz HJ pW hb sG M9 Qp Qq;intro σ1 G h1;obtain⟨pb,wx,rfl,sG,zG,hpz,HJ,pW,hb,M9,Qp,Qq⟩:=ij _ _ h1;clear ji ij h1;have lw0:wx.length=i:=by rw[aV pW,aK,rW]
  refine⟨_,Z,.inl ⟨Z,_,bM.of hpz⟩,_,Z,pz,_,_,Z,Z,hpz,(by rw[lsz];omega),λG1 c1=>?_⟩;refine⟨_,Z,.inl ⟨Z,_,bM.of ((c1.rest pw wpz).trans HJ)⟩,_,Z,pw,_,_,Z,Z,(c1.rest pw wpz).trans HJ,(),λG2 c2=>?_⟩;refine⟨_,Z,.inl ⟨Z,_,bM.of ((c2.rest pp wpp.symm).trans ((c1.rest pp zpp.symm).trans zG))⟩,_,Z,pp,_,_,Z,Z,(c2.rest pp wpp.symm).trans ((c1.rest pp zpp.symm).trans zG),(by rw[aK];omega),λG3 c3=>?_⟩;refine dn _ _ ⟨wx++[.ref pb],_,_,_,Z,((sG.chg fpz c1).chg fpw c2).chg fpp c3,?_,?_,(c3.rest pw wpp).trans c2.here,?_⟩
  ·rw[c3.here,pil,eO];rfl
  ·rw[(c3.rest pz zpp).trans ((c2.rest pz wpz.symm).trans c1.here),szn]
  ·rw[vV,eO];have go:∀{v b},ŏ [pp,pz,pw] G v b->ŏ [pp,pz,pw] G3 v b:=λz=>((z.chg (bD _ aU) c1).chg (bD _ (bD _ aU)) c2).chg aU c3;refine dG (Paired.bV pW λ_ _ z=>go z) (go ⟨pb,Z,hb,?_⟩);intro z;rcases b7.mp z with z|z
   ·exact M9 z
   ·rcases b7.mp z with z|z
    ·exact Qp z
    ·exact Qq (bL.mp z)
 ·rintro σ G ⟨wx,o4,o5,o6,rfl,sG,zG,hpz,HJ,pW⟩;rw[show xs.length=ss.length from lx]at pW hpz;refine⟨_,Z,_,Z,(),λr G2 m2=>?_⟩;exact q r pz pw wx G2 (sG.trans m2.same) m2.here (m2.same _ _ hpz) (m2.same _ _ HJ) (Paired.bV pW λ_ _ z=>by
   obtain⟨p,e,h1,_⟩:=z;exact⟨p,e,m2.same _ _ h1,dW⟩)
end K
namespace L2
open PyProof.Rows
section
variable{X:Cx}{K:aH}
inductive a3w(K:aH)(x:V)(y:V)(H:Hp)(Q:VK):Prop
 |mk (a b xs ys:_) (_:x=.ref a) (_:y=.ref b) (_:cL K H a xs) (_:cL K H b ys) (_:ys≠[]) (_:xs.length+ys.length<=1000) (_:∀p H',aJ H H'->cL K H' p (xs++ys)->Q (.ref p) H')
def ő(e:X.K=K):sX X (binaryOp .Add) (a3w K):=by
 subst e;intro Y s σ H x y v u Q I rx ry h;obtain⟨a,b,xs,ys,rfl,rfl,ha,hb,ny,hz,q⟩:=h;by_cases c:xs=[]
 ·cases rx;cases ry;obtain⟨cA,r1,p1,_⟩:=I.tuple ha;obtain⟨its2,r2,p2,_⟩:=I.tuple hb;obtain⟨⟨cls,dd,data,sl⟩,ho,hc,n,hd⟩:=id p1;obtain⟨⟨cls2,dd2,data2,sl2⟩,ho2,hc2,n2,hd2⟩:=id p2;simp only at hc hd hc2 hd2;subst hc hd hc2 hd2;exact Oh ⟨_,ho,Z⟩ ⟨_,ho2,Z⟩ NQ Od Nr Np (Nk _ _)
   (tuple_addW0 a b cA.toArray its2.toArray n n2 dd dd2 sl sl2 (by simp[r1.BX.mpr c])) ⟨ho,ho2,⟨.ref b,H,I,Z,q b H (aJ.refl _) (by rw[c];exact hb)⟩⟩
 ·exact Ĭ Z Y s σ H _ _ v u Q I rx ry ⟨a,b,xs,ys,Z,Z,ha,hb,c,ny,hz,λp H' n=>q p H' n.same (cL.of n.here)⟩
end
end L2
namespace K
open L2 Lw Bg
variable{K:aH}{P:Program}{w:World}{mg:Str->Option Value}{base:Heap}{ws:List Int}
abbrev kE:Stmt:=top 45
def pN:bC ["_law_found","_law_size","_law_state","_law_row","_law_one"] Rn (aF kE):={}
def a1t:PySem.W.kitOne K (.type "tuple") (.type "tuple")=some true:=by rfl
def a5y:PySem.W.kitOne K (.type "dict") (.type "dict")=some true:=by rfl
inductive V6(vs:List V)(H:Hp)(Q:VK)(u_3:XK):Prop
 |mk (t:Addr) (m:Nat) (O:List (List Key×V)) (T:cQ) (_:vs=[.ref t,.int m]) (_:H t=some (.dT O)) (_:wK H O T) (_:(∀x∈T,x.1.length=m)) (_:m<=10) (_:T.length<=900) (_:∀H',aJ H H'->Q (.bl true) H')
def Kr(B:Bl mg)(Zz:Dn K mg "_law_formed" kE Rn):bf P w K mg base gb 1 Zz.f Zz.fd Rn V6:=by
 refine Zz.F.ok pN λeV A outer s H vs Q E hr h=>?_;obtain⟨t,m,O,T,rfl,ht,hT,hm,m10,lT,q⟩:=h;have hw1:(A.deeper (PyProof.Rows.envOfC "_law_formed" (aF kE) s⁻¹ Zz.f eV)).units+1<cLine:=by have:=hr.un;omega
 refine⟨_,(aD (dD (tQ (fY (K:=K) Z (bG (jb (K:=K) Z) Z B.isinstance () (J (pv 0) (J (uy (v:=.ty "dict") (u:=.type "dict") Z B.dict () Z) aj))) λ_=>rfl))
   (aB (bF BK))
   bO)
   (aD (vg (jC jf Z (vo (qN (K:=K) Z xG HX HY vh (pv 0))) (jU (K:=K) (n:=2) Z Z (bZ (aM 2 pN.nd) (bZ (aM 3 pN.nd) jw)))
   (aD (dD (PW.pt (Jf (tQ (fY (K:=K) Z (bG (jb (K:=K) Z) Z B.isinstance () (J (pv 2) (J (uy (v:=.ty "tuple") (u:=.type "tuple") Z B.tuple () Z) aj))) λ_=>rfl)) (Jf (aP Lr (bG (cJ (K:=K) Z) Z B.len () (J (pv 2) aj)) (pv 1)) (Jf (tQ (fY (K:=K) Z (bG (jb (K:=K) Z) Z B.isinstance () (J (pv 3) (J (uy (v:=.ty "tuple") (u:=.type "tuple") Z B.tuple () Z) aj))) λ_=>rfl)) (Je (aP Lr (bG (cJ (K:=K) Z) Z B.len () (J (pv 3) aj)) aq))))))
   (aB (bF BK))
   bO)
   (aB (jC jf Z (wD (K:=K) Z (bH (ő (K:=K) Z) (pv 2) (pv 3))) (aM 4 pN.nd)
   (aB (dD (PW.pt (Jf (tQ (fY (K:=K) Z (bG (jb (K:=K) Z) Z B.isinstance () (J (pv 4) (J (uy (v:=.ty "int") (u:=.type "int") Z B.int () Z) aj))) λ_=>rfl)) (Je (fY (K:=K) Z (bG (jb (K:=K) Z) Z B.isinstance () (J (pv 4) (J (uy (v:=.ty "bool") (u:=.type "bool") Z B.bool () Z) aj))) λ_=>rfl))))
   (aB (bF BK))
   bO)))))))
   (aB (bF BK)))),?_⟩
 refine⟨_,Z,_,_,_,_,_,Z,Z,tU.dT ht,a5y,_,Z,cX ⟨_,Z,.inr (.inr (.inl ⟨Z,.inr ⟨_,ht⟩⟩)),t,O,Z,Z,ht,λpv H1 n1=>⟨pv,t,O,Z,n1.here,n1.same _ _ ht,λo as pk=>?_⟩⟩⟩;have h1t:=n1.same _ _ ht;have Xi:Nd H (cI H1 t (.iC o (.dT O))):=(Nd.of n1.same).trans (Nd.iC h1t);have Ę:cI H1 t (.iC o (.dT O)) t=some (.iC o (.dT O)):=cP;have Xj:∀c,c≠t->cI H1 t (.iC o (.dT O)) c=H1 c:=λc hc=>aO hc;generalize cI H1 t (.iC o (.dT O))=G0 at pk Xi Ę Xj ⊢;have lk:=aV hT;have la:=aV pk;refine wH (λi σ G=>(T3 (λo2 o3 o4=>[some (.ref t),some (.int m),o2,o3,o4]) σ)/\aJ G0 G) ⟨⟨_,_,_,Z⟩,aJ.refl _⟩ (λi σ G _ h=>h.2 _ _ Ę) ?_ ?_
 ·rintro i a0 v0 σ G p G1 ha0 hv0 ⟨⟨o2,o3,o4,rfl⟩,sG⟩ nw;obtain⟨kv,hkv,hak⟩:=bx pk ha0;obtain⟨⟨st,row⟩,hsx,ek,p2,ep2,hrow⟩:=bx hT hkv;have ek:kv.1=lZ st:=ek;have hv0':v0=kv.2:=by
   rw[d7,hkv]at hv0;exact(dM hv0).symm
  have ep2:kv.2=.ref p2:=ep2;rw[ep2]at hv0';subst hv0';rw[ek]at hak;have s1:=sG.trans nw.same;have hold:G1 a0=some (.tup (st.map V.int)):=s1 _ _ (oV.Gd hak);have CP:G1 p2=some (.tup [.int row.m,.int row.b]):=s1 _ _ (Xi.tups _ _ hrow);have ls:st.length=m:=hm _ (iU hsx);refine⟨p,_,Z,cL.of nw.here,Z,_,_,Z,_,_,Z,Z,⟨_,Z,_,_,_,_,_,Z,Z,tU.tup hold,a1t,_,Z,cX ⟨_,Z,a0,_,Z,.inr (cL.of hold),_,Z,Z,_,Z,?_⟩⟩⟩;rw[show(!decide (V.int (((st.map V.int).length:Nat):Int)=V.int (m:Int)))=false by rw[aK,ls];simp];refine cX ⟨_,Z,_,_,_,_,_,Z,Z,tU.tup CP,a1t,_,Z,cX ⟨_,Z,p2,_,Z,.inr (cL.of CP),Z,_,Z,cX ?_⟩⟩;have lst:([.int row.m,.int row.b]:List V)=[row.m,row.b].map V.int:=rfl;rw[lst]at CP;refine⟨_,Z,_,Z,a0,p2,_,_,Z,Z,cL.of hold,cL.of CP,(λz=>by cases z),(by rw[aK];show _+2<=1000;omega),λp3 G2 s2 h3=>?_⟩;rw[<-eO]at h3;refine⟨p3,Z,⟨_,h3⟩,?_⟩;refine Ŵ (xs:=(st++[row.m,row.b]).map V.int) (λi σ H'=>(T1 (λo4=>[some (.ref t),some (.int m),some (.ref a0),some (.ref p2),o4]) σ)/\H'=G2) ⟨⟨_,Z⟩,Z⟩ (λi σ H' _ ⟨_,e⟩=>by rw[e];exact h3) ?_ ?_
  ·rintro i x σ H' hx ⟨⟨o3,rfl⟩,rfl⟩;rw[d7]at hx;obtain⟨z,_,rfl⟩:=mU.mp hx;exact⟨_,Z,_,_,_,_,_,Z,Z,tU.int _,Fy,_,Z,cX ⟨_,Z,_,_,_,_,_,Z,Z,tU.int _,Cj,_,Z,cX ⟨⟨_,Z⟩,Z⟩⟩⟩
  ·rintro σ H' ⟨⟨o4,rfl⟩,rfl⟩;exact⟨⟨_,_,_,Z⟩,s1.trans s2⟩
 ·rintro σ G ⟨⟨o2,o3,o4,rfl⟩,sG⟩;refine⟨t,o,O,O,ht,sG _ _ Ę,q _ λc u e=>?_⟩;by_cases z:c=t
  ·rw[z]at e ⊢;rw[cP,<-e,ht]
  ·rw[aO z];refine sG c u ?_;rw[Xj c z];exact n1.same _ _ e
namespace D1
def yF(kd:Int)(s t:dY):dY:=if kd=2 then List.zipWith max s t else s
def j8(kd:Int)(s:dY):dY:=if kd=2 then s.map λx=>if x=2 then 1 else 0 else s
def Ks(kd b o:Int):Int:=if decide (o>b)=decide (kd=1)then o else b
def sI(kd:Int):PQ Key where
 leaf:=[]
 whole:=[]
 bt:=if kd=1 then λa b=>decide (b<a)else λa b=>decide (a<b)
 sh:=λs=>lZ (j8 kd s)
 jn:=λs t=>[yF kd s t]
 inn:=λ_ _ _=>[]
 tie:=λ_ _ _ _=>[]
 out:=λ_ _ _=>[]
 Ok:=rQ 4
def a3x{kd:Int}{m:Nat}{s t:dY}(h:rQ 4 m s)(h':rQ 4 m t):rQ 4 m (yF kd s t):=by
 unfold yF;split
 ·exact Go.V2 h h'
 ·exact h
def okL(kd:Int):Bk (sI kd) where
 leaf:=Go.Qf 4
 inn:=λ_ _=>Go.MP
 tie:=λ_ _ _=>Go.MP
 out:=λ_ _=>Go.MP
 jn:=λ{m s t} h h'=>⟨by show 1<=4;decide,λx hx=>by rw[bL.mp (show x∈[yF kd s t]from hx)];exact a3x h h'⟩
 fin:=λm4 nd h=>Go.Hx (c:=4) () m4 nd h
def a04(kd a b:Int):(if(sI kd).bt a b=true then a else b)=Ks kd a b:=by
 unfold Ks;show(if(if kd=1 then λa b:Int=>decide (b<a)else λa b=>decide (a<b)) a b=true then a else b)=_;by_cases k:kd=1
 ·rw[aG k,bB k];by_cases c:b>a
  ·rw[aA (by simpa using Int.le_of_lt c),bB c,aG rfl]
  ·by_cases e:b<a
   ·rw[aG (bB e),cM c,aA ()]
   ·rw[aA (by simpa using e),cM c,aA ()];omega
 ·rw[aA k,cM k];by_cases c:a<b
  ·rw[aG (bB c),bB (show b>a from c),aA ()]
  ·rw[aA (by simpa using c),cM (show ¬b>a from c),aG rfl]
def Œ{kd:Int}{T:cQ}{s:dY}{m b:Int}{src:List dY}:∃src',nA (sI kd).bt T s ⟨m,b,src⟩=match K1 T s with
  |none=>wI T s ⟨m+0,b,src'⟩
  |some o=>wI T s ⟨m+o.m,Ks kd b o.b,src'⟩:=by
 unfold nA
 cases e:K1 T s with
 |none=>exact⟨src,by rw[Int.add_zero]⟩
 |some o =>
  refine⟨(vp (sI kd).bt ⟨m,b,src⟩ o).src,?_⟩
  have:(vp (sI kd).bt ⟨m,b,src⟩ o).b=Ks kd b o.b:=by
   rw[<-a04]
   unfold vp
   split<;>rfl
  show wI T s ⟨o.m+m,(vp (sI kd).bt ⟨m,b,src⟩ o).b,_⟩=wI T s ⟨m+o.m,_,_⟩
  rw[this,Int.add_comm]
section
variable{κ:Type} [DecidableEq κ] {pq:PQ κ}{kd:Int}
theorem œ(hb:pq.bt=(sI kd).bt){cW:dY}{row:gR}:∀{A T:cQ},(∀y∈A,pq.jn cW y.1=[yF kd cW y.1])->ou pq cW row A T=ou (sI kd) cW row A T
 | [],_,_=>rfl
 |y::A,T,h=>by
  show ou pq cW row A (wU pq.bt cW y.1 row y.2 (pq.jn cW y.1) T)=ou (sI kd) cW row A (wU (sI kd).bt cW y.1 row y.2 [yF kd cW y.1] T)
  rw[h y aU,hb]
  exact œ hb λy hy=>h y (bD _ hy)
theorem join_eq(hb:pq.bt=(sI kd).bt){A:cQ}:∀{S T:cQ},(∀x∈S,∀y∈A,(pq.sh y.1=pq.sh x.1↔j8 kd y.1=j8 kd x.1)/\(j8 kd y.1=j8 kd x.1->pq.jn x.1 y.1=[yF kd x.1 y.1]))->jN pq A S T=jN (sI kd) A S T
 | [],_,_=>rfl
 |x::S,T,h=>by
  have hx:=h x aU
  have e:gP pq x.1 A=gP (sI kd) x.1 A:=List.filter_congr λy hy=>Ip.mpr ((hx y hy).1.trans ⟨λz=>congrArg lZ z,uG⟩)
  show jN pq A S (ou pq x.1 x.2 (gP pq x.1 A) T)=jN (sI kd) A S (ou (sI kd) x.1 x.2 (gP (sI kd) x.1 A) T)
  rw[e,œ hb λy hy=>?_]
  ·exact join_eq hb λx hx=>h x (bD _ hx)
  ·obtain⟨h1,h2⟩:=kJ.mp hy
   exact(hx y h1).2 (uG (iI h2))
end
def a5z{c:Nat}{s t:dY}:((Ŭ c ws).sh t=(Ŭ c ws).sh s↔j8 0 t=j8 0 s)/\(j8 0 t=j8 0 s->(Ŭ c ws).jn s t=[yF 0 s t]) :=
 ⟨⟨λz=>uG z,λz=>congrArg lZ z⟩,λ_=>rfl⟩
def a5A{s t:dY}:((ĭ ws).sh t=(ĭ ws).sh s↔j8 1 t=j8 1 s)/\(j8 1 t=j8 1 s->(ĭ ws).jn s t=[yF 1 s t]) :=
 ⟨⟨λz=>uG z,λz=>congrArg lZ z⟩,λ_=>rfl⟩
def a5B{s t:dY}:((ZR ws).sh t=(ZR ws).sh s↔j8 2 t=j8 2 s)/\(j8 2 t=j8 2 s->(ZR ws).jn s t=[yF 2 s t]):=by
 refine⟨?_,λ_=>rfl⟩;show(t.map λx=>decide (x=2))=(s.map λx=>decide (x=2))↔(t.map λx=>if x=2 then(1:Int)else 0)=s.map λx=>if x=2 then(1:Int)else 0
 induction s generalizing t with
 |nil=>cases t<;>simp
 |cons a s ih =>
  cases t with
  |nil=>simp
  |cons b t =>
   rw[cH,cH,cH,cH,List.cons.injEq,List.cons.injEq,ih];refine and_congr ?_ Iff.rfl;by_cases c1:a=2<;>by_cases c2:b=2<;>simp[c1,c2]
end D1
abbrev qL:Stmt:=top 46
def R4:bC wR wR (aF qL):={}
inductive a05(vs:List V)(H:Hp)(Q:VK)(u_3:XK):Prop
 |mk (kd:Int) (a b:Addr) (m:Nat) (s t:dY) (_:vs=[.int kd,.ref a,.ref b]) (_:oV H a s) (_:oV H b t) (_:0<=kd) (_:kd<=2) (_:s.length=m) (_:t.length=m) (_:m<=10) (_:∀p H',aJ H H'->oV H' p (D1.yF kd s t)->Q (.ref p) H')
def R5(B:Bl mg)(X6:Dn K mg "_law_met" qL wR):bf P w K mg base gb 1 X6.f X6.fd wR a05:=by
 refine X6.F.ok R4 λeV A outer s H vs Q E hr h=>?_;obtain⟨kd,a,b,m,st,t,rfl,ha,hb,k0,k2,l1,l2,m10,q⟩:=h;refine⟨_,(aD (dD (aP BR (pv 0) aq)
   (aB (bF (pv 1)))
   bO)
   (aB (bF (gq j9 Z B.tuple () (J (jF ["_law_k","_law_one","_law_other"] [none,some 1,some 2]  (by kernel_rfl) Z (jB Z B.range (J (bG (cJ (K:=K) Z) Z B.len () (J (pv 1) aj)) aj)) (λ_ _ _ _ _=>(aM 0 (show(["_law_k","_law_one","_law_other"]:List Str).Nodup by decide))) (λ_ _ _ _ _=>fQ) λ_ _ _ _ _=>(bG (Ls Z) Z B.max () (J (aQ (aN (K:=K) Z) (pv 1) (pv 0)) (J (aQ (aN (K:=K) Z) (pv 2) (pv 0)) aj)))) aj))))),?_⟩
 refine⟨_,Z,_,_,Z,Z,_,Z,u5 (λc=>?_) λc=>?_⟩
 ·have c:kd<2:=iI c;refine⟨_,Z,q a H (aJ.refl _) ?_⟩;unfold D1.yF;rw[aA ()];exact ha
 ·have c:kd=2:=by have:¬kd<2:=λz=>c (bB z);omega
  refine⟨_,Z,a,_,Z,.inr (cL.of ha),_,Z,(),(by rw[aK];omega),?_⟩;rw[jz,aK];have lz:(List.zipWith max st t).length=m:=by rw[List.length_zipWith];omega
  refine u6 (n:=st.length) (λi us G=>G=H/\us=((List.zipWith max st t).take i).map V.int) ⟨Z,Z⟩ (λi us G hi ⟨eG,ey⟩=>?_) (λi us G hi ⟨eG,ey⟩=>?_) (λus G ⟨eG,ey⟩ pr hpr=>?_)
  ·rw[ey,aK,fP];exact eE (cG ())
  ·subst eG;rw[Int.zero_add];refine⟨_,Z,_,Z,a,_,_,_,Z,Z,cL.of ha,ZQ (),_,Z,_,Z,b,_,_,_,Z,Z,cL.of hb,ZQ (),_,_,Z,Z,?_⟩;have ez:(List.zipWith max st t)[i]?=some (if gj t i>gj st i then gj t i else gj st i):=by
    have g1:st[i]?=some (gj st i):=by unfold gj;rw[gw,bR ()];rfl
    have g2:t[i]?=some (gj t i):=by unfold gj;rw[gw,bR ()];rfl
    rw[List.getElem?_zipWith,g1,g2];show some (max (gj st i) (gj t i))=_;congr 1;split<;>omega
   rw[ey,jQ,ez,eO];rfl
  ·subst eG;rw[l1,<-lz,gO]at ey;have n1:=gW.nY (o:=.lst us) hpr;generalize cI G pr (.lst us)=G1 at n1 ⊢;refine⟨pr,us,Z,.inl ⟨bM.of n1.here,λl hl=>?_⟩⟩;have n2:=gW.nY (o:=.tup us) hl;refine q l _ (n1.same.trans n2.same) ?_;unfold D1.yF;rw[aG c];show _=some (HO.tup ((List.zipWith max st t).map V.int));rw[<-ey];exact n2.here
abbrev oF:Stmt:=top 47
def dO:bC ["_law_kind","_law_one","_law_other","_law_mates","_law_state","_law_key","_law_due","_law_row","_law_mate","_law_new","_law_best"] wR (aF oF):={}
def dI{x y:Int}:decide (V.int x=V.int y)=decide (x=y):=Ip.mpr ⟨V.int.inj,congrArg _⟩
inductive Ŕ(vs:List V)(H:Hp)(Q:VK)(u_3:XK):Prop
 |mk (kd:Int) (sc an:Addr) (m:Nat) (ks ka:List (List Key×V)) (S A:cQ) (_:vs=[.int kd,.ref sc,.ref an]) (_:0<=kd) (_:kd<=2) (_:H sc=some (.dT ks)) (_:wK H ks S) (_:H an=some (.dT ka)) (_:wK H ka A) (_:(∀x∈S,rQ 4 m x.1)) (_:(∀x∈A,rQ 4 m x.1)) (_:m<=4) (_:(A.map (·.1)).Nodup) (_:S.length<=900) (_:A.length<=900) (_:qC S) (_:qC A) (_:∀d kd2 H',aJ H H'->H' d=some (.dT kd2)->wK H' kd2 (jN (D1.sI kd) A S [])->Q (.ref d) H')
def a1u{H:Hp}{a b:Addr}{O:List (List Key×V)}{k:List Key}(e:Rd H a (.dT O))(eb:H b=some (.tup (k.map kV))):Gq H a (.ref b) (gJ O k):=.inr ⟨O,k,b,e,Z,eb,Z⟩
def ŕ{a:Addr}{st:dY}{ix:List (Option Nat)}{g:TG}{tt:TT}{te:TE}{σ:St}{H:Hp}{Q:VK}(ha:oV H a st)(l10:st.length<=10)
  (hs:∀(x:Int) (N Z98:VK),N (.int (if x=2 then 1 else 0)) H->g (.int x) (qu ix σ) H λσ2 H2=>tt σ2 H2 λb H3=>if b=true then te σ2 H3 N else Z98 (.int 0) H3)
  (hd:∀p H1,gW H p (.lst ((D1.j8 2 st).map V.int)) H1->Q (.ref p) H1):mW ix g tt te σ H Q (Itt K a):=by
 refine Hw (K:=K) (a:=a) (xs:=st.map V.int) (λi ys G=>G=H/\ys=((st.take i).map λx=>if x=2 then(1:Int)else 0).map V.int) ⟨Z,Z⟩ (λi ys G hi ⟨e,ey⟩=>⟨by rw[e];exact cL.of ha,?_⟩) (λi x ys G hx ⟨e,ey⟩=>?_) (λys G ⟨e,ey⟩ pr hpr=>?_)
 ·rw[ey,aK,aK,fP];exact eE (cG ())
 ·subst e;rw[d7]at hx;obtain⟨y,hy,rfl⟩:=mU.mp hx;refine hs y _ (λ_ H'=>H'=G/\ys=((st.take (i+1)).map λx=>if x=2 then(1:Int)else 0).map V.int) ⟨Z,?_⟩;rw[ey,jQ,hy,eO,eO];rfl
 ·subst e;rw[aK,gO]at ey;subst ey;exact hd pr _ (gW.nY hpr)
def Qs(B:Bl mg)(X6:Dn K mg "_law_met" qL wR)(ZC:Dn K mg "_law_both" oF wR):bf P w K mg base gb 2 ZC.f ZC.fd wR Ŕ:=by
 have gZ5:bf P w K mg base gb 1 _ _ _ _:=R5 B X6;refine ZC.F.ok dO λeV A' outer s H vs Q E hr h=>?_;obtain⟨kd,sc,an,m,iM,jK,S,A,rfl,k0,k2,hsc,hS,han,hA,a5C,a3y,m4,ndA,lS,lA,smS,smA,q⟩:=h;have hw1:(A'.deeper (PyProof.Rows.envOfC "_law_both" (aF oF) s⁻¹ ZC.f eV)).units+1<cLine:=by have:=hr.un;omega
 have ms:∀{st:dY},rQ 4 m st->st.length<=10:=λh=>by have:=h.1;omega
 refine⟨_,(aD (aY 3 dO.nd Cy)
   (aD (vg (jC jf Z (Rp (pv 2)) (aM 4 dO.nd)
   (aD (aY 5 dO.nd (pv 4))
   (jV (dD (aP jM (pv 0) aq)
   (aB (aY 5 dO.nd (gq j9 Z B.tuple () (J (jF ["_law_mark"] [none]  (by kernel_rfl) Z (wD (K:=K) Z (pv 4)) (λ_ _ _ _ _=>(aM 0 (show(["_law_mark"]:List Str).Nodup by decide))) (λ_ _ _ _ _=>fQ) λ_ _ _ _ _=>(gq Ej Z B.int () (J (qM jM (pv 0) aq) aj))) aj))))
   bO)
   (aB (gY (qw (K:=K) Z mR PySem.F.slot_list_append PySem.F.type_list_append jo (Px (cO P w) PySem.F.plainAttrs_dict PySem.F.slot_dict_setdefault PySem.F.type_dict_setdefault (yg (cO P w) hw1) (pv 3) (J (pv 5) (J (cu aj) aj))) (J (pv 4) aj))))))))
   (aD (aY 6 dO.nd Cy)
   (aD (vg (jC jf Z (vo (qN (K:=K) Z xG HX HY vh (pv 1))) (jU (K:=K) (n:=2) Z Z (bZ (aM 4 dO.nd) (bZ (aM 7 dO.nd) jw)))
   (aD (aY 5 dO.nd (pv 4))
   (jV (dD (aP jM (pv 0) aq)
   (aB (aY 5 dO.nd (gq j9 Z B.tuple () (J (jF ["_law_mark"] [none]  (by kernel_rfl) Z (wD (K:=K) Z (pv 4)) (λ_ _ _ _ _=>(aM 0 (show(["_law_mark"]:List Str).Nodup by decide))) (λ_ _ _ _ _=>fQ) λ_ _ _ _ _=>(gq Ej Z B.int () (J (qM jM (pv 0) aq) aj))) aj))))
   bO)
   (aB (jC jf Z (fU (K:=K) Z (Px (cO P w) xG Ih S5 (WY (cO P w) hw1) (pv 3) (J (pv 5) (J (cu aj) aj)))) (aM 8 dO.nd)
   (aD (aY 9 dO.nd (bh gZ5 hr Z X6.m X6.F.kp X6.b .nil b8 (J (pv 0) (J (pv 4) (J (pv 8) aj)))))
   (aD (aY 10 dO.nd (bH fD (aQ (aN (K:=K) Z) (pv 7) aq) (aQ (aN (K:=K) Z) (zj hw1 (pv 2) (pv 8) λ_ _=>rfl) aq)))
   (jV (dD (PW.pt (tO (aP (Ć hw1) (pv 9) (pv 6) (by with_unfolding_all rfl)) (uz (aP jM (qM BV (aQ (aN (K:=K) Z) (zj hw1 (pv 6) (pv 9) λ_ _=>rfl) aq) (pv 10)) (qM jM (pv 0) aq)))))
   (aB (aY 10 dO.nd (aQ (aN (K:=K) Z) (zj hw1 (pv 6) (pv 9) λ_ _=>rfl) aq)))
   bO)
   (aB (Ah (bw (J (bH fD (bH Xl (aQ (aN (K:=K) Z) (pv 7) aq) (aQ (aN (K:=K) Z) (zj hw1 (pv 2) (pv 8) λ_ _=>rfl) aq)) (aQ (aN (K:=K) Z) (qw (K:=K) Z xG Ih S5 (a0i hw1) (pv 6) (J (pv 9) (J (bw (J aq (J aq aj))) aj))) aq)) (J (pv 10) aj))) (Ul (pv 6) (pv 9) (Et hw1)))))))))))))
   (aB (bF (pv 6))))))),?_⟩
 refine λpa hpa=>?_;have n1:=gW.nY (o:=.dT []) hpa;generalize cI H pa (.dT [])=H1 at n1 ⊢;have h1a:=n1.same _ _ han;refine⟨_,Z,an,jK,Z,h1a,λo as pk=>?_⟩;have npa:pa≠an:=λz=>by have:=n1.fresh;rw[z,han]at this;cases this
 have nps:pa≠sc:=λz=>by have:=n1.fresh;rw[z,hsc]at this;cases this
 have Xi:Nd H (cI H1 an (.iC o (.dT jK))):=(Nd.of n1.same).trans (Nd.iC h1a);have g0a:cI H1 an (.iC o (.dT jK)) an=some (.iC o (.dT jK)):=cP;have g0p:cI H1 an (.iC o (.dT jK)) pa=some (.dT []):=by rw[aO npa];exact n1.here
 have Xj:∀c,c≠an->cI H1 an (.iC o (.dT jK)) c=H1 c:=λc hc=>aO hc;generalize cI H1 an (.iC o (.dT jK))=G0 at pk Xi g0a g0p Xj ⊢;have lk:=aV hA;have la:=aV pk;obtain⟨L,hL⟩:∃L:List (Addr×dY),L=as.zip (A.map (·.1)):=⟨_,Z⟩;have lL:L.length=as.length:=by rw[hL,List.length_zip,aK];omega
 have atL:∀i a0,as[i]?=some a0->∃st more,A[i]?=some (st,more)/\L[i]?=some (a0,st)/\G0 a0=some (.tup ((lZ st).map kV)):=λi a0 ha0=>by
  obtain⟨kv,hkv,hak⟩:=bx pk ha0;obtain⟨⟨st,more⟩,hsx,ek,hrow⟩:=bx hA hkv;have ek:kv.1=lZ st:=ek;rw[ek]at hak;refine⟨st,more,hsx,?_,hak⟩;rw[hL,Á];exact⟨ha0,by rw[d7,hsx];rfl⟩
 refine ė (P:=λi σ G=>P3 (T2 (λo4 o5=>[some (.int kd),some (.ref sc),some (.ref an),some (.ref pa),o4,o5,none,none,none,none,none]) σ) (Sd pa G0 G) λka=>wY (cO P w) (D1.sI kd) G0 G pa (L.take i) ka) λZ97 ji ij=>Mt Z97 (ji _ _ _ ⟨⟨_,_,Z⟩,.refl,[],⟨DX.new g0p,by simp,λk=>.inl ⟨Z,Z⟩,λk k' l h=>(by cases h),λk l h=>(by cases h)⟩⟩) (λi σ G _ h=>(ij _ _ _ h).s _ _ (Ne.symm npa) g0a) ?_ ?_
 ·intro i a0 σ G ha0 h1;obtain⟨⟨o4,o5,rfl⟩,sG,ka,hK⟩:=ij _ _ _ h1;obtain⟨st,more,hAi,hLi,hak⟩:=atL i a0 ha0;have nG:Nd G0 G:=.sd sG g0p;have hst:oV G a0 st:=oV.Gd (nG.tups _ _ hak);have hTi:L.take (i+1)=L.take i++[(a0,st)]:=by rw[jQ,hLi];rfl
  have li:(L.take i).length<=900:=by rw[fP];omega
  refine⟨_,Z,⟨λσ' G'=>∃b,σ'=[some (.int kd),some (.ref sc),some (.ref an),some (.ref pa),some (.ref a0),some (.ref b),none,none,none,none,none]/\aJ G G'/\Vs (cO P w) G' b (lZ (D1.j8 kd st)),?_,?_⟩⟩
  ·refine⟨_,Z,Z,_,Z,u5 (λe=>?_) λe=>?_⟩
   ·rw[dI,dU]at e;refine⟨_,Z,a0,Z,⟨_,cL.of hst⟩,ŕ hst (ms (a3y _ (iU hAi))) (λx N Z98 hN=>?_) λp H1 nn=>?_⟩
    ·refine⟨_,Z,Z,?_⟩;exact .inr ⟨_,Z,by simpa [dI]using hN⟩
    ·refine⟨p,_,Z,.inl ⟨bM.of nn.here,λl hl=>?_⟩⟩;have n2:=gW.nY (o:=.tup ((D1.j8 2 st).map V.int)) hl;refine⟨l,Z,nn.same.trans n2.same,⟨_,n2.here,?_⟩⟩;rw[e];exact vI _
   ·rw[dI,dU]at e;refine⟨a0,Z,aJ.refl _,⟨_,hst,?_⟩⟩;unfold D1.j8;rw[aA e];exact vI st
  rintro σ' G1 ⟨b,rfl,s1,hk⟩;have hK1:=hK.same s1;refine⟨_,Z,⟨pa,ka,Z,hK1.dx⟩,_,Z,(),λl0 G2 n2=>?_⟩;have s2:=s1.trans n2.same;have Fb:=hK.same s2;have lk0:=hK.len;refine⟨pa,b,lZ (D1.j8 kd st),ka,.ref l0,Z,Z,hk.same λ_ _ z=>n2.same _ _ z,Fb.dx,(),λy hy=>?_,λhn H' hh dxn=>?_⟩
  ·rcases Fb.val (lZ (D1.j8 kd st))with h|⟨l,h1,h2⟩
   ·rw[h.1]at hy;cases hy
   ·rw[h1]at hy;cases hy;refine⟨.inl ⟨Z,_,bM.of h2⟩,_,Z,l,_,_,Z,Z,h2,?_,λG3 c3=>?_⟩
    ·rw[aK];have:=Rq (D1.sI kd) (L.take i) (lZ (D1.j8 kd st));omega
    ·refine ji _ _ _ ⟨⟨_,_,Z⟩,λc u hc e=>?_,ka,by rw[hTi];exact Xm Fb h1 c3 ⟨_,h2⟩⟩;rw[c3.rest c (λz=>by have:=Fb.fr _ _ h1;rw[<-z,e]at this;cases this)];exact s2 _ _ (sG c u hc e)
  ·have ť:l0≠pa:=λz=>Hs Fb.dx (ys:=[]) (by rw[<-z];exact n2.here);have hl0:H' l0=some (.lst []):=by rw[hh l0 ť];exact n2.here
   refine⟨.inl ⟨Z,_,bM.of hl0⟩,_,Z,l0,[],_,Z,Z,hl0,(),λG3 c3=>?_⟩;have fl:G0 l0=none:=by
    cases e:G0 l0 with
    |none=>rfl
    |some u =>
     have h1:=s1 _ _ (sG l0 u ť e);have h2:=n2.fresh;rw[h1]at h2;cases h2
   refine ji _ _ _ ⟨⟨_,_,Z⟩,λc u hc e=>?_,_,by
    rw[hTi];refine Xn Fb hn n2.here fl (λk l h z=>?_) hh dxn c3;rcases hK1.val k with h'|⟨l',h1,h2⟩
    ·rw[h'.1]at h;cases h
    ·rw[h1]at h;cases h;have h4:=n2.fresh;rw[<-z,h2]at h4;cases h4⟩
   rw[c3.rest c (λz=>by rw[z,fl]at e;cases e),hh c hc];exact s2 _ _ (sG c u hc e)
 intro σ G h1;obtain⟨⟨o4,o5,rfl⟩,sG,ka,hK⟩:=ij _ _ _ h1;clear ji ij;have ga:=sG _ _ (Ne.symm npa) g0a;refine⟨an,o,jK,jK,h1a,ga,?_⟩;have sF:aJ H (cI G an (.dT jK)):=λc u e=>by
  have ncp:c≠pa:=λz=>by rw[z,n1.fresh]at e;cases e
  by_cases z:c=an
  ·rw[z]at e ⊢;rw[cP,<-e,han]
  ·rw[aO z];refine sG c u ncp ?_;rw[Xj c z];exact n1.same _ _ e
 rw[show L.take as.length=L by rw[<-lL,gO]]at hK;have hKF:wY (cO P w) (D1.sI kd) G0 (cI G an (.dT jK)) pa L ka:=hK.Gr λc u nf e=>by
  rw[aO (λz=>by rw[z,ga]at e;exact nf _ _ (dM e).symm)];exact e
 have pkF:Paired (λa (x:dY×gR)=>oV (cI G an (.dT jK)) a x.1) as A:=by
  have go:∀{as:List Addr}{ks:List (List Key×V)}{B:cQ},Paired (λa (kv:List Key×V)=>G0 a=some (.tup (kv.1.map kV))) as ks->wK H ks B->Paired (λa (x:dY×gR)=>oV (cI G an (.dT jK)) a x.1) as B:=λ{as ks B} p=>by
   induction p generalizing B with
   |nil=>intro h;cases h;exact .nil
   | @cons a kv as ks h1 _ ih =>
    intro h;cases h with
    | @cons _ tr _ B' h2 t2 =>
     refine .cons ?_ (ih t2);have e:kv.1=lZ tr.1:=h2.1;rw[e]at h1;exact oV.Gd (Nd.Gr ga _ _ ((Nd.sd sG g0p).tups _ _ h1))
  exact go pk hA
 generalize cI G an (.dT jK)=F at sF hKF pkF ⊢;intro d hd;have nF:=gW.nY (H:=F) (p:=d) (o:=.dT []) hd;generalize cI F d (.dT [])=F1 at nF ⊢;have fd:H d=none:=sF.free hd;have s1F:=sF.trans nF.same;have Py:=s1F _ _ hsc;have hd1:F1 d=some (.dT []):=nF.here;have nds:d≠sc:=λz=>by rw[z,hsc]at fd;cases fd
 have nda:d≠an:=λz=>by rw[z,han]at fd;cases fd
 refine⟨_,Z,.inr (.inr (.inl ⟨Z,.inr ⟨_,Py⟩⟩)),sc,iM,Z,Z,Py,λpv H2 n2=>⟨pv,sc,iM,Z,n2.here,n2.same _ _ Py,λo2 as2 pk2=>?_⟩⟩;have s2:=s1F.trans n2.same;have h2s:=s2 _ _ hsc;have h2d:=n2.same _ _ hd1;have Rf:Nd H (cI H2 sc (.iC o2 (.dT iM))):=(Nd.of s2).trans (Nd.iC h2s);have f0s:cI H2 sc (.iC o2 (.dT iM)) sc=some (.iC o2 (.dT iM)):=cP;have f0d:cI H2 sc (.iC o2 (.dT iM)) d=some (.dT []):=by rw[aO nds];exact h2d
 have f0a:Rd (cI H2 sc (.iC o2 (.dT iM))) an (.dT jK):=by
  by_cases c:an=sc
  ·refine .inr ⟨o2,?_⟩;rw[c,hsc]at han;have e:iM=jK:=HO.dT.inj (dM han);rw[c,cP,e]
  ·exact .inl (by rw[aO c];exact s2 _ _ han)
 have f0r:∀c,c≠sc->cI H2 sc (.iC o2 (.dT iM)) c=H2 c:=λc hc=>aO hc;have Fb:wY (cO P w) (D1.sI kd) G0 (cI H2 sc (.iC o2 (.dT iM))) pa L ka:=by
  have h:=hKF.same (nF.same.trans n2.same);refine⟨?_,h.len,λk=>(h.val k).imp id λ⟨l,h1,h2⟩=>⟨l,h1,?_⟩,h.inj,h.fr⟩
  ·obtain⟨z,hh|⟨xs,h1,h2⟩⟩:=h.dx
   ·refine⟨z,.inl ⟨hh.1,?_⟩⟩;rw[aO nps];exact hh.2
   ·refine⟨z,.inr ⟨xs,?_,Paired.bV h2 λ_ _ ⟨a,b,c⟩=>⟨a,b.same λc' ys q=>?_,c⟩⟩⟩
    ·rw[aO nps];exact h1
    ·rw[aO (λz=>by rw[z,h2s]at q;cases q)];exact q
  ·rw[aO (λz=>by rw[z,h2s]at h2;cases h2)];exact h2
 have npd:pa≠d:=λz=>by
  obtain⟨_,hh|⟨xs,h1,h2⟩⟩:=hKF.dx
  ·rw[z,hd]at hh;cases hh.2
  ·rw[z,hd]at h1;cases h1
 have Ě:Paired (λa (x:dY×gR)=>oV (cI H2 sc (.iC o2 (.dT iM))) a x.1) as A:=Paired.bV pkF λa x h=>by
  show cI H2 sc (.iC o2 (.dT iM)) a=_;have h':H2 a=some (.tup (x.1.map V.int)):=(nF.same.trans n2.same) _ _ h;rw[aO (λz=>by rw[z,h2s]at h';cases h')];exact h'
 generalize cI H2 sc (.iC o2 (.dT iM))=F0 at pk2 Rf f0s f0d f0a f0r Fb Ě ⊢;have lk2:=aV hS;have la2:=aV pk2;have lim:a0r (D1.sI kd) A S []:=RN (D1.okL kd) m4 a3y a5C;refine ė (P:=λi σ G=>P4 (T6 (λo4 o5 o7 o8 o9 o10=>[some (.int kd),some (.ref sc),some (.ref an),some (.ref pa),o4,o5,some (.ref d),o7,o8,o9,o10]) σ) (Sd d F0 G) (λkt=>G d=some (.dT kt)) λkt=>wK G kt (jN (D1.sI kd) A (S.take i) [])) λZ97 ji ij=>wH Z97 (ji _ _ _ ⟨⟨_,_,_,_,_,_,Z⟩,.refl,[],f0d,.nil⟩) (λi σ G _ h=>(ij _ _ _ h).s _ _ (Ne.symm nds) f0s) ?_ ?_
 ·intro i a0 v0 σ G p G1 ha0 hv0 h1 nw;obtain⟨⟨o4,o5,o7,o8,o9,o10,rfl⟩,sG,kt,hkt,Xk⟩:=ij _ _ _ h1;obtain⟨kv,hkv,hak⟩:=bx pk2 ha0;obtain⟨⟨cW,row⟩,hsx,ek,p2,ep2,hrow⟩:=bx hS hkv;have ek:kv.1=lZ cW:=ek;have hv0':v0=kv.2:=by
   rw[d7,hkv]at hv0;exact(dM hv0).symm
  have ep2:kv.2=.ref p2:=ep2;rw[ep2]at hv0';subst hv0';rw[ek]at hak;have nG:Nd F0 G:=.sd sG f0d;have s1:aJ G G1:=nw.same;have ZM:Nd F0 G1:=nG.trans (.of s1);have Ť:Nd H G1:=Rf.trans ZM;have hone:oV G1 a0 cW:=oV.Gd (ZM.tups _ _ hak);have CP:G1 p2=some (.tup [.int row.m,.int row.b]):=Ť.tups _ _ hrow;have mem:(cW,row)∈S:=iU hsx;have oko:=a5C _ mem;have hKG:wY (cO P w) (D1.sI kd) G0 G1 pa L ka:=by
   have ex:∀c u,c≠d->F0 c=some u->G1 c=some u:=λc u hc e=>s1 _ _ (sG c u hc e);refine⟨?_,Fb.len,λk=>(Fb.val k).imp id λ⟨l,h1,h2⟩=>⟨l,h1,ex _ _ (λz=>by rw[z,f0d]at h2;cases h2) h2⟩,Fb.inj,Fb.fr⟩;obtain⟨z,hh|⟨xs,h1,h2⟩⟩:=Fb.dx
   ·exact⟨z,.inl ⟨hh.1,ex _ _ npd hh.2⟩⟩
   ·exact⟨z,.inr ⟨xs,ex _ _ npd h1,Paired.bV h2 λ_ _ ⟨a,b,c⟩=>⟨a,b.same λ_ _ q=>ZM.tups _ _ q,c⟩⟩⟩
  refine⟨p,_,Z,cL.of nw.here,Z,_,_,Z,_,_,Z,Z,⟨_,Z,⟨λσ' G'=>∃b,σ'=[some (.int kd),some (.ref sc),some (.ref an),some (.ref pa),some (.ref a0),some (.ref b),some (.ref d),some (.ref p2),o8,o9,o10]/\aJ G1 G'/\Vs (cO P w) G' b (lZ (D1.j8 kd cW)),?_,?_⟩⟩⟩
  ·refine⟨_,Z,Z,_,Z,u5 (λe=>?_) λe=>?_⟩
   ·rw[dI,dU]at e;refine⟨_,Z,a0,Z,⟨_,cL.of hone⟩,ŕ hone (ms oko) (λx N Z98 hN=>?_) λp H1 nn=>?_⟩
    ·refine⟨_,Z,Z,?_⟩;exact .inr ⟨_,Z,by simpa [dI]using hN⟩
    ·refine⟨p,_,Z,.inl ⟨bM.of nn.here,λl hl=>?_⟩⟩;have n2:=gW.nY (o:=.tup ((D1.j8 2 cW).map V.int)) hl;refine⟨l,Z,nn.same.trans n2.same,⟨_,n2.here,?_⟩⟩;rw[e];exact vI _
   ·rw[dI,dU]at e;refine⟨a0,Z,aJ.refl _,⟨_,hone,?_⟩⟩;unfold D1.j8;rw[aA e];exact vI cW
  rintro σ' G2 ⟨b,rfl,t2,hk⟩;have a6T:=hKG.same t2;refine⟨_,Z,⟨pa,ka,Z,a6T.dx⟩,_,Z,(),λl0 G3 n3=>?_⟩;have t3:=t2.trans n3.same;have hK3:=hKG.same t3;refine⟨pa,b,lZ (D1.j8 kd cW),ka,.ref l0,Z,Z,hk.same λ_ _ z=>n3.same _ _ z,hK3.dx,?_⟩;obtain⟨l,el,hl⟩:∃l,(gJ ka (lZ (D1.j8 kd cW))).getD (.ref l0)=.ref l/\G3 l=some (.lst ((qg (D1.sI kd) L (lZ (D1.j8 kd cW))).map V.ref)):=by
   rcases hK3.val (lZ (D1.j8 kd cW))with⟨h1,h2⟩|⟨l,h1,h2⟩
   ·rw[h1,h2];exact⟨l0,Z,n3.here⟩
   ·rw[h1];exact⟨l,Z,h2⟩
  rw[el];have nG3:Nd F0 G3:=ZM.trans (.of t3);have pO:Paired (λa (x:dY×gR)=>oV G3 a x.1) (qg (D1.sI kd) L (lZ (D1.j8 kd cW))) (gP (D1.sI kd) cW A):=by
   rw[hL];exact Paired.bV (Gg (D1.sI kd) (lZ (D1.j8 kd cW)) Ě) λ_ _ h=>h.keep nG3.tups
  have lO:=aV pO;have st3:aJ G G3:=s1.trans t3;have hT3:wK G3 kt (jN (D1.sI kd) A (S.take i) []):=Paired.bV Xk λ_ _ z=>⟨z.1,z.2.keep (.of st3)⟩;have ht3:G3 d=some (.dT kt):=st3 _ _ hkt;have hTi:S.take (i+1)=S.take i++[(cW,row)]:=by rw[jQ,hsx];rfl
  refine⟨l,Z,⟨_,bM.of hl⟩,ė (P:=λj σ G'=>P4 (T3 (λo8 o9 o10=>[some (.int kd),some (.ref sc),some (.ref an),some (.ref pa),some (.ref a0),some (.ref b),some (.ref d),some (.ref p2),o8,o9,o10]) σ) (Sd d G3 G') (λBw=>G' d=some (.dT Bw)) λBw=>wK G' Bw (ou (D1.sI kd) cW row ((gP (D1.sI kd) cW A).take j) (jN (D1.sI kd) A (S.take i) []))) λJ2 jk kj=>xZ (K:=K) (a:=l) (xs:=(qg (D1.sI kd) L (lZ (D1.j8 kd cW))).map V.ref) J2 (jk _ _ _ ⟨⟨_,_,_,Z⟩,.refl,kt,ht3,hT3⟩) (λj σ G' _ h=>bM.of ((Nd.sd (kj _ _ _ h).s ht3).lst hl)) ?_ ?_⟩
  ·intro j x σ G' hx h1;obtain⟨⟨o8,o9,o10,rfl⟩,Sq,Bw,JH,hT'⟩:=kj _ _ _ h1;rw[d7]at hx;obtain⟨b0,hb0,rfl⟩:=mU.mp hx;obtain⟨⟨bA,more⟩,hox,hob⟩:=bx pO hb0;have a2Q:(bA,more)∈gP (D1.sI kd) cW A:=iU hox;obtain⟨Pz,shE⟩:=kJ.mp a2Q;have n3':Nd G3 G':=.sd Sq ht3;have nHG:Nd H G':=Rf.trans (nG3.trans n3');have hoG:oV G' b0 bA:=hob.keep n3'.tups;have Xo:oV G' a0 cW:=hone.keep ((pZ.of t3).trans n3'.tups);have exA:∀u,F0 an=some u->G' an=some u:=λu e=>Sq _ _ (Ne.symm nda) (st3 _ _ (sG _ _ (Ne.symm nda) e));have haG:Rd G' an (.dT jK):=f0a.imp (exA _) λ⟨o,e⟩=>⟨o,exA _ e⟩;obtain⟨pm,em,hmore⟩:∃pm,gJ jK (lZ bA)=some (.ref pm)/\H pm=some (.tup [.int more.m,.int more.b]):=by
    rcases CK bA hA with⟨_,e2⟩|⟨v,r,e1,e2,pm,rfl,h⟩
    ·rw[vB ndA Pz]at e2;cases e2
    ·rw[vB ndA Pz]at e2;cases e2;exact⟨pm,e1,h⟩
   have okm:=a3y _ Pz;refine⟨_,Z,_,Z,_,Z,kd,a0,b0,m,cW,bA,Z,Xo,hoG,k0,k2,oko.1,okm.1,(),λpn G4 s4 hpn=>?_⟩;have a5D:Nd H G4:=nHG.trans (.of s4);have ha4:Rd G4 an (.dT jK):=haG.imp (s4 _ _) λ⟨o,e⟩=>⟨o,s4 _ _ e⟩;have a06:=s4 _ _ JH;have hr4:G4 p2=some (.tup [.int row.m,.int row.b]):=a5D.tups _ _ hrow;have hm4:G4 pm=some (.tup [.int more.m,.int more.b]):=a5D.tups _ _ hmore;have a5E:oV G4 b0 bA:=hoG.keep (.of s4);refine⟨_,Z,p2,_,_,.int row.b,Z,Z,cL.of hr4,Z,_,Z,_,Z,an,.ref pm,Z,by rw[<-em];exact a1u ha4 a5E.key,pm,_,_,.int more.b,Z,Z,cL.of hm4,Z,_,_,Z,Z,?_⟩;have ZP:(gP (D1.sI kd) cW A).take (j+1)=(gP (D1.sI kd) cW A).take j++[(bA,more)]:=by rw[jQ,hox];rfl
   have lkt:(ou (D1.sI kd) cW row ((gP (D1.sI kd) cW A).take j) (jN (D1.sI kd) A (S.take i) [])).length<=4000:=lim i _ hsx j _ hox 0 (dh _);have fin:∀(G7:Hp) (kt:List (List Key×V)),Sd d G3 G7->G7 d=some (.dT kt)->wK G7 kt (nA (D1.sI kd).bt (ou (D1.sI kd) cW row ((gP (D1.sI kd) cW A).take j) (jN (D1.sI kd) A (S.take i) [])) (D1.yF kd cW bA) ⟨row.m*more.m,row.b+more.b,[cW,bA]⟩)->∀(v9 v10:V),J2 (j+1) [some (.int kd),some (.ref sc),some (.ref an),some (.ref pa),some (.ref a0),some (.ref b),some (.ref d),some (.ref p2),some (.ref b0),some v9,some v10] G7:=λG7 kt s h1 h2 v9 v10=>jk _ _ _ ⟨⟨_,_,_,Z⟩,s,kt,h1,by rw[ZP,Aq];exact h2⟩;clear jk kj ji ij lim;generalize ou (D1.sI kd) cW row ((gP (D1.sI kd) cW A).take j) (jN (D1.sI kd) A (S.take i) [])=T0 at hT' lkt fin;have hT4:wK G4 Bw T0:=Paired.bV hT' λ_ _ z=>⟨z.1,z.2.keep (.of s4)⟩;have lk4:=aV hT4;obtain⟨src',ep⟩:=D1.Œ (kd:=kd) (T:=T0) (s:=D1.yF kd cW bA) (m:=row.m*more.m) (b:=row.b+more.b) (src:=[cW,bA]);have hsm:=smS _ mem;have hsa:=smA _ Pz;generalize D1.yF kd cW bA=s' at hpn ep fin;generalize row.b+more.b=bb at ep fin ⊢;have get:∀{G:Hp},aJ G4 G->oV G pn s'/\G d=some (.dT Bw):=λ{G} s=>⟨hpn.keep (.of s),s _ _ a06⟩;obtain⟨m0,bs,en,hv⟩:∃m0 bs,nA (D1.sI kd).bt T0 s' ⟨row.m*more.m,bb,[cW,bA]⟩=wI T0 s' ⟨row.m*more.m+m0,bs,src'⟩/\((gJ Bw (lZ s')=none/\m0=0/\bs=bb)\/∃pr b0,gJ Bw (lZ s')=some (.ref pr)/\G4 pr=some (.tup [.int m0,.int b0])/\bs=D1.Ks kd bb b0):=by
    rcases CK s' hT4 with⟨e1,e2⟩|⟨v0,r0,e1,e2,pr,rfl,hr0⟩
    ·exact⟨0,bb,by rw[ep,e2],.inl ⟨e1,Z,Z⟩⟩
    ·exact⟨r0.m,_,by rw[ep,e2],.inr ⟨pr,r0.b,e1,hr0,Z⟩⟩
   refine Gs (P:=λσ' G'=>σ'=[some (.int kd),some (.ref sc),some (.ref an),some (.ref pa),some (.ref a0),some (.ref b),some (.ref d),some (.ref p2),some (.ref b0),some (.ref pn),some (.int bs)]/\G'=G4) λJ3 jm mj=>⟨J3,?_,?_⟩
   ·refine⟨_,Z,_,Z,pn,d,lZ s',Bw,Z,Z,hpn.key,a06,_,Z,?_⟩;rcases hv with⟨e1,_,e3⟩|⟨pr,b0',e1,hr0,e3⟩
    ·rw[e1];exact cX (cX (jm _ _ ⟨by rw[e3];rfl,Z⟩))
    ·rw[e1];have dg:Gq G4 d (.ref pn) (some (.ref pr)):=by rw[<-e1];exact Gq.t a06 hpn.key
     refine iD ⟨_,Z,_,Z,d,.ref pr,Z,dg,pr,_,_,.int b0',Z,Z,cL.of hr0,Z,_,Z,_,_,Z,Z,_,Z,Z,Z,_,Z,u5 (λc=>?_) λc=>?_⟩
     ·have c:=V.bl.inj (iI c);rw[dI]at c;exact⟨_,Z,_,Z,d,.ref pr,Z,dg,pr,_,_,.int b0',Z,Z,cL.of hr0,Z,jm _ _ ⟨by rw[e3];unfold D1.Ks;rw[aG c];rfl,Z⟩⟩
     ·have c:¬decide (b0'>bb)=decide (kd=1):=λz=>c (bB (congrArg V.bl (by rw[dI];exact z)));exact jm _ _ ⟨by rw[e3];unfold D1.Ks;rw[aA c];rfl,Z⟩
   intro σ' G' h1;obtain⟨rfl,rfl⟩:=mj _ _ h1;clear jm mj h1;refine⟨_,Z,p2,_,_,.int row.m,Z,Z,cL.of hr4,Z,_,Z,_,Z,an,.ref pm,Z,by rw[<-em];exact a1u ha4 a5E.key,pm,_,_,.int more.m,Z,Z,cL.of hm4,Z,_,_,Z,Z,⟨hsm,hsa⟩,?_⟩;refine⟨_,Z,.inr (.inr (.inl ⟨Z,.inr ⟨_,a06⟩⟩)),_,Z,(),λp3 G5 n5=>?_⟩;obtain⟨g5,g6⟩:=get n5.same;refine⟨d,pn,lZ s',Bw,.ref p3,Z,Z,g5.key,g6,?_⟩;obtain⟨pq,bz,eq1,hq⟩:∃pq bz,(gJ Bw (lZ s')).getD (.ref p3)=.ref pq/\G5 pq=some (.tup [.int m0,.int bz]):=by
    rcases hv with⟨e1,e2,_⟩|⟨pr,b0',e1,hr0,_⟩
    ·exact⟨p3,0,by rw[e1];rfl,by rw[e2];exact n5.here⟩
    ·exact⟨pr,b0',by rw[e1];rfl,n5.same _ _ hr0⟩
   rw[eq1];refine⟨pq,_,_,.int m0,Z,Z,cL.of hq,Z,_,_,Z,Z,_,Z,(),λp4 G6 n6=>?_⟩;have s6:=n5.same.trans n6.same;obtain⟨g5,g6⟩:=get s6;refine⟨_,Z,_,Z,d,pn,lZ s',Bw,Z,Z,g5.key,g6,(),λG7 c7=>?_⟩;have ts:pZ G6 G7:=λc' ys hc=>by
    rw[c7.rest c' (λz=>by rw[z,g6]at hc;cases hc)];exact hc
   refine fin G7 _ ((Sq.trans (.of (s4.trans s6))).trans (.đ c7)) c7.here ?_ _ _;rw[en];exact Xb (Paired.bV hT4 λ_ _ z=>⟨z.1,z.2.keep ((pZ.of s6).trans ts)⟩) ⟨p4,Z,ts _ _ n6.here⟩
  ·intro σ G' h1;obtain⟨⟨o8,o9,o10,rfl⟩,Sq,Bw,JH,hT'⟩:=kj _ _ _ h1;refine ji _ _ _ ⟨⟨_,_,_,_,_,_,Z⟩,sG.trans ((Sd.of st3).trans Sq),Bw,JH,?_⟩;rw[hTi,join_snoc];rw[aK,lO,gO]at hT';exact hT'
 ·intro σ G h1;obtain⟨⟨o4,o5,o7,o8,o9,o10,rfl⟩,sG,kt,hkt,Xk⟩:=ij _ _ _ h1;have gs:=sG _ _ (Ne.symm nds) f0s;refine⟨sc,o2,iM,iM,Py,gs,?_⟩;rw[show S.take as2.length=S by rw[la2,lk2,gO]]at Xk;refine⟨_,Z,q d kt _ (λc u e=>?_) (by rw[aO nds];exact hkt) (Paired.bV Xk λ_ _ z=>⟨z.1,z.2.keep (Nd.Gr gs)⟩)⟩;by_cases z:c=sc
  ·rw[z]at e ⊢;rw[cP,<-e,hsc]
  ·rw[aO z];refine sG c u (λz=>by rw[z,fd]at e;cases e) ?_;rw[f0r c z];exact s2 _ _ e
end K
namespace De
open PyProof.Rows
section
variable{prog:Program}{w:World}{A:Around}{E:Value->Shared->Prop}{s:Shared}{κ:Type} [DecidableEq κ] {knd:HeapKind prog w κ}
def V7{nm:String}{a b:Addr}{xa xb:List (κ×Addr×Value)}{Q:Bool->Shared->Prop}(ha:(a==sysModules)=false)(hb:(b==sysModules)=false)(hu:knd.room A)
  (da:s.heap.DictOfH knd a xa) (db:s.heap.DictOfH knd b xb) (len:xa.length=xb.length) (hits:∀x∈xa,∃q,atKey xb x.1=some q/\SeqAt.EqAt A s x.2.2 q.2 true) (h:Q true s) :
  wpAny (model prog w) A (Builtin.Dict.samePairs nm a b) Q E s:=by
 obtain⟨oa,es,ep,hoa,_,hda,hea,hia,hna⟩:=da;obtain⟨ob,fs,ep',hob,_,hdb,heb,hib,hnb⟩:=db;have la:=T9 hea;have lb:=T9 heb;unfold Builtin.Dict.samePairs Builtin.Dict.showsAll;rw[aA (by simp[ha]),aA (by simp[hb])];refine M (ao (M (ao (M (tE hoa hda ?_)))));dsimp only;refine M (tE hob hdb ?_);rw[aA (by simp;omega)];refine M (xR hoa hda (M ?_));rw[Std.Legacy.Range.forIn_eq_forIn_range'];simp only[Std.Legacy.Range.size,Nat.sub_zero,Nat.add_sub_cancel,Nat.div_one];refine wpAny_forIn_list _ (λrest q s'=>s'=s/\q=(none,⟨⟩)/\∃i,rest=List.range' i (es.size-i)/\i<=es.size) _ ?_ ?_ _ _ ⟨Z,Z,0,by simp,dh _⟩
 ·rintro x rest q s' ⟨rfl,rfl,i,hr,hi⟩;have lt:i<es.size:=by
   by_cases c:i<es.size
   ·exact c
   ·rw[show es.size-i=0 by omega]at hr;simp at hr
  obtain⟨rfl,hrest⟩:x=i/\rest=List.range' (i+1) (es.size-(i+1)):=by
   rw[show es.size-i=(es.size-(i+1))+1 by omega,List.range'_succ]at hr;exact⟨(Ec hr).1,(Ec hr).2⟩
  have lx:x<xa.length:=()
  have ex:xa[x]?=some xa[x]:=bR lx;have ee:es[x]?=some (entryOfKey knd xa[x]):=by rw[entry_at hea x,ex];rfl
  obtain⟨q,hq,he⟩:=hits xa[x] (oK lx);refine M (tE hoa hda ?_);rw[ee];show wpAny _ _ (holding [Value.ref xa[x].2.1,xa[x].2.2] _ >>= _) _ _ _;refine M (fL (M (wpAny_dictFind_heap hu (hia _ (oK lx)) hob hdb heb hib hnb ?_ ?_)))
  ·intro no;rw[atKey_none_of_get no]at hq;cases hq
  ·intro j p hj;have ep2:p=q:=dM ((atKey_of_get hnb hj).symm.trans hq);subst ep2;refine M (tE hob hdb ?_);have ef:fs[j]?=some (entryOfKey knd (xa[x].1,p)):=by rw[entry_at heb j,hj];rfl
   rw[ef];refine fL (he prog w _ _ ?_);show wpAny _ _ (if(!true)=true then _ else _) _ _ _;rw[aA ()];refine M (xR hoa hda ?_);rw[aA (by simp)];exact ao ⟨Z,Z,x+1,hrest,lt⟩
 ·rintro q s' ⟨rfl,rfl,i,hr,hi⟩;exact ao h
def Ŗ{a b:Addr}{xa xb:List (κ×Addr×Value)}{Q:Value->Shared->Prop}(ha:(a==sysModules)=false)(hb:(b==sysModules)=false)(hr:knd.room A.in1)
  (da:s.heap.DictOfH knd a xa) (db:s.heap.DictOfH knd b xb) (hu:A.units<cLine) (len:xa.length=xb.length) (hits:∀x∈xa,∃q,atKey xb x.1=some q/\SeqAt.EqAt A.in1 s x.2.2 q.2 true) (h:Q (.bool false) s) :
  wpAny (model prog w) A (compareOp .NotEq (.ref a) (.ref b)) Q E s:=by
 refine wpAny_richCompare_same_room (op:=.NotEq) da.typeIs db.typeIs PySem.F.slot_dict_ne (gC PySem.F.slot_dict_ne da.typeIs PySem.F.entry_dict_ne (M ?_) (PySem.F.args_dict_ne_2 _ _)) hu;unfold Builtin.Dict.dictSlotArgs;refine M (Ig da.typeIs (ao (M (vU (T:="dict") db.typeIs PySem.F.sub_dict_dict ?_))));simp only[if_false,Bool.not_true,Bool.false_eq_true];refine M (ao (M (ao (M (V7 ha hb hr da db len hits ?_)))));exact ao ⟨_,Z,(λz=>by cases z),h⟩
end
end De
namespace L2
open PyProof.Rows Bg
section
variable{X:Cx}{K:aH}
structure ŗ(K:aH)(H:Hp)(ka kb:List (List Key×V)):Prop where
 len:ka.length=kb.length
 hit:∀p∈ka,∃v d,gJ kb p.1=some v/\KJ K H p.2 d/\KJ K H v d/\SeqAt.shaped d=true
def a5F(K:aH)(neg:Bool):R2:=λx y H Q=>∃a b ka kb,x=.ref a/\y=.ref b/\H a=some (.dT ka)/\H b=some (.dT kb)/\ŗ K H ka kb/\Q (.bl (!neg)) H
def V8{Y:List (Addr×Obj)}{σ:St}{H:Hp}{s:Shared}{ka kb:List (List Key×V)}{xa xb:List (List Key×Addr×Value)}(I:bI X Y σ H s)(hu:X.A.units+66<cLine)(ra:KT H ka xa)(rb:KT H kb xb)(S:ŗ X.K H ka kb) :
  ∀x∈xa,∃q,atKey xb x.1=some q/\SeqAt.EqAt X.A.in1 s x.2.2 q.2 true:=by
 intro x hx;obtain⟨j,hj,rfl⟩:=rR hx;obtain⟨p,hp,ep,_,rp⟩:=dF ra (bR hj);obtain⟨v,d,hv,d1,d2,sd⟩:=S.hit p (iU hp);have rv:=rb.val p.1;rw[hv]at rv;obtain⟨u,hu2,ru⟩:=sJ.some_of rv;rw[<-ep];cases c:atKey xb p.1 with
 |none=>rw[c]at hu2;cases hu2
 |some q =>
  rw[c]at hu2;cases hu2;obtain⟨as,r1⟩:=d1.reads I rp;obtain⟨bs,r2⟩:=d2.reads I ru;have:=PySem.W.keq_at (A:=X.A) r1 r2 sd sd (by rw[Around.in1_units];omega);rw[QX sd]at this;exact⟨q,Z,this⟩
def a3z(hu:X.A.units+66<cLine):sX X (compareOp .NotEq) (a5F X.K true):=by
 intro Y s σ H x y v u Q I rx ry h;obtain⟨a,b,ka,kb,rfl,rfl,ea,eb,S,q⟩:=h;obtain rfl:v=Value.ref a:=rx;obtain rfl:u=Value.ref b:=ry;obtain⟨za,sa,xa,ra,da⟩:=Js I.hok ea;obtain⟨zb,sb,xb,rb,db⟩:=Js I.hok eb;have l1:=aV ra;have l2:=aV rb;have l3:=S.len;exact De.Ŗ sa sb (Aa ()) da db () () (V8 I hu ra rb S) ⟨.bl false,H,I,Z,q⟩
def a07(e:X.K=K)(hu:X.A.units+66<cLine):sX X (compareOp .NotEq) (a5F K true):=by subst e;exact a3z hu
end
end L2
namespace K
open L2 Lw Bg
variable{P:Program}{w:World}{mg:Str->Option Value}{base:Heap}{X:Cx}
abbrev rD:Stmt:=top 48
def pQ:bC ["_law_kind","_law_told","_law_steps","_law_sizes","_law_works_here","_law_k","_law_due"] Xa (aF rD):={}
def Ř{K:aH}{H:Hp}{ka kb:List (List Key×V)}{A:cQ}(ha:wK H ka A)(hb:wK H kb A)(nd:(A.map (·.1)).Nodup):ŗ K H ka kb where
 len:=by rw[aV ha,aV hb]
 hit:=λp hp=>by
  obtain⟨j,hj,rfl⟩:=rR hp
  obtain⟨x,hx,ek,q,eq,hq⟩:=bx ha (bR hj)
  have g:=vB nd (iU hx)
  have ek:ka[j].1=lZ x.1:=ek
  have eq:ka[j].2=.ref q:=eq
  rcases CK x.1 hb with⟨_,e2⟩|⟨v,r,e1,e2,q',rfl,hq'⟩
  ·rw[e2]at g;cases g
  ·rw[e2]at g
   cases g
   exact⟨_,.tuple [.int x.2.m,.int x.2.b],by rw[ek];exact e1,by rw[eq];exact .tup (cL.of hq) (.cons (.int _) (.cons (.int _) .nil)),.tup (cL.of hq') (.cons (.int _) (.cons (.int _) .nil)),Z⟩
def a5G{K:aH}:PySem.W.kitOne K (.type "list") (.type "list")=some true:=by rfl
inductive ř(vs:List V)(H:Hp)(Q:VK)(u_3:XK):Prop
 |mk (kd:Int) (pT pS:Addr) (xs yt:List V) (ss:List bT) (Ts:List cQ) (n:Nat) (ts:List bY) (_:vs=[.int kd,.ref pT,.ref pS]) (_:0<=kd) (_:kd<=2) (_:H pS=some (.lst xs)) (_:Paired (oH H) xs ss) (_:ss.length<=800) (_:H pT=some (.lst yt)) (_:Paired (VH H) yt Ts) (_:Ts.length=ss.length) (_:Go.a3u n ts ss) (_:(∀k,k<ss.length->(∀x∈Ts.getD k [],rQ 4 (Go.jH n ts ss k).length x.1)/\(Ts.getD k []).length<=900/\((Ts.getD k []).map (·.1)).Nodup/\(Go.jH n ts ss k).length<=4)) (_:(∀(k i j:Nat),ss[k]?=some .join->Go.um n ts ss k=[i,j]->Ts.getD k []=jN (D1.sI kd) (Ts.getD j []) (Ts.getD i []) []/\qC (Ts.getD i [])/\qC (Ts.getD j []))) (_:∀H',aJ H H'->Q (.bl true) H')
section
variable{K:aH}
def Qt(B:Bl mg)(ZV:DZ8 K mg)(Zz:Dn K mg "_law_formed" kE Rn)(X6:Dn K mg "_law_met" qL wR)(ZC:Dn K mg "_law_both" oF wR)(Ś:Dn K mg "_law_fits" rD Xa):bf P w K mg base gb 3 Ś.f Ś.fd Xa ř:=by
 have gZ8:bf P w K mg base gb 2 _ _ _ _:=(Lk B ZV).mono ();have gZ3:bf P w K mg base gb 2 _ _ _ _:=(Kr B Zz).mono ();have gZ1:bf P w K mg base gb 2 _ _ _ _:=Qs B X6 ZC;refine Ś.F.ok pQ λeV A outer s H vs Q E hr h=>?_;obtain⟨kd,pT,pS,xs,yt,ss,Ts,n,ts,rfl,k0,k2,hS,qS,l8,hT,qT,lT,R,ok,due,q⟩:=h;have hu:(A.deeper (PyProof.Rows.envOfC "_law_fits" (aF rD) s⁻¹ Ś.f eV)).units+66<cLine:=by have:=hr.un;omega
 refine⟨_,(aD (Ah (bh gZ8 hr Z ZV.m ZV.F.kp ZV.b .nil b8 (J (pv 2) aj)) (Ą (K:=K) (n:=2) Z Z (bZ (aM 3 pQ.nd) (bZ (aM 4 pQ.nd) jw))))
   (aD (dD (PW.pt (Jf (tQ (fY (K:=K) Z (bG (jb (K:=K) Z) Z B.isinstance () (J (pv 1) (J (uy (v:=.ty "list") (u:=.type "list") Z B.list () Z) aj))) λ_=>rfl)) (Je (aP Lr (bG (cJ (K:=K) Z) Z B.len () (J (pv 1) aj)) (bG (cJ (K:=K) Z) Z B.len () (J (pv 2) aj))))))
   (aB (bF BK))
   bO)
   (aD (jC jf Z (jB Z B.range (J (bG (cJ (K:=K) Z) Z B.len () (J (pv 2) aj)) aj)) (aM 5 pQ.nd)
   (aD (dD (tQ (fY (K:=K) Z (bh gZ3 hr Z Zz.m Zz.F.kp Zz.b .nil b8 (J (aQ (bK (K:=K) Z) (pv 1) (pv 5)) (J (aQ (bK (K:=K) Z) (pv 3) (pv 5)) aj))) λ_=>rfl))
   (aB (bF BK))
   bO)
   (aB (dD (aP jM (aQ (aN (K:=K) Z) (aQ (bK (K:=K) Z) (pv 2) (pv 5)) aq) gn)
   (aD (aY 6 pQ.nd (bh gZ1 hr Z ZC.m ZC.F.kp ZC.b .nil b8 (J (pv 0) (J (aQ (bK (K:=K) Z) (pv 1) (aQ (bK (K:=K) Z) (aQ (bK (K:=K) Z) (pv 4) (pv 5)) aq)) (J (aQ (bK (K:=K) Z) (pv 1) (aQ (bK (K:=K) Z) (aQ (bK (K:=K) Z) (pv 4) (pv 5)) aq)) aj)))))
   (aB (dD (aP (a07 (K:=K) Z hu) (aQ (bK (K:=K) Z) (pv 1) (pv 5)) (pv 6))
   (aB (bF BK))
   bO)))
   bO))))
   (aB (bF BK))))),?_⟩
 have lx:=aV qS;have lyt:yt.length=ss.length:=(aV qT).trans lT;refine⟨_,Z,pS,xs,ss,n,ts,Z,hS,qS,l8,R,λr pz pw wx G sG hr hpz HJ pW=>⟨r,[.ref pz,.ref pw],Z,bM.of hr,Z,_,_,Z,_,_,Z,Z,⟨_,Z,_,_,_,_,_,Z,Z,tU.lst (sG _ _ hT),a5G,_,Z,cX ⟨_,Z,pT,_,Z,.inl (bM.of (sG _ _ hT)),_,Z,pS,_,Z,.inl (bM.of (sG _ _ hS)),Z,_,Z,?_⟩⟩⟩⟩;rw[show(!decide (V.int ((yt.length:Nat):Int)=V.int ((xs.length:Nat):Int)))=false by rw[lyt,lx];simp];refine cX ⟨_,Z,pS,_,Z,.inl (bM.of (sG _ _ hS)),_,Z,(),(),?_⟩;rw[jz];refine Ei (n:=xs.length) (λi σ G'=>(T2 (λo5 o6=>[some (.int kd),some (.ref pT),some (.ref pS),some (.ref pz),some (.ref pw),o5,o6]) σ)/\aJ G G') ⟨⟨_,_,Z⟩,aJ.refl _⟩ ?_ ?_
 ·rintro k σ G1 hk ⟨⟨o5,o6,rfl⟩,s1⟩;rw[show(0:Int)+(k:Int)=(k:Int) by omega];have kl:k<ss.length:=()
  have hs:=bR kl;obtain⟨vx,hvx,Ğ,rfl,hst⟩:=dF qS hs;have SB:=R.sb k _ hs;generalize ss[k]=st at hs SB hst;have tabs:∀j,j<ss.length->∃p O,yt[j]?=some (.ref p)/\H p=some (.dT O)/\wK H O (Ts.getD j []):=λj hj=>by
   have ZP:Ts[j]?=some (Ts.getD j []):=by rw[gw,bR ()];rfl
   obtain⟨v,hv,p,O,rfl,h1,h2⟩:=dF qT ZP;exact⟨p,O,hv,h1,h2⟩
  obtain⟨p,O,hyk,hpk,hWk⟩:=tabs k kl;have s01:=sG.trans s1;have hzk:(ZS n ts ss ss.length)[k]?=some (.int ((Go.jH n ts ss k).length:Int)):=by unfold ZS;rw[d7,Nx kl];rfl
  obtain⟨ok1,ok2,ok3,ok5⟩:=ok k kl;refine⟨_,Z,_,Z,pT,_,_,_,Z,Z,bM.of (s01 _ _ hT),cD hyk,_,Z,_,Z,pz,_,_,_,Z,Z,bM.of (s1 _ _ hpz),cD hzk,?_⟩;refine⟨p,_,O,Ts.getD k [],Z,s01 _ _ hpk,Paired.bV hWk λ_ _ z=>⟨z.1,z.2.keep (.of s01)⟩,λx hx=>(ok1 x hx).1,(),ok2,λG2 s2=>⟨_,Z,cX ?_⟩⟩;have s12:=s1.trans s2;have s02:=sG.trans s12;refine⟨_,Z,_,Z,pS,_,_,_,Z,Z,bM.of (s02 _ _ hS),cD hvx,Ğ,st.vs,0,.str st.word,Z,Z,cL.of (s02 _ _ hst),zu st,Z,_,Z,?_⟩;rw[Up.Ŏ];by_cases c0:st.tag=4
  ·rw[bB c0];refine iD ?_;obtain⟨i',j',rfl,ef,li,lj,e1,e2⟩:∃i' j',st=.join/\Go.um n ts ss k=[i',j']/\i'<k/\j'<k/\Go.jH n ts ss i'=Go.jH n ts ss j'/\Go.jH n ts ss k=Go.jH n ts ss i':=by
    cases SB with
    | @join i' j' ef lt lt' e1 e2=>exact⟨i',j',Z,ef,lt,lt',e1,e2⟩
    |_=>cases c0
   obtain⟨pi,ki,hyi,hpi,hWi⟩:=tabs i' ();obtain⟨pj,kj,hyj,hpj,hWj⟩:=tabs j' ();obtain⟨a1,a2,a3,a5⟩:=ok i' ();obtain⟨du,a4,b4⟩:=due k i' j' hs ef;obtain⟨b1,b2,b3,b5⟩:=ok j' ();rw[<-e1]at b1;have hfk:((List.range ss.length).map (Go.um n ts ss))[k]?=some [i',j']:=by rw[d7,Nx kl,Option.map_some,ef]
   obtain⟨vf,hvf,pf,rfl,hpf,_⟩:=dF pW hfk;have a5H:=s12 _ _ hpf;have hw2:=s12 _ _ HJ;have hT2:=s02 _ _ hT;refine⟨_,Z,_,Z,_,Z,_,Z,pw,_,_,_,Z,Z,bM.of hw2,cD hvf,pf,_,0,NI i',Z,Z,bM.of a5H,cD (j:=0) Z,pT,_,_,_,Z,Z,bM.of hT2,cD hyi,_,Z,_,Z,_,Z,pw,_,_,_,Z,Z,bM.of hw2,cD hvf,pf,_,1,NI j',Z,Z,bM.of a5H,cD (j:=1) Z,pT,_,_,_,Z,Z,bM.of hT2,cD hyj,?_⟩;have up:∀{kv T},wK H kv T->wK G2 kv T:=λh=>Paired.bV h λ_ _ z=>⟨z.1,z.2.keep (.of s02)⟩;refine⟨kd,pi,pj,(Go.jH n ts ss i').length,ki,kj,Ts.getD i' [],Ts.getD j' [],Z,k0,k2,s02 _ _ hpi,up hWi,s02 _ _ hpj,up hWj,a1,b1,a5,b3,a2,b2,a4,b4,λd kd2 G3 s3 hd hWd=>?_⟩;have s03:=s02.trans s3;rw[<-du]at hWd;exact⟨_,Z,_,Z,pT,_,_,_,Z,Z,bM.of (s03 _ _ hT),cD hyk,_,Z,p,d,O,kd2,Z,Z,s03 _ _ hpk,hd,Ř (Paired.bV hWk λ_ _ z=>⟨z.1,z.2.keep (.of s03)⟩) hWd ok3,_,Z,cX ⟨⟨_,_,Z⟩,s12.trans s3⟩⟩
  ·rw[cM c0];exact cX ⟨⟨_,_,Z⟩,s12⟩
 ·rintro σ G1 ⟨⟨o5,o6,rfl⟩,s1⟩;exact q _ (sG.trans s1)
end
def QAt(K:aH)(CC CA CW:Addr)(kd:Int)(c n:Nat)(ts:List bY)(ws:List Int)(H:Hp)(d:Addr):Prop:=(kd=0->zO K CC [("many",.int c)] n ts ws H d)/\(kd=1->zO K CA [] n ts ws H d)/\(kd=2->zO K CW [] n ts ws H d)
def R6(kd:Int)(c:Nat)(ws:List Int)(n:Nat)(ts:List bY)(ss:List bT):List cQ:=if kd=0 then Go.zM (Ŭ c ws) n ts ss ss.length else if kd=1 then Go.zM (ĭ ws) n ts ss ss.length else Go.zM (ZR ws) n ts ss ss.length
structure a1v(kd:Int)(n:Nat)(ts:List bY)(ss:List bT)(Ts:List cQ):Prop where
 len:Ts.length=ss.length
 ok:∀k,k<ss.length->((Ts.getD k []).map (·.1)).Nodup/\(∀x∈Ts.getD k [],rQ 4 (Go.jH n ts ss k).length x.1)/\(Ts.getD k []).length<=900/\(Go.jH n ts ss k).length<=4
 join:∀k i j:Nat,ss[k]?=some .join->Go.um n ts ss k=[i,j]->Ts.getD k []=jN (D1.sI kd) (Ts.getD j []) (Ts.getD i []) []/\qC (Ts.getD i [])/\qC (Ts.getD j [])
inductive a08(K:aH)(CC CA CW:Addr)(vs:List V)(H:Hp)(Q:VK)(u_3:XK):Prop
 |mk (kd:Int) (c:Nat) (pL d:Addr) (xs:List V) (ss:List bT) (n:Nat) (ts:List bY) (ws:List Int) (_:vs=[.ref pL,.ref d]) (_:0<=kd) (_:kd<=2) (_:c<=4) (_:QAt K CC CA CW kd c n ts ws H d) (_:ws.length=n) (_:n<=10) (_:(∀t∈ts,t.1≠t.2)) (_:bM K H pL xs) (_:Paired (uR K H) xs ss) (_:ss.length<=800) (_:Bx n ts ss (cB n ts ss)=.ok) (_:(∀b∈(cB n ts ss).aR,b.length<=4)) (_:∀pT yt H',a1v kd n ts ss (R6 kd c ws n ts ss)->aJ H H'->H' pT=some (.lst yt)->Paired (VH H') yt (R6 kd c ws n ts ss)->Q (.ref pT) H')
def tp4{n:Nat}{ts:List bY}{ss:List bT}(b4:∀b∈(cB n ts ss).aR,b.length<=4)(k:Nat):(Go.jH n ts ss k).length<=4:=by
 show((cB n ts ss).aR.getD k []).length<=4;rw[gw];by_cases c:k<(cB n ts ss).aR.length
 ·rw[bR c];exact b4 _ (oK c)
 ·rw[List.getElem?_eq_none ()];exact dh _
def bf.exs{α:Type}{K:aH}{CX:R9}{k:Nat}{f:Addr}{fd:FuncData}{ps:List Str}{sp:α->Sp}(F:∀a,bf P w K mg base CX k f fd ps (sp a)):bf P w K mg base CX k f fd ps (λvs H Q E=>∃a,sp a vs H Q E) :=
 ⟨λvs H Q E ⟨a,h⟩=>(F a).len vs H Q E h,λA outer s H args us vs Q E hr he hb hv ⟨a,hs⟩=>(F a).run A outer s H args us vs Q E hr he hb hv hs⟩
def bf.sub{K:aH}{CX:R9}{k:Nat}{f:Addr}{fd:FuncData}{ps:List Str}{sp sp':Sp}(F:bf P w K mg base CX k f fd ps sp)(m:∀vs H Q E,sp' vs H Q E->sp vs H Q E):bf P w K mg base CX k f fd ps sp' :=
 ⟨λvs H Q E h=>F.len vs H Q E (m vs H Q E h),λA outer s H args us vs Q E hr he hb hv hs=>F.run A outer s H args us vs Q E hr he hb hv (m vs H Q E hs)⟩
structure Drw where
 n:Nat
 ts:List bY
 ws:List Int
 lw:ws.length=n
 c:Nat
 c4:c<=4
section
variable{n:Nat}{ts:List bY}{ss:List bT}
def V9{K:aH}{κ:Type} [DecidableEq κ] (Qn:Hl P w K mg base κ) (pk:Bk Qn.pq) {kd:Int}{Ts:List cQ} (en:Qn.n=n) (et:Qn.ts=ts) (eT:Ts=Go.zM Qn.pq n ts ss ss.length) (hPl:∀k:Nat,k<Qn.n->Qn.Pl k) (hTi:∀t∈Qn.ts,Qn.Ti t) (ne:∀t∈ts,t.1≠t.2) (dJ:n<=10) (l8:ss.length<=800) (qI:Bx n ts ss (cB n ts ss)=.ok) (b4:∀b∈(cB n ts ss).aR,b.length<=4)
  (k4:∀{m s},Qn.pq.Ok m s->rQ 4 m s) (hb:Qn.pq.bt=(D1.sI kd).bt) (ht:∀{s t:dY},(Qn.pq.sh t=Qn.pq.sh s↔D1.j8 kd t=D1.j8 kd s)/\(D1.j8 kd t=D1.j8 kd s->Qn.pq.jn s t=[D1.yF kd s t])):a1v kd n ts ss Ts:=by
 subst en et eT;have R:=Go.a1s dJ qI;have ga:=(Go.V0 Qn pk hPl hTi ne dJ l8 qI b4 ss.length (aL _)).ok;refine⟨nH _ _ _ _ _,λk kl=>⟨(ga k kl).nd,λx hx=>k4 ((ga k kl).ok x hx),(ga k kl).len pk (tp4 b4 k),tp4 b4 k⟩,λk i j hs ef=>?_⟩;have kl:=(fO.mp hs).1;have so:=(Go.Mh Qn pk hPl hTi ne dJ l8 qI b4).1 k kl;have li:i<k:=(R.se k _ hs).lt i (by rw[ef];exact aU);have lj:j<k:=(R.se k _ hs).lt j (by rw[ef];exact bD _ aU);have ei:∀{i},i<k->(Go.zM Qn.pq Qn.n Qn.ts ss k).getD i []=(Go.zM Qn.pq Qn.n Qn.ts ss ss.length).getD i []:=λlt=>(Go.Qd Qn.pq lt).trans (Go.Qd Qn.pq (xU lt kl)).symm;rw[show(cB Qn.n Qn.ts ss).dH.getD k []=[i,j]from ef]at so;obtain⟨_,_,_,_,m,_,_,_,_,_,_,smi,smj,_⟩:=so;have smi:qC ((Go.zM Qn.pq Qn.n Qn.ts ss k).getD i []):=smi;have smj:qC ((Go.zM Qn.pq Qn.n Qn.ts ss k).getD j []):=smj;rw[ei li]at smi;rw[ei lj]at smj;refine⟨?_,smi,smj⟩;rw[Go.Qd Qn.pq kl,Go.Qc,getD_at hs,ef];show jN Qn.pq ((Go.zM Qn.pq Qn.n Qn.ts ss k).getD j []) ((Go.zM Qn.pq Qn.n Qn.ts ss k).getD i []) []=_;rw[ei li,ei lj];exact D1.join_eq hb λx _ y _=>ht
end
section
variable{K:aH}
def Wa{c d:Int}(h:c<=d){m:Nat}{s:dY}(o:rQ c m s):rQ d m s:=⟨o.1,λx hx=>⟨(o.2 x hx).1,Int.lt_of_lt_of_le (o.2 x hx).2 h⟩⟩
def ZD(B:Bl mg)(Bz:mg "zip" = none)(bQ:vH K mg)(dB:CZ K mg)(dw:Dc K mg)(U:Used w K mg)(Ct:Ĩ mg)(j5:Fd K mg)(jr:Dn K mg "is_below" fW tW)(oG:Dn K mg "joint" oW j4)(mY:Dn K mg "less" rZ j4)(Hu:Dn K mg "bag_behind" fX CG)(vC:Dn K mg "run" Gh m9)(uw:Dn K mg "fault_behind" fB FZ)(w6:Dn K mg "run_whole" lV m9)(xg:Ī K mg)(zJ:Dn K mg "run_narrow" mL m9)(vA:Dn K mg "states_behind" gh FW)(qz:Dn K mg "note" uQ Cz)(wX:Dn K mg "fill_along" jW Jw)(wJ:Dn K mg "fill_joined" iB Jx)(yh:Dn K mg "going_up" nP Jy)(yC:a0H K mg)(zK:Dn K mg "tables" yx Mp)(j6:Dn K mg "with_number" fC wO)(j7:Dn K mg "without_number" cU wQ):bf P w K mg base gb 12 zK.f zK.fd Mp (a08 K bQ.C dB.C dw.C):=by
 have QC:=λx:Drw=>(Fj (P:=P) (base:=base) B Bz Ct U (a3g B bQ x.c4 x.n x.ts x.ws x.lw j6 j7) j5 jr oG mY Hu vC uw w6 xg zJ vA qz wX wJ yh yC zK);have QA:=λx:Drw=>(Fj (P:=P) (base:=base) B Bz Ct U (a3h B dB x.n x.ts x.ws x.lw j6 j7) j5 jr oG mY Hu vC uw w6 xg zJ vA qz wX wJ yh yC zK);have QW:=λx:Drw=>(Fj (P:=P) (base:=base) B Bz Ct U (a3i B Bz dw x.n x.ts x.ws x.lw j6 j7) j5 jr oG mY Hu vC uw w6 xg zJ vA qz wX wJ yh yC zK);have G:=bf.either (bf.exs QC) (bf.either (bf.exs QA) (bf.exs QW));refine _root_.K.bf.sub G λvs H Q E h=>?_;obtain⟨kd,c,pL,d,xs,ss,n,ts,ws,rfl,k0,k2,c4,qa,lw,dJ,ne,hL,pL',l8,qI,b4,q⟩:=h;rcases(show kd=0\/kd=1\/kd=2 by omega)with e|e|e
 ·have eT:R6 kd c ws n ts ss=Go.zM (Ŭ c ws) n ts ss ss.length:=by unfold R6;rw[aG e]
  have Fc:=V9 (P:=P) (w:=w) (base:=base) (kd:=kd) (a3g B bQ c4 n ts ws lw j6 j7) (Go.okC c4 ws) Z Z eT (λk h=>h) (λ_ _=>trivial) ne dJ l8 qI b4 (λ{m s} h=>Wa (c:=(c:Int)) () h) (by rw[e];rfl) (by rw[e];exact D1.a5z);have g:=Go.Mh (P:=P) (w:=w) (base:=base) (a3g B bQ c4 n ts ws lw j6 j7) (Go.okC c4 ws) (λk h=>h) (λ_ _=>trivial) ne dJ l8 qI b4;exact .inl ⟨⟨n,ts,ws,lw,c,c4⟩,d,pL,xs,ss,Z,qa.1 e,dJ,hL,pL',l8,qI,b4,g.1,g.2,λpT yt H' s hT qT=>q pT yt H' Fc s hT (by rw[eT];exact qT)⟩
 ·have eT:R6 kd c ws n ts ss=Go.zM (ĭ ws) n ts ss ss.length:=by unfold R6;rw[aA (),aG e]
  have Fc:=V9 (P:=P) (w:=w) (base:=base) (kd:=kd) (a3h B dB n ts ws lw j6 j7) (Go.okA ws) Z Z eT (λk h=>h) (λ_ _=>trivial) ne dJ l8 qI b4 (λ{m s} h=>Wa (c:=2) () h) (by rw[e];rfl) (by rw[e];exact D1.a5A);have g:=Go.Mh (P:=P) (w:=w) (base:=base) (a3h B dB n ts ws lw j6 j7) (Go.okA ws) (λk h=>h) (λ_ _=>trivial) ne dJ l8 qI b4;exact .inr (.inl ⟨⟨n,ts,ws,lw,0,()⟩,d,pL,xs,ss,Z,qa.2.1 e,dJ,hL,pL',l8,qI,b4,g.1,g.2,λpT yt H' s hT qT=>q pT yt H' Fc s hT (by rw[eT];exact qT)⟩)
 ·have eT:R6 kd c ws n ts ss=Go.zM (ZR ws) n ts ss ss.length:=by unfold R6;rw[aA (),aA ()]
  have Fc:=V9 (P:=P) (w:=w) (base:=base) (kd:=kd) (a3i B Bz dw n ts ws lw j6 j7) (Go.okW ws) Z Z eT (λk h=>h) (λ_ _=>trivial) ne dJ l8 qI b4 (λ{m s} h=>Wa (c:=3) () h) (by rw[e];rfl) (by rw[e];exact D1.a5B);have g:=Go.Mh (P:=P) (w:=w) (base:=base) (a3i B Bz dw n ts ws lw j6 j7) (Go.okW ws) (λk h=>h) (λ_ _=>trivial) ne dJ l8 qI b4;exact .inr (.inr ⟨⟨n,ts,ws,lw,0,()⟩,d,pL,xs,ss,Z,qa.2.2 e,dJ,hL,pL',l8,qI,b4,g.1,g.2,λpT yt H' s hT qT=>q pT yt H' Fc s hT (by rw[eT];exact qT)⟩)
end
structure PSw(X:Cx)(s:Stmt)(t:TS):Prop where
 h:PS X s t
structure ZF(X:Cx)(ss:List Stmt)(t:TS):Prop where
 h:QG X ss t
def ś:ZF X [] a1d:=⟨bO⟩
def iY{s:Stmt}{ss:List Stmt}{t:TS}{ts:TS}(h:PSw X s t)(hs:ZF X ss ts):ZF X (s::ss) (a3H t ts):=⟨aD h.h hs.h⟩
def Ku{s:Stmt}{ss:List Stmt}{t:TS}{ts:TS}(h:PSw X s t)(hs:ZF X ss ts):ZF X (s::ss) (a4m t ts):=⟨jV h.h hs.h⟩
abbrev X7:Stmt:=top 49
def pX:bC ["_law_script","_law_n","_law_most","_law_rows_here","_law_web","_law_ties_here","_law_steps","_law_weights","_law_kind","_law_question"] ["_law_script"] (aF X7):={}
def Qu{G G0 G':Hp}{d:Addr}(s:aJ G G0)(f:G d=none)(h:Sd d G0 G'):aJ G G':=λc o e=>h c o (λz=>by rw[z,f]at e;cases e) (s c o e)
def Sdh(hv:V)(H H':Hp):Prop:=∀c u,hv≠.ref c->H c=some u->H' c=some u
def Sdh.kpt{hv:V}{H H' G:Hp}(k:Sdh hv H' G)(h:∀c,hv=.ref c->∃ys ys',H c=some (.lst ys)/\H' c=some (.lst ys')):Kpt H H' G:=λc u hc e=>by
 refine k c u (λz=>?_) e;obtain⟨ys,ys',h1,h2⟩:=h c z;rcases hc with w|w
 ·rw[w]at h1;cases h1
 ·rw[h2]at e;exact w ys' (dM e).symm
section
variable{K:aH}
def a3A(B:Bl mg)(Bz:mg "zip" = none)(cF:qH K mg)(bQ:vH K mg)(dB:CZ K mg)(dw:Dc K mg)(U:Used w K mg)(Ct:Ĩ mg)(j5:Fd K mg)(jr:Dn K mg "is_below" fW tW)(oG:Dn K mg "joint" oW j4)(mY:Dn K mg "less" rZ j4)(Hu:Dn K mg "bag_behind" fX CG)(vC:Dn K mg "run" Gh m9)(uw:Dn K mg "fault_behind" fB FZ)(w6:Dn K mg "run_whole" lV m9)(xg:Ī K mg)(zJ:Dn K mg "run_narrow" mL m9)(vA:Dn K mg "states_behind" gh FW)(qz:Dn K mg "note" uQ Cz)(wX:Dn K mg "fill_along" jW Jw)(wJ:Dn K mg "fill_joined" iB Jx)(yh:Dn K mg "going_up" nP Jy)(yC:a0H K mg)(zK:Dn K mg "tables" yx Mp)(sW:Dn K mg "weights_of" jY Gb)(j6:Dn K mg "with_number" fC wO)(j7:Dn K mg "without_number" cU wQ)(pY:Dn K mg "_law_at" tB Mq)(ů:Dn K mg "_law_rows" uJ W7)(Ň:Dn K mg "_law_ties" rC W9)(Gk:Dn K mg "_law_laid" lX CJ)(ZV:DZ8 K mg)(Zz:Dn K mg "_law_formed" kE Rn)(X6:Dn K mg "_law_met" qL wR)(ZC:Dn K mg "_law_both" oF wR)(Ś:Dn K mg "_law_fits" rD Xa)(Wb:Dn K mg "law" X7 ["_law_script"]):bf P w K mg base gb 24 Wb.f Wb.fd ["_law_script"] (a1i K):=by
 have R3:bf P w K mg base gb 23 _ _ _ _:=(Bt B pY).mono ();have gZ6:bf P w K mg base gb 23 _ _ _ _:=(Ql B pY ů).mono ();have gZ7:bf P w K mg base gb 23 _ _ _ _:=(Qo B pY Ň).mono ();have gZ4:bf P w K mg base gb 23 _ _ _ _:=(Dr B Gk 20).mono ();have gZ2:bf P w K mg base gb 23 _ _ _ _:=(Qt B ZV Zz X6 ZC Ś).mono ();have Bu:bf P w K mg base gb 22 _ _ _ _:=(GR B Ct cF bQ j5 jr sW).mono ();have Fq:bf P w K mg base gb 22 _ _ _ _:=(Li B Ct cF dB j5 jr sW).mono ();have Ft:bf P w K mg base gb 22 _ _ _ _:=(Lj B Ct cF dw j5 jr sW).mono ();have a6U:bf P w K mg base gb 23 _ _ _ _:=(ZD B Bz bQ dB dw U Ct j5 jr oG mY Hu vC uw w6 xg zJ vA qz wX wJ yh yC zK j6 j7).mono ();refine Wb.F.ok pX λeV A outer s H vs Q E hr h=>?_;obtain⟨a,ns,rfl,hS,h63,q⟩:=h;have hu:(A.deeper (PyProof.Rows.envOfC "law" (aF X7) s⁻¹ Wb.f eV)).units+64<cLine:=by have:=hr.un;omega
 refine⟨_,(ZF.h (iY ⟨(aY 1 pX.nd (bH jD (bh R3 hr Z pY.m pY.F.kp pY.b .nil b8 (J (pv 0) (J aq aj))) aq))⟩
   (iY ⟨(aY 2 pX.nd (bH fD aq (bH jD (bh R3 hr Z pY.m pY.F.kp pY.b .nil b8 (J (pv 0) (J aq aj))) aq)))⟩
   (Ku ⟨(dD (aP jM (bH jD (bH Ŷ (bh R3 hr Z pY.m pY.F.kp pY.b .nil b8 (J (pv 0) (J aq aj))) aq) aq) aq)
   (aD (aY 1 pX.nd aq)
   (aB (aY 2 pX.nd (bH fD aq (bH jD (pv 2) aq)))))
   bO)⟩
   (iY ⟨(aY 3 pX.nd (bh gZ6 hr Z ů.m ů.F.kp ů.b .nil b8 (J (pv 0) (J (pv 1) (J (pv 2) aj)))))⟩
   (iY ⟨(aY 4 pX.nd (bw (J (pv 1) (J (bh gZ7 hr Z Ň.m Ň.F.kp Ň.b .nil b8 (J (pv 0) (J (pv 3) (J (pv 1) aj)))) aj))))⟩
   (iY ⟨(aY 5 pX.nd (gq (Ak (K:=K) Z) Z B.list () (J (aQ (aN (K:=K) Z) (pv 4) aq) aj)))⟩
   (iY ⟨(aY 6 pX.nd (bH mF (bh gZ4 hr Z Gk.m Gk.F.kp Gk.b .nil b8 (J (pv 5) (J (pv 3) (J aq (J (qM jM (bH jD (bh R3 hr Z pY.m pY.F.kp pY.b .nil b8 (J (pv 0) (J aq aj))) aq) aq) aj))))) (jF ["_law_v"] [none]  (by kernel_rfl) Z (fU (K:=K) Z (aQ (aN (K:=K) Z) (aQ (bK (K:=K) Z) (pv 3) aq) aq)) (λ_ _ _ _ _=>(aM 0 (show(["_law_v"]:List Str).Nodup by decide))) (λ_ _ _ _ _=>fQ) λ_ _ _ _ _=>(bw (J gn (J (pv 0) aj))))))⟩
   (iY ⟨(Jk (i:=7) W8 [none,some 0] pX.nd Z Z (by kernel_rfl) Z (jB Z B.range (J (pv 1) aj)) (λ_ _ _ _ _=>(aM 0 (show(W8:List Str).Nodup by decide))) (λ_ _ _ _ _=>fQ) (λ_ _ _ _ _=>(bH jD (bh R3 hr Z pY.m pY.F.kp pY.b .nil b8 (J (pv 1) (J (bH fD aq (pv 0)) aj))) (bH a1M aq aq))) (by rfl))⟩
   (iY ⟨(aY 8 pX.nd (bH jD (bh R3 hr Z pY.m pY.F.kp pY.b .nil b8 (J (pv 0) (J aq aj))) aq))⟩
   (iY ⟨(aY 9 pX.nd (Ov dw.Ū Ft hr Z dw.m dw.bN.b .nil b8 (J (pv 4) (J (pv 7) aj))))⟩
   (Ku ⟨(dD (aP jM (pv 8) aq)
   (aB (aY 9 pX.nd (Ov bQ.Ū Bu hr Z bQ.m bQ.bN.b .nil b8 (J (pv 4) (J (bH fD aq (bH jD (bh R3 hr Z pY.m pY.F.kp pY.b .nil b8 (J (pv 0) (J aq aj))) (bH fD aq (gq Ej Z B.int () (J (qM BR (pv 2) aq) aj))))) (J (pv 7) aj))))))
   bO)⟩
   (Ku ⟨(dD (aP jM (pv 8) aq)
   (aB (aY 9 pX.nd (Ov dB.Ū Fq hr Z dB.m dB.bN.b .nil b8 (J (pv 4) (J (pv 7) aj)))))
   bO)⟩
   (iY ⟨(dD (aP (O4 (K:=K) Z hu) (aQ (aN (K:=K) Z) (pv 4) aq) (pv 5))
   (aB (bF BK))
   bO)⟩
   (iY ⟨(gY (qN (K:=K) Z mR PySem.F.slot_list_clear PySem.F.type_list_clear Yx (aQ (aN (K:=K) Z) (pv 4) aq)))⟩
   (iY ⟨(bF (bh gZ2 hr Z Ś.m Ś.F.kp Ś.b .nil b8 (J (pv 8) (J (bh a6U hr Z zK.m zK.F.kp zK.b .nil b8 (J (pv 6) (J (pv 9) aj))) (J (pv 6) aj)))))⟩
   ś)))))))))))))))),?_⟩
 refine⟨_,Z,a,ns,0,Z,hS,h63,(),(),λz0=>⟨_,_,Z,Z,(show(0:Int)<_ by decide),?_⟩⟩;refine⟨_,Z,a,ns,1,Z,hS,h63,(),(),λz1=>⟨_,_,Z,Z,(show(0:Int)<_ by decide),_,_,Z,Z,?_⟩⟩;have u0:=qp z0 (show(7:Int)≠0 by decide);have u1:=rU z0 (show(0:Int)<7 by decide);have w0:=qp z1 (show(3:Int)≠0 by decide);have w1:=rU z1 (show(0:Int)<3 by decide);refine Gs (P:=λσ' H'=>∃(n most:Nat),σ'=[some (.ref a),some (.int (n:Int)),some (.int (most:Int)),none,none,none,none,none,none,none]/\H'=H/\n<=10/\2<=most/\most<=4) λJ1 ji ij=>⟨J1,?_,?_⟩
 ·obtain⟨n0,e0⟩:∃n0:Nat,z0%7=(n0:Int):=⟨(z0%7).toNat,()⟩;obtain⟨m0,e1⟩:∃m0:Nat,2+z1%3=(m0:Int):=⟨(2+z1%3).toNat,()⟩;have v0:=qp (2+z1%3) (show(2:Int)≠0 by decide);have v1:=rU (2+z1%3) (show(0:Int)<2 by decide);obtain⟨mm,em⟩:∃mm:Nat,2+(2+z1%3)%2=(mm:Int):=⟨(2+(2+z1%3)%2).toNat,()⟩;refine⟨_,Z,a,ns,0,Z,hS,h63,(),(),λz2=>⟨_,_,Z,Z,⟨(),()⟩,_,_,Z,Z,(show(0:Int)<_ by decide),Z,_,Z,u5 (λc=>?_) λc=>?_⟩⟩
  ·exact⟨_,Z,_,_,Z,Z,(show(0:Int)<_ by decide),_,_,Z,Z,ji _ _ ⟨10,mm,by rw[<-em];rfl,Z,(),(),()⟩⟩
  ·exact ji _ _ ⟨n0,m0,by rw[<-e0,<-e1];rfl,Z,(),(),()⟩
 intro σ1 H1 h1;obtain⟨n,most,rfl,rfl,dJ,m2,m4⟩:=ij _ _ h1;clear ji ij h1;refine⟨_,Z,_,Z,_,Z,a,ns,n,most,Z,hS,h63,dJ,(),(),λl ys rs H2 s2 fl hl pl R r20=>?_⟩;refine⟨_,Z,_,Z,_,Z,_,Z,a,l,ns,ys,rs,n,Z,hS.same s2,h63,hl,pl,(),dJ,λr tx ts H4 s4 fr hr4 pt tbd nd bi l45=>?_⟩;refine⟨(),λpg H5 n5=>?_⟩;have s25:=s4.trans n5.same;have s05:=s2.trans s25;have hr5:=n5.same _ _ hr4;have pt5:=Paired.bV pt λ_ _ h=>mX.same n5.same h;have T:=R.T;have hl5:=s25 _ _ hl;have pl5:=Paired.bV pl λ_ _ h=>KR.same s25 h;have hg5:=n5.here;refine⟨_,Z,pg,_,1,.ref r,Z,Z,cL.of hg5,Z,r,_,Z,.inl (bM.of hr5),λpc H6 n6=>?_⟩;have hc6:=n6.here;have fpc:=n6.fresh;have s26:=s25.trans n6.same;have s06:=s2.trans s26;have pt6:=Paired.bV pt5 λ_ _ h=>mX.same n6.same h;have hl6:=s26 _ _ hl;have pl6:=Paired.bV pl λ_ _ h=>KR.same s26 h;have hr6:=n6.same _ _ hr5;have hg6:=n6.same _ _ hg5;have ltx:=aV pt5;refine⟨_,Z,_,Z,_,Z,a,ns,7,Z,hS.same s06,h63,(),(),λz7=>⟨_,_,Z,Z,(show(0:Int)<_ by decide),Z,?_⟩⟩;obtain⟨early,eea⟩:∃early:Bool,decide (V.int (z7%2)=V.int 1)=early:=⟨_,Z⟩;dsimp only;rw[eea];refine⟨pc,l,tx,ys,ts,rs,n,most,0,early,Z,hc6,pt6,(),hl6,pl6,R,m4,r20,dJ,T.pos,(),λp4 x4 H7 s7 f4 h4 q4=>?_⟩;obtain⟨v0,hx0,⟨pk,bk,rfl,hTk,hbk,nbk,lbk⟩⟩:=dF pl6 (u9 T.pos);refine⟨_,Z,l,_,_,_,Z,Z,bM.of (s7 _ _ hl6),cD (j:=0) hx0,pk,_,_,_,Z,Z,cL.of (s7 _ _ hTk),Z,bk,Z,⟨_,bM.of (s7 _ _ hbk)⟩,?_⟩;have hW4:∀j,(dR rs j).length<=4:=λj=>cZ (R.few j) m4;have b10:(dR rs 0).length<=4:=hW4 0;refine HD (dR rs 0) (λ_=>true) bT.out (bM.of (s7 _ _ hbk)) () (λv H8 N Z98 _ s8 hN hM=>⟨_,Z,(),λp H9 n9=>hN Z p H9 n9⟩) (λH8 p5 x5 H9 s8 n9 q9=>?_);rw[List.filter_eq_self.mpr (λ_ _=>rfl)]at q9;have s79:=s8.trans n9.same;have l4:=aV q4;have l9:=aV q9;rw[aK]at l9;have ll:=M7 T hW4 r20 0 early (show ts.length<=100 by omega) (f:=20) T.pos;refine⟨p4,p5,_,_,Z,Z,s79 _ _ h4,n9.here,(),λpW Zd nW=>?_⟩;have a5I:=s7.trans (s79.trans nW.same);have a5J:=n6.same.trans a5I;obtain⟨ss,ess⟩:∃ss,ss=Br 0 early ts rs.length (xq rs) (dR rs) 20:=⟨_,Z⟩;have qW:Paired (oH Zd) (x4++x5) ss:=by
  rw[ess];exact iK (Paired.bV q4 λ_ _ h=>oH.same (s79.trans nW.same) h) (Paired.bV q9 λ_ _ h=>oH.same nW.same h)
 have lss:ss.length<=800:=by
  rw[<-aV qW,cC];omega
 obtain⟨qI,b4⟩:=Zv (n:=n) (wd:=4) (ts:=ts) T dJ hW4 nd (λt ht=>bi t ht) (λv v0 vn=>(R.cov v v0 vn).resolve_left dW) (show rs.length<=20 from r20) 0 early;rw[<-ess]at qI b4;have RP:=Go.a1s dJ qI;have a6V:=s05.trans a5J;have xl:=aV qW;refine⟨_,Z,_,Z,(),(),?_⟩;rw[jz];refine u6 (λi zs H'=>H'=Zd/\∃ws:List Int,zs=ws.map V.int/\ws.length=i/\∀x∈ws,0<=x/\x<10^30) ⟨Z,[],Z,Z,λx h=>absurd h dW⟩ (λi zs H' hi ⟨e,ws,e1,l1,_⟩=>?_) (λi zs H' hi ⟨e,ws,e1,l1,b1⟩=>?_) ?_
 ·rw[e1,aK,l1];exact eE (cG ())
 ·subst e;refine⟨_,Z,_,Z,_,_,Z,Z,a,ns,_,Z,hS.same a6V,h63,(),(),λz=>⟨_,_,Z,Z,⟨(),(),()⟩,_,_,Z,Z,(show(0:Int)<10^30 by decide),Z,ws++[z%10^30],?_,?_,λx hx=>?_⟩⟩
  ·rw[e1,eO];rfl
  ·rw[cC,l1];rfl
  ·rcases cN.mp hx with h|h
   ·exact b1 x h
   ·rw[bL.mp h];exact⟨qp z (),rU z ()⟩
 rintro zs a5K ⟨rfl,ws,rfl,lw,wb⟩ pw HJ;have Dt:=gW.nY (H:=a5K) (p:=pw) (o:=.lst (ws.map V.int)) HJ;generalize cI a5K pw (.lst (ws.map V.int))=Xu at Dt ⊢;have wok:Zh n (some ws)=true:=by
  unfold Zh;rw[ql,dU,DY];refine⟨lw,λx hx=>?_⟩;have:=wb x hx;rw[ql,dU,dU];exact⟨this.1,this.2⟩
 have ZG:=a5J.trans Dt.same;have a5L:=s05.trans ZG;have a5M:=ZG _ _ hr5;have web:∀{G:Hp},aJ Xu G->cL K G pg [.int n,.ref r]/\G r=some (.lst tx)/\Paired (mX G) tx ts/\WtV K G (.ref pw) (some ws):=λ{G} s=>⟨cL.of ((ZG.trans s) _ _ hg5),(ZG.trans s) _ _ hr5,Paired.bV pt5 λ_ _ h=>mX.same (ZG.trans s) h,pw,Z,bM.of (s _ _ Dt.here)⟩;have kp:∀{G G1 G2:Hp},aJ Xu G->aJ Xu G1->Sdh (.ref r) G1 G2->Kpt G G1 G2:=λ{G G1 G2} s s1 k=>k.kpt λc z=>by
  cases z;exact⟨tx,tx,s _ _ a5M,s1 _ _ a5M⟩
 refine⟨_,Z,a,ns,5,Z,hS.same a5L,h63,(),(),λz5=>⟨_,_,Z,Z,(show(0:Int)<_ by decide),?_⟩⟩;have k0:=qp z5 (show(3:Int)≠0 by decide);have k1:=rU z5 (show(0:Int)<3 by decide);obtain⟨kd,ekd⟩:∃kd:Int,z5%3=kd:=⟨_,Z⟩;dsimp only;rw[ekd];rw[ekd]at k0 k1;refine⟨_,Z,_,Z,λd2 Ŧ f2 fx2 ne2=>?_⟩;have s2':aJ Xu (cI (cI Xu Ŧ (.own d2)) d2 (.ins dw.C Ŧ [])):=(qX fx2 _).trans (qX (by rw[aO (Ne.symm ne2)];exact f2) _);have hd2:cI (cI Xu Ŧ (.own d2)) d2 (.ins dw.C Ŧ []) d2=some (.ins dw.C Ŧ []):=cP;generalize cI (cI Xu Ŧ (.own d2)) d2 (.ins dw.C Ŧ [])=G2 at s2' hd2 ⊢;obtain⟨w1,w2,w3,w4⟩:=web s2';refine⟨d2,Ŧ,pg,r,n,tx,ts,.ref pw,some ws,Z,hd2,w1,w2,w3,(),(),w4,λws' e=>by cases e;omega,wok,λVG sd2 at2=>⟨Z,?_⟩⟩;have s12:=Qu s2' f2 sd2;refine Gs (P:=λσ' G=>∃(d c:Nat),σ'=[some (.ref a),some (.int (n:Int)),some (.int (most:Int)),some (.ref l),some (.ref pg),some (.ref pc),some (.ref pW),some (.ref pw),some (.int kd),some (.ref d)]/\aJ Xu G/\c<=4/\(kd=0->∀G',Sdh (.ref r) G G'->zO K bQ.C [("many",.int c)] n ts ws G' d)/\(kd≠0->∀G',Sdh (.ref r) G G'->zO K dw.C [] n ts ws G' d)) λJ2 ji ij=>⟨J2,?_,?_⟩
 ·refine⟨_,Z,Z,_,Z,u5 (λe=>?_) λe=>?_⟩
  ·have e':kd=0:=V.int.inj (iI e);refine⟨_,Z,_,Z,a,ns,6,Z,hS.same (a5L.trans s12),h63,(),(),λz6=>?_⟩;have md0:(3+if decide ((most:Int)<4)=true then(1:Int)else 0)=3\/(3+if decide ((most:Int)<4)=true then(1:Int)else 0)=4:=by split<;>omega
   refine⟨_,Z,_,_,Z,Z,.inr ⟨_,Z,_,_,Z,Z,_,_,Z,Z,(),_,_,Z,Z,_,Z,λd0 dx0 f0 fx0 ne0=>?_⟩⟩;have y0:=qp z6 (show(3+if decide ((most:Int)<4)=true then(1:Int)else 0)≠0 by omega);have y1:=rU z6 (show 0<(3+if decide ((most:Int)<4)=true then(1:Int)else 0) by omega);obtain⟨c,ec⟩:∃c:Nat,1+z6%(3+if decide ((most:Int)<4)=true then(1:Int)else 0)=(c:Int):=⟨(1+z6%(3+if decide ((most:Int)<4)=true then(1:Int)else 0)).toNat,()⟩;dsimp only;rw[ec];have s0:aJ VG (cI (cI VG dx0 (.own d0)) d0 (.ins bQ.C dx0 [])):=(qX fx0 _).trans (qX (by rw[aO (Ne.symm ne0)];exact f0) _);have hd0:cI (cI VG dx0 (.own d0)) d0 (.ins bQ.C dx0 []) d0=some (.ins bQ.C dx0 []):=cP;generalize cI (cI VG dx0 (.own d0)) d0 (.ins bQ.C dx0 [])=G0 at s0 hd0 ⊢;have a5N:=s12.trans s0;obtain⟨w1,w2,w3,w4⟩:=web a5N;refine⟨d0,dx0,pg,r,n,c,tx,ts,.ref pw,some ws,Z,(),hd0,w1,w2,w3,(),(),w4,λws' e=>by cases e;omega,wok,λũ sd0 at0=>⟨Z,?_⟩⟩;have uU:=s12.trans (Qu s0 f0 sd0);exact ji _ _ ⟨d0,c,Z,uU,(),λ_ G' k=>at0 G' (kp a5N uU k),λz=>absurd e' z⟩
  ·have e':¬kd=0:=λz=>e (bB (congrArg V.int z));exact ji _ _ ⟨d2,0,Z,s12,(),λz=>absurd z e',λ_ G' k=>at2 G' (kp s2' s12 k)⟩
 clear at2 sd2 s12 hd2 s2' w1 w2 w3 w4;intro σ3 ũ h1;obtain⟨d3,c,rfl,uU,c4,at3,at4⟩:=ij _ _ h1;clear ji ij h1;refine Gs (P:=λσ' G=>∃d:Addr,σ'=[some (.ref a),some (.int (n:Int)),some (.int (most:Int)),some (.ref l),some (.ref pg),some (.ref pc),some (.ref pW),some (.ref pw),some (.int kd),some (.ref d)]/\aJ Xu G/\∀G',Sdh (.ref r) G G'->QAt K bQ.C dB.C dw.C kd c n ts ws G' d) λJ3 ji ij=>⟨J3,?_,?_⟩
 ·refine⟨_,Z,Z,_,Z,u5 (λe=>?_) λe=>?_⟩
  ·have e':kd=1:=V.int.inj (iI e);refine⟨_,Z,_,Z,λd1 dx1 f1 fx1 ne1=>?_⟩;have s1:aJ ũ (cI (cI ũ dx1 (.own d1)) d1 (.ins dB.C dx1 [])):=(qX fx1 _).trans (qX (by rw[aO (Ne.symm ne1)];exact f1) _);have hd1:cI (cI ũ dx1 (.own d1)) d1 (.ins dB.C dx1 []) d1=some (.ins dB.C dx1 []):=cP;generalize cI (cI ũ dx1 (.own d1)) d1 (.ins dB.C dx1 [])=G1 at s1 hd1 ⊢;have a5O:=uU.trans s1;obtain⟨w1,w2,w3,w4⟩:=web a5O;refine⟨d1,dx1,pg,r,n,tx,ts,.ref pw,some ws,Z,hd1,w1,w2,w3,(),(),w4,λws' e=>by cases e;omega,wok,λZf sd1 at1=>⟨Z,?_⟩⟩;have Qy:=uU.trans (Qu s1 f1 sd1);exact ji _ _ ⟨d1,Z,Qy,λG' k=>⟨λz=>by omega,λ_=>at1 G' (kp a5O Qy k),λz=>by omega⟩⟩
  ·have e':¬kd=1:=λz=>e (bB (congrArg V.int z));exact ji _ _ ⟨d3,Z,uU,λG' k=>⟨λz=>at3 z G' k,λz=>absurd z e',λz=>at4 () G' k⟩⟩
 clear at3 at4 uU;intro σ4 Zf h1;obtain⟨d,rfl,Qy,qa⟩:=ij _ _ h1;clear ji ij h1;have a09:=ZG.trans Qy;have Ŝ:=Dt.same.trans Qy;have ne:∀t∈ts,t.1≠t.2:=λt ht=>by have:=tbd t ht;omega
 have tA:∀{p:Addr},Zf p=some (.lst tx)->KJ K Zf (.ref p) (Mf ts):=λh=>(show Al K Zf _ ts from⟨tx,bM.of h,Paired.bV pt5 λ_ _ h=>mX.v (mX.same a09 h),()⟩).isD;have a1a:=a09 _ _ hr5;have a6W:=(a5I.trans Ŝ) _ _ hc6;refine⟨_,Z,pg,_,_,_,Z,Z,cL.of (a09 _ _ hg5),Z,_,Z,Mf ts,Mf ts,tA a1a,tA a6W,uE _,uE _,_,Z,?_⟩;rw[aG Z,QX (uE _)];refine cX ⟨_,Z,pg,_,_,_,Z,Z,cL.of (a09 _ _ hg5),Z,.inl ⟨Z,_,bM.of a1a⟩,r,_,Z,Z,a1a,λG cg=>?_⟩;have sG:Sdh (.ref r) Zf G:=λc u hc e=>by
  rw[cg.rest c (λz=>hc (by rw[z]))];exact e
 have a6X:=Ŝ _ _ nW.here;have npr:pW≠r:=λz=>by have:=nW.fresh;rw[z,(s7.trans s79) _ _ hr6]at this;cases this
 have hWG:G pW=some (.lst (x4++x5)):=sG _ _ (λz=>npr (V.ref.inj z).symm) a6X;have qWG:Paired (oH G) (x4++x5) ss:=Paired.bV qW λ_ _ h=>oH.chg a1a cg (oH.same Ŝ h);refine⟨_,Z,_,Z,_,Z,kd,c,pW,d,x4++x5,ss,n,ts,ws,Z,k0,(),c4,qa G sG,lw,dJ,ne,bM.of hWG,Paired.bV qWG λ_ _ h=>oH.v h,lss,qI,b4,λpT yt Ű Fc s17 hT qT=>?_⟩;exact⟨_,Z,kd,pT,pW,x4++x5,yt,ss,_,n,ts,Z,k0,(),s17 _ _ hWG,Paired.bV qWG λ_ _ h=>oH.same s17 h,lss,hT,qT,Fc.len,RP,λk kl=>by
  obtain⟨f1,f2,f3,f4⟩:=Fc.ok k kl;exact⟨f2,f3,f1,f4⟩,Fc.join,λH18 s18=>q _⟩
end
end K
namespace L2
open PyProof.Rows
def ZJ{A:Type}:Nat->(List A->Prop)->Prop
 |0,P=>P []
 |n+1,P=>∀a,ZJ n λr=>P (a::r)
theorem ŝ{A:Type}:∀(us:List A) {P:List A->Prop},ZJ us.length P->P us
 | [],_,h=>h
 |a::r,_,h=>ŝ r (h a)
def fM{K:aH}{h:Heap}{mg:Str->Option Value}{x:Str}{st:Stmt}{ps:List Str}{f:Addr}{oc:Value}{od an:Option Addr}{osl:Array (Option Value)}{kV doc pm eV ct:Value}(X:K.In h)(G:h.Ns mainGlobals mg)
  (a:PySem.W.nsIn K mainGlobals x=some (some (.ref f))) (l:K.lookup f=some ⟨oc,od,.func (PySem.W.fnOf x x (gZ st) (gA st) (aF st) .none kV doc pm an eV ct),osl⟩) (c:PySem.W.codeIn K eV x=true) (k:PySem.W.keepIn K (.ref f)=true)
  (hb:∀(kV doc pm:Value) (an:Option Addr) (eV ct:Value),ZJ ps.length λus=>bindArgs (PySem.W.fnOf x x (gZ st) (gA st) (aF st) .none kV doc pm an eV ct) ⟨us,[]⟩=pure (ps.zip us)) :
  Nonempty (Dn K mg x st ps) :=
 a4r X G a l c k λ_ _ _ _ _ _ us hl=>ŝ us (hl▸hb ..)
noncomputable def jZ {K:aH}{C:Addr}{m qual:Str}{st:Stmt}{ps:List Str}{f:Addr}{oc:Value}{od an:Option Addr}{osl:Array (Option Value)}{kV doc pm eV ct:Value}
  (a:PySem.W.findIn K (.ref C) m=some (some (.ref f))) (i:PySem.W.isFn K (.ref f)=true)
  (l:K.lookup f=some ⟨oc,od,.func (PySem.W.fnOf m qual (gZ st) (gA st) (aF st) .none kV doc pm an eV ct),osl⟩) (c:PySem.W.codeIn K eV qual=true) (k:PySem.W.keepIn K (.ref f)=true)
  (h:∀(kV doc pm:Value) (an:Option Addr) (eV ct:Value),ZJ ps.length λus=>bindArgs (PySem.W.fnOf m qual (gZ st) (gA st) (aF st) .none kV doc pm an eV ct) ⟨us,[]⟩=pure (ps.zip us)):Dm K C m qual st ps :=
 a4C a i l c k λ_ _ _ _ _ _ us hl=>ŝ us (hl▸h ..)
noncomputable def Qv {K:aH}{C:Addr}{m qual:Str}{st:Stmt}{ps:List Str}{f T:Addr}{oc oT:Value}{od an dT:Option Addr}{osl sT:Array (Option Value)}{kV doc pm eV ct:Value}{nT:Nat}
  (a:PySem.W.findIn K (.ref C) m=some (some (.ref f))) (i:PySem.W.isFn K (.ref f)=true)
  (l:K.lookup f=some ⟨oc,od,.func (PySem.W.fnOf m qual (gZ st) (gA st) (aF st) (.ref T) kV doc pm an eV ct),osl⟩) (c:PySem.W.codeIn K eV qual=true) (k:PySem.W.keepIn K (.ref f)=true)
  (lT:K.lookup T=some ⟨oT,dT,.seq #[.none] nT,sT⟩)
  (h:∀(kV doc pm:Value) (an:Option Addr) (eV ct:Value),ZJ ps.length λus=>∃g,bindArgs (PySem.W.fnOf m qual (gZ st) (gA st) (aF st) (.ref T) kV doc pm an eV ct) ⟨us,[]⟩=seqItems? (.ref T) >>= g/\g (some #[.none])=pure (ps.zip us))
  (h1:∀(kV doc pm:Value) (an:Option Addr) (eV ct:Value),ZJ (ps.length-1) λus=>∃g,bindArgs (PySem.W.fnOf m qual (gZ st) (gA st) (aF st) (.ref T) kV doc pm an eV ct) ⟨us,[]⟩=seqItems? (.ref T) >>= g/\g (some #[.none])=pure (ps.zip (us++[.none]))):DmD K C m qual st ps :=
 a2H a i l c k lT (λ_ _ _ _ _ _ us hl=>ŝ us (hl▸h ..)) λ_ _ _ _ _ _ us hl=>ŝ us (Nat.eq_sub_of_add_eq hl▸h1 ..)
end L2
open PySem.W PyProof.Rows
inductive PySem.W.Fast:Prop|tw15747763998325723414|tw11641031945699643985|tw15926399985473550376|tw16094739659820976103|tw10259190248380951528|tw6679478483019803564|tw11606544215480920136|tw14001032448484516230|tw5551538516411444485|tw12958880278425658370|tw6878874697312671647|tw11116979992917940120|tw15537797824786317194|tw15592267628504532200|tw14911460553443173895|tw11856190931036735984|tw3647395175404319052|tw1751962143908938393|tw17195599670200953340|tw12916034921033318716|tw4248735187433159237|tw364463406666053703|tw5991638506736579075|tw18258793944269334804|tw13503064813909182007|tw14660457056200950170|tw13995581493341176953|tw3805153032078664275|tw1858118895669614639|tw1803784021169954103|tw18279204836203121959|tw15895736314791523932|tw18196290027659811003|tw14500655884615426103|tw13179107836109000413|tw4446974503307649059|tw11214353149605014356|tw2389778346163813447|tw320787449080044395|tw1159058193707487655|tw1771356965284516942|tw14030649893070744616|tw14949481935286428875|tw15159454292818039329|tw14658498039190199138|tw4687981771845516192|tw18310313350794187655|tw15248826197587801906|tw1313185569585188909|tw2751710741108492580|tw9424495513669155733|tw1222906324898971593|tw6321856023937329682|tw11204710144989368082|tw8843881641029263374|tw8370857022704680493|tw12011315165282638696|tw17848317724439110895|tw11814357860343990492|tw8003203163056759617|tw17366744111739531697|tw4804877837140184243|tw3743885668211971278|tw2560331914845053379|tw2462015180998788193|tw643925001335354610|tw11628756084173588624|tw3964210150792609259|tw9416586951685795630|tw4029408256261555162|tw6605266771495595538|tw17346371234454868721|tw2188662233311874037|tw10279974474924760429|tw4264339818809533112|tw5476937129672712273|tw3548611002362707788|tw10466906607638739460|tw12321240760338139517|tw17758096003974326971|tw5260086728485055164|tw15412828358085927778|tw322965656891133847|tw8540428689562341805|tw9716002769219909475|tw12687235267295757402|tw17803122860516046549|tw11149827818716473747|tw17396239456791583096|tw888354835353330454|tw8440602346739157965|tw10099306071027738172|tw3544186926958506542|tw2380724625855449176|tw2005165017848702187|tw14161170428087225974|tw3687906655209065023|tw701067544928526425|tw5458138913001704558|tw14488033762447386816|tw4768171415874501171|tw4201539251201820074|tw10706152702073818122|tw9105265587159735609|tw10533784322713102586|tw14310227702778407180|tw960338574533894887|tw4550529178148380045|tw13209998654781943208|tw887498298171908648|tw1991473003443171062|tw4424554715551016353|tw2645046202924949084|tw15650362971293704133|tw7081695753895205689|tw200693650795848264|tw13181643713071298898|tw9114956450027437156|tw16189500746271747293|tw15218898544608577805|tw6989248354881874037|tw2864303965901509657|tw12577617909265972399|tw1929148007389113932|tw5550901714099137613|tw1159944793284580922|tw7046918418127930845|tw14514221079496633824|tw2451373245002618878|tw13152116337611356735|tw11622346031290412455|tw1808105441887778394|tw9618975113344942763|tw3050036304690663364|tw8173737841047923132|tw18430194791166602660|tw1787301294753653026|tw11175251657744780660|tw6069993666674153359|tw7127363990479269225|tw6392818567244534187|tw17366518980694149691|tw7624324606829146694|tw12164348047568105509|tw10398427269937626146|tw3658161973857719869|tw6743117380846460163|tw11356672899440559325|tw5651312509122599760|tw8063280482968266291|tw13464633338552631130|tw5253825465524019807|tw4901429010993594792|tw287263759309719662|tw12943824199551388610|tw8688860081061918967|tw11719509487529046847|tw17041981618451856574|tw9793129962521644313|tw520394751334448801|tw17241098450721867637|tw14824065252090682393|tw5622299696992321097|tw14933865492634973624|tw9682980286379343586|tw10835312827823738100|tw5260981304661126789|tw2563680046521565575|tw9756582745602923109|tw8801492053202188194|tw632764595691005922|tw5982202371709950574|tw752944660052764700|tw12391748641894826308|tw3613724364526896168|tw16486531573860641073|tw1440453072820350878|tw5939887265360645383|tw4075371534885263527|tw14279027426255161029|tw10309264924356578791|tw1589342955528699294|tw12299771034231315529|tw7266201264665280118|tw6360980784848316138|tw5191043730442850864|tw10774416642004107797|tw17666359272632627154|tw12158238249275560498|tw7746588678487043805|tw1690478786394516424|tw5900653553315244629|tw4827215089082134545|tw4459821645650326259|tw554085833639720671|tw16096378032067531845|tw1287586303132461727|tw8970004512215782329|tw1505685478422364047|tw816380933923111477|tw9386428826246061514|tw14301530238837731772|tw5017899908085666140|tw13555706672894755805|tw11883394204052835106|tw16258772289017429889|tw2693923498420402623|tw16626486322366735438|tw1569743776098855893|tw12492972473659213178|tw12755979376304382757|tw9370352492492352295|tw5895779449906335639|tw5892129352282835426|tw5138618612432683491|tw4595737729341140459|tw4112337864963274473|tw199681718731253666|tw18191335828883197619|tw18187083006574211907|tw16612461981068986912|tw14281546364558805591|tw12217546456888473539|tw11834466026616090958|tw11444918810029326917|tw11403626308957422339|tw11156356923779070690|tw11059943178369082065|tw8579374594905201314|tw4557570463156417710|tw14893473671620486716|tw9674063275534411365|tw9551237925273063452|tw17592303366083871588|tw13748541869462987629|tw12957977797758373639|tw12242858652146870822|tw11040049390418858699|tw6884748464150823701|tw8914515220731266557|tw5453939652227391710|tw4377681034432930844|tw3003622116260286486|tw2471332418452893870|tw2112388308909786931|tw11074530573277093349|tw1280475309769934486|tw7868364332057526721|tw6362505812945763122|tw5971437155551737354|tw5811424089826713283|tw5730019033568957670|tw4943028310072402843|tw4420681685772935601|tw326661899367412168|tw1889892089868942820|tw17540930261900269765|tw1686828442817585673|tw15766123853104373800|tw14904790983928303532|tw13994619265084477155|tw12853492966834184285|tw12784025932652051091|tw12385622653617879399|tw12369169074451816715|tw12353452045546444918|tw12250146955924105972|tw12042870442014238869|tw11222409619598221505|tw10785966585628893159|tw17230437353187720488|tw17175939606167742932|tw15219063409936028623|tw7143553848305471870|tw6891165980431071079|tw16395465830410503259|tw2996301045081458514|tw10244313450867373021|tw9477994730928350056|tw14767991304473423053|tw8605078015742754408|tw10252242166477877279|tw15361673206404359022|tw10740705647743046816|tw13101925172163805316|tw3428113995401996350|tw9684899903577361489|tw7787956921054049040|tw7009708297116164341|tw10175965170631655549|tw15421433882929470180|tw12754384952131408878|tw12537297240573895149|tw6705570701539983703|tw4315269522035250615|tw14587270281474817612|tw1097504086139039268|tw8243386804117004386|tw7933097908490434196|tw7416564175717504057|tw6215357501290412995|tw2283174180373907380|tw8123020943280195073|tw7005024843339281801|tw4221961210205905437|tw17211622361074268081|tw13443411174135371351|tw9958838879917655772|tw4952267218049358769|tw8386650158882795903|tw16704013815391878780|tw2672672796849437404|tw1938656645863506017|tw8915476617372162677|tw5894891061557423781|tw4237364956486843241|tw15350457410367572026|tw12947419164814226774|tw12445873997671368313|tw1091461837106036383|tw9233847883133228469|tw3549726000158265374|tw9845089799154136558|tw9490459889464556340|tw902681214098809524|tw7839842103763690527|tw7638334704406192527|tw6729627906896163441|tw5933411375032785475|tw4503666688441292851|tw2733651892852632504|tw203700327628337586|tw1997002406071203373|tw1856226313577526986|tw18024649476352376328|tw1714665129292356194|tw16970205655908227040|tw16802778725568162266|tw15608171143244182481|tw14686220200068804103|tw14223140814153669034|tw10410811880048971366|tw9980903653321286686|tw9865974925018000456|tw9833714003266191601|tw965687704957509636|tw9240263983658184145|tw9137178802162486249|tw8881080902375240777|tw886425972585204068|tw8782323716049194032|tw8724191409626358460|tw8207029612404274065|tw7385347700930719009|tw6941186040625568833|tw6748492321833426252|tw6678603468260018676|tw6509871350241074637|tw6455082815756353196|tw5877948398798550846|tw5875831195384467023|tw5839743108948361844|tw5746144874415453284|tw5603169018588557249|tw5141688441139590711|tw4982351004399003094|tw4950129629385459000|tw47668816506458514|tw4620718156578859152|tw4599052575910609220|tw4501522756837090042|tw4496855056945531701|tw4395527068188904221|tw3999765196957704937|tw3809700592596500839|tw3445738005591264938|tw3367085313991822828|tw3036840487734296462|tw2648259792228841284|tw2389130162715827262|tw230005539813192525|tw2168932574416103421|tw18368237021370634898|tw18297767625044548324|tw18258081740189907153|tw18202062905678207353|tw1781883773705719816|tw17723513631694136883|tw17338748120807612353|tw17204857385296389981|tw17045391169201232282|tw16985963909001645980|tw16654914078294629794|tw16476108288354651978|tw16265054985261692465|tw16164011431826082671|tw16049081648374338108|tw1603566445481505800|tw15519957074617255921|tw15306318593216316961|tw15114409881250266166|tw15042836938538838676|tw14990733605574943377|tw14888334866184294316|tw1468691762215744857|tw14265179972709420081|tw13893780598133613999|tw13796920415658592186|tw1348207163009930434|tw1330843211813099042|tw13276263446955307856|tw13161879107909222579|tw13130475386394097128|tw1305590224093395967|tw12959825221513100712|tw12685809334264153415|tw12684533304919916028|tw12667371964400796685|tw12385717862011297353|tw12306846203870880242|tw1218114138601246019|tw11964984907421793163|tw11755748158367514556|tw11557422282361327424|tw11513043879175397954|tw11324747554876402339|tw11238425381656990107|tw10976702321722210254|tw10846999392400480702|tw1075369245488090819|tw10753279254253628287|tw10316384388045200021|tw10241322039453797093|tw10112509092139662918
set_option maxRecDepth 100000 in
set_option maxHeartbeats 0 in
theorem PySem.Challenge.cw_bagwood_k63_bags_laid_together_holds : PySem.Challenge.rw_bagwood_k63_bags_laid_together.Holds := by
 w_on;o_law;k_head;(case hw=>w_witness2)
 k_fill
 refine L2.Ý (l:=PySem.Challenge.rw_bagwood_k63_bags_laid_together) (n:=63) (k:=24) (x:="_law_script") (CX:=L2.gb) (sp:=Lw.a1i) rfl (by decide) rfl ⟨rfl,by decide,by decide⟩ (λw h Z99=>PySem.W.kIn_of Z99) ?F ?S ?C
 case F =>
  intro w mg fa h KX G hmg
  have B:L2.Bl mg:=by
   refine' L2.a4s KX G ?z1 ?z2 ?z3 ?z4 ?z5 ?z6 ?z7 ?z8 ?z9 ?z10 ?z11 ?z12 ?z13 ?z14 ?z15 ?z16 ?z17
   all_goals k_is
  have Bz:mg "zip" = none:=by
   refine' PySem.W.mg_none_of KX G ?z
   k_is
  obtain⟨j5⟩:Nonempty (L2.Dn (L2.KOf KX) mg "is_whole" K.Av ["thing"]):=by dsimp only[L2.KOf];refine' L2.fM KX G ?a ?l ?c ?k (λ_ _ _ _ _ _ _=>rfl);case a|l|c|k=>k_is
  obtain⟨jr⟩:Nonempty (L2.Dn (L2.KOf KX) mg "is_below" K.fW ["n","thing"]):=by dsimp only[L2.KOf];refine' L2.fM KX G ?a ?l ?c ?k (λ_ _ _ _ _ _ _ _=>rfl);case a|l|c|k=>k_is
  obtain⟨oG⟩:Nonempty (L2.Dn (L2.KOf KX) mg "joint" K.oW ["one","other"]):=by dsimp only[L2.KOf];refine' L2.fM KX G ?a ?l ?c ?k (λ_ _ _ _ _ _ _ _=>rfl);case a|l|c|k=>k_is
  obtain⟨mY⟩:Nonempty (L2.Dn (L2.KOf KX) mg "less" K.rZ ["one","other"]):=by dsimp only[L2.KOf];refine' L2.fM KX G ?a ?l ?c ?k (λ_ _ _ _ _ _ _ _=>rfl);case a|l|c|k=>k_is
  obtain⟨Hu⟩:Nonempty (L2.Dn (L2.KOf KX) mg "bag_behind" K.fX ["graph","done","step","used"]):=by dsimp only[L2.KOf];refine' L2.fM KX G ?a ?l ?c ?k (λ_ _ _ _ _ _ _ _ _ _=>rfl);case a|l|c|k=>k_is
  obtain⟨vC⟩:Nonempty (L2.Dn (L2.KOf KX) mg "run" K.Gh ["graph","steps"]):=by dsimp only[L2.KOf];refine' L2.fM KX G ?a ?l ?c ?k (λ_ _ _ _ _ _ _ _=>rfl);case a|l|c|k=>k_is
  obtain⟨uw⟩:Nonempty (L2.Dn (L2.KOf KX) mg "fault_behind" K.fB ["graph","steps","tops","pile"]):=by dsimp only[L2.KOf];refine' L2.fM KX G ?a ?l ?c ?k (λ_ _ _ _ _ _ _ _ _ _=>rfl);case a|l|c|k=>k_is
  obtain⟨w6⟩:Nonempty (L2.Dn (L2.KOf KX) mg "run_whole" K.lV ["graph","steps"]):=by dsimp only[L2.KOf];refine' L2.fM KX G ?a ?l ?c ?k (λ_ _ _ _ _ _ _ _=>rfl);case a|l|c|k=>k_is
  obtain⟨xg⟩:Nonempty (L2.Dn (L2.KOf KX) mg "refuse_wide" K.uV ["bags"]):=by dsimp only[L2.KOf];refine' L2.fM KX G ?a ?l ?c ?k (λ_ _ _ _ _ _ _=>rfl);case a|l|c|k=>k_is
  obtain⟨zJ⟩:Nonempty (L2.Dn (L2.KOf KX) mg "run_narrow" K.mL ["graph","steps"]):=by dsimp only[L2.KOf];refine' L2.fM KX G ?a ?l ?c ?k (λ_ _ _ _ _ _ _ _=>rfl);case a|l|c|k=>k_is
  obtain⟨vA⟩:Nonempty (L2.Dn (L2.KOf KX) mg "states_behind" K.gh ["question","old","step","bag"]):=by dsimp only[L2.KOf];refine' L2.fM KX G ?a ?l ?c ?k (λ_ _ _ _ _ _ _ _ _ _=>rfl);case a|l|c|k=>k_is
  obtain⟨qz⟩:Nonempty (L2.Dn (L2.KOf KX) mg "note" K.uQ ["question","table","state","row"]):=by dsimp only[L2.KOf];refine' L2.fM KX G ?a ?l ?c ?k (λ_ _ _ _ _ _ _ _ _ _=>rfl);case a|l|c|k=>k_is
  obtain⟨wX⟩:Nonempty (L2.Dn (L2.KOf KX) mg "fill_along" K.jW ["question","table","source","step","bag"]):=by dsimp only[L2.KOf];refine' L2.fM KX G ?a ?l ?c ?k (λ_ _ _ _ _ _ _ _ _ _ _=>rfl);case a|l|c|k=>k_is
  obtain⟨wJ⟩:Nonempty (L2.Dn (L2.KOf KX) mg "fill_joined" K.iB ["question","table","source","another"]):=by dsimp only[L2.KOf];refine' L2.fM KX G ?a ?l ?c ?k (λ_ _ _ _ _ _ _ _ _ _=>rfl);case a|l|c|k=>k_is
  obtain⟨yh⟩:Nonempty (L2.Dn (L2.KOf KX) mg "going_up" K.nP ["steps","question","tops","feeds"]):=by dsimp only[L2.KOf];refine' L2.fM KX G ?a ?l ?c ?k (λ_ _ _ _ _ _ _ _ _ _=>rfl);case a|l|c|k=>k_is
  obtain⟨yC⟩:Nonempty (L2.Dn (L2.KOf KX) mg "without_sources" K.lG ["table"]):=by dsimp only[L2.KOf];refine' L2.fM KX G ?a ?l ?c ?k (λ_ _ _ _ _ _ _=>rfl);case a|l|c|k=>k_is
  obtain⟨zK⟩:Nonempty (L2.Dn (L2.KOf KX) mg "tables" K.yx ["steps","question"]):=by dsimp only[L2.KOf];refine' L2.fM KX G ?a ?l ?c ?k (λ_ _ _ _ _ _ _ _=>rfl);case a|l|c|k=>k_is
  obtain⟨sW⟩:Nonempty (L2.Dn (L2.KOf KX) mg "weights_of" K.jY ["many","weights"]):=by dsimp only[L2.KOf];refine' L2.fM KX G ?a ?l ?c ?k (λ_ _ _ _ _ _ _ _=>rfl);case a|l|c|k=>k_is
  obtain⟨j6⟩:Nonempty (L2.Dn (L2.KOf KX) mg "with_number" K.fC ["state","spot","number"]):=by dsimp only[L2.KOf];refine' L2.fM KX G ?a ?l ?c ?k (λ_ _ _ _ _ _ _ _ _=>rfl);case a|l|c|k=>k_is
  obtain⟨j7⟩:Nonempty (L2.Dn (L2.KOf KX) mg "without_number" K.cU ["state","spot"]):=by dsimp only[L2.KOf];refine' L2.fM KX G ?a ?l ?c ?k (λ_ _ _ _ _ _ _ _=>rfl);case a|l|c|k=>k_is
  obtain⟨pY⟩:Nonempty (L2.Dn (L2.KOf KX) mg "_law_at" K.tB ["_law_script","_law_k"]):=by dsimp only[L2.KOf];refine' L2.fM KX G ?a ?l ?c ?k (λ_ _ _ _ _ _ _ _=>rfl);case a|l|c|k=>k_is
  obtain⟨ů⟩:Nonempty (L2.Dn (L2.KOf KX) mg "_law_rows" K.uJ ["_law_script","_law_n","_law_most"]):=by dsimp only[L2.KOf];refine' L2.fM KX G ?a ?l ?c ?k (λ_ _ _ _ _ _ _ _ _=>rfl);case a|l|c|k=>k_is
  obtain⟨Ň⟩:Nonempty (L2.Dn (L2.KOf KX) mg "_law_ties" K.rC ["_law_script","_law_rows_here","_law_n"]):=by dsimp only[L2.KOf];refine' L2.fM KX G ?a ?l ?c ?k (λ_ _ _ _ _ _ _ _ _=>rfl);case a|l|c|k=>k_is
  obtain⟨Gk⟩:Nonempty (L2.Dn (L2.KOf KX) mg "_law_laid" K.lX ["_law_ties_here","_law_rows_here","_law_k","_law_early"]):=by dsimp only[L2.KOf];refine' L2.fM KX G ?a ?l ?c ?k (λ_ _ _ _ _ _ _ _ _ _=>rfl);case a|l|c|k=>k_is
  obtain⟨ZV⟩:Nonempty (L2.Dn (L2.KOf KX) mg "_law_works" K.wM ["_law_steps"]):=by dsimp only[L2.KOf];refine' L2.fM KX G ?a ?l ?c ?k (λ_ _ _ _ _ _ _=>rfl);case a|l|c|k=>k_is
  obtain⟨Zz⟩:Nonempty (L2.Dn (L2.KOf KX) mg "_law_formed" K.kE ["_law_found","_law_size"]):=by dsimp only[L2.KOf];refine' L2.fM KX G ?a ?l ?c ?k (λ_ _ _ _ _ _ _ _=>rfl);case a|l|c|k=>k_is
  obtain⟨X6⟩:Nonempty (L2.Dn (L2.KOf KX) mg "_law_met" K.qL ["_law_kind","_law_one","_law_other"]):=by dsimp only[L2.KOf];refine' L2.fM KX G ?a ?l ?c ?k (λ_ _ _ _ _ _ _ _ _=>rfl);case a|l|c|k=>k_is
  obtain⟨ZC⟩:Nonempty (L2.Dn (L2.KOf KX) mg "_law_both" K.oF ["_law_kind","_law_one","_law_other"]):=by dsimp only[L2.KOf];refine' L2.fM KX G ?a ?l ?c ?k (λ_ _ _ _ _ _ _ _ _=>rfl);case a|l|c|k=>k_is
  obtain⟨Ś⟩:Nonempty (L2.Dn (L2.KOf KX) mg "_law_fits" K.rD ["_law_kind","_law_told","_law_steps"]):=by dsimp only[L2.KOf];refine' L2.fM KX G ?a ?l ?c ?k (λ_ _ _ _ _ _ _ _ _=>rfl);case a|l|c|k=>k_is
  obtain⟨Wb⟩:Nonempty (L2.Dn (L2.KOf KX) mg "law" K.X7 ["_law_script"]):=by dsimp only[L2.KOf];refine' L2.fM KX G ?a ?l ?c ?k (λ_ _ _ _ _ _ _=>rfl);case a|l|c|k=>k_is
  obtain⟨U⟩:Nonempty (L2.Used w (L2.KOf KX) mg):=by
   dsimp only[L2.KOf]
   refine' L2.a0d KX G ?a ?l ?c
   (case a=>k_is);(case l=>k_is);(case c=>exact⟨_,_,_,_,_,_,_,_,_,_,rfl⟩)
  obtain⟨cF⟩:Nonempty (K.qH (L2.KOf KX) mg):=by dsimp only[L2.KOf];refine'⟨{C:=_,cl:=⟨?pg,?hd,?po,?sa⟩,m:=PySem.W.mg_of KX G ?a,bN:=L2.jZ (st:=K.mZ) (ps:=["self","graph","leaf","whole"]) ?iQ ?iR ?nR ?nU ?lY (λ_ _ _ _ _ _ _ _ _ _=>rfl),uH:=⟨?ga,⟨.type "type",?R7,?R8⟩,?lY⟩,Ū:=⟨?mk,?iQ,?iR,?kc⟩}⟩;case a|pg|hd|po|sa|mk|kc|iQ|iR|nR|nU|lY|ga|R8|R7=>k_is
  obtain⟨bQ⟩:Nonempty (K.vH (L2.KOf KX) mg):=by dsimp only[L2.KOf];refine'⟨{C:=_,cl:=⟨?pg,?hd,?po,?sa⟩,m:=PySem.W.mg_of KX G ?a,fK:=?fK,ig:=?ig,fV:=?fV,JW:=?JW,fH:=?fH,bN:=L2.Qv (st:=K.nQ) (ps:=["self","graph","many","weights"]) ?iQ ?iR ?nR ?nU ?lY ?uh (λ_ _ _ _ _ _ _ _ _ _=>⟨_,rfl,rfl⟩) (λ_ _ _ _ _ _ _ _ _=>⟨_,rfl,rfl⟩),eX:=L2.jZ (st:=K.fG) (ps:=["self","one","other"]) ?rE ?rF ?rG ?rH ?rJ (λ_ _ _ _ _ _ _ _ _=>rfl),jc:=L2.jZ (st:=K.gK) (ps:=["self","state"]) ?yG ?yH ?yI ?yJ ?yK (λ_ _ _ _ _ _ _ _=>rfl),jd:=L2.jZ (st:=K.gM) (ps:=["self","one","other"]) ?yL ?yM ?yN ?yO ?yP (λ_ _ _ _ _ _ _ _ _=>rfl),je:=L2.jZ (st:=K.mK) (ps:=["self","state","spot","v"]) ?yQ ?yR ?yS ?yU ?yV (λ_ _ _ _ _ _ _ _ _ _=>rfl),pH:=L2.jZ (st:=K.oX) (ps:=["self","state","one","other","tie"]) ?Kv ?Kw ?Ky ?Kz ?KC (λ_ _ _ _ _ _ _ _ _ _ _=>rfl),eY:=L2.jZ (st:=K.jx) (ps:=["self","state","spot","v"]) ?rK ?rM ?rN ?rO ?rP (λ_ _ _ _ _ _ _ _ _ _=>rfl),Ū:=⟨?mk,?iQ,?iR,?kc⟩}⟩;(case a|pg|hd|po|sa|mk|kc|iQ|iR|nR|nU|lY|uh|rE|rF|rG|rH|rJ|yG|yH|yI|yJ|yK|yL|yM|yN|yO|yP|yQ|yR|yS|yU|yV|Kv|Kw|Ky|Kz|KC|rK|rM|rN|rO|rP=>k_is);case fK|ig|fV|JW|fH=>unfold L2.fu;k_is
  obtain⟨dB⟩:Nonempty (K.CZ (L2.KOf KX) mg):=by dsimp only[L2.KOf];refine'⟨{C:=_,cl:=⟨?pg,?hd,?po,?sa⟩,m:=PySem.W.mg_of KX G ?a,fK:=?fK,ig:=?ig,fV:=?fV,fH:=?fH,bN:=L2.Qv (st:=K.qF) (ps:=["self","graph","weights"]) ?iQ ?iR ?nR ?nU ?lY ?uh (λ_ _ _ _ _ _ _ _ _=>⟨_,rfl,rfl⟩) (λ_ _ _ _ _ _ _ _=>⟨_,rfl,rfl⟩),eX:=L2.jZ (st:=K.lD) (ps:=["self","one","other"]) ?rE ?rF ?rG ?rH ?rJ (λ_ _ _ _ _ _ _ _ _=>rfl),jc:=L2.jZ (st:=K.gK) (ps:=["self","state"]) ?yG ?yH ?yI ?yJ ?yK (λ_ _ _ _ _ _ _ _=>rfl),jd:=L2.jZ (st:=K.gM) (ps:=["self","one","other"]) ?yL ?yM ?yN ?yO ?yP (λ_ _ _ _ _ _ _ _ _=>rfl),je:=L2.jZ (st:=K.oY) (ps:=["self","state","spot","v"]) ?yQ ?yR ?yS ?yU ?yV (λ_ _ _ _ _ _ _ _ _ _=>rfl),pH:=L2.jZ (st:=K.sS) (ps:=["self","state","one","other","tie"]) ?Kv ?Kw ?Ky ?Kz ?KC (λ_ _ _ _ _ _ _ _ _ _ _=>rfl),eY:=L2.jZ (st:=K.lE) (ps:=["self","state","spot","v"]) ?rK ?rM ?rN ?rO ?rP (λ_ _ _ _ _ _ _ _ _ _=>rfl),Ū:=⟨?mk,?iQ,?iR,?kc⟩}⟩;(case a|pg|hd|po|sa|mk|kc|iQ|iR|nR|nU|lY|uh|rE|rF|rG|rH|rJ|yG|yH|yI|yJ|yK|yL|yM|yN|yO|yP|yQ|yR|yS|yU|yV|Kv|Kw|Ky|Kz|KC|rK|rM|rN|rO|rP=>k_is);case fK|ig|fV|fH=>unfold L2.fu;k_is
  obtain⟨dw⟩:Nonempty (K.Dc (L2.KOf KX) mg):=by dsimp only[L2.KOf];refine'⟨{C:=_,cl:=⟨?pg,?hd,?po,?sa⟩,m:=PySem.W.mg_of KX G ?a,fK:=?fK,ig:=?ig,fV:=?fV,fH:=?fH,bN:=L2.Qv (st:=K.qG) (ps:=["self","graph","weights"]) ?iQ ?iR ?nR ?nU ?lY ?uh (λ_ _ _ _ _ _ _ _ _=>⟨_,rfl,rfl⟩) (λ_ _ _ _ _ _ _ _=>⟨_,rfl,rfl⟩),eX:=L2.jZ (st:=K.fG) (ps:=["self","one","other"]) ?rE ?rF ?rG ?rH ?rJ (λ_ _ _ _ _ _ _ _ _=>rfl),jc:=L2.jZ (st:=K.oZ) (ps:=["self","state"]) ?yG ?yH ?yI ?yJ ?yK (λ_ _ _ _ _ _ _ _=>rfl),jd:=L2.jZ (st:=K.pB) (ps:=["self","one","other"]) ?yL ?yM ?yN ?yO ?yP (λ_ _ _ _ _ _ _ _ _=>rfl),je:=L2.jZ (st:=K.pC) (ps:=["self","state","spot","v"]) ?yQ ?yR ?yS ?yU ?yV (λ_ _ _ _ _ _ _ _ _ _=>rfl),pH:=L2.jZ (st:=K.pG) (ps:=["self","state","one","other","tie"]) ?Kv ?Kw ?Ky ?Kz ?KC (λ_ _ _ _ _ _ _ _ _ _ _=>rfl),eY:=L2.jZ (st:=K.lF) (ps:=["self","state","spot","v"]) ?rK ?rM ?rN ?rO ?rP (λ_ _ _ _ _ _ _ _ _ _=>rfl),Ū:=⟨?mk,?iQ,?iR,?kc⟩}⟩;(case a|pg|hd|po|sa|mk|kc|iQ|iR|nR|nU|lY|uh|rE|rF|rG|rH|rJ|yG|yH|yI|yJ|yK|yL|yM|yN|yO|yP|yQ|yR|yS|yU|yV|Kv|Kw|Ky|Kz|KC|rK|rM|rN|rO|rP=>k_is);case fK|ig|fV|fH=>unfold L2.fu;k_is
  obtain⟨Ct⟩:Nonempty (K.Ĩ mg):=by
   refine' K.a2Y KX G ?GX ?KD ?Ln
   case GX|KD|Ln=>k_is
  exact L2.a2g hmg Wb λbase=>K.a3A B Bz cF bQ dB dw U Ct j5 jr oG mY Hu vC uw w6 xg zJ vA qz wX wJ yh yC zK sW j6 j7 pY ů Ň Gk ZV Zz X6 ZC Ś Wb
 case S=>exact λK H a ns hl hO hS=>⟨a,ns,rfl,Lw.ZL.of hO hS,hl,λ_=>rfl⟩
 case C=>exact λ_ _ _ _ z=>z
