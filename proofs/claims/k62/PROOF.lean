import PyProof.Rows.All
import Wide.All
import OpenK.AllK
import Wide.FinOn
import PySem.Challenge.RW_bagwood_k62_places_out
set_option Elab.async false
set_option linter.all false
set_option compiler.extract_closed false
set_option genSizeOf false
set_option tactic.hygienic false
set_option maxRecDepth 100000
local macro_rules | `(tactic| omega) => `(tactic| first | lia | omega (config := {}))
set_option maxHeartbeats 16000000
local macro_rules | `(tactic| decide) => `(tactic| decide +kernel)
local macro_rules | `(()) => `(by first|decide|omega|exact Nat.le_of_ble_eq_true rfl|grind)
local macro_rules | `($x⁻¹) => `(($x).heap.objs.size)
noncomputable section
def Q_(_:0=0:=by first|rfl|decide):=0
local macro_rules|`(@&$x)=>`(autoParam $x Q_._auto_1)
def Q0_(_:0=0:=by intro _;rfl):=0
def Q1_(_:0=0:=by first|exact Or.inl rfl|exact Or.inr Z):=0
def Q2_(_:0=0:=by first|exact .inl rfl|exact .inr rfl|assumption):=0
def Z{α:Sort _}{a:α}:a=a:=rfl
def M:=@PySem.wpAny_bind
def aq:=@PySem.wpAny_pure
def bF:=@List.getElem?_eq_getElem
def aK:=@List.length_map
def aU:=@List.mem_cons_self
def bL:=@PySem.Heap.get?_push_of_some
def bC:=@List.mem_cons_of_mem
def bG:=@List.mem_singleton
def bW:=@PySem.Heap.get?_push_size
def aV:=@PySem.Paired.length
def aM:=@Nat.le_refl
def bA:=@decide_eq_true
def cB:=@List.length_append
def aY:=@PySem.Heap.lt_size
def aB:=@if_neg
def fL:=@List.getElem?_eq_some_iff
def dh:=@Bool.false_ne_true
def cH:=@List.mem_append
def aG:=@if_pos
def cJ:=@decide_eq_false
def bZ:=@List.mem_cons
def d7:=@decide_eq_true_iff
def b7:=@Nat.ne_of_lt
def dU:=@List.getElem?_map
def dB:=@Option.some.inj
def gD:=@List.mem_append_right
def dO:=@List.not_mem_nil
def cL:=@List.map_cons
def dW:=@List.map_append
def cV:=@Nat.le_trans
def gn:=@List.size_toArray
def gb:=@List.length_take
def j7:=@PySem.F.plainAttrs_list
def gF:=@PySem.wpAny_call_entry
def jz:=@List.mem_of_getElem?
def gV:=@of_decide_eq_true
def iR:=@PySem.wpAny_setField_rec
def dw:=@Nat.zero_le
def fG:=@PySem.wpAny_holding
def iU:=@Int.toNat_natCast
def jA:=@Nat.lt_of_lt_of_le
def eO:=@Nat.le_of_lt
def lE:=@List.mem_of_mem_take
def fH:=@List.mem_map
def oE:=@PySem.wpAny_callSpecial?_slot
def je:=@List.take_length
def oF:=@Option.map_eq_some_iff
def jf:=@PySem.PassesOwn.never
def lF:=@PySem.W.mg_none_of
def j8:=@PySem.wpAny_newObj_type
def jJ:=@List.length_cons
def gG:=@Nat.ne_of_gt
def jB:=@List.nodup_cons
def j9:=@List.length_drop
def gq:=@PySem.wpAny_field
def qg:=@PySem.Around.under_plainId
def mJ:=@List.getElem_mem
def lG:=@List.mem_filter
def lH:=@List.append_nil
def rM:=@List.mem_append_left
def kh:=@PySem.Heap.size_push
def zP:=@List.take_succ_eq_append_getElem
def qi:=@Int.emod_lt_of_pos
def rN:=@List.getElem_of_mem
def rO:=@PySem.Heap.SameBut.update
def uI:=@List.find?_cons_of_pos
def uJ:=@List.find?_cons_of_neg
def mK:=@List.mem_range
def wZ:=@List.getElem?_append_right
def eU:=@PyProof.Rows.wpS_bind
def iG:=@PySem.wpAny_mono
def w5:=@Array.getElem?_eq_getElem
def qj:=@Bool.and_eq_true
def oG:=@PySem.codeAny_builtin
def oH:=@Int.emod_nonneg
def jC:=@PySem.sizeLine_eq
def rP:=@List.length_range
def nA:=@List.take_succ
def zQ:=@PyProof.Rows.callWith_type1
def oJ:=@PySem.wpAny_seqItems
def tD:=@PySem.wpAny_dictEntries
def vG:=@List.mem_of_mem_drop
def zR:=@List.getElem?_append_left
def vH:=@beq_eq_false_iff_ne
def vI:=@Array.length_toList
def w6:=@List.filterMap_append
def xg:=@List.take_append_drop
def nC:=@List.map_map
def zT:=@List.pairwise_singleton
def zU:=@PySem.F.plainAttrs_dict
def kE:=@PySem.wpAny_rule
def tE:=@Bool.eq_iff_iff
def tG:=@PySem.W.kia_one
def zV:=@PySem.SeqAt.canLay_of_shaped
def xj:=@List.map_congr_left
def vJ:=@PySem.wpAny_pyIter_list
def vK:=@List.append_assoc
def vL:=@List.nodup_append
def zW:=@PySem.Heap.get?_update_self
def zX:=@List.length_singleton
def jK:=@PySem.wpAny_ite
def rQ:=@PySem.plainId_quiet
def xq:=@PySem.wpAny_Call_Name_kw
def jg:=@PyProof.Rows.wpS_pure
def vM:=@PySem.wpAny_isInstance
def tH:=@List.any_cons
def tK:=@PySem.wpAny_attempt
def nD:=@True.intro
def Hx:=@List.perm_ext_iff_of_nodup
def xr:=@Bool.eq_false_iff
def M5:=@PySem.F.slot_tuple_iterator_next
def vN:=@List.range_succ
def M6:=@PyProof.Rows.slot_tuple_getitem
def Hy:=@List.drop_eq_getElem_cons
def Ds:=@List.length_filter_le
def xu:=@Nat.lt_succ_self
def zY:=@List.pairwise_cons
def zZ:=@PySem.tupleKind_room_in1
def M7:=@PySem.wpAny_typeNameOfWhole_itemiter
def Hz:=@PySem.SetTable.toList_insertAt
def M8:=@PySem.wpAny_typeNameOfWhole_keyiter
def M9:=@PySem.F.slot_dict_itemiterator_next
def Dt:=@List.dropLast_concat
def Aa:=@List.pairwise_map
def HB:=@PySem.F.slot_dict_items
def HD:=@PySem.F.type_dict_items
def xG:=@Nat.not_lt_zero
def Nb:=@PySem.F.slot_dict_keyiterator_next
def xH:=@PySem.wpAny_dictEpoch
def Du:=@PySem.mem_of_lookup
def Dv:=@List.length_reverse
def uK:=@Nat.lt_trans
def Nf:=@List.idxOf_lt_length_of_mem
def HF:=@List.take_of_length_le
def vP:=@List.sum_cons
def Dw:=@PySem.wpAny_pyIter_tuple
def Dz:=@List.find?_eq_none
def HJ:=@Array.getElem?_toList
def HN:=@PySem.wpAny_notOrdered_dict
def Ab:=@PySem.wpAny_passesOwn
def Ac:=@PySem.wpAny_loadPart'
def DG:=@PySem.wpAny_truthy_bool
def vQ:=@PySem.wpAny_typeOf
def HS:=@List.Pairwise.filter
def DK:=@PySem.typeIs_bool
def xK:=@Nat.lt_irrefl
def Ng:=@PySem.F.args_tuple_add_2
def Nh:=@List.filterMap_cons_some
def Ni:=@PySem.F.entry_tuple_add
def DN:=@List.all_eq_true
def Nj:=@List.length_eq_zero_iff
def Ad:=@List.nodup_nil
def Sq:=@List.eq_nil_iff_forall_not_mem
def vR:=@Nat.le_succ
def Nk:=@PySem.F.slot_tuple_add
def Nm:=@PySem.Heap.get?_update_other
def xM:=@Nat.lt_or_ge
def Np:=@Array.getElem?_eq_none
def HW:=@List.filter_append
def Ae:=@PySem.wpAny_onRaise
def Nq:=@PySem.F.slot_dict_get
def ZW:=@PySem.wpAny_callSpecialIfBoundUnlessNone?_slot
def Nr:=@PySem.F.slot_zip_next
def HX:=@Nat.lt_succ_of_lt
def HY:=@PySem.wpAny_storeSet_of
def Ia:=@PySem.wpAny_pyIter_slot
def xO:=@PySem.wpAny_letGo
def DP:=@List.Perm.refl
def DQ:=@PySem.wpAny_fieldsOf
def Nt:=@List.getLast?_concat
def Ib:=@List.lookup_cons
def Af:=@Nat.sub_zero
def Ie:=@beq_self_eq_true
def Ag:=@Nat.sub_self
def Nu:=@PySem.Heap.get?_update_ne
def Nv:=@List.getElem?_range
def Ss:=@List.length_filterMap_le
def DR:=@List.cons.inj
def Ig:=@PySem.wpAny_specialOf
def Nx:=@PySem.W.callWith_K
def ZX:=@PySem.F.args_tuple_iterator_next_1
def Sv:=@PyProof.Rows.F.plain_set_update_loop
def Sw:=@PySem.F.slot_list_index
def Sx:=@PySem.F.type_list_index
def Sy:=@List.filter_cons_of_pos
def Z0:=@PySem.F.entry_tuple_iterator_next
def SJ:=@PySem.wpAny_pyNext_list_item
def DW:=@PySem.codeAny_mono
def Ny:=@List.take_sublist
def SM:=@PySem.Calls.callWith_builtin
def Nz:=@PySem.wpAny_pyIter_enum
def DY:=@PyProof.Rows.wpS_forRange
def Ih:=@PySem.wpAny_newTuple
def NK:=@PySem.Heap.get?_push_ne
def SN:=@Nat.lt_of_succ_lt_succ
def Ii:=@PySem.isSubtype_stop
def SQ:=@PySem.wpAny_isOneOf_itemiter
def SX:=@PySem.wpAny_nextOf_list_item
def Z1:=@PySem.F.args_dict_itemiterator_next_1
def S5:=@List.length_replicate
def S6:=@PySem.F.slot_list_pop
def S7:=@PySem.F.type_list_pop
def NP:=@PySem.noFill_tuple_add
def NQ:=@PySem.F.plain_all_loop
def NT:=@PySem.F.plain_any_loop
def NZ:=@List.filter_cons
def N5:=@PySem.wpAny_askSetting
def N6:=@PySem.F.slot_bool_hash
def Z2:=@PySem.F.entry_dict_itemiterator_next
def N7:=@decide_eq_decide
def Ij:=@PySem.W.mg_of
def Ik:=@Bool.true_and
def S8:=@List.length_dropLast
def S9:=@List.pairwise_append
def Z4:=@PySem.F.entry_dict_keyiterator_next
def N8:=@PySem.wpAny_execs_nil
def Oa:=@PySem.wpAny_updateSeq
def Ob:=@PySem.F.slot_zip_next
def Tc:=@List.filterMap_cons
def Td:=@PySem.W.plainGet_of
def Tf:=@List.filter_sublist
def Z5:=@PySem.Calls.Name_function_global
def Tg:=@List.mem_filterMap
def Tj:=@List.filterMap_map
def Tn:=@Nat.lt_of_le_of_lt
def Z6:=@PySem.wpAny_letOwnedTupleGo_enum
def Tp:=@of_decide_eq_false
def Tq:=@Array.forIn_toList
def Tr:=@List.map_singleton
def Tt:=@List.sum_singleton
def Z7:=@PySem.Calls.call_function_entry
def Z8:=@List.pairwise_iff_getElem
def Z9:=@Classical.byContradiction
def À:=@List.getLastD_eq_getLast?
def Tv:=@PySem.Heap.SameBut.refl
def Il:=@PySem.wpAny_of_eq
def Oc:=@PySem.wpAny_standAt
def Od:=@PySem.seq_tuple_add
def Á:=@PySem.wpAny_comprehension_free
def Oe:=@PySem.wpAny_handled
def Â:=@List.find?_range_eq_some
def Tw:=@PySem.wpAny_execs_cons
def TF:=@Nat.min_le_right
def TJ:=@PySem.Heap.size_update
def TQ:=@Nat.le_add_right
def TV:=@PySem.Heap.IsList.push
def TX:=@Option.getD_some
def Im:=@beq_iff_eq
def Og:=@Nat.le_of_eq
def Oh:=@PySem.concat_meets
def Io:=@PySem.call_meets
def TY:=@List.of_mem_zip
def T6:=@PyProof.Rows.get?_update_seq
def T7:=@PySem.size_of_entries
def T8:=@PySem.isSubtype_type
def T9:=@PySem.entryFor_alias
def Oi:=@PySem.wpAny_throw
def Ua:=@List.drop_zero
def Ub:=@PyProof.Rows.listUpdate_at
def Uc:=@PySem.wpAny_newList
def Ud:=@List.map_drop
def Ue:=@List.map_take
def Oj:=@PyProof.Rows.wpS_modify
def Ol:=@PyProof.Rows.size_push'
def Ea:=@PyProof.Rows.wpS_get
def Ip:=@PyProof.Rows.wpS_mono
open PySem PySem.Spec
abbrev aJ:=PySem.W.Frag
abbrev bY:=Int×Int
def fM{α:Type}{l:List α}{i:Nat}{a:α}:l.getD i a=l[i]?.getD a:=List.getD_eq_getElem?_getD ..
namespace L2
open PyProof.Rows
abbrev Key:=Sum Int Str
def Ir:Key->Value->Bool
 |.inl k,v=>Value.isInt k v
 |.inr x,v=>Value.isStrOf x v
def a6k(w:World):Key->Int
 |.inl k=>hashInt k
 |.inr x=>hashStr w x
def iY:∀{k:Key}{v:Value},Ir k v=true->(∃i t,k=Sum.inl i/\v=Value.int i t)\/(∃x t,k=Sum.inr x/\v=Value.str x t)
 |.inl i,v,h=>by
  obtain⟨t,e⟩:=Value.isInt_shape (k:=i) (v:=v) h
  exact .inl ⟨i,t,Z,e⟩
 |.inr x,v,h=>by
  obtain⟨t,e⟩:=Value.isStrOf_shape (x:=x) (v:=v) h
  exact .inr ⟨x,t,Z,e⟩
def X8(i:Int)(t:Tok):Ir (.inl i) (.int i t)=true:=by simp[Ir,Value.isInt]
def Yb(x:Str)(t:Tok):Ir (.inr x) (.str x t)=true:=by simp[Ir,Value.isStrOf]
def a1N(a b:Int):decide ((Sum.inl a:Key)=Sum.inl b)=(a==b):=by
 by_cases e:a=b
 ·subst e;simp
 ·have h:¬(Sum.inl a:Key)=Sum.inl b:=λq=>e (Sum.inl.inj q);rw[cJ h];exact(vH.mpr e).symm
def a1O(a b:Str):decide ((Sum.inr a:Key)=Sum.inr b)=decide (a=b):=by
 by_cases e:a=b
 ·subst e;simp
 ·have h:¬(Sum.inr a:Key)=Sum.inr b:=λq=>e (Sum.inr.inj q);rw[cJ h,cJ e]
def a1P(a:Int)(b:Str):decide ((Sum.inl a:Key)=Sum.inr b)=false:=cJ (λq=>nomatch q)
def a1Q(a:Str)(b:Int):decide ((Sum.inr a:Key)=Sum.inl b)=false:=cJ (λq=>nomatch q)
def fC(prog:Program)(w:World):PySem.KeyKind prog w Key where
 is:=Ir
 hash:=a6k w
 inj:=λv a b ha hb=>by
  rcases iY ha with⟨i,t,rfl,rfl⟩|⟨x,t,rfl,rfl⟩
  ·rcases iY hb with⟨j,u,rfl,e⟩|⟨y,u,rfl,e⟩
   ·injection e with e1 _;rw[e1]
   ·exact nomatch e
  ·rcases iY hb with⟨j,u,rfl,e⟩|⟨y,u,rfl,e⟩
   ·exact nomatch e
   ·injection e with e1 _;rw[e1]
 byValue:=λk v h=>by
  rcases iY h with⟨i,t,rfl,rfl⟩|⟨x,t,rfl,rfl⟩<;>rfl
 pyHash:=λhv h=>by
  rcases iY hv with⟨i,t,rfl,rfl⟩|⟨x,t,rfl,rfl⟩
  ·exact wpAny_pyHash_int h
  ·exact wpAny_pyHash_str h
 eqBool:=λhu hv h=>by
  rcases iY hu with⟨i,t,rfl,rfl⟩|⟨x,t,rfl,rfl⟩
  ·rcases iY hv with⟨j,u,rfl,rfl⟩|⟨y,u,rfl,rfl⟩
   ·rw[a1N]at h;exact wpAny_eqBool_int h
   ·rw[a1P]at h;exact SeqAt.EqAt.int_str i t y u _ _ _ _ h
  ·rcases iY hv with⟨j,u,rfl,rfl⟩|⟨y,u,rfl,rfl⟩
   ·rw[a1Q]at h;exact SeqAt.EqAt.str_int x t j u _ _ _ _ h
   ·rw[a1O]at h;exact wpAny_eqBool_str h
 «strs» := λk x t v h=>by
  rcases iY h with⟨i,u,rfl,e⟩|⟨y,u,rfl,e⟩
  ·exact nomatch e
  ·injection e with e1 _
   subst e1
   cases v<;>rfl
def Ug(prog:Program)(w:World)(k:Key)(v:Value):(fC prog w).is k v=Ir k v:=rfl
def Qw(prog:Program)(w:World)(i:Int)(t:Tok):(fC prog w).is (.inl i) (.int i t)=true:=X8 i t
def gH(prog:Program)(w:World)(x:Str)(t:Tok):(fC prog w).is (.inr x) (.str x t)=true:=Yb x t
inductive V where
 |non|bl (b:Bool)|int (i:Int)|str (x:Str)|Wl (b:Array UInt8)|flt (b:UInt64)|ref (a:Addr)|ty (n:String)
 deriving DecidableEq
variable{pos p:Pos}{K:aJ}{A:Around}{h h' base:Heap}{e tg c:Expr}{es:List Expr}{k t' n:Nat}{Z98:Model}{op:CmpOp}{ch fp:List Addr}{N:List Str}{body:List Stmt}{mA mg:Str->Option Value}{pl:Sem Bool}{kw:List (Str×Value)}
def cW:V->Value->Prop
 |.non,u=>u=Value.none
 |.bl b,u=>u=Value.bool b
 |.int i,u=>∃t,u=Value.int i t
 |.str x,u=>∃t,u=Value.str x t
 |.Wl b,u=>∃t,u=Value.bytes b t
 |.flt b,u=>∃t,u=Value.float b t
 |.ref a,u=>u=Value.ref a
 |.ty n,u=>u=Value.type n
abbrev cM:List V->List Value->Prop:=Paired cW
def cM.length{xs:List V}{us:List Value}(r:cM xs us):xs.length=us.length:=aV r
theorem cM.get:∀{xs:List V}{us:List Value}{i:Nat}{x:V},cM xs us->xs[i]?=some x->∃u,us[i]?=some u/\cW x u
 |_,_,_,_,.nil,e=>by simp at e
 |_,_,0,_,.cons r _,e=>by simp at e;subst e;exact⟨_,Z,r⟩
 |_,_,i+1,x,.cons _ t,e=>by
  obtain⟨u,h1,h2⟩:=cM.get (i:=i) (x:=x) t (by simpa using e)
  exact⟨u,by simpa using h1,h2⟩
theorem cM.set{x:V}{u:Value}(r:cW x u):∀{xs:List V}{us:List Value} (i:Nat),cM xs us->cM (xs.set i x) (us.set i u)
 |_,_,_,.nil=>.nil
 |_,_,0,.cons _ t=>.cons r t
 |_,_,i+1,.cons q t=>.cons q (cM.set r i t)
def cM.append{xs ys:List V}{us ws:List Value}(h:cM xs us)(s:cM ys ws):cM (xs++ys) (us++ws):=by
 induction h with
 |nil=>exact s
 |cons r _ ih=>exact .cons r ih
theorem cM.take:∀{xs:List V}{us:List Value} (n:Nat),cM xs us->cM (xs.take n) (us.take n)
 |_,_,0,_=>.nil
 |_,_,_+1,.nil=>.nil
 |_,_,n+1,.cons r t=>.cons r (cM.take n t)
theorem cM.drop:∀{xs:List V}{us:List Value} (n:Nat),cM xs us->cM (xs.drop n) (us.drop n)
 |_,_,0,r=>r
 |_,_,_+1,.nil=>.nil
 |_,_,n+1,.cons _ t=>cM.drop n t
def sH:Option V->Option Value->Prop
 |some v,some u=>cW v u
 |none,none=>True
 |_,_=>False
def KV{κ:Type}:List (κ×V)->List (κ×Value)->Prop:=Paired λ(p:κ×V) (q:κ×Value)=>p.1=q.1/\cW p.2 q.2
def kV:Key->V
 |.inl i=>.int i
 |.inr x=>.str x
inductive HO where
 |lst (xs:List V)
 |tup (xs:List V)
 |dK (O:List (Key×V))|dT (O:List (List Key×V))
 |set (S:Int->Bool) (n:Nat)
 |ins (C dx:Addr) (fs:List (Str×V))
 |own (x:Addr)
 |xd (fs:List (Str×V))
 |met (f x:Addr)
 |rng (lo hi:Int)
 |jo (o:Obj) (u:HO)
 |tbl (ps:Array Value)
 |ext (φ:Heap->Prop)
abbrev Hp:=Addr->Option HO
def cN(H:Hp)(a:Addr)(o:HO):Hp:=λb=>if b=a then some o else H b
def dD{H:Hp}{a:Addr}{o:HO}:cN H a o a=some o:=by unfold cN;rw[aG rfl]
def aW{H:Hp}{a b:Addr}{o:HO}(h:b≠a):cN H a o b=H b:=by unfold cN;rw[aB h]
def a1n{H:Hp}{a b:Addr}{o u:HO}(h:H a=some o)(h':H b=some u)(d:o≠u):a≠b:=by
 intro e;subst e;rw[h]at h';exact d (dB h')
def eE{H:Hp}{a b:Addr}{o:HO}(h:H a=some o)(h':H b=none):a≠b:=by
 intro e;subst e;rw[h]at h';cases h'
section
variable(P:Program)(w:World)
def fY(H:Hp)(h:Heap)(a:Addr):HO->Prop
 |.lst xs=>xs.length<=sizeLine/\∃(bV:List Value) (n:Nat),cM xs bV/\h.get? a=some { cls:=.type "list",data:=.seq bV.toArray n}
 |.tup xs=>xs.length<=sizeLine/\∃bV:List Value,cM xs bV/\IsTup h a bV.toArray
 |.dK O=>O.length<=sizeLine/\(a==sysModules)=false/\∃vs,KV O vs/\h.DictOf (fC P w) a vs
 |.dT O=>O.length<=sizeLine/\(a==sysModules)=false/\∃xs:List (List Key×Addr×Value),
   Paired (λ(p:List Key×V) (q:List Key×Addr×Value)=>p.1=q.1/\H q.2.1=some (.tup (p.1.map kV))/\cW p.2 q.2.2) O xs/\
   ∃o es ep,h.get? a=some o/\o.ExactDict/\o.data=.dict es ep/\es.toList=xs.map (entryOfKey (tupleKind (fC P w)))/\(xs.map (·.1)).Nodup
 |.set S n=>h.SetOf (intKind P w) a S n
 |.ins C dx fs=>H dx=some (.own a)/\fs.length<=1000/\dx≠a/\h.get? a=some (PySem.W.instObj C dx)/\
   ∃mA,h.Ns1 dx mA/\(∀f,sH (fs.lookup f) (mA f))/\PySem.Within mA (fs.map (·.1))
 |.own _=>∃o,h.get? a=some o
 |.xd fs=>∃mA,h.Ns1 a mA/\∀f,sH (fs.lookup f) (mA f)
 |.rng lo hi=>∃t u v,h.get? a=some { cls:=.type "range",data:=.fields #[.int lo t,.int hi u,.int 1 v]}
 |.jo o u=>h.get? a=some o/\fY H h a u
 |.tbl ps=>h.get? a=some { cls:=.none,data:=.fields ps}
 |.met f x=>h.get? a=some (PySem.W.methodObj (.ref f) (.ref x))
 |.ext φ=>φ h/\(∃o,h.get? a=some o)/\∀h1 h2:Heap,φ h1->(∀o,h1.get? a=some o->h2.get? a=some o)->φ h2
def zu(H:Hp)(h:Heap):Prop:=∀a o,H a=some o->fY P w H h a o
end
section
variable{P:Program}{w:World}{H H':Hp}{a:Addr}{o:HO}
def fY.lt(x:fY P w H h a o):a<h.objs.size:=by
 cases o with
 |lst xs=>obtain⟨_,_,_,_,e⟩:=x;exact aY e
 |tup xs=>obtain⟨_,_,_,p⟩:=x;exact p.lt
 |dK O=>obtain⟨_,_,_,_,o,_,_,e,_⟩:=x;exact aY e
 |dT O=>obtain⟨_,_,_,_,o,_,_,e,_⟩:=x;exact aY e
 |set S n=>obtain⟨o,_,_,_,e,_⟩:=x;exact aY e
 |ins C dx fs=>obtain⟨_,_,_,e,_⟩:=x;exact aY e
 |own y=>obtain⟨_,e⟩:=x;exact aY e
 |xd fs=>obtain⟨_,⟨_,_,_,e,_⟩,_⟩:=x;exact aY e
 |rng lo hi=>obtain⟨_,_,_,e⟩:=x;exact aY e
 |jo ob u=>obtain⟨e,_⟩:=x;exact aY e
 |tbl ps=>exact aY (show h.get? a=some _ from x)
 |met f y=>exact aY (show h.get? a=some _ from x)
 |ext φ=>obtain⟨_,⟨_,e⟩,_⟩:=x;exact aY e
def Paired.cC{α β:Type}{F G:α->β->Prop}{l₁:List α}{l₂:List β}(h:Paired F l₁ l₂)(f:∀a b,F a b->G a b):Paired G l₁ l₂:=by
 induction h with
 |nil=>exact .nil
 |cons r _ ih=>exact .cons (f _ _ r) ih
def fY.stay(x:fY P w H h a o)(k:∀b u,(b=a\/H b=some (.own a))->h.get? b=some u->h'.get? b=some u)
  (ho:∀b,H b=some (.own a)->H' b=some (.own a)) (ht:∀b xs,H b=some (.tup xs)->H' b=some (.tup xs)):fY P w H' h' a o:=by
 induction o with
 |lst xs=>obtain⟨z,bV,n,r,e⟩:=x;exact⟨z,bV,n,r,k _ _ (.inl Z) e⟩
 |tup xs=>obtain⟨z,bV,r,ob,e,c⟩:=x;exact⟨z,bV,r,ob,k _ _ (.inl Z) e,c⟩
 |dK O=>obtain⟨z,y,vs,r,ob,es,ep,e,c⟩:=x;exact⟨z,y,vs,r,ob,es,ep,k _ _ (.inl Z) e,c⟩
 |dT O =>
  obtain⟨z,y,xs,r,ob,es,ep,e,c⟩:=x;exact⟨z,y,xs,Paired.cC r λp q z=>⟨z.1,ht _ _ z.2.1,z.2.2⟩,ob,es,ep,k _ _ (.inl Z) e,c⟩
 |set S n=>obtain⟨ob,es,ep,t,e,c⟩:=x;exact⟨ob,es,ep,t,k _ _ (.inl Z) e,c⟩
 |ins C dx fs =>
  obtain⟨d,z,ne,e,mA,⟨od,es,ep,e2,c⟩,r⟩:=x;exact⟨ho _ d,z,ne,k _ _ (.inl Z) e,mA,⟨od,es,ep,k _ _ (.inr d) e2,c⟩,r⟩
 |own y=>obtain⟨ob,e⟩:=x;exact⟨ob,k _ _ (.inl Z) e⟩
 |xd fs=>obtain⟨mA,⟨od,es,ep,e,c⟩,r⟩:=x;exact⟨mA,⟨od,es,ep,k _ _ (.inl Z) e,c⟩,r⟩
 |rng lo hi=>obtain⟨t,u,v,e⟩:=x;exact⟨t,u,v,k _ _ (.inl Z) e⟩
 |jo ob u ih=>obtain⟨e,q⟩:=x;exact⟨k _ _ (.inl Z) e,ih q⟩
 |tbl ps =>
  have e:h.get? a=some { cls:=.none,data:=.fields ps}:=x;show h'.get? a=some { cls:=.none,data:=.fields ps};exact k a _ (.inl Z) e
 |met f y =>
  have e:h.get? a=some (PySem.W.methodObj (.ref f) (.ref y)):=x;show h'.get? a=some (PySem.W.methodObj (.ref f) (.ref y));exact k a _ (.inl Z) e
 |ext φ=>obtain⟨p,⟨o,e⟩,st⟩:=x;exact⟨st _ _ p λo q=>k _ _ (.inl Z) q,⟨o,k _ _ (.inl Z) e⟩,st⟩
def zu.lt(x:zu P w H h)(e:H a=some o):a<h.objs.size:=(x a o e).lt
def zu.fresh(x:zu P w H h)(e:h.objs.size<=a):H a=none:=by
 cases q:H a with
 |none=>rfl
 |some u=>exact absurd (jA (x.lt q) e) (xK _)
def zu.kept(x:zu P w H h)(k:∀b u,h.get? b=some u->h'.get? b=some u):zu P w H h':=λa o e =>
 (x a o e).stay (λb u _ q=>k b u q) (λ_ q=>q) λ_ _ q=>q
def zu.laid(x:zu P w H h)(k:∀b u,h.get? b=some u->h'.get? b=some u)(hp:h.objs.size<=a)(new:fY P w (cN H a o) h' a o):zu P w (cN H a o) h':=λb u e=>by
 have hn:=x.fresh hp;by_cases hb:b=a
 ·subst hb;rw[dD]at e;cases e;exact new
 ·rw[aW hb]at e;exact(x b u e).stay (λc v _ q=>k c v q) (λc q=>by rw[aW (eE q hn)];exact q) λc xs q=>by rw[aW (eE q hn)];exact q
end
def Rd(H:Hp)(a:Addr)(u:HO):Prop:=H a=some u\/∃o,H a=some (.jo o u)
def Rd.ok{P:Program}{w:World}{H:Hp}{a:Addr}{u:HO}(r:Rd H a u)(x:zu P w H h):fY P w H h a u:=by
 rcases r with r|⟨o,r⟩
 ·exact x a u r
 ·obtain⟨_,q⟩:=x a _ r;exact q
def Mut:Option HO->Prop
 |some (.lst _)=>True
 |some (.dK _)=>True
 |some (.dT _)=>True
 |some (.set _ _)=>True
 |some (.ins _ _ _)=>True
 |some (.ext _)=>True
 |_=>False
section
variable{P:Program}{w:World}{H:Hp}{x e:Addr}{o':HO}
def zu.write(ok:zu P w H h)(mu:Mut (H x))(he:e=x\/H e=some (.own x))(k:∀b u,b≠e->h.get? b=some u->h'.get? b=some u)(heo:∃u,h'.get? e=some u)
  (new:fY P w (cN H x o') h' x o'):zu P w (cN H x o') h':=λb u q=>by
 have a4b:∀c y,H c=some (.own y)->c≠x:=λc y r z=>by subst z;rw[r]at mu;exact mu
 have a1R:∀c xs,H c=some (.tup xs)->c≠x:=λc xs r z=>by subst z;rw[r]at mu;exact mu
 by_cases hb:b=x
 ·subst hb;rw[dD]at q;cases q;exact new
 ·rw[aW hb]at q;by_cases hbe:b=e
  ·have q':H b=some (.own x):=by
    rcases he with z|z
    ·exact absurd (hbe.trans z) hb
    ·rw[hbe];exact z
   rw[q]at q';cases q';obtain⟨v,hv⟩:=heo;exact⟨v,by rw[hbe];exact hv⟩
  ·refine(ok b u q).stay (λc v hc r=>k c v ?_ r) (λc r=>by rw[aW (a4b c b r)];exact r) λc xs r=>by rw[aW (a1R c xs r)];exact r
   rcases hc with rfl|hc
   ·exact hbe
   ·rintro rfl;rcases he with z|z
    ·exact a4b c b hc z
    ·rw[hc]at z;cases z;exact hb rfl
end
structure Un(fs ex:List Addr)(H H':Hp)(h h':Heap):Prop where
 keep:∀b o,h.get? b=some o->H b=none->b∉fs->b∉ex->h'.get? b=some o
 slot:∀b o,h.get? b=some o->H b=none->b∈fs->b∉ex->∃sl,h'.get? b=some { o with slots:=sl}
 free:∀b o,h.get? b=some o->H b=none->b∉ex->H' b=none
 there:∀b o,h.get? b=some o->b∉ex->∃o',h'.get? b=some o'
 tups:∀b xs,H b=some (.tup xs)->H' b=some (.tup xs)
 Iu:∀b o u,H b=some (.jo o u)->H' b=some (.jo o u)
 Om:∀b ps,H b=some (.tbl ps)->∃more,H' b=some (.tbl (ps++more))
section
variable{fs fs' ex ex':List Addr}{H H1 H2:Hp}{h1 h2:Heap}{a x e:Addr}{o:HO}
def Un.any(u:Un fs ex H H1 h h1){b:Addr}{ob:Obj}(q:h.get? b=some ob)(n:H b=none)(hx:b∉ex):∃sl,h1.get? b=some { ob with slots:=sl}:=by
 by_cases hb:b∈fs
 ·exact u.slot b ob q n hb hx
 ·exact⟨ob.slots,u.keep b ob q n hb hx⟩
def Un.kept(k:∀b u,h.get? b=some u->h'.get? b=some u):Un fs ex H H h h' :=
 ⟨λb ob q _ _ _=>k b ob q,λb ob q _ _ _=>⟨ob.slots,k b ob q⟩,λ_ _ _ n _=>n,λb ob q _=>⟨ob,k b ob q⟩,λ_ _ q=>q,λ_ _ _ q=>q,λ_ ps q=>⟨#[],by rw[q];simp⟩⟩
def Un.refl:Un fs ex H H h h:=Un.kept λ_ _ q=>q
def Un.laid(k:∀b u,h.get? b=some u->h'.get? b=some u)(hp:h.objs.size<=a)(hn:H a=none):Un fs ex H (cN H a o) h h' where
 keep:=λb u q _ _ _=>k b u q
 slot:=λb u q _ _ _=>⟨u.slots,k b u q⟩
 free:=λb u q n _=>by rw[aW (b7 (jA (aY q) hp))];exact n
 there:=λb u q _=>⟨u,k b u q⟩
 tups:=λb xs q=>by rw[aW (eE q hn)];exact q
 Iu:=λb u xs q=>by rw[aW (eE q hn)];exact q
 Om:=λb ps q=>⟨#[],by rw[aW (eE q hn),q];simp⟩
def Un.write(mu:Mut (H x))(he:e=x\/H e=some (.own x))(k:∀b u,b≠e->h.get? b=some u->h'.get? b=some u)(heo:∃u,h'.get? e=some u):Un fs ex H (cN H x o) h h':=by
 have hx:∀b,H b=none->b≠x:=λb n z=>by subst z;rw[n]at mu;exact mu
 have hb:∀b,H b=none->b≠e:=λb n z=>by
  subst z;rcases he with r|r
  ·exact hx b n r
  ·rw[n]at r;cases r
 have hm:∀b u,H b=some u->¬Mut (some u)->b≠x:=λb u q nm z=>by subst z;rw[q]at mu;exact nm mu
 refine⟨λb u q n _ _=>k b u (hb b n) q,λb u q n _ _=>⟨u.slots,k b u (hb b n) q⟩,λb u q n _=>by rw[aW (hx b n)];exact n,λb u q _=>?_,
  λb xs q=>by rw[aW (hm b _ q λz=>z)];exact q,λb u xs q=>by rw[aW (hm b _ q λz=>z)];exact q,λb ps q=>⟨#[],by rw[aW (hm b _ q λz=>z),q];simp⟩⟩
 by_cases hbe:b=e
 ·subst hbe;exact heo
 ·exact⟨u,k b u hbe q⟩
end
def trk(h:Heap)(H:Hp):List Addr:=(List.range h.objs.size).filter λa=>(H a).isSome
def Oo(h:Heap)(H:Hp):Heap:=PySem.W.hideAll h (trk h H)
def Yc(h:Heap)(H:Hp):(Oo h H).objs.size=h.objs.size:=PySem.W.hideAll_size _ _
def Ã{H:Hp}{b:Addr}{o:Obj}(e:h.get? b=some o)(n:H b=none):(Oo h H).get? b=some o :=
 PySem.W.hideAll_get _ e λhm=>by
  have q:(H b).isSome=true:=(lG.mp hm).2;rw[n]at q;simp at q
def Ŵ{H:Hp}{b:Addr}{o:Obj}(e:(Oo h H).get? b=some o):h.get? b=some o/\H b=none:=by
 have e':h.get? b=some o:=PySem.W.of_hideAll (trk h H) e;refine⟨e',?_⟩;cases q:H b with
 |none=>rfl
 |some x =>
  have hm:b∈trk h H:=lG.mpr ⟨mK.mpr (aY e'),by simp[q]⟩;have z:(Oo h H).get? b=none:=PySem.W.hideAll_none (trk h H) hm;rw[z]at e;cases e
structure Mod(K:aJ)(mg:Str->Option Value)(base:Heap):Prop where
 kin:K.In base
 glob:base.Ns mainGlobals mg
 blt:∃mb,base.Ns builtinsNs mb/\∀x:Str,x≠ "__name__" ->mb x=bootBuiltins x
 nolimit:base.NoLimit
set_option genInjectivity false in
structure Cx where
 prog:Program
 w:World
 K:aJ
 mg:Str->Option Value
 base:Heap
 A:Around
 N:List Str
 s₀:Shared
 H₀:Hp
 env:Env
 outer:List Env
 stack:List Env
 ex:List Addr
 fn:Str->Bool
 calm:Bool
 pn:List (Addr×Obj)
 xe:Value->Shared->Prop
def frs(l:List Env):List Addr:=l.filterMap (·.frame)
abbrev Cx.fs(X:Cx):List Addr:=frs X.outer
def Vis(sc:Scope)(x:Str):Prop:=sc.names.lookup x=some .local\/sc.names.lookup x=some .cell\/sc.names.lookup x=some .free
def Loc(sc:Scope)(x:Str):Prop:=sc.names.lookup x=some .local\/sc.names.lookup x=some .cell
def Look(env:Env)(h:Heap)(m:Str->Option Value)(x:Str)(u:Value):Prop :=
 (env.kindOf x=some .local/\m x=some u)\/((env.kindOf x=some .cell\/env.kindOf x=some .free)/\∃c,env.cells.lookup x=some c/\h.IsCell c (some u))
structure Cx.Ok(X:Cx):Prop where
 mod:Mod X.K X.mg X.base
 kind:X.env.scope.kind=.function
 glob:X.env.globals=mainGlobals
 blt:X.env.builtins=builtinsNs
 above:X.s₀.heap.objs.size<=X.env.locals
 inj:∀x y c,X.env.cells.lookup x=some c->X.env.cells.lookup y=some c->x=y
 has:∀x,(X.env.kindOf x=some .cell\/X.env.kindOf x=some .free)->∃c,X.env.cells.lookup x=some c
 cab:∀x c,X.fn x=true->X.env.cells.lookup x=some c->X.s₀.heap.objs.size<=c
 hd:X.calm=true->X.A.handled=none
 frames:X.A.frames=some X.stack
 stk:X.stack=X.outer\/(X.stack=X.env::X.outer/\X.env.frame=some X.env.locals)
 exf:∀b∈X.ex,b≠X.env.locals/\∀x c,X.env.cells.lookup x=some c->c≠b
 bs:∀b o,X.base.get? b=some o->X.s₀.heap.get? b=some o/\X.H₀ b=none
 Ŝ:X.base.objs.size<=X.s₀.heap.objs.size
 Uh:∀b o,X.base.get? b=some o->b∉X.ex
 Yd:∀b∈X.ex,b∉X.fs
 Bu:X.s₀.heap.FunFrames X.base X.outer
 ŵ:∀b∈X.fs,X.H₀ b=none
structure bH(X:Cx)(Y:List (Addr×Obj))(σ:List (Option V))(H:Hp)(s:Shared):Prop where
 ok:X.Ok
 os:s.os=X.s₀.os
 bare:AllBare s.gens
 base:Un X.fs X.ex X.H₀ H X.s₀.heap s.heap
 loc:∃m,s.heap.Ns X.env.locals m/\∀(i:Nat) (x:Str) (v:V),X.N[i]?=some x->σ[i]?=some (some v)->Vis X.env.scope x->∃u,cW v u/\Look X.env s.heap m x u
 cell:∀x c,X.env.cells.lookup x=some c->∃v,s.heap.IsCell c v
 free:H X.env.locals=none
 tL:∀x c,X.env.cells.lookup x=some c->H c=none
 pin:∀p∈X.pn++Y,s.heap.get? p.1=some p.2/\H p.1=none/\p.1≠X.env.locals/\p.1∉X.fs/\∀v,p.2.data≠.cell v
 hok:zu X.prog X.w H s.heap
 len:σ.length=X.N.length
section
variable{X:Cx}{Y:List (Addr×Obj)}{σ:List (Option V)}{H H':Hp}{s:Shared}
def Cx.Ok.a6l(ok:X.Ok){b:Addr}{o:Obj}(e:X.base.get? b=some o):b∉X.fs:=λhb=>by
 have:=(ok.Bu.mem hb).1;rw[e]at this;cases this
def bH.bs(I:bH X Y σ H s):∀b o,X.base.get? b=some o->s.heap.get? b=some o/\H b=none:=λb o e =>
 ⟨I.base.keep b o (I.ok.bs b o e).1 (I.ok.bs b o e).2 (I.ok.a6l e) (I.ok.Uh b o e),I.base.free b o (I.ok.bs b o e).1 (I.ok.bs b o e).2 (I.ok.Uh b o e)⟩
def bH.bk(I:bH X Y σ H s):∀b o,X.base.get? b=some o->s.heap.get? b=some o:=λb o e=>(I.bs b o e).1
def bH.mod(I:bH X Y σ H s):Mod X.K X.mg X.base:=I.ok.mod
def bH.Dl(I:bH X Y σ H s):X.K.In s.heap:=I.ok.mod.kin.keeps I.bk
def bH.lt(I:bH X Y σ H s):X.env.locals<s⁻¹:=let⟨_,hn,_⟩:=I.loc;hn.lt
def bH.sz(I:bH X Y σ H s):X.s₀.heap.objs.size<=s⁻¹:=cV I.ok.above (eO I.lt)
def bH.a4c(I:bH X Y σ H s){a:Addr}(h:s⁻¹<=a):a∉X.fs:=λhb=>by
 obtain⟨_,o,ho,_⟩:=I.ok.Bu.mem hb;exact absurd (jA (aY ho) (cV I.sz h)) (xK _)
def bH.cne(I:bH X Y σ H s):∀x c,X.env.cells.lookup x=some c->c≠X.env.locals:=λx c e z=>by
 obtain⟨v,o,ho,hd⟩:=I.cell x c e;obtain⟨m,⟨o',es,ep,ho',hd',_⟩,_⟩:=I.loc;rw[z,ho']at ho;cases ho;rw[hd']at hd;cases hd
def bH.Bu(I:bH X Y σ H s):s.heap.FunFrames X.base X.outer:=by
 have all:∀(l:List Env),(∀b∈frs l,b∈X.fs)->X.s₀.heap.FunFrames X.base l->s.heap.FunFrames X.base l:=by
  intro l
  induction l with
  |nil=>intro _ _;trivial
  |cons env r ih =>
   intro hs hl;obtain⟨hk,⟨L,o,hf,hn,ho,hd⟩,hr⟩:=hl;have hL:L∈X.fs:=hs L (by unfold frs;rw[Tc,hf];exact aU);obtain⟨sl,e⟩:=I.base.slot L o ho (I.ok.ŵ L hL) hL λz=>I.ok.Yd L z hL;exact⟨hk,⟨L,_,hf,hn,e,hd⟩,ih (λb hb=>hs b (by unfold frs;rw[Tc,hf];exact bC _ hb)) hr⟩
 exact all X.outer (λ_ hb=>hb) I.ok.Bu
def bH.stack(I:bH X Y σ H s):s.heap.FunFrames X.base X.stack:=by
 rcases I.ok.stk with e|⟨e,hf⟩
 ·rw[e];exact I.Bu
 ·rw[e];obtain⟨m,hn,_⟩:=I.loc;refine .cons (by rw[I.ok.kind];decide) hf hn ?_ I.Bu;exact Heap.get?_none_of_le (cV I.ok.Ŝ I.ok.above)
def bH.Eb(I:bH X Y σ H s):∀b∈frs X.stack,b∈X.env.locals::X.fs:=λb hb=>by
 rcases I.ok.stk with e|⟨e,hf⟩
 ·rw[e]at hb;exact bC _ hb
 ·rw[e]at hb;unfold frs at hb;rw[Tc,hf]at hb;exact hb
def bH.Wm(I:bH X Y σ H s):∀b∈frs X.stack,H b=none:=λb hb=>by
 rcases bZ.mp (I.Eb b hb)with e|hb
 ·rw[e];exact I.free
 ·obtain⟨_,o,ho,_⟩:=I.ok.Bu.mem hb;exact I.base.free b o ho (I.ok.ŵ b hb) λz=>I.ok.Yd b z hb
def bH.step{g':Array GenState}{d':Drawn}(I:bH X Y σ H s)
  (hch:∀b∈ch,(b∈X.ex\/X.s₀.heap.objs.size<=b)/\b≠X.env.locals/\(∀x c,X.env.cells.lookup x=some c->c≠b)/\∀p∈X.pn++Y,p.1≠b)
  (keep:∀b o,b≠X.env.locals->b∉X.fs->b∉ch->s.heap.get? b=some o->H b=none->h'.get? b=some o)
  (slot:∀b o,b≠X.env.locals->b∈X.fs->b∉ch->s.heap.get? b=some o->H b=none->∃sl,h'.get? b=some { o with slots:=sl}) (free:∀b o,b∉ch->s.heap.get? b=some o->H b=none->H' b=none)
  (there:∀b o,b∉ch->s.heap.get? b=some o->∃o',h'.get? b=some o')
  (tups:∀b xs,H b=some (.tup xs)->H' b=some (.tup xs)) (Iu:∀b o u,H b=some (.jo o u)->H' b=some (.jo o u)) (Om:∀b ps,H b=some (.tbl ps)->∃more,H' b=some (.tbl (ps++more)))
  (ns:∀m,s.heap.Ns X.env.locals m->h'.Ns X.env.locals m) (hok:zu X.prog X.w H' h') (hg:AllBare g') :
  bH X Y σ H' { s with heap:=h',gens:=g',drawn:=d',toks:=t'}:=by
 have neL:∀b o,X.s₀.heap.get? b=some o->b≠X.env.locals:=λb o e=>b7 (jA (aY e) I.ok.above);have neC:∀b o,X.s₀.heap.get? b=some o->b∉X.ex->b∉ch:=λb o e hx hb=>by
  rcases(hch b hb).1 with z|z
  ·exact hx z
  ·exact absurd (jA (aY e) z) (xK _)
 have cellK:∀x c,X.env.cells.lookup x=some c->∀v,s.heap.IsCell c v->h'.IsCell c v:=λx c e v ⟨o,ho,hd⟩=>by
  have nch:c∉ch:=λz=>(hch c z).2.2.1 x c e rfl;by_cases hc:c∈X.fs
  ·obtain⟨sl,q⟩:=slot c o (I.cne x c e) hc nch ho (I.tL x c e);exact⟨_,q,hd⟩
  ·exact⟨o,keep c o (I.cne x c e) hc nch ho (I.tL x c e),hd⟩
 refine⟨I.ok,I.os,hg,⟨λb o e n hb hx=>?_,λb o e n hb hx=>?_,λb o e n hx=>?_,λb o e hx=>?_,λb xs e=>tups b xs (I.base.tups b xs e),λb o xs e=>Iu b o xs (I.base.Iu b o xs e),λb ps e=>?_⟩,?_,λx c e=>?_,?_,λx c e=>?_,λp hp=>?_,hok,I.len⟩
 ·exact keep b o (neL b o e) hb (neC b o e hx) (I.base.keep b o e n hb hx) (I.base.free b o e n hx)
 ·obtain⟨sl,e1⟩:=I.base.slot b o e n hb hx;obtain⟨sl',e2⟩:=slot b _ (neL b o e) hb (neC b o e hx) e1 (I.base.free b o e n hx);exact⟨sl',e2⟩
 ·obtain⟨o',e1⟩:=I.base.there b o e hx;exact free b o' (neC b o e hx) e1 (I.base.free b o e n hx)
 ·obtain⟨o',e1⟩:=I.base.there b o e hx;exact there b o' (neC b o e hx) e1
 ·obtain⟨m1,e1⟩:=I.base.Om b ps e;obtain⟨m2,e2⟩:=Om b _ e1;exact⟨m1++m2,by rw[e2,Array.append_assoc]⟩
 ·obtain⟨m,hn,hl⟩:=I.loc;refine⟨m,ns m hn,λi x v e1 e2 e3=>?_⟩;obtain⟨u,r,l⟩:=hl i x v e1 e2 e3;refine⟨u,r,?_⟩;rcases l with l|⟨k,c,e,z⟩
  ·exact .inl l
  ·exact .inr ⟨k,c,e,cellK x c e _ z⟩
 ·obtain⟨v,z⟩:=I.cell x c e;exact⟨v,cellK x c e v z⟩
 ·obtain⟨m,⟨o,_,_,ho,_⟩,_⟩:=I.loc;exact free _ o (λz=>(hch _ z).2.1 Z) ho I.free
 ·obtain⟨v,o,ho,hd⟩:=I.cell x c e;exact free c o (λz=>(hch c z).2.2.1 x c e Z) ho (I.tL x c e)
 ·obtain⟨e,n,ne,nf,d⟩:=I.pin p hp;have nch:p.1∉ch:=λz=>(hch p.1 z).2.2.2 p hp rfl;exact⟨keep p.1 p.2 ne nf nch e n,free p.1 p.2 nch e n,ne,nf,d⟩
def bH.un(I:bH X Y σ H s)(u:Un X.fs [] H H' s.heap h')(hok:zu X.prog X.w H' h'):bH X Y σ H' { s with heap:=h',toks:=t'}:=by
 obtain⟨m,⟨o,es,ep,ho,r⟩,_⟩:=id I.loc;obtain⟨sl,hL⟩:=u.any ho I.free (by simp);exact I.step (g':=s.gens) (d':=s.drawn) (ch:=[]) (λ_ z=>nomatch z) (λb o _ hb _ e n=>u.keep b o e n hb (by simp)) (λb o _ hb _ e n=>u.slot b o e n hb (by simp)) (λb o _ e n=>u.free b o e n (by simp)) (λb o _ e=>u.there b o e (by simp)) u.tups u.Iu u.Om (λm' hm=>by
  obtain⟨o',es',ep',ho',r'⟩:=hm;rw[ho]at ho';cases ho';exact⟨_,es',ep',hL,r'⟩) hok I.bare
def bH.call{g':Array GenState}{d':Drawn}(I:bH X Y σ H s)(u:Un (frs X.stack) ch H H' s.heap h')(hok:zu X.prog X.w H' h')(hg:AllBare g')
  (hch:∀b∈ch,(b∈X.ex\/X.s₀.heap.objs.size<=b)/\b≠X.env.locals/\(∀x c,X.env.cells.lookup x=some c->c≠b)/\∀p∈X.pn++Y,p.1≠b) :
  bH X Y σ H' { s with heap:=h',gens:=g',drawn:=d',toks:=t'}:=by
 obtain⟨m,⟨o,es,ep,ho,r⟩,_⟩:=id I.loc;obtain⟨sl,hL⟩:=u.any ho I.free λz=>(hch _ z).2.1 rfl;exact I.step (ch:=ch) hch (λb o hL hb hc e n=>u.keep b o e n (λz=>(bZ.mp (I.Eb b z)).elim hL hb) hc) (λb o _ _ hc e n=>u.any e n hc) (λb o hc e n=>u.free b o e n hc) (λb o hc e=>u.there b o e hc) u.tups u.Iu u.Om (λm' hm=>by
  obtain⟨o',es',ep',ho',r'⟩:=hm;rw[ho]at ho';cases ho';exact⟨_,es',ep',hL,r'⟩) hok hg
def bH.turned{it:Addr}(I:bH X Y σ H s)(k:∀b o,b≠it->s.heap.get? b=some o->h'.get? b=some o)(hn:H it=none)(hL:it≠X.env.locals)
  (h1:it∈X.ex\/X.s₀.heap.objs.size<=it) (h2:∀x c,X.env.cells.lookup x=some c->c≠it) (h3:∀p∈X.pn++Y,p.1≠it):bH X Y σ H { s with heap:=h',toks:=t'}:=by
 have nit:∀b u,H b=some u->b≠it:=λb u e z=>by rw[z,hn]at e;cases e
 refine I.step (g':=s.gens) (d':=s.drawn) (ch:=[it]) (λb hb=>?_) (λb o _ _ hc e _=>k b o (λz=>hc (by simp[z])) e) (λb o _ _ hc e _=>⟨o.slots,k b o (λz=>hc (by simp[z])) e⟩) (λ_ _ _ _ n=>n)
  (λb o hc e=>⟨o,k b o (λz=>hc (by simp[z])) e⟩) (λ_ _ e=>e) (λ_ _ _ e=>e) (λb ps e=>⟨#[],by rw[e];simp⟩) (λm hm=>?_) (λb u e=>?_) I.bare
 ·have e:b=it:=by simpa using hb
  subst e;exact⟨h1,hL,h2,h3⟩
 ·obtain⟨o,es,ep,ho,r⟩:=hm;exact⟨o,es,ep,k _ o (Ne.symm hL) ho,r⟩
 ·refine(I.hok b u e).stay (λc v hc q=>k c v ?_ q) (λ_ q=>q) λ_ _ q=>q;rcases hc with z|z
  ·rw[z];exact nit b u e
  ·exact nit c _ z
def bH.tok(I:bH X Y σ H s)(t:Nat):bH X Y σ H { s with toks:=t}:=I.un (h':=s.heap) (t':=t) Un.refl I.hok
def bH.kept{t':Nat}(I:bH X Y σ H s)(k:∀b u,s.heap.get? b=some u->h'.get? b=some u):bH X Y σ H { s with heap:=h',toks:=t'}:=I.un (Un.kept k) (I.hok.kept k)
def bH.laid{a:Addr}{o:HO}{t':Nat}(I:bH X Y σ H s)(k:∀b u,s.heap.get? b=some u->h'.get? b=some u)(hp:s⁻¹<=a)(new:fY X.prog X.w (cN H a o) h' a o) :
  bH X Y σ (cN H a o) { s with heap:=h',toks:=t'}:=I.un (Un.laid k hp (I.hok.fresh hp)) (I.hok.laid k hp new)
def bH.write{x e:Addr}{o:HO}{t':Nat}(I:bH X Y σ H s)(mu:Mut (H x))(he:e=x\/H e=some (.own x))(k:∀b u,b≠e->s.heap.get? b=some u->h'.get? b=some u)(heo:∃u,h'.get? e=some u)
  (new:fY X.prog X.w (cN H x o) h' x o):bH X Y σ (cN H x o) { s with heap:=h',toks:=t'}:=I.un (Un.write mu he k heo) (I.hok.write mu he k heo new)
def bH.GD{a1o:List (Addr×Obj)}(I:bH X Y σ H s)(h:∀p∈a1o,s.heap.get? p.1=some p.2/\H p.1=none/\p.1≠X.env.locals/\p.1∉X.fs/\∀v,p.2.data≠.cell v):bH X a1o σ H s :=
 ⟨I.ok,I.os,I.bare,I.base,I.loc,I.cell,I.free,I.tL,λp hp=>(cH.mp hp).elim (λz=>I.pin p (rM _ z)) (h p),I.hok,I.len⟩
def Qx(hN:N.Nodup){i j:Nat}{x:Str}(a:N[i]?=some x)(b:N[j]?=some x):i=j:=by
 obtain⟨h1,e1⟩:=fL.mp a;obtain⟨h2,e2⟩:=fL.mp b;exact(List.getElem_inj hN).mp (e1.trans e2.symm)
def Lp{E:Value->Shared->Prop}{i:Nat}{x:Str}{v:V}{u:Value}{Q:Unit->Shared->Prop}(I:bH X Y σ H s)(hN:X.N.Nodup)(hi:X.N[i]?=some x)(hx:Loc X.env.scope x)(r:cW v u)
  (h:∀s',bH X Y (σ.set i (some v)) H s'->(∃a,Heap.SameBut a s.heap s'.heap/\(a=X.env.locals\/X.env.cells.lookup x=some a))->Q ⟨⟩ s') (hf:autoParam (X.fn x=true\/X.env.scope.names.lookup x=some .local) Q2_._auto_1):wpAny Z98 A (storeName X.env x u) Q E s:=by
 obtain⟨m,hn,hl⟩:=id I.loc;have hcls:(X.env.scope.kind==.class||(X.env.scope.kind==.module&&X.env.locals != X.env.globals))=false:=by rw[I.ok.kind];rfl
 have a4d:i<σ.length:=by rw[I.len];exact(fL.mp hi).1
 have cne:=I.cne;have tracked:∀{a:Addr}{h':Heap},(∃o,s.heap.get? a=some o/\H a=none)->Heap.SameBut a s.heap h'->zu X.prog X.w H h':=λ{a h'} ha hs b ob e=>by
  obtain⟨_,_,hfree⟩:=ha;refine(I.hok b ob e).stay (λc w' hc q=>(hs.2 c ?_).trans q) (λ_ q=>q) λ_ _ q=>q;rintro rfl;rcases hc with rfl|hc
  ·rw[hfree]at e;cases e
  ·rw[hfree]at hc;cases hc
 rcases hx with hk|hk
 ·refine wpAny_storeName_local hk hn (λh' hn' hs=>?_) hcls;obtain⟨oL,_,_,hoL,_⟩:=id hn;refine h _ ⟨I.ok,I.os,I.bare,⟨λb o e n hb hx=>?_,λb o e n hb hx=>?_,I.base.free,λb o e hx=>?_,I.base.tups,I.base.Iu,I.base.Om⟩,⟨_,hn',λj y v' e1 e2 e3=>?_⟩,λy c e=>?_,I.free,I.tL,λp hp=>?_,tracked ⟨oL,hoL,I.free⟩ hs,by simpa using I.len⟩ ⟨_,hs,.inl Z⟩
  ·exact(hs.2 b (b7 (jA (aY e) I.ok.above))).trans (I.base.keep b o e n hb hx)
  ·obtain⟨sl,e1⟩:=I.base.slot b o e n hb hx;exact⟨sl,(hs.2 b (b7 (jA (aY e) I.ok.above))).trans e1⟩
  ·obtain⟨o',e1⟩:=I.base.there b o e hx;exact⟨o',(hs.2 b (b7 (jA (aY e) I.ok.above))).trans e1⟩
  ·by_cases hj:j=i
   ·subst hj;rw[hi]at e1;cases e1;rw[List.getElem?_set_self a4d]at e2;cases e2;exact⟨u,r,.inl ⟨hk,by simp⟩⟩
   ·rw[List.getElem?_set_ne (Ne.symm hj)]at e2;obtain⟨u',r',q⟩:=hl j y v' e1 e2 e3;refine⟨u',r',?_⟩;rcases q with⟨k,e⟩|⟨k,c,e,z⟩
    ·refine .inl ⟨k,?_⟩;have:y≠x:=λe=>hj (Qx hN e1 (e▸hi));simp[this,e]
    ·exact .inr ⟨k,c,e,z.sameBut hs (cne y c e)⟩
  ·obtain⟨w',z⟩:=I.cell y c e;exact⟨w',z.sameBut hs (cne y c e)⟩
  ·obtain⟨e,n,ne,nf,d⟩:=I.pin p hp;exact⟨(hs.2 p.1 ne).trans e,n,ne,nf,d⟩
 ·have hfn:X.fn x=true:=by
   rcases hf with z|z
   ·exact z
   ·rw[z]at hk;cases hk
  obtain⟨c,hc⟩:=I.ok.has x (.inl hk);obtain⟨w',z⟩:=I.cell x c hc;refine wpAny_storeName_cell I.ok.kind hk hc z (λh' hc' hs=>?_);obtain⟨oc,hoc,a6m⟩:=id z;refine h { s with heap:=h'} ⟨I.ok,I.os,I.bare,⟨λb o e n hb hx=>?_,λb o e n hb hx=>?_,I.base.free,λb o e hx=>?_,I.base.tups,I.base.Iu,I.base.Om⟩,⟨m,hn.sameBut hs (Ne.symm (cne x c hc)),λj y v' e1 e2 e3=>?_⟩,λy c' e=>?_,I.free,I.tL,λp hp=>?_,tracked ⟨oc,hoc,I.tL x c hc⟩ hs,by simpa using I.len⟩ ⟨c,hs,.inr hc⟩
  ·exact(hs.2 b (b7 (jA (aY e) (I.ok.cab x c hfn hc)))).trans (I.base.keep b o e n hb hx)
  ·obtain⟨sl,e1⟩:=I.base.slot b o e n hb hx;exact⟨sl,(hs.2 b (b7 (jA (aY e) (I.ok.cab x c hfn hc)))).trans e1⟩
  ·obtain⟨o',e1⟩:=I.base.there b o e hx;exact⟨o',(hs.2 b (b7 (jA (aY e) (I.ok.cab x c hfn hc)))).trans e1⟩
  ·by_cases hj:j=i
   ·subst hj;rw[hi]at e1;cases e1;rw[List.getElem?_set_self a4d]at e2;cases e2;exact⟨u,r,.inr ⟨.inl hk,c,hc,hc'⟩⟩
   ·rw[List.getElem?_set_ne (Ne.symm hj)]at e2;obtain⟨u',r',q⟩:=hl j y v' e1 e2 e3;refine⟨u',r',?_⟩;rcases q with q|⟨k,c',e,z'⟩
    ·exact .inl q
    ·refine .inr ⟨k,c',e,z'.sameBut hs ?_⟩;rintro rfl;exact hj (Qx hN e1 (I.ok.inj _ _ _ e hc▸hi))
  ·by_cases hcc:c'=c
   ·subst hcc;exact⟨_,hc'⟩
   ·obtain⟨w2,z2⟩:=I.cell y c' e;exact⟨w2,z2.sameBut hs hcc⟩
  ·obtain⟨e,n,ne,nf,d⟩:=I.pin p hp;refine⟨(hs.2 p.1 ?_).trans e,n,ne,nf,d⟩;intro q;rw[q,hoc]at e;have q':oc=p.2:=dB e;exact d w' (by rw[<-q'];exact a6m)
def Qy{E:Value->Shared->Prop}{i:Nat}{x:Str}{v:V}{u:Value}{Q:Unit->Shared->Prop}(I:bH X Y σ H s)(hN:X.N.Nodup)(hi:X.N[i]?=some x)(hx:Loc X.env.scope x)(r:cW v u)
  (h:∀s',bH X Y (σ.set i (some v)) H s'->Q ⟨⟩ s') (hf:autoParam (X.fn x=true\/X.env.scope.names.lookup x=some .local) Q2_._auto_1):wpAny Z98 A (storeName X.env x u) Q E s :=
 Lp I hN hi hx r (λs' I' _=>h s' I') hf
def bH.call'{s':Shared}(I:bH X Y σ H s)(ho:s'.os=s.os)(u:Un (frs X.stack) ch H H' s.heap s'.heap)(hok:zu X.prog X.w H' s'.heap)(hg:AllBare s'.gens)
  (hch:∀b∈ch,(b∈X.ex\/X.s₀.heap.objs.size<=b)/\b≠X.env.locals/\(∀x c,X.env.cells.lookup x=some c->c≠b)/\∀p∈X.pn++Y,p.1≠b):bH X Y σ H' s':=by
 obtain⟨h',g',d',t',o'⟩:=s';have e:o'=s.os:=ho;subst e;exact I.call (g':=g') (t':=t') (d':=d') u hok hg hch
end
abbrev XK:=Value->Option Addr->Hp->Prop
abbrev St:=List (Option V)
abbrev VK:=V->Hp->Prop
abbrev TE:=St->Hp->VK->Prop
variable{ta te:TE}
abbrev TT:=St->Hp->(Bool->Hp->Prop)->Prop
abbrev TA:=St->Hp->(List V->Hp->Prop)->Prop
structure Ends where
 nx:St->Hp->Prop
 rt:VK
 bk:St->Hp->Prop:=λ_ _=>False
 ct:St->Hp->Prop:=λ_ _=>False
variable{D:Ends}
abbrev TS:=Ends->St->Hp->Prop
variable{tb:TS}
inductive EP(X:Cx)(Y:List (Addr×Obj))(σ:St)(Q:VK)(u:Value)(s':Shared):Prop
 |mk (v H':_) (_:bH X Y σ H' s') (_:cW v u) (_:Q v H')
def TP(X:Cx)(Y:List (Addr×Obj))(σ:St)(Q:Bool->Hp->Prop)(b:Bool)(s':Shared):Prop:=∃H',bH X Y σ H' s'/\Q b H'
inductive AP(X:Cx)(Y:List (Addr×Obj))(σ:St)(Q:List V->Hp->Prop)(us:List Value)(s':Shared):Prop
 |mk (vs H':_) (_:bH X Y σ H' s') (_:cM vs us) (_:Q vs H')
def SP(X:Cx)(Y:List (Addr×Obj))(D:Ends)(f:Flow)(s':Shared):Prop :=
 match f with
 |.next=>∃σ' H',bH X Y σ' H' s'/\D.nx σ' H'
 |.brk=>∃σ' H',bH X Y σ' H' s'/\D.bk σ' H'
 |.cont=>∃σ' H',bH X Y σ' H' s'/\D.ct σ' H'
 |.ret u=>∃v σ' H',bH X Y σ' H' s'/\cW v u/\D.rt v H'
def PE(X:Cx)(e:Expr)(t:TE):Prop :=
 ∀(Y:List (Addr×Obj)) (s:Shared) (σ:St) (H:Hp) (Q:VK),bH X Y σ H s->t σ H Q->wpAny (model X.prog X.w) X.A (eval e X.env) (EP X Y σ Q) X.xe s
def PT(X:Cx)(e:Expr)(t:TT):Prop :=
 ∀(Y:List (Addr×Obj)) (s:Shared) (σ:St) (H:Hp) (Q:Bool->Hp->Prop),bH X Y σ H s->t σ H Q->wpAny (model X.prog X.w) X.A (isTrue e X.env (eval e X.env)) (TP X Y σ Q) X.xe s
def PW(X:Cx)(e:Expr)(t:TT):Prop :=
 ∀(whole:Sem Value) (Y:List (Addr×Obj)) (s:Shared) (σ:St) (H:Hp) (Q:Bool->Hp->Prop),bH X Y σ H s->t σ H Q->wpAny (model X.prog X.w) X.A (isTrue e X.env whole) (TP X Y σ Q) X.xe s
def PW.pt{X:Cx}{t:TT}(h:PW X e t):PT X e t:=h _
def PA(X:Cx)(es:List Expr)(t:TA):Prop :=
 ∀(pos:Pos) (Y:List (Addr×Obj)) (s:Shared) (σ:St) (H:Hp) (Q:List V->Hp->Prop),bH X Y σ H s->t σ H Q->wpAny (model X.prog X.w) X.A (spliced (backTo pos (starEach es X.env))) (AP X Y σ Q) X.xe s
def PS(X:Cx)(st:Stmt)(t:TS):Prop :=
 ∀(Y:List (Addr×Obj)) (s:Shared) (σ:St) (H:Hp) (D:Ends),bH X Y σ H s->t D σ H->wpAny (model X.prog X.w) X.A (exec st X.env) (SP X Y D) X.xe s
def Qz(X:Cx)(st:List Stmt)(t:TS):Prop :=
 ∀(Y:List (Addr×Obj)) (s:Shared) (σ:St) (H:Hp) (D:Ends),bH X Y σ H s->t D σ H->wpAny (model X.prog X.w) X.A (execs st X.env) (SP X Y D) X.xe s
def jG{α:Type}{t:Sem α}{Q Q':α->Shared->Prop}{E:Value->Shared->Prop}{s:Shared}(h:wpAny Z98 A t Q E s)(hQ:∀a s,Q a s->Q' a s):wpAny Z98 A t Q' E s:=iG h hQ λ_ _ x=>x
section
variable{X:Cx}
inductive EA{α:Type}(P Q:α->Prop):Prop
 |mk (v:α) (p:P v) (q:Q v)
inductive EC{α:Type}(P R Q:α->Prop):Prop
 |mk (v:α) (p:P v) (r:R v) (q:Q v)
inductive Ä(i:Nat)(σ:St)(H:Hp)(Q:VK):Prop
 |mk (v:_) (_:σ[i]?=some (some v)) (_:Q v H)
def tC(v:V):TE:=λ_ H Q=>Q v H
def a1S{i:Nat}{x:Str}(hN:X.N[i]?=some x)(hv:Vis X.env.scope x)(hd:@&((x==("__debug__" : Str))=false))(hcd:@&((x==("__classdict__" : Str))=false)):PE X (.Name x pos) (Ä i):=by
 intro Y s σ H Q I h;obtain⟨v,e,h⟩:=h;obtain⟨m,hn,hl⟩:=I.loc;obtain⟨u,r,l⟩:=hl i x v hN e hv;have fin:EP X Y σ Q u s:=⟨v,H,I,r,h⟩;rcases l with⟨hk,hm⟩|⟨hk,c,hc,hcell⟩
 ·exact wpAny_Name (wpAny_loadName_local I.ok.kind hk hn hm fin) hd
 ·rcases hk with hk|hk
  ·exact wpAny_Name (wpAny_loadName_cell I.ok.kind hk hc hcell fin) hd
  ·exact wpAny_Name (wpAny_loadName_free I.ok.kind hk hc hcell fin hcd) hd
def aA{i j pos}:PE X (.Constant (.int i) j pos) (tC (.int i)):=λ_ _ _ H _ I h=>wpAny_Constant_int ⟨.int i,H,I.tok _,⟨_,Z⟩,h⟩
def Bv{b j pos}:PE X (.Constant (.bool b) j pos) (tC (.bl b)):=λ_ _ _ H _ I h=>Constant_bool ⟨.bl b,H,I,Z,h⟩
def ql{j pos}:PE X (.Constant .none j pos) (tC .non):=λ_ _ _ H _ I h=>Constant_none ⟨.non,H,I,Z,h⟩
def gw{x j pos}:PE X (.Constant (.str x) j pos) (tC (.str x)):=λ_ _ _ H _ I h=>Calls.Constant_str ⟨.str x,H,I.tok _,⟨_,Z⟩,h⟩
def Gl(X:Cx)(x:Str):Prop:=X.env.kindOf x=some .globalImplicit
def Bw{E:Value->Shared->Prop}{Y:List (Addr×Obj)}{s:Shared}{σ:St}{H:Hp}{x:Str}{u:Value}{Q:Value->Shared->Prop}(I:bH X Y σ H s)(hg:Gl X x)(hm:X.mg x=some u)(h:Q u s)
  (hd:@&((x==("__debug__" : Str))=false)):wpAny (model X.prog X.w) X.A (eval (.Name x pos) X.env) Q E s :=
 Z5 I.ok.kind hg (Calls.loadGlobal_global (by rw[I.ok.glob];exact I.mod.glob.keeps I.bk) hm h) hd
def vU{E:Value->Shared->Prop}{Y:List (Addr×Obj)}{s:Shared}{σ:St}{H:Hp}{x:Str}{u:Value}{Q:Value->Shared->Prop}(I:bH X Y σ H s)(hg:Gl X x)(hm:X.mg x=none)(hv:bootBuiltins x=some u)(h:Q u s)
  (hn:@&(x≠ "__name__")) (hd:@&((x==("__debug__" : Str))=false)):wpAny (model X.prog X.w) X.A (eval (.Name x pos) X.env) Q E s:=by
 obtain⟨mb,h1,h2⟩:=I.mod.blt;exact Z5 I.ok.kind hg (Calls.loadGlobal_builtin (by rw[I.ok.glob];exact I.mod.glob.keeps I.bk) hm (by rw[I.ok.blt];exact h1.keeps I.bk) ((h2 x hn).trans hv) h) hd
def Oq{x:Str}{v:V}{u:Value}(hg:Gl X x)(hm:X.mg x=some u)(r:cW v u)(hd:@&((x==("__debug__" : Str))=false)):PE X (.Name x pos) (tC v) :=
 λ_ _ _ H _ I h=>Bw I hg hm ⟨v,H,I,r,h⟩ hd
def uw{x:Str}{v:V}{u:Value}(hg:Gl X x)(hm:X.mg x=none)(hv:bootBuiltins x=some u)(r:cW v u)(hn:@&(x≠ "__name__"))(hd:@&((x==("__debug__" : Str))=false)):PE X (.Name x pos) (tC v) :=
 λ_ _ _ H _ I h=>vU I hg hm hv ⟨v,H,I,r,h⟩ hn hd
variable{a b:Expr}{tb:TE}
variable{tA tB':TT}{rest:List Expr}
def a1T(t u:TT):TT:=λσ H Q=>t σ H λc H1=>if c=true then u σ H1 Q else Q false H1
def tOr(t u:TT):TT:=λσ H Q=>t σ H λc H1=>if c=true then Q true H1 else u σ H1 Q
def a6n(t:TT):TT:=λσ H Q=>t σ H λc H1=>Q (!c) H1
def sI(ha:PT X a tA):PW X (.BoolOp .And [a] pos) tA:=by
 intro wh Y s σ H Q I h;refine isTrue_and (jG (ha Y s σ H Q I h) λc s1 e=>?_);cases c with
 |true=>exact isTrue_and_nil e
 |false=>exact e
def Iw(ha:PT X a tA):PW X (.BoolOp .Or [a] pos) tA:=by
 intro wh Y s σ H Q I h;refine isTrue_or (jG (ha Y s σ H Q I h) λc s1 e=>?_);cases c with
 |false=>exact isTrue_or_nil e
 |true=>exact e
def rR(ha:PT X a tA)(hb:PW X (.BoolOp .And (b::rest) pos) tB'):PW X (.BoolOp .And (a::b::rest) pos) (a1T tA tB'):=by
 intro wh Y s σ H Q I h;refine isTrue_and (jG (ha Y s σ H _ I h) λc s1 ⟨H1,I1,q1⟩=>?_);cases c with
 |true=>exact hb wh Y s1 σ H1 Q I1 q1
 |false=>exact⟨H1,I1,q1⟩
def Iz(ha:PT X a tA)(hb:PW X (.BoolOp .Or (b::rest) pos) tB'):PW X (.BoolOp .Or (a::b::rest) pos) (tOr tA tB'):=by
 intro wh Y s σ H Q I h;refine isTrue_or (jG (ha Y s σ H _ I h) λc s1 ⟨H1,I1,q1⟩=>?_);cases c with
 |true=>exact⟨H1,I1,q1⟩
 |false=>exact hb wh Y s1 σ H1 Q I1 q1
def tM(ha:PT X a tA):PT X (.UnaryOp .Not a pos) (a6n tA):=by
 intro Y s σ H Q I h;exact isTrue_not (ha Y s σ H (λc H1=>Q (!c) H1) I h)
def a4e(ta tb:TE):TE:=λσ H Q=>ta σ H λx H1=>EA (λc=>x=.bl c) λc=>if c=true then tb σ H1 Q else Q (.bl false) H1
def a4f(ta:TE):TE:=λσ H Q=>ta σ H λx H1=>EA (λc=>x=.bl c) λc=>Q (.bl (!c)) H1
def Å{op}{t:TE}(h:PE X a t):PE X (.BoolOp op [a] pos) t:=λY s σ H Q I hw=>BoolOp_one (h Y s σ H Q I hw)
def Æ(ha:PE X a ta)(hb:PE X (.BoolOp .And (b::rest) pos) tb):PE X (.BoolOp .And (a::b::rest) pos) (a4e ta tb):=by
 intro Y s σ H Q I h;refine BoolOp_and (jG (ha Y s σ H _ I h) λv s1 ⟨x,H1,I1,r1,q1⟩=>?_);obtain⟨c,rfl,q1⟩:=q1;cases r1;refine DG ?_;cases c with
 |true=>exact hb Y s1 σ H1 Q I1 q1
 |false=>exact⟨.bl false,H1,I1,Z,q1⟩
def a1U(ha:PE X a ta):PE X (.UnaryOp .Not a pos) (a4f ta):=by
 intro Y s σ H Q I h;refine UnaryOp_ (jG (ha Y s σ H _ I h) λv s1 ⟨x,H1,I1,r1,q1⟩=>?_);obtain⟨c,rfl,q1⟩:=q1;cases r1;exact not_of (DG ⟨.bl (!c),H1,I1,Z,q1⟩)
def tIf(t:TT)(ta tb:TE):TE:=λσ H Q=>t σ H λc H1=>if c=true then ta σ H1 Q else tb σ H1 Q
def oK(hc:PT X c tA)(ha:PE X a ta)(hb:PE X b tb):PE X (.IfExp c a b pos) (tIf tA ta tb):=by
 intro Y s σ H Q I h;refine wpAny_IfExp (jG (hc Y s σ H _ I h) λd s1 ⟨H1,I1,q1⟩=>?_);cases d with
 |true=>exact ha Y s1 σ H1 Q I1 q1
 |false=>exact hb Y s1 σ H1 Q I1 q1
end
def bN(K:aJ)(H:Hp)(a:Addr)(xs:List V):Prop :=
 Rd H a (.lst xs)\/
  ∃(o:Obj) (bV:Array Value) (n:Nat),K.lookup a=some o/\o.cls=.type "list" /\o.dict=none/\o.data=.seq bV n/\bV.size<=sizeLine/\cM xs bV.toList
def cQ(K:aJ)(H:Hp)(a:Addr)(xs:List V):Prop :=
 Rd H a (.tup xs)\/
  ∃(o:Obj) (bV:Array Value) (n:Nat),K.lookup a=some o/\o.cls=.type "tuple" /\o.data=.seq bV n/\bV.size<=sizeLine/\cM xs bV.toList
def a6o:Value->Option V
 |.none=>some .non
 |.bool b=>some (.bl b)
 |.int i _=>some (.int i)
 |.str x _=>some (.str x)
 |.bytes b _=>some (.Wl b)
 |.float b _=>some (.flt b)
 |.ref a=>some (.ref a)
 |.type n=>some (.ty n)
 |_=>none
def cW.abs{x:V}{u:Value}(r:cW x u):a6o u=some x:=by
 cases x with
 |non=>cases r;rfl
 |bl _=>cases r;rfl
 |int _=>obtain⟨t,rfl⟩:=r;rfl
 |str _=>obtain⟨t,rfl⟩:=r;rfl
 |Wl _=>obtain⟨t,rfl⟩:=r;rfl
 |flt _=>obtain⟨t,rfl⟩:=r;rfl
 |ref _=>cases r;rfl
 |ty _=>cases r;rfl
def cW.inj{x y:V}{u:Value}(r:cW x u)(q:cW y u):x=y:=dB (r.abs.symm.trans q.abs)
def cM.inj{xs ys:List V}{us:List Value}(h:cM xs us)(g:cM ys us):xs=ys:=by
 induction h generalizing ys with
 |nil=>cases g;rfl
 |cons r _ ih =>
  cases g with
  |cons q t=>rw[r.inj q,ih t]
section
variable{X:Cx}{Y:List (Addr×Obj)}{σ:St}{H:Hp}{s:Shared}{a:Addr}{xs ys:List V}
def bN.of(h:H a=some (.lst xs)):bN K H a xs:=.inl (.inl h)
def cQ.of(h:H a=some (.tup xs)):cQ K H a xs:=.inl (.inl h)
def bH.list(I:bH X Y σ H s)(h:bN X.K H a xs):∃bV:List Value,cM xs bV/\PlainL s.heap a bV.toArray/\xs.length<=sizeLine:=by
 rcases h with h|⟨o,bV,n,hk,hc,hd,hs,hz,r⟩
 ·obtain⟨z,bV,n,r,e⟩:=h.ok I.hok;exact⟨bV,r,⟨_,n,e,Z,Z,Z⟩,z⟩
 ·refine⟨bV.toList,r,⟨o,n,I.Dl a o hk,hc,hd,by simpa using hs⟩,?_⟩;have e:=r.length;simp only[Array.length_toList]at e;omega
def bH.tuple(I:bH X Y σ H s)(h:cQ X.K H a xs):∃bV:List Value,cM xs bV/\IsTup s.heap a bV.toArray/\xs.length<=sizeLine:=by
 rcases h with h|⟨o,bV,n,hk,hc,hs,hz,r⟩
 ·obtain⟨z,bV,r,p⟩:=h.ok I.hok;exact⟨bV,r,p,z⟩
 ·refine⟨bV.toList,r,⟨o,I.Dl a o hk,hc,n,by simpa using hs⟩,?_⟩;have e:=r.length;simp only[Array.length_toList]at e;omega
def bH.xP(I:bH X Y σ H s)(h:bN X.K H a xs)(h':bN X.K H a ys):xs=ys:=by
 obtain⟨bV,r,⟨o,n,e,_,_,d⟩,_⟩:=I.list h;obtain⟨its',r',⟨o',n',e',_,_,d'⟩,_⟩:=I.list h';rw[e]at e';cases e';rw[d]at d';injection d' with d1 _
 have:bV=its':=by simpa using congrArg Array.toList d1
 subst this;exact r.inj r'
def bH.yQ(I:bH X Y σ H s)(h:cQ X.K H a xs)(h':cQ X.K H a ys):xs=ys:=by
 obtain⟨bV,r,⟨o,e,_,n,d⟩,_⟩:=I.tuple h;obtain⟨its',r',⟨o',e',_,n',d'⟩,_⟩:=I.tuple h';rw[e]at e';cases e';rw[d]at d';injection d' with d1 _
 have:bV=its':=by simpa using congrArg Array.toList d1
 subst this;exact r.inj r'
end
abbrev Cx.wish(X:Cx)(E:Value->Shared->Prop):Cx:={ X with xe:=E}
abbrev Cx.nox(X:Cx):Cx:=X.wish λ_ _=>False
def Cx.Ok.wish{X:Cx}(ok:X.Ok)(E:Value->Shared->Prop):(X.wish E).Ok :=
 ⟨ok.mod,ok.kind,ok.glob,ok.blt,ok.above,ok.inj,ok.has,ok.cab,ok.hd,ok.frames,ok.stk,ok.exf,ok.bs,ok.Ŝ,ok.Uh,ok.Yd,ok.Bu,ok.ŵ⟩
def Cx.Ok.uL{X:Cx}{E:Value->Shared->Prop}(ok:(X.wish E).Ok):X.Ok :=
 ⟨ok.mod,ok.kind,ok.glob,ok.blt,ok.above,ok.inj,ok.has,ok.cab,ok.hd,ok.frames,ok.stk,ok.exf,ok.bs,ok.Ŝ,ok.Uh,ok.Yd,ok.Bu,ok.ŵ⟩
section
variable{X:Cx}{Y:List (Addr×Obj)}{σ:St}{H:Hp}{s:Shared}{E:Value->Shared->Prop}
def bH.wish(I:bH X Y σ H s)(E:Value->Shared->Prop):bH (X.wish E) Y σ H s:=⟨I.ok.wish E,I.os,I.bare,I.base,I.loc,I.cell,I.free,I.tL,I.pin,I.hok,I.len⟩
def bH.uL(I:bH (X.wish E) Y σ H s):bH X Y σ H s:=⟨I.ok.uL,I.os,I.bare,I.base,I.loc,I.cell,I.free,I.tL,I.pin,I.hok,I.len⟩
def SP.uL{D:Ends}{f:Flow}{s':Shared}(h:SP (X.wish E) Y D f s'):SP X Y D f s':=by
 cases f with
 |next=>obtain⟨σ',H',I,q⟩:=h;exact⟨σ',H',I.uL,q⟩
 |brk=>obtain⟨σ',H',I,q⟩:=h;exact⟨σ',H',I.uL,q⟩
 |cont=>obtain⟨σ',H',I,q⟩:=h;exact⟨σ',H',I.uL,q⟩
 |ret u=>obtain⟨v,σ',H',I,r,q⟩:=h;exact⟨v,σ',H',I.uL,r,q⟩
def Qz.nox{st:List Stmt}{t:TS}(h:Qz X.nox st t):Qz X st t:=λY s σ H D I hw =>
 iG (h Y s σ H D (I.wish _) hw) (λ_ _ q=>q.uL) λ_ _ z=>False.elim z
end
section
variable{X:Cx}{st:Stmt}{rest:List Stmt}{t u:TS}
def Ç:TS:=λD σ H=>D.nx σ H
def a1V(t u:TS):TS:=λD σ H=>t { D with nx:=u D} σ H
def bQ:Qz X [] Ç:=λ_ _ σ H _ I h=>N8 ⟨σ,H,I,h⟩
def aF(h1:PS X st t)(h2:Qz X rest u):Qz X (st::rest) (a1V t u):=by
 intro Y s σ H D I h;refine Tw (jG (h1 Y s σ H { D with nx:=u D} I h) λf s1 q=>?_);cases f with
 |next =>
  obtain⟨σ',H',I',q⟩:=q;exact h2 Y s1 σ' H' D I' q
 |ret v=>exact q
 |brk=>exact q
 |cont=>exact q
def aD(h1:PS X st t):Qz X [st] t:=by
 intro Y s σ H D I h;refine Tw (jG (h1 Y s σ H D I h) λf s1 q=>?_);cases f with
 |next=>exact N8 q
 |ret v=>exact q
 |brk=>exact q
 |cont=>exact q
def a1W:TS:=λD σ H=>D.bk σ H
def a4g:TS:=λD σ H=>D.ct σ H
def È:PS X (.Break pos) a1W:=λ_ _ σ H _ I h=>wpAny_Break ⟨σ,H,I,h⟩
def QB:PS X (.Continue pos) a4g:=λ_ _ σ H _ I h=>wpAny_Continue ⟨σ,H,I,h⟩
def bH.quiet{Y:List (Addr×Obj)}{σ:St}{H:Hp}{s:Shared}(I:bH X Y σ H s):interactive X.env=false:=by simp[interactive,I.ok.kind]
def a4h(te:TE):TS:=λD σ H=>te σ H λ_ H1=>D.nx σ H1
def gA(he:PE X e te)(hs:@&(swapsWith e none pos.line X.env=pure false)):PS X (.Expr e pos) (a4h te):=by
 intro Y s σ H D I h;exact wpAny_Expr_any (jG (he Y s σ H _ I h) λv s1 ⟨x,H1,I1,r1,q1⟩=>⟨σ,H1,I1,q1⟩) I.quiet hs
def a4i(te:TE):TS:=λD σ H=>te σ H D.rt
def bJ(he:PE X e te):PS X (.Return (some e) pos) (a4i te):=by
 intro Y s σ H D I h;exact wpAny_Return_some (jG (he Y s σ H _ I h) λv s1 ⟨x,H1,I1,r1,q1⟩=>⟨x,σ,H1,I1,r1,q1⟩)
def a4j(c:TT)(t u:TS):TS:=λD σ H=>c σ H λb H1=>if b=true then t D σ H1 else u D σ H1
def dF{a b:List Stmt}{tc:TT}(hc:PT X c tc)(ha:Qz X a t)(hb:Qz X b u):PS X (.If c a b pos) (a4j tc t u):=by
 intro Y s σ H D I h;refine wpAny_If (jG (hc Y s σ H _ I h) λd s1 ⟨H1,I1,q1⟩=>?_);cases d with
 |true=>exact ha Y s1 σ H1 D I1 q1
 |false=>exact hb Y s1 σ H1 D I1 q1
def a1X:TS:=λ_ _ _=>False
def Bx:PS X st a1X:=λ_ _ _ _ _ _ h=>h.elim
end
abbrev TG:=V->St->Hp->(St->Hp->Prop)->Prop
abbrev É:=List V->St->Hp->(St->Hp->Prop)->Prop
def PG(X:Cx)(target:Expr)(t:TG):Prop :=
 ∀(Y:List (Addr×Obj)) (s:Shared) (σ:St) (H:Hp) (v:V) (u:Value) (Q:St->Hp->Prop),bH X Y σ H s->cW v u->t v σ H Q->
  wpAny (model X.prog X.w) X.A (assign target X.env u) (λ_ s'=>∃σ' H',bH X Y σ' H' s'/\Q σ' H') X.xe s
def PGs(X:Cx)(ts:List Expr)(t:É):Prop :=
 ∀(Y:List (Addr×Obj)) (s:Shared) (σ:St) (H:Hp) (vs:List V) (us:List Value) (Q:St->Hp->Prop),bH X Y σ H s->cM vs us->t vs σ H Q->
  wpAny (model X.prog X.w) X.A (assignInOrder ((assignEach ts X.env).map (·.2)) us) (λ_ s'=>∃σ' H',bH X Y σ' H' s'/\Q σ' H') X.xe s
abbrev a1Y:=V->V->V->Hp->(Hp->Prop)->Prop
def Ŷ(X:Cx)(t:a1Y):Prop :=
 ∀(Y:List (Addr×Obj)) (s:Shared) (σ:St) (H:Hp) (o i v:V) (ov iv u:Value) (Q:Hp->Prop),bH X Y σ H s->cW o ov->cW i iv->cW v u->t o i v H Q->
  wpAny (model X.prog X.w) X.A (setItem ov iv u) (λ_ s'=>∃H',bH X Y σ H' s'/\Q H') X.xe s
section
variable{X:Cx}
def Wn(i:Nat):TG:=λv σ H Q=>Q (σ.set i (some v)) H
def aO(i:Nat){x:Str}(hN:X.N.Nodup)(hi:@&(X.N[i]?=some x))(hx:autoParam (Loc X.env.scope x) Q1_._auto_1)(hf:autoParam (X.fn x=true\/X.env.scope.names.lookup x=some .local) Q2_._auto_1):PG X (.Name x pos) (Wn i):=by
 intro Y s σ H v u Q I r h;exact wpAny_assign_Name (Qy I hN hi hx r (λs' I'=>⟨_,H,I',h⟩) hf)
def a6p:É:=λvs σ H Q=>vs=[]/\Q σ H
def a4k(t:TG)(u:É):É:=λvs σ H Q=>∃v r,vs=v::r/\t v σ H λσ' H'=>u r σ' H' Q
def jw:PGs X [] a6p:=by
 intro Y s σ H vs us Q I r h;obtain⟨e,h⟩:=h;subst e;cases r;exact assignInOrder_nil ⟨σ,H,I,h⟩
def b8{t:TG}{u:É}(h1:PG X e t)(h2:PGs X es u)
  (hs:@&((assignEach (e::es) X.env).map (·.2)=assign e X.env::(assignEach es X.env).map (·.2))):PGs X (e::es) (a4k t u):=by
 intro Y s σ H vs us Q I r h;obtain⟨v,vr,e1,h⟩:=h;subst e1;cases r with
 |cons r rr =>
  rw[hs];exact assignInOrder_cons (jG (h1 Y s σ H _ _ _ I r h) λ_ s1 ⟨σ1,H1,I1,q1⟩=>h2 Y s1 σ1 H1 _ _ Q I1 rr q1)
inductive a4l(K:aJ)(n:Nat)(t:É)(v:V)(σ:St)(H:Hp)(Q:St->Hp->Prop):Prop
 |mk (a xs:_) (_:v=.ref a) (_:cQ K H a xs) (_:xs.length=n) (_:t xs σ H Q)
def a1Z{t:É}(hc:X.calm=true)(h:PGs X es t)
  (hn:@&((assignEach es X.env).length=n)) (hst:@&((assignEach es X.env).findIdx? (·.1)=none)):PG X (.Tuple es k pos) (a4l X.K n t):=by
 intro Y s σ H v u Q I r hw;obtain⟨a,xs,e1,hq,hl,hw⟩:=hw;subst e1;cases r;obtain⟨bV,rv,ht,hz⟩:=I.tuple hq;refine assign_Tuple_tuple (I.ok.hd hc) ht (by simp[hn,<-hl,rv.length]) hst λh' hx=>?_;have I1:bH X Y σ H { s with heap:=h'}:=I.kept (t':=s.toks) λb o e=>hx b o (b7 (aY e)) e;exact h Y _ σ H xs _ Q I1 (by simpa using rv) hw
def a6q(to ti:TE)(t:a1Y):TG:=λv σ H Q=>to σ H λo H1=>ti σ H1 λi H2=>t o i v H2 λH3=>Q σ H3
def Ot{o i:Expr}{to ti:TE}{t:a1Y}(ho:PE X o to)(hi:PE X i ti)(hs:Ŷ X t)
  (ha:autoParam (∀v,assign (.Subscript o i pos) X.env v=(do
   let ov <-holding [v] (eval o X.env)
   let iv <-holding [v,ov] (eval i X.env)
   standAt pos
   holding [v,ov,iv] (setItem ov iv v)
   release [v,ov,iv] [])) Q0_._auto_1):PG X (.Subscript o i pos) (a6q to ti t):=by
 intro Y s σ H v u Q I r h;rw[ha];exact M (fG (jG (ho Y s σ H _ I h) λov s1 ⟨x,H1,I1,r1,q1⟩=>M (fG (jG (hi Y s1 σ H1 _ I1 q1) λiv s2 ⟨y,H2,I2,r2,q2⟩=>M (Oc (M (fG (jG (hs Y s2 σ H2 x y v ov iv u _ I2 r1 r2 r q2) λ_ s3 ⟨H3,I3,q3⟩=>wpAny_release ⟨σ,H3,I3,q3⟩))))))))
def a2a(te:TE)(g:TG):TS:=λD σ H=>te σ H λx H1=>g x σ H1 D.nx
def xQ{g:TG}(he:PE X e te)(hg:PG X tg g)(hs:@&(swapsWithSole [tg] e pos.line X.env=pure false))(hw:@&(swappedStores [tg] e X.env=pure none))
  (h1:@&((assignEach [tg] X.env).map (·.2)=[assign tg X.env])):PS X (.Assign [tg] e pos) (a2a te g):=by
 intro Y s σ H D I h;refine wpAny_Assign_stores (jG (he Y s σ H _ I h) λv s1 ⟨x,H1,I1,r1,q1⟩=>?_) hs hw;rw[h1];exact jG (hg Y s1 σ H1 x v _ I1 r1 q1) λ_ s2 q=>q
def bx(i:Nat){x:Str}{pos':Pos}(hN:X.N.Nodup)(he:PE X e te)(hi:@&(X.N[i]?=some x))(hx:autoParam (Loc X.env.scope x) Q1_._auto_1)(hs:@&(swapsWith e (some (.Name x pos')) pos.line X.env=pure false))(hf:autoParam (X.fn x=true\/X.env.scope.names.lookup x=some .local) Q2_._auto_1) :
  PS X (.Assign [.Name x pos'] e pos) (a2a te (Wn i)):=by
 intro Y s σ H D I h;exact wpAny_Assign_Name (jG (he Y s σ H _ I h) λv s1 ⟨y,H1,I1,r1,q1⟩=>Qy I1 hN hi hx r1 (λs2 I2=>⟨_,H1,I2,q1⟩) hf) hs
end
section
variable{X:Cx}
def a2b(c:TT)(tb:TS):TS:=λD σ H=>∃W:Nat->St->Hp->Prop,(∃m,W m σ H)/\∀m σ H,W m σ H->
 c σ H λb H1=>if b=true then ∃N:St->Hp->Prop,(∀σ' H',N σ' H'->∃m',m'<m/\W m' σ' H')/\tb { D with nx:=N,ct:=N,bk:=D.nx} σ H1 else D.nx σ H1
def Ê{tc:TT}(hp:PassesOwn (model X.prog X.w) X.A X.env X.xe)(hc:PT X c tc)(hb:Qz X body tb):PS X (.While c body [] pos) (a2b tc tb):=by
 intro Y s σ H D I h;obtain⟨W,⟨m0,w0⟩,turn⟩:=h;refine wpAny_While (codeAny_whileLoop (λn s'=>∃σ' H',bH X Y σ' H' s'/\W n σ' H') ?_ m0 ⟨σ,H,I,w0⟩);rintro n s1 ⟨σ1,H1,I1,w1⟩;refine Ab hp (jG (hc Y s1 σ1 H1 _ I1 (turn n σ1 H1 w1)) λb s2 ⟨H2,I2,q2⟩=>?_);cases b with
 |true =>
  obtain⟨N,hN,q2⟩:=q2;rw[aG rfl];refine Ab hp (jG (hb Y s2 σ1 H2 _ I2 q2) λf s3 q3=>?_);cases f with
  |next =>
   obtain⟨σ3,H3,I3,n3⟩:=q3;obtain⟨m',hm,w3⟩:=hN σ3 H3 n3;exact⟨m',hm,σ3,H3,I3,w3⟩
  |cont =>
   obtain⟨σ3,H3,I3,n3⟩:=q3;obtain⟨m',hm,w3⟩:=hN σ3 H3 n3;exact⟨m',hm,σ3,H3,I3,w3⟩
  |brk=>exact q3
  |ret v=>exact q3
 |false =>
  rw[aB dh];exact N8 ⟨σ1,H2,I2,q2⟩
end
structure It where
 go:Nat->Hp->Prop
 ZQ:Nat->Hp->V->Hp->Prop
 stop:Nat->Hp->Prop
def Ge(X:Cx)(Y:List (Addr×Obj))(H:Hp)(b:Addr):Prop :=
 H b=none/\b≠X.env.locals/\b∉X.fs/\(b∈X.ex\/X.s₀.heap.objs.size<=b)/\(∀x c,X.env.cells.lookup x=some c->c≠b)/\∀p∈X.pn++Y,p.1≠b
def bH.Gf{X:Cx}{Y:List (Addr×Obj)}{σ:St}{H H':Hp}{s:Shared}{b:Addr}(I:bH X Y σ H s)(hb:s⁻¹<=b)(hn:H' b=none):Ge X Y H' b:=by
 refine⟨hn,gG (jA I.lt hb),I.a4c hb,.inr (cV I.sz hb),λx c e z=>?_,λp hp z=>?_⟩
 ·obtain⟨v,q⟩:=I.cell x c e;exact absurd (jA q.lt (by rw[z];exact hb)) (xK _)
 ·exact absurd (jA (aY (I.pin p hp).1) (by rw[z];exact hb)) (xK _)
structure Turn(P:Program)(w:World)(K:aJ)(tg:Expr)(Z97:It)(fp:List Addr)(it:Addr)(tn:Nat->Heap->Prop):Prop where
 mem:it∈fp
 obj:∀i h,tn i h->∀b∈fp,∃o,h.get? b=some o/\∀v,o.data≠.cell v
 keep:∀i h h',tn i h->(∀b∈fp,∀o,h.get? b=some o->h'.get? b=some o)->tn i h'
 item:∀(X:Cx),X.prog=P->X.w=w->X.K=K->X.calm=true->∀(i:Nat) (Y:List (Addr×Obj)) (s:Shared) (σ:St) (H:Hp) (E:Value->Shared->Prop),bH X Y σ H s->(∀b∈fp,Ge X Y H b)->tn i s.heap->Z97.go i H->
  wpAny (model P w) X.A (pyNext (.ref it)) (λr s1=>∃u,r=some u/\
   wpAny (model P w) X.A (letOwnedTupleGo tg (.ref it) u) (λ_ s2=>∃x H',bH X Y σ H' s2/\cW x u/\Z97.ZQ i H x H'/\tn (i+1) s2.heap/\∀b∈fp,H' b=none) E s1) E s
 done:∀(X:Cx),X.prog=P->X.w=w->X.K=K->X.calm=true->∀(i:Nat) (Y:List (Addr×Obj)) (s:Shared) (σ:St) (H:Hp) (E:Value->Shared->Prop),bH X Y σ H s->(∀b∈fp,Ge X Y H b)->tn i s.heap->Z97.stop i H->
  wpAny (model P w) X.A (pyNext (.ref it)) (λr s1=>r=none/\bH X Y σ H s1) E s
 self:∀(A:Around) (i:Nat) (s:Shared) (Q:Value->Shared->Prop) (E:Value->Shared->Prop),tn i s.heap->Q (.ref it) s->wpAny (model P w) A (pyIter (.ref it)) Q E s
abbrev TI:=St->Hp->(It->Hp->Prop)->Prop
inductive PIE(X:Cx)(Y:List (Addr×Obj))(σ:St)(tg:Expr)(R:It->Hp->Prop)(itv:Value)(s2:Shared):Prop
 |mk (it:Addr) (fp:List Addr) (tn:Nat->Heap->Prop) (Z97:It) (H':Hp) (_:itv=.ref it) (_:bH X Y σ H' s2) (_:Turn X.prog X.w X.K tg Z97 fp it tn) (_:tn 0 s2.heap) (_:(∀b∈fp,Ge X Y H' b)) (_:R Z97 H')
def PI(X:Cx)(tg iter:Expr)(wi:TI):Prop :=
 ∀(Y:List (Addr×Obj)) (s:Shared) (σ:St) (H:Hp) (R:It->Hp->Prop),bH X Y σ H s->wi σ H R->
  wpAny (model X.prog X.w) X.A (eval iter X.env) (λv s1=>wpAny (model X.prog X.w) X.A (pyIter v) (PIE X Y σ tg R) X.xe s1) X.xe s
def Wo{E : Value → Shared → Prop}{s : Shared}{it : Addr}{u : Value}{o : Obj}{n : String}{vs : Array Value}{Q : Unit → Shared → Prop}(ho : s.heap.get? it = some o)(hc : o.cls = .type n)(hd : o.data = .fields vs)
    (hn : ["enumerate", "zip", "dict_itemiterator", "dict_reverseitemiterator", "odict_iterator", "itertools.zip_longest", "itertools.pairwise"].contains n = false) (hQ : Q ⟨⟩ s) : wpAny Z98 A (letOwnedTupleGo tg (.ref it) u) Q E s := by
  unfold letOwnedTupleGo;cases tg <;> first
    | exact aq hQ
    | (cases u <;> first
        | exact aq hQ
        | (refine M (wpAny_load ho ?_)
           rw [hc, hd];show wpAny Z98 A (if (["enumerate", "zip", "dict_itemiterator", "dict_reverseitemiterator", "odict_iterator", "itertools.zip_longest", "itertools.pairwise"].contains n && vs[0]? == some (rawInt _)) = true then _ else _) Q E s;rw [aB (by intro h; rw [hn, Bool.false_and] at h; cases h)];exact aq hQ))
def ŝ(K:aJ)(a:Addr):It :=
 ⟨λi H=>∃xs x,bN K H a xs/\xs[i]?=some x,λi H x H'=>H'=H/\∀xs,bN K H a xs->xs[i]?=some x,λi H=>∃xs,bN K H a xs/\xs.length<=i⟩
def Itt(K:aJ)(a:Addr):It :=
 ⟨λi H=>∃xs x,cQ K H a xs/\xs[i]?=some x,λi H x H'=>H'=H/\∀xs,cQ K H a xs->xs[i]?=some x,λi H=>∃xs,cQ K H a xs/\xs.length<=i⟩
def Wq(lo:Int)(n:Nat):It:=⟨λi _=>i<n,λi H x H'=>H'=H/\x=.int (lo+i),λi _=>n<=i⟩
def Ye{P:Program}{w:World}(a it:Addr):Turn P w K tg (ŝ K a) [it] it (λi h=>h.IsListIter it a i) where
 mem:=by simp
 obj:=λi h st b hb=>by
  have e:b=it:=by simpa using hb
  subst e
  obtain⟨o,e,c,d⟩:=st
  exact⟨o,e,λv z=>by rw[d]at z;cases z⟩
 keep:=λi h h' st k=>st.at λo e=>k it (by simp) o e
 item:=by
  intro X hP hw hK hc i Y s σ H E I hf st hg
  subst hP hw hK
  obtain⟨xs,x,hq,hx⟩:=hg
  obtain⟨bV,rv,p,hz⟩:=I.list hq
  obtain⟨u,hu,ru⟩:=rv.get hx
  obtain⟨f0,f1,f2,f3,f4,f5⟩:=hf it (by simp)
  refine SJ st p.isList (x:=u) (by simpa using hu) λh' st' sb=>?_
  have I1:bH X Y σ H { s with heap:=h'}:=I.turned (t':=s.toks) (λb o hb e=>(sb.2 b hb).trans e) f0 f1 f3 f4 f5
  obtain⟨o,e,c,d⟩:=id st'
  exact⟨u,Z,Wo (s:={ s with heap:=h'}) e c d () ⟨x,H,I1,ru,⟨rfl,λys hy=>by rw[I.xP hy hq];exact hx⟩,st',λb hb=>(hf b hb).1⟩⟩
 done:=by
  intro X hP hw hK hc i Y s σ H E I hf st hg
  subst hP hw hK
  obtain⟨xs,hq,hx⟩:=hg
  obtain⟨bV,rv,p,hz⟩:=I.list hq
  obtain⟨f0,f1,f2,f3,f4,f5⟩:=hf it (by simp)
  have hl:=rv.length
  exact wpAny_pyNext_list_end (I.ok.hd hc) st p.isList (by simp;omega) λh' eb=>⟨Z,I.turned (t':=s.toks) (λb o hb e=>eb b o hb e) f0 f1 f3 f4 f5⟩
 self:=λ_ _ _ _ _ st h=>wpAny_pyIter_listiter st h
def Ui{P:Program}{w:World}(a it:Addr):Turn P w K tg (Itt K a) [it] it (λi h=>h.IsTupleIter it a i) where
 mem:=by simp
 obj:=λi h st b hb=>by
  have e:b=it:=by simpa using hb
  subst e
  obtain⟨o,e,c,d⟩:=st
  exact⟨o,e,λv z=>by rw[d]at z;cases z⟩
 keep:=λi h h' st k=>st.at λo e=>k it (by simp) o e
 item:=by
  intro X hP hw hK hc i Y s σ H E I hf st hg
  subst hP hw hK
  obtain⟨xs,x,hq,hx⟩:=hg
  obtain⟨bV,rv,p,hz⟩:=I.tuple hq
  obtain⟨u,hu,ru⟩:=rv.get hx
  obtain⟨f0,f1,f2,f3,f4,f5⟩:=hf it (by simp)
  refine wpAny_pyNext_tuple_item st (show s.heap.IsTuple a bV.toArray from p) (x:=u) (by simpa using hu) λh' st' sb=>?_
  have I1:bH X Y σ H { s with heap:=h'}:=I.turned (t':=s.toks) (λb o hb e=>(sb.2 b hb).trans e) f0 f1 f3 f4 f5
  obtain⟨o,e,c,d⟩:=id st'
  exact⟨u,Z,Wo (s:={ s with heap:=h'}) e c d () ⟨x,H,I1,ru,⟨rfl,λys hy=>by rw[I.yQ hy hq];exact hx⟩,st',λb hb=>(hf b hb).1⟩⟩
 done:=by
  intro X hP hw hK hc i Y s σ H E I hf st hg
  subst hP hw hK
  obtain⟨xs,hq,hx⟩:=hg
  obtain⟨bV,rv,p,hz⟩:=I.tuple hq
  obtain⟨f0,f1,f2,f3,f4,f5⟩:=hf it (by simp)
  have hl:=rv.length
  exact wpAny_pyNext_tuple_end (I.ok.hd hc) st (show s.heap.IsTuple a bV.toArray from p) (by simp;omega) λh' eb=>⟨Z,I.turned (t':=s.toks) (λb o hb e=>eb b o hb e) f0 f1 f3 f4 f5⟩
 self:=λ_ _ _ _ _ st h=>wpAny_pyIter_tupleiter st h
def Uj{P:Program}{w:World}(it:Addr)(lo:Int)(n:Nat):Turn P w K tg (Wq lo n) [it] it (λi h=>IsRangeIter h it (lo+(i:Nat)*1) ((n:Int)-(i:Nat)) 1) where
 mem:=by simp
 obj:=λi h st b hb=>by
  have e:b=it:=by simpa using hb
  subst e
  exact⟨_,st,λv z=>by
   have z':Data.fields _=Data.cell v:=z
   cases z'⟩
 keep:=λi h h' st k=>k it (by simp) _ st
 item:=by
  intro X hP hw hK hc i Y s σ H E I hf st hg
  subst hP hw hK
  obtain⟨f0,f1,f2,f3,f4,f5⟩:=hf it (by simp)
  have W:=Walks.range (prog:=X.prog) (w:=X.w) (I.ok.hd hc) it lo 1 n
  refine W.item i s _ _ hg st λv h' tk hv st' kk=>?_
  obtain⟨t,rfl⟩:=hv
  have I1:bH X Y σ H { s with heap:=h',toks:=tk}:=I.turned (λb o hb e=>kk b o (by simpa using hb) e) f0 f1 f3 f4 f5
  refine⟨_,Z,Wo (s:={ s with heap:=h',toks:=tk}) (n:="range_iterator") st' rfl rfl () ⟨.int (lo+i),H,I1,⟨t,?_⟩,⟨rfl,rfl⟩,st',λb hb=>(hf b hb).1⟩⟩
  rw[Int.mul_one]
 done:=by
  intro X hP hw hK hc i Y s σ H E I hf st hg
  subst hP hw hK
  obtain⟨f0,f1,f2,f3,f4,f5⟩:=hf it (by simp)
  exact wpAny_pyNext_range_end (I.ok.hd hc) st (by have:n<=i:=hg;omega) λh' eb=>⟨Z,I.turned (t':=s.toks) (λb o hb e=>eb b o hb e) f0 f1 f3 f4 f5⟩
 self:=λ_ _ _ _ _ st h=>wpAny_pyIter_rangeiter st h
section
variable{X:Cx}
def a1p(K:aJ)(tl:TE):TI:=λσ H R=>tl σ H λx H1=>EC (λa=>x=.ref a) (λa=>(∃xs,bN K H1 a xs)) λa=>R (ŝ K a) H1
def a4m(K:aJ)(tl:TE):TI:=λσ H R=>tl σ H λx H1=>EC (λa=>x=.ref a) (λa=>(∃xs,cQ K H1 a xs)) λa=>R (Itt K a) H1
def ŷ{l:Expr}{tl:TE}(hl:PE X l tl):PI X tg l (a1p X.K tl):=by
 intro Y s σ H R I h;refine jG (hl Y s σ H _ I h) λv s1 ⟨x,H1,I1,r1,q1⟩=>?_;obtain⟨a,e,⟨xs,hq⟩,q⟩:=q1;subst e;cases r1;obtain⟨bV,rv,p,hz⟩:=I1.list hq;refine vJ p.isList ⟨s1⁻¹,[s1⁻¹],_,_,H1,Z,I1.kept (t':=s1.toks) λb o e=>bL _ e,Ye a _,⟨_,bW _ Z,Z,Z⟩,λb hb=>?_,q⟩;have e:b=s1⁻¹:=by simpa using hb
 subst e;exact I1.Gf (aM _) (I1.hok.fresh (aM _))
def a2c{l:Expr}{tl:TE}(hl:PE X l tl):PI X tg l (a4m X.K tl):=by
 intro Y s σ H R I h;refine jG (hl Y s σ H _ I h) λv s1 ⟨x,H1,I1,r1,q1⟩=>?_;obtain⟨a,e,⟨xs,hq⟩,q⟩:=q1;subst e;cases r1;obtain⟨bV,rv,p,hz⟩:=I1.tuple hq;refine Dw (show s1.heap.IsTuple a bV.toArray from p) ⟨s1⁻¹,[s1⁻¹],_,_,H1,Z,I1.kept (t':=s1.toks) λb o e=>bL _ e,Ui a _,⟨_,bW _ Z,Z,Z⟩,λb hb=>?_,q⟩;have e:b=s1⁻¹:=by simpa using hb
 subst e;exact I1.Gf (aM _) (I1.hok.fresh (aM _))
def QD{Y:List (Addr×Obj)}{σ:St}{H:Hp}{s:Shared}{R:It->Hp->Prop}{E:Value->Shared->Prop}{lo hi:Int}{t u v:Tok}{tk:Nat}(I:bH X Y σ H s)(h1 : -(2^62)<=lo)(h2:lo<2^62)(h3 : -(2^62)<=hi)(h4:hi<2^62)
  (q:R (Wq lo (hi-lo).toNat) H):wpAny (model X.prog X.w) X.A (pyIter (.ref s⁻¹)) (PIE X Y σ tg R) E { s with heap:=s.heap.push { cls:=.type "range",data:=.fields #[.int lo t,.int hi u,.int 1 v]},toks:=tk}:=by
 refine wpAny_pyIter_range (IsRange.new ..) (small_one h1 h2 h3 h4) ?_;have I1:bH X Y σ H { s with heap:=s.heap.push { cls:=.type "range",data:=.fields #[.int lo t,.int hi u,.int 1 v]},toks:=tk}:=I.kept λb o e=>bL _ e;refine⟨(s.heap.push { cls:=.type "range",data:=.fields #[.int lo t,.int hi u,.int 1 v]}).objs.size,[(s.heap.push { cls:=.type "range",data:=.fields #[.int lo t,.int hi u,.int 1 v]}).objs.size],_,_,H,Z,
  I1.kept (t':=tk) λb o e=>bL _ e,Uj _ lo (hi-lo).toNat,?_,λb hb=>?_,q⟩
 ·have e1:lo+((0:Nat):Int)*1=lo:=by simp
  have e2:(((hi-lo).toNat:Nat):Int)-((0:Nat):Int)=Builtin.Range.rangeSize lo hi 1:=by rw[rangeSize_one];split<;>omega
  show IsRangeIter _ _ (lo+((0:Nat):Int)*1) ((((hi-lo).toNat:Nat):Int)-((0:Nat):Int)) 1;rw[e1,e2];exact bW _ rfl
 ·have e:b=(s.heap.push { cls:=.type "range",data:=.fields #[.int lo t,.int hi u,.int 1 v]}).objs.size:=by simpa using hb
  subst e;exact I1.Gf (aM _) (I1.hok.fresh (aM _))
def a4n(ta:TA):TI:=λσ H R=>ta σ H λvs H1=>EA (λj:Int=>vs=[.int j]) λj=>-(2^62)<=j/\j<2^62/\R (Wq 0 j.toNat) H1
def a4o(ta:TA):TI:=λσ H R=>ta σ H λvs H1=>∃i j:Int,vs=[.int i,.int j]/\(-(2^62)<=i/\i<2^62/\ -(2^62)<=j/\j<2^62)/\R (Wq i (j-i).toNat) H1
def iW{a:Expr}{ta:TA}(hg:Gl X "range")(hm:X.mg "range" = none)(ha:PA X [a] ta)(hs:@&(starEach [a] X.env=[(false,eval a X.env)])):PI X tg (.Call (.Name "range" p) [a] [] pos) (a4n ta):=by
 intro Y s σ H R I h;refine Call_ (vU I hg hm boot_range (zQ (jG (ha pos Y s σ H _ I h) λus s1 ⟨vs,H1,I1,r1,q1⟩=>?_) hs Z));obtain⟨j,e,q1,q2,q⟩:=q1;subst e;cases r1 with
 |cons r rr =>
  cases rr;obtain⟨t,rfl⟩:=r;exact call_range_1 (QD I1 () () q1 q2 (by simpa using q))
def Lq{a b:Expr}{ta:TA}(hg:Gl X "range")(hm:X.mg "range" = none)(ha:PA X [a,b] ta)(hs:@&(starEach [a,b] X.env=[(false,eval a X.env),(false,eval b X.env)]))(hs2:@&(starEach [b] X.env=[(false,eval b X.env)])) :
  PI X tg (.Call (.Name "range" p) [a,b] [] pos) (a4o ta):=by
 intro Y s σ H R I h;refine Call_ (vU I hg hm boot_range (zQ (jG (ha pos Y s σ H _ I h) λus s1 ⟨vs,H1,I1,r1,q1⟩=>?_) (by rw[hs,hs2]) (by rw[hs2];rfl)));obtain⟨i,j,e,⟨q1,q2,q3,q4⟩,q⟩:=q1;subst e;cases r1 with
 |cons r rr =>
  cases rr with
  |cons r' rr =>
   cases rr;obtain⟨t,rfl⟩:=r;obtain⟨t',rfl⟩:=r';exact call_range_2 (QD I1 q1 q2 q3 q4 q)
def a6r(wi:TI)(g:TG)(tb:TS):TS:=λD σ H=>wi σ H λZ97 H1=>∃W:Nat->Nat->St->Hp->Prop,(∃m,W 0 m σ H1)/\∀i m σ H,W i m σ H->
 (Z97.stop i H/\D.nx σ H)\/(Z97.go i H/\∃N:St->Hp->Prop,(∀σ' H',N σ' H'->∃m',m'<m/\W (i+1) m' σ' H')/\∀x H',Z97.ZQ i H x H'->g x σ H' λσ2 H2=>tb { D with nx:=N,ct:=N,bk:=D.nx} σ2 H2)
def vV(fp:List Addr)(h:Heap):List (Addr×Obj):=fp.filterMap λb=>(h.get? b).map λo=>(b,o)
def tO{b:Addr}{o:Obj}(hb:b∈fp)(e:h.get? b=some o):(b,o)∈vV fp h:=Tg.mpr ⟨b,hb,by rw[e];rfl⟩
def Yg{p:Addr×Obj}(hp:p∈vV fp h):p.1∈fp/\h.get? p.1=some p.2:=by
 obtain⟨b,hb,e⟩:=Tg.mp hp;cases q:h.get? b with
 |none=>rw[q]at e;cases e
 |some o =>
  rw[q]at e;have e':(b,o)=p:=dB e;subst e';exact⟨hb,q⟩
def bH.pinned{Y:List (Addr×Obj)}{σ:St}{H:Hp}{s:Shared}(I:bH X Y σ H s)(hf:∀b∈fp,Ge X Y H b)(ho:∀b∈fp,∃o,s.heap.get? b=some o/\∀v,o.data≠.cell v):bH X (Y++vV fp s.heap) σ H s :=
 I.GD λp hp=>(cH.mp hp).elim (λz=>I.pin p (gD _ z)) λz=>by
  obtain⟨hb,e⟩:=Yg z;obtain⟨f0,f1,f2,_⟩:=hf p.1 hb;obtain⟨o,e',d⟩:=ho p.1 hb;rw[e]at e';cases e';exact⟨e,f0,f1,f2,d⟩
def bH.xR{Y pl:List (Addr×Obj)}{σ:St}{H:Hp}{s:Shared}(I:bH X (Y++pl) σ H s):bH X Y σ H s:=I.GD λp hp=>I.pin p (gD _ (rM _ hp))
def jD{iter:Expr}{wi:TI}{g:TG}(hp:PassesOwn (model X.prog X.w) X.A X.env X.xe)(hc:X.calm=true)(hi:PI X tg iter wi)(hg:PG X tg g)(hb:Qz X body tb)
  (hs:autoParam (∀x,foldedSetIterable iter X.env x=pure x) Q0_._auto_1):PS X (.For tg iter body [] pos) (a6r wi g tb):=by
 intro Y s σ H D I h;refine wpAny_For (jG (hi Y s σ H _ I h) λv s1 h1=>jG h1 λitv s2 h2=>?_) hs;obtain⟨it,fp,tn,Z97,H2,e,I2,T,st2,f2,W,⟨m0,w0⟩,turn⟩:=h2;subst e;have stat:∀{H':Hp},(∀b∈fp,H' b=none)->∀b∈fp,Ge X Y H' b:=λhn b hb=>⟨hn b hb,(f2 b hb).2⟩;refine codeAny_forLoop_any (λn s'=>∃i σ' H',bH X Y σ' H' s'/\tn i s'.heap/\(∀b∈fp,H' b=none)/\W i n σ' H') ?_ m0 ⟨0,σ,H2,I2,st2,λb hb=>(f2 b hb).1,w0⟩;rintro n s3 ⟨i,σ3,H3,I3,st3,fr3,w3⟩;rcases turn i n σ3 H3 w3 with⟨stop,qn⟩|⟨go,N,hN,step⟩
 ·refine Ab hp (jG (T.done X Z Z Z hc i Y s3 σ3 H3 X.xe I3 (stat fr3) st3 stop) λr s4 ⟨hr,I4⟩=>?_);subst hr;exact N8 ⟨σ3,H3,I4,qn⟩
 ·refine Ab hp (jG (T.item X Z Z Z hc i Y s3 σ3 H3 X.xe I3 (stat fr3) st3 go) λr s4 ⟨u,hr,h4⟩=>?_);subst hr;refine Ab hp (jG h4 λ_ s5 ⟨x,H5,I5,r5,y5,st5,fr5⟩=>?_);have I5':=I5.pinned (stat fr5) (T.obj _ _ st5);refine Ab hp (jG (hg _ s5 σ3 H5 x u _ I5' r5 (step x H5 y5)) λ_ s6 ⟨σ6,H6,I6,q6⟩=>Ab hp (jG (hb _ s6 σ6 H6 _ I6 q6) λf s7 q7=>?_));have again:∀{Wr:St}{H7:Hp},bH X (Y++vV fp s5.heap) Wr H7 s7->N Wr H7->∃m,m<n/\∃i σ' H',bH X Y σ' H' s7/\tn i s7.heap/\(∀b∈fp,H' b=none)/\W i m σ' H':=λ{Wr H7} I7 n7=>by
   obtain⟨m',hm,w7⟩:=hN Wr H7 n7;refine⟨m',hm,i+1,Wr,H7,I7.xR,T.keep _ _ _ st5 λb hb o e=>(I7.pin (b,o) (gD _ (gD _ (tO hb e)))).1,λb hb=>?_,w7⟩;obtain⟨o,e,d⟩:=T.obj _ _ st5 b hb;exact(I7.pin (b,o) (gD _ (gD _ (tO hb e)))).2.1
  cases f with
  |next=>obtain⟨Wr,H7,I7,n7⟩:=q7;exact again I7 n7
  |cont=>obtain⟨Wr,H7,I7,n7⟩:=q7;exact again I7 n7
  |brk=>obtain⟨Wr,H7,I7,q7⟩:=q7;exact⟨Wr,H7,I7.xR,q7⟩
  |ret v=>obtain⟨x7,Wr,H7,I7,r7,q7⟩:=q7;exact⟨x7,Wr,H7,I7.xR,r7,q7⟩
end
def BJ{a:Addr}{xs:List V}{g:TG}{σ:St}{H:Hp}(Pv:Nat->St->Hp->Prop)(h0:Pv 0 σ H)(hl:∀i σ H,i<=xs.length->Pv i σ H->bN K H a xs)
  (hs:∀i x σ H,xs[i]?=some x->Pv i σ H->g x σ H λσ2 H2=>tb { D with nx:=Pv (i+1),ct:=Pv (i+1),bk:=D.nx} σ2 H2) (hd:∀σ H,Pv xs.length σ H->D.nx σ H) :
  ∃W:Nat->Nat->St->Hp->Prop,(∃m,W 0 m σ H)/\∀i m σ H,W i m σ H->
   ((ŝ K a).stop i H/\D.nx σ H)\/((ŝ K a).go i H/\∃N:St->Hp->Prop,(∀σ' H',N σ' H'->∃m',m'<m/\W (i+1) m' σ' H')/\∀x H',(ŝ K a).ZQ i H x H'->g x σ H' λσ2 H2=>tb { D with nx:=N,ct:=N,bk:=D.nx} σ2 H2):=by
 refine⟨λi m σ H=>m=xs.length-i/\i<=xs.length/\Pv i σ H,⟨xs.length,by simp,dw _,h0⟩,?_⟩;rintro i m σ H ⟨rfl,hi,p⟩;have q:=hl i σ H hi p;by_cases hlt:i<xs.length
 ·refine .inr ⟨⟨xs,xs[i],q,by simp[hlt]⟩,Pv (i+1),λσ' H' p'=>⟨xs.length-(i+1),(),Z,hlt,p'⟩,λx H' y=>?_⟩;obtain⟨e,y⟩:=y;subst e;exact hs i x σ _ (y xs q) p
 ·have e:i=xs.length:=()
  subst e;exact .inl ⟨⟨xs,q,aM _⟩,hd σ H p⟩
def Ÿ{a:Addr}{xs:List V}{g:TG}{σ:St}{H:Hp}(Pv:Nat->St->Hp->Prop)(h0:Pv 0 σ H)(hl:∀i σ H,i<=xs.length->Pv i σ H->cQ K H a xs)
  (hs:∀i x σ H,xs[i]?=some x->Pv i σ H->g x σ H λσ2 H2=>tb { D with nx:=Pv (i+1),ct:=Pv (i+1),bk:=D.nx} σ2 H2) (hd:∀σ H,Pv xs.length σ H->D.nx σ H) :
  ∃W:Nat->Nat->St->Hp->Prop,(∃m,W 0 m σ H)/\∀i m σ H,W i m σ H->
   ((Itt K a).stop i H/\D.nx σ H)\/((Itt K a).go i H/\∃N:St->Hp->Prop,(∀σ' H',N σ' H'->∃m',m'<m/\W (i+1) m' σ' H')/\∀x H',(Itt K a).ZQ i H x H'->g x σ H' λσ2 H2=>tb { D with nx:=N,ct:=N,bk:=D.nx} σ2 H2):=by
 refine⟨λi m σ H=>m=xs.length-i/\i<=xs.length/\Pv i σ H,⟨xs.length,by simp,dw _,h0⟩,?_⟩;rintro i m σ H ⟨rfl,hi,p⟩;have q:=hl i σ H hi p;by_cases hlt:i<xs.length
 ·refine .inr ⟨⟨xs,xs[i],q,by simp[hlt]⟩,Pv (i+1),λσ' H' p'=>⟨xs.length-(i+1),(),Z,hlt,p'⟩,λx H' y=>?_⟩;obtain⟨e,y⟩:=y;subst e;exact hs i x σ _ (y xs q) p
 ·have e:i=xs.length:=()
  subst e;exact .inl ⟨⟨xs,q,aM _⟩,hd σ H p⟩
def yR{lo:Int}{g:TG}{σ:St}{H:Hp}(Pv:Nat->St->Hp->Prop)(h0:Pv 0 σ H)
  (hs:∀i σ H,i<n->Pv i σ H->g (.int (lo+i)) σ H λσ2 H2=>tb { D with nx:=Pv (i+1),ct:=Pv (i+1),bk:=D.nx} σ2 H2) (hd:∀σ H,Pv n σ H->D.nx σ H) :
  ∃W:Nat->Nat->St->Hp->Prop,(∃m,W 0 m σ H)/\∀i m σ H,W i m σ H->
   ((Wq lo n).stop i H/\D.nx σ H)\/((Wq lo n).go i H/\∃N:St->Hp->Prop,(∀σ' H',N σ' H'->∃m',m'<m/\W (i+1) m' σ' H')/\∀x H',(Wq lo n).ZQ i H x H'->g x σ H' λσ2 H2=>tb { D with nx:=N,ct:=N,bk:=D.nx} σ2 H2):=by
 refine⟨λi m σ H=>m=n-i/\i<=n/\Pv i σ H,⟨n,by simp,dw _,h0⟩,?_⟩;rintro i m σ H ⟨rfl,hi,p⟩;by_cases hlt:i<n
 ·refine .inr ⟨hlt,Pv (i+1),λσ' H' p'=>⟨n-(i+1),(),Z,hlt,p'⟩,λx H' y=>?_⟩;obtain⟨e,y⟩:=y;subst e y;exact hs i σ _ hlt p
 ·have e:i=n:=()
  subst e;exact .inl ⟨aM _,hd σ H p⟩
abbrev R2:=V->V->Hp->VK->Prop
def sX(X:Cx)(f:Value->Value->Sem Value)(r:R2):Prop :=
 ∀(Y:List (Addr×Obj)) (s:Shared) (σ:St) (H:Hp) (x y:V) (v u:Value) (Q:VK),bH X Y σ H s->cW x v->cW y u->r x y H Q->
  wpAny (model X.prog X.w) X.A (f v u) (EP X Y σ Q) X.xe s
def jT(X:Cx)(f:Value)(r:List V->Hp->VK->Prop):Prop :=
 ∀(Y:List (Addr×Obj)) (s:Shared) (σ:St) (H:Hp) (xs:List V) (us:List Value) (Q:VK),bH X Y σ H s->cM xs us->r xs H Q->
  wpAny (model X.prog X.w) X.A (call f us) (EP X Y σ Q) X.xe s
def a6s(X:Cx)(r:V->Hp->(Bool->Hp->Prop)->Prop):Prop :=
 ∀(Y:List (Addr×Obj)) (s:Shared) (σ:St) (H:Hp) (x:V) (v:Value) (Q:Bool->Hp->Prop),bH X Y σ H s->cW x v->r x H Q->
  wpAny (model X.prog X.w) X.A (truthy v) (TP X Y σ Q) X.xe s
def tOp(r:R2)(ta tb:TE):TE:=λσ H Q=>ta σ H λx H1=>tb σ H1 λy H2=>r x y H2 Q
inductive rI(C:Int->Int->Prop)(g:Int->Int->V)(x:V)(y:V)(H:Hp)(Q:VK):Prop
 |mk (i j:_) (_:x=.int i) (_:y=.int j) (_:C i j) (_:Q (g i j) H)
inductive rI0(g:Int->Int->V)(x:V)(y:V)(H:Hp)(Q:VK):Prop
 |mk (i j:_) (_:x=.int i) (_:y=.int j) (_:Q (g i j) H)
section
variable{X:Cx}{a b:Expr}{tb tc:TE}
def a2d(ha:PE X a ta)(hb:PE X b tb){Y:List (Addr×Obj)}{s:Shared}{σ:St}{H:Hp}{R:V->V->Hp->Prop}(I:bH X Y σ H s)
  (h:ta σ H λx H1=>tb σ H1 λy H2=>R x y H2) {Q:Value->Shared->Prop}{f:Value->Value->Sem Value}
  (hf:∀v u s2 x y H2,bH X Y σ H2 s2->cW x v->cW y u->R x y H2->wpAny (model X.prog X.w) X.A (f v u) Q X.xe s2) :
  wpAny (model X.prog X.w) X.A (eval a X.env) (λv s₁=>wpAny (model X.prog X.w) X.A (eval b X.env) (λu s₂=>wpAny (model X.prog X.w) X.A (f v u) Q X.xe s₂) X.xe s₁) X.xe s:=by
 exact jG (ha Y s σ H _ I h) λv s1 ⟨x,H1,I1,r1,q1⟩=>jG (hb Y s1 σ H1 _ I1 q1) λu s2 ⟨y,H2,I2,r2,q2⟩=>hf v u s2 x y H2 I2 r1 r2 q2
def aZ{op:Operator}{r:R2}(ho:sX X (binaryOp op) r)(ha:PE X a ta)(hb:PE X b tb):PE X (.BinOp a op b pos) (tOp r ta tb):=by
 intro Y s σ H Q I h;exact wpAny_BinOp (a2d ha hb I h λv u s2 x y H2 I2 rx ry q=>ho Y s2 σ H2 x y v u Q I2 rx ry q)
def opI{f:Value->Value->Sem Value}{C:Int->Int->Prop}{g:Int->Int->Int}
  (rule:∀(i j:Int) (t u:Tok) (s:Shared) (Q:Value->Shared->Prop) (E:Value->Shared->Prop),C i j->Q (.int (g i j) s.toks) { s with toks:=s.toks+1}->wpAny (model X.prog X.w) X.A (f (.int i t) (.int j u)) Q E s) :
  sX X f (rI C λi j=>.int (g i j)):=by
 intro Y s σ H x y v u Q I rx ry h;obtain⟨i,j,rfl,rfl,hc,q⟩:=h;obtain⟨t,rfl⟩:=rx;obtain⟨t',rfl⟩:=ry;exact rule i j t t' s _ _ hc ⟨.int (g i j),H,I.tok _,⟨_,Z⟩,q⟩
def a4p{f:Value->Value->Sem Value}{g:Int->Int->Int}
  (rule:∀(i j:Int) (t u:Tok) (s:Shared) (Q:Value->Shared->Prop) (E:Value->Shared->Prop),Q (.int (g i j) s.toks) { s with toks:=s.toks+1}->wpAny (model X.prog X.w) X.A (f (.int i t) (.int j u)) Q E s) :
  sX X f (rI0 λi j=>.int (g i j)):=by
 intro Y s σ H x y v u Q I rx ry h;obtain⟨i,j,rfl,rfl,q⟩:=h;obtain⟨t,rfl⟩:=rx;obtain⟨t',rfl⟩:=ry;exact rule i j t t' s _ _ ⟨.int (g i j),H,I.tok _,⟨_,Z⟩,q⟩
def Ź{f:Value->Value->Sem Value}{g:Int->Int->Bool}
  (rule:∀(i j:Int) (t u:Tok) (s:Shared) (Q:Value->Shared->Prop) (E:Value->Shared->Prop),Q (.bool (g i j)) s->wpAny (model X.prog X.w) X.A (f (.int i t) (.int j u)) Q E s) :
  sX X f (rI0 λi j=>.bl (g i j)):=by
 intro Y s σ H x y v u Q I rx ry h;obtain⟨i,j,rfl,rfl,q⟩:=h;obtain⟨t,rfl⟩:=rx;obtain⟨t',rfl⟩:=ry;exact rule i j t t' s _ _ ⟨.bl (g i j),H,I,Z,q⟩
def a6t(i j:Int):Prop:=0<j/\j<1073741824
def a6u(i j:Int):Prop:=0<=j/\j<=1000000/\i.natAbs<2^64
def a2e(i j:Int):Prop:=(-(2^64)<i/\i<2^64)\/(-(2^64)<j/\j<2^64)
def a2e.ok{i j:Int}(h:a2e i j):IntMulOk i j:=by
 rcases h with⟨h1,h2⟩|⟨h1,h2⟩
 ·exact .of_left (intBits_le_64 h1 h2)
 ·exact .of_right (intBits_le_64 h1 h2)
def fj:sX X (binaryOp .Add) (rI0 λi j=>.int (i+j)):=a4p λ_ _ _ _ _ _ _ q=>add_int q
def Ou:sX X (binaryOp .Sub) (rI0 λi j=>.int (i-j)):=a4p λ_ _ _ _ _ _ _ q=>sub_int q
def tQ:sX X (binaryOp .Mult) (rI a2e λi j=>.int (i*j)):=opI λ_ _ _ _ _ _ _ hc q=>mul_int q hc.ok
def GF:sX X (binaryOp .FloorDiv) (rI a6t λi j=>.int (i/j)):=opI λi j _ _ _ _ _ hc q=>by
 have h1:(0:Int)<j:=hc.1;have h2:j<1073741824:=hc.2;exact floordiv_int () (by rw[Int.fdiv_eq_ediv_of_nonneg i ()];exact q) (.inl (PyProof.noPylong_small ()))
def gW:sX X (binaryOp .Mod) (rI (λ_ j=>0<j) λi j=>.int (i%j)):=opI λi j _ _ _ _ _ hc q=>by
 have h1:(0:Int)<j:=hc;exact mod_int' () (by rw[Int.fmod_eq_emod_of_nonneg i ()];exact q)
def Uk:sX X (binaryOp .Pow) (rI a6u λi j=>.int (i^j.toNat)):=opI λ_ _ _ _ _ _ _ hc q=>pow_int_small hc.1 hc.2.1 hc.2.2 q
end
def a4q:V->V->Bool
 |.non,.non=>true |.non,.int _=>true |.int _,.non=>true |.non,.bl _=>true |.bl _,.non=>true |.non,.str _=>true |.str _,.non=>true
 |.int _,.int _=>true |.bl _,.bl _=>true |.str _,.str _=>true |.Wl _,.Wl _=>true
 |.int _,.str _=>true |.str _,.int _=>true |.bl _,.str _=>true |.str _,.bl _=>true
 |_,_=>false
def rEq:R2:=λx y H Q=>a4q x y=true/\Q (.bl (decide (x=y))) H
def rNe:R2:=λx y H Q=>a4q x y=true/\Q (.bl (!decide (x=y))) H
def Ws{i j:Int}:decide (V.int i=V.int j)=(i==j):=by
 rw[tE];simp
def Ë{i j:Bool}:decide (V.bl i=V.bl j)=(i==j):=by
 rw[tE];simp
def Wt{i j:Str}:decide (V.str i=V.str j)=(i==j):=by
 rw[tE];simp
def Wu{i j:Array UInt8}:decide (V.Wl i=V.Wl j)=(i.toList==j.toList):=by
 rw[tE];cases i;cases j;simp
section
variable{X:Cx}{a b:Expr}{tb tc:TE}
def eV{Y:List (Addr×Obj)}{σ:St}{H:Hp}{s:Shared}{Q:VK}{k k':Bool}(I:bH X Y σ H s)(q:Q (.bl k) H)(e:k=k'):EP X Y σ Q (.bool k') s:=by
 subst e;exact⟨.bl k,H,I,Z,q⟩
def jE:sX X (compareOp .Eq) rEq:=by
 intro Y s σ H x y v u Q I rx ry h;obtain⟨hs,q⟩:=h;cases x with
 |non =>
  cases rx;cases y with
  |non=>cases ry;exact PySem.EqNone.eq_none_none (eV I q (by simp))
  |bl j=>cases ry;exact PySem.EqNone.eq_none_bool (eV I q (by simp))
  |int j=>obtain⟨t',rfl⟩:=ry;exact PySem.EqNone.eq_none_int (eV I q (by simp))
  |str j=>obtain⟨t',rfl⟩:=ry;exact PySem.EqNone.eq_none_str (eV I q (by simp))
  |_=>exact absurd (show false=true from hs) dh
 |bl i =>
  cases rx;cases y with
  |non=>cases ry;exact PySem.EqNone.eq_bool_none (eV I q (by simp))
  |bl j=>cases ry;exact eq_bool (eV I q Ë)
  |str j=>obtain⟨t',rfl⟩:=ry;exact PySem.EqMixed.eq_bool_str (eV I q (by simp))
  |_=>exact absurd (show false=true from hs) dh
 |int i =>
  obtain⟨t,rfl⟩:=rx;cases y with
  |non=>cases ry;exact PySem.EqNone.eq_int_none (eV I q (by simp))
  |int j=>obtain⟨t',rfl⟩:=ry;exact eq_int (eV I q Ws)
  |str j=>obtain⟨t',rfl⟩:=ry;exact PySem.EqMixed.eq_int_str (eV I q (by simp))
  |_=>exact absurd (show false=true from hs) dh
 |str i =>
  obtain⟨t,rfl⟩:=rx;cases y with
  |non=>cases ry;exact PySem.EqNone.eq_str_none (eV I q (by simp))
  |bl j=>cases ry;exact PySem.EqMixed.eq_str_bool (eV I q (by simp))
  |int j=>obtain⟨t',rfl⟩:=ry;exact PySem.EqMixed.eq_str_int (eV I q (by simp))
  |str j=>obtain⟨t',rfl⟩:=ry;exact eq_str (eV I q Wt)
  |_=>exact absurd (show false=true from hs) dh
 |Wl i =>
  obtain⟨t,rfl⟩:=rx;cases y with
  |Wl j=>obtain⟨t',rfl⟩:=ry;exact PySem.W.eq_bytes (eV I q Wu)
  |_=>exact absurd (show false=true from hs) dh
 |_=>cases y<;>exact absurd (show false=true from hs) dh
def Lr:sX X (compareOp .NotEq) rNe:=by
 intro Y s σ H x y v u Q I rx ry h;obtain⟨hs,q⟩:=h;cases x with
 |non =>
  cases rx;cases y with
  |non=>cases ry;exact PySem.EqNone.ne_none_none (eV I q (by simp))
  |bl j=>cases ry;exact PySem.EqNone.ne_none_bool (eV I q (by simp))
  |int j=>obtain⟨t',rfl⟩:=ry;exact PySem.EqNone.ne_none_int (eV I q (by simp))
  |str j=>obtain⟨t',rfl⟩:=ry;exact PySem.EqNone.ne_none_str (eV I q (by simp))
  |_=>exact absurd (show false=true from hs) dh
 |bl i =>
  cases rx;cases y with
  |non=>cases ry;exact PySem.EqNone.ne_bool_none (eV I q (by simp))
  |bl j=>cases ry;exact ne_bool (eV I q (congrArg not Ë))
  |str j=>obtain⟨t',rfl⟩:=ry;exact PySem.EqMixed.ne_bool_str (eV I q (by simp))
  |_=>exact absurd (show false=true from hs) dh
 |int i =>
  obtain⟨t,rfl⟩:=rx;cases y with
  |non=>cases ry;exact PySem.EqNone.ne_int_none (eV I q (by simp))
  |int j=>obtain⟨t',rfl⟩:=ry;exact ne_int (eV I q (congrArg not Ws))
  |str j=>obtain⟨t',rfl⟩:=ry;exact PySem.EqMixed.ne_int_str (eV I q (by simp))
  |_=>exact absurd (show false=true from hs) dh
 |str i =>
  obtain⟨t,rfl⟩:=rx;cases y with
  |non=>cases ry;exact PySem.EqNone.ne_str_none (eV I q (by simp))
  |bl j=>cases ry;exact PySem.EqMixed.ne_str_bool (eV I q (by simp))
  |int j=>obtain⟨t',rfl⟩:=ry;exact PySem.EqMixed.ne_str_int (eV I q (by simp))
  |str j=>obtain⟨t',rfl⟩:=ry;exact ne_str (eV I q (congrArg not Wt))
  |_=>exact absurd (show false=true from hs) dh
 |Wl i =>
  obtain⟨t,rfl⟩:=rx;cases y with
  |Wl j=>obtain⟨t',rfl⟩:=ry;exact PySem.W.ne_bytes (eV I q (congrArg not Wu))
  |_=>exact absurd (show false=true from hs) dh
 |_=>cases y<;>exact absurd (show false=true from hs) dh
def IK:sX X (compareOp .Lt) (rI0 λi j=>.bl (decide (i<j))):=Ź λ_ _ _ _ _ _ _ q=>lt_int q
def a4r:sX X (compareOp .LtE) (rI0 λi j=>.bl (decide (i<=j))):=Ź λ_ _ _ _ _ _ _ q=>le_int q
def Fj:sX X (compareOp .Gt) (rI0 λi j=>.bl (decide (j<i))):=Ź λ_ _ _ _ _ _ _ q=>gt_int q
def a4s:sX X (compareOp .GtE) (rI0 λi j=>.bl (decide (j<=i))):=Ź λ_ _ _ _ _ _ _ q=>ge_int q
def Ì : sX X (compareOp .Is) (fun x y H Q => y = .non ∧ Q (.bl (decide (x = .non))) H) := by
  intro Y s σ H x y v u Q I rx ry h;obtain ⟨rfl, q⟩ := h;cases ry;refine is_none_gen (eV I q ?_);cases x <;> first
    | (cases rx; rfl)
    | (obtain ⟨t, rfl⟩ := rx; rfl)
def Wv : sX X (compareOp .IsNot) (fun x y H Q => y = .non ∧ Q (.bl (!decide (x = .non))) H) := by
  intro Y s σ H x y v u Q I rx ry h;obtain ⟨rfl, q⟩ := h;cases ry;refine isnot_none_gen (eV I q ?_);cases x <;> first
    | (cases rx; rfl)
    | (obtain ⟨t, rfl⟩ := rx; rfl)
def Í(b:Expr)(h:@&(op≠.In))(h2:@&(op≠.NotIn)):behindInMarks op b=false:=by
 have e1:(op==CmpOp.In)=false:=by cases op<;>first|rfl|exact absurd Z h
 have e2:(op==CmpOp.NotIn)=false:=by cases op<;>first|rfl|exact absurd Z h2
 cases b with|Set=>(show (_&&(_||_)&&_)=false;rw[e1,e2,Bool.or_self,Bool.and_false,Bool.false_and])|_=>rfl
def vW{r:R2}(ho:sX X (compareOp op) r)(ha:PE X a ta)(hb:PE X b tb)(hm:behindInMarks op b=false:=by exact Í _):PE X (.Compare a [op] [b] pos) (tOp r ta tb):=by
 intro Y s σ H Q I h;exact wpAny_Compare1 (a2d ha hb I h λv u s2 x y H2 I2 rx ry q=>ho Y s2 σ H2 x y v u Q I2 rx ry q) hm
def a4t(t:TE):TT:=λσ H Q=>t σ H λx H'=>EA (λk=>x=.bl k) λk=>Q k H'
def aN{r:R2}(ho:sX X (compareOp op) r)(ha:PE X a ta)(hb:PE X b tb)(hm:behindInMarks op b=false:=by exact Í _):PT X (.Compare a [op] [b] pos) (a4t (tOp r ta tb)):=by
 intro Y s σ H Q I h;refine wpAny_isTrue_Compare1 (jG (ha Y s σ H _ I h) λv s1 ⟨x,H1,I1,r1,q1⟩=>jG (hb Y s1 σ H1 _ I1 q1) λu s2 ⟨y,H2,I2,r2,q2⟩ =>
  jG (ho Y s2 σ H2 x y v u _ I2 r1 r2 q2) λc s3 ⟨z,H3,I3,r3,k,e,q3⟩=>?_) hm
 subst e;cases r3;exact DG ⟨H3,I3,q3⟩
def a2f(r r':R2)(ta tb tc:TE):TE:=λσ H Q=>ta σ H λx H1=>tb σ H1 λy H2=>r x y H2 λz H3=>∃k,z=.bl k/\
 (if k=true then tc σ H3 λw' H4=>r' y w' H4 Q else Q (.bl false) H3)
def Î{op':CmpOp}{r r':R2}(ho:sX X (compareOp op) r)(ho':sX X (compareOp op') r')(ha:PE X a ta)(hb:PE X b tb)(hc:PE X c tc)
  (hm:lastMarks [op,op'] [b,c]=false:=by with_unfolding_all rfl):PE X (.Compare a [op,op'] [b,c] pos) (a2f r r' ta tb tc):=by
 intro Y s σ H Q I h;refine Compare_chain (jG (ha Y s σ H _ I h) λv s1 ⟨x,H1,I1,r1,q1⟩=>chain_link (jG (hb Y s1 σ H1 _ I1 q1) λu s2 ⟨y,H2,I2,r2,q2⟩ =>
  jG (ho Y s2 σ H2 x y v u _ I2 r1 r2 q2) λd s3 ⟨z,H3,I3,r3,k,e,q3⟩=>?_)) hm
 subst e;cases r3;refine DG ?_;cases k with
 |false=>exact ite_ff ⟨.bl false,H3,I3,Z,q3⟩
 |true=>exact ite_tt (chain_last (jG (hc Y s3 σ H3 _ I3 q3) λw' s4 ⟨z',H4,I4,r4,q4⟩=>ho' Y s4 σ H4 y z' u w' Q I4 r2 r4 q4))
def Ï(K:aJ)(x:V)(H:Hp)(k:Bool):Prop :=
 match x with
 |.non=>k=false
 |.bl b=>k=b
 |.int i=>k=(i != 0)
 |.str y=>y.length<=sizeLine/\k=((y.length:Int) != 0)
 |.Wl y=>y.size<=sizeLine/\k=((y.size:Int) != 0)
 |.ref p=>(∃xs,bN K H p xs/\k = !xs.isEmpty)\/(∃xs,cQ K H p xs/\k = !xs.isEmpty)\/∃O,H p=some (.dK O)/\k = !O.isEmpty
 |_=>False
def Ul{κ:Type}{O:List (κ×V)}{vs:List (κ×Value)}(r:KV O vs):(!vs.isEmpty) = !O.isEmpty:=by
 cases r<;>rfl
def IV{xs:List V}{bV:List Value}(r:cM xs bV):(!bV.toArray.isEmpty) = !xs.isEmpty:=by
 cases r<;>simp
def IW:(sizeLine:Nat)<2^63:=by rw[jC];decide
def Um:a6s X (λx H Q=>∃k,Ï X.K x H k/\Q k H):=by
 intro Y s σ H x v Q I rx h;obtain⟨k,e,q⟩:=h;have hl:=IW;have hs:sizeLine=16777216:=jC;cases x with
 |non =>
  cases rx;have e':k=false:=e;subst e';exact truthy_none ⟨H,I,q⟩
 |bl b =>
  cases rx;have e':k=b:=e;subst e';exact DG ⟨H,I,q⟩
 |int i =>
  obtain⟨t,rfl⟩:=rx;have e':k=(i != 0):=e;subst e';exact PySem.P.truthy_int ⟨H,I,q⟩
 |str y =>
  obtain⟨t,rfl⟩:=rx;obtain⟨hy,e'⟩:y.length<=sizeLine/\k=((y.length:Int) != 0):=e;subst e';exact PySem.P.truthy_str () ⟨H,I.tok _,q⟩
 |Wl y =>
  obtain⟨t,rfl⟩:=rx;obtain⟨hy,e'⟩:y.size<=sizeLine/\k=((y.size:Int) != 0):=e;subst e';exact PySem.W.truthy_bytes () ⟨H,I.tok _,q⟩
 |ref p =>
  cases rx;have e':(∃xs,bN X.K H p xs/\k = !xs.isEmpty)\/(∃xs,cQ X.K H p xs/\k = !xs.isEmpty)\/∃O,H p=some (.dK O)/\k = !O.isEmpty:=e;rcases e' with⟨xs,hx,e'⟩|⟨xs,hx,e'⟩|⟨O,hx,e'⟩
  ·subst e';obtain⟨bV,r,pl,hz⟩:=I.list hx;have hlen:=r.length;exact wpAny_truthy_list pl.isList (by simp only[List.size_toArray];omega) ⟨H,I.tok _,by rw[IV r];exact q⟩
  ·subst e';obtain⟨bV,r,pl,hz⟩:=I.tuple hx;have hlen:=r.length;exact truthy_tuple pl (by simp only[List.size_toArray];omega) ⟨H,I.tok _,by rw[IV r];exact q⟩
  ·subst e';obtain⟨hz,hS,vs,r,m⟩:O.length<=sizeLine/\(p==sysModules)=false/\∃vs,KV O vs/\s.heap.DictOf (fC X.prog X.w) p vs:=I.hok p _ hx;have hlen:O.length=vs.length:=aV r;exact wpAny_truthy_dict hS m () ⟨H,I.tok _,by rw[Ul r];exact q⟩
 |_=>exact(show False from e).elim
def Ð(ha:PE X a ta)(he:∀whole,isTrue a X.env whole=(do let v <-whole;standAt a.pos;holding [v] (truthy v))) :
  PT X a (λσ H Q=>ta σ H λx H'=>∃k,Ï X.K x H' k/\Q k H'):=by
 intro Y s σ H Q I h;exact isTrue_plain (jG (ha Y s σ H _ I h) λv s1 ⟨x,H1,I1,r1,q1⟩=>Um Y s1 σ H1 x v Q I1 r1 q1) (he _)
def vals1{x:V}{us:List Value}(r:cM [x] us):∃u,us=[u]/\cW x u:=by
 cases r with
 |cons r1 r2=>cases r2;exact⟨_,Z,r1⟩
def vals2{x y:V}{us:List Value}(r:cM [x,y] us):∃u w',us=[u,w']/\cW x u/\cW y w':=by
 cases r with
 |cons r1 r2 =>
  cases r2 with
  |cons r3 r4=>cases r4;exact⟨_,_,Z,r1,r3⟩
def Yh(hc:X.calm=true):jT X (.builtin "max") (λxs H Q=>∃i j,xs=[.int i,.int j]/\Q (.int (if j>i then j else i)) H):=by
 intro Y s σ H xs us Q I r h;obtain⟨i,j,rfl,q⟩:=h;obtain⟨u,w',rfl,⟨t,rfl⟩,⟨t',rfl⟩⟩:=vals2 r;refine max_two_ints (I.ok.hd hc) λh' tk k=>⟨_,H,I.kept k,?_,q⟩;by_cases hj:j>i
 ·rw[aG hj,aG hj];exact⟨_,Z⟩
 ·rw[aB hj,aB hj];exact⟨_,Z⟩
def Ls(hc:X.calm=true):jT X (.builtin "min") (λxs H Q=>∃i j,xs=[.int i,.int j]/\Q (.int (if j<i then j else i)) H):=by
 intro Y s σ H xs us Q I r h;obtain⟨i,j,rfl,q⟩:=h;obtain⟨u,w',rfl,⟨t,rfl⟩,⟨t',rfl⟩⟩:=vals2 r;refine min_two_ints (I.ok.hd hc) λh' tk k=>⟨_,H,I.kept k,?_,q⟩;by_cases hj:j<i
 ·rw[aG hj,aG hj];exact⟨_,Z⟩
 ·rw[aB hj,aB hj];exact⟨_,Z⟩
end
structure Uo(h:Heap)(x dx C:Addr)(mA:Str->Option Value):Prop where
 obj:h.get? x=some (PySem.W.instObj C dx)
 ns:h.Ns1 dx mA
 ne:dx≠x
set_option tactic.hygienic true in
def Yi{dx:Addr}(n:h.Ns1 dx mA):∃od,h.get? dx=some od/\∀name,PySem.W.lookIn name od=some (mA name):=by
 obtain⟨o,es,ep,ho,hd,hk,_,hm⟩:=n;refine⟨o,ho,λname=>?_⟩;have e:=hm name;unfold nsFind findBy at e;rw[<-Array.find?_toList]at e;unfold PySem.W.lookIn;rw[hd];dsimp only;split
 ·rename_i y q;rw[q]at e;exact congrArg some e
 ·rename_i q;rw[q]at e;have a:es.toList.any (·.refKey)=false:=by
   rw[List.any_eq_false];intro y hy;obtain⟨z,t,hkey⟩:=hk y (Array.mem_toList_iff.mp hy);simp[DictEntry.refKey,hkey]
  have a':¬es.toList.any (·.refKey)=true:=by rw[a];exact dh
  rw[aB a'];exact congrArg some e
def Uo.look{x dx C:Addr}(I:Uo h x dx C mA):∃od,PySem.W.InstAt h x (PySem.W.instObj C dx) C (some od)/\∀name,PySem.W.lookIn name od=some (mA name) :=
 let⟨od,ho,hl⟩:=Yi I.ns
 ⟨od,⟨I.obj,Z,Z,ho⟩,hl⟩
section
variable{prog:Program}{w:World}{E:Value->Shared->Prop}{s:Shared}{x dx C f:Addr}{name:Str}{v:Value}
def get_map{expr:Bool}{Q:Value->Shared->Prop}(X:K.In s.heap)(I:Uo s.heap x dx C mA)(hg:PySem.W.plainGet K C name=true)(hh:PySem.W.hasDictIn K C=true)
  (ha:PySem.W.findIn K (.ref C) name=some none) (hv:mA name=some v) (hv':PySem.W.handedIn v=true) (h:Q v { s with toks:=s.toks+1}) :
  wpAny (model prog w) A (getAttr (.ref x) name expr) Q E s:=by
 obtain⟨od,Z97,hl⟩:=I.look;exact PySem.W.get_value X Z97 (Td hg).1 (PySem.W.findObj_own hh ha Z (by rw[hl,hv])) hv' h
def Ñ{Q:Value×List Value->Shared->Prop}(X:K.In s.heap)(I:Uo s.heap x dx C mA)(hg:PySem.W.plainGet K C name=true)
  (hf:PySem.W.findIn K (.ref C) name=some (some (.ref f))) (ht:PySem.W.isFn K (.ref f)=true) (hv:mA name=none) (h:Q (.ref f,[.ref x]) s) :
  wpAny (model prog w) A (getMethod (.ref x) name pl) Q E s:=by
 obtain⟨od,Z97,hl⟩:=I.look;exact PySem.W.method_fn X Z97 (Td hg).1 (Td hg).2 hf (Im.mp ht) (by show(PySem.W.lookIn name od).map (·.isSome)=some false;rw[hl,hv];rfl) h
def ź{ns:List Str}{Q:Unit->Shared->Prop}(X:K.In s.heap)(I:Uo s.heap x dx C mA)
  (hs:PySem.W.findIn K (.ref C) "__setattr__" = some (some (.builtin "object.__setattr__"))) (hp:PySem.W.plainOver K C=true) (ht:PySem.W.takerIn K C name=some none) (hh:PySem.W.hasDictIn K C=true)
  (hw:PySem.Within mA ns) (hsz:ns.length<=sizeLine)
  (h:∀h',Uo h' x dx C (λy=>if y=name then some v else mA y)->Heap.SameBut dx s.heap h'->Q ⟨⟩ { s with heap:=h',toks:=s.toks+2}) :
  wpAny (model prog w) A (setAttr (.ref x) name v) Q E s:=by
 obtain⟨od,Z97,hl⟩:=I.look;refine PySem.W.set_plain X Z97 hs (PySem.W.osa_open (s:={ s with toks:=s.toks+1}) (r:=none) X Z97 hp ht λb=>?_);obtain⟨cd,hc,hd'⟩:=PySem.W.any_some hh;have hx:s.heap.get? x=some ⟨.ref C,some dx,.plain,#[]⟩:=I.obj;refine M (aq (M (M (wpAny_loadPart hx (M (PySem.W.Looks.here (s:={ s with toks:=s.toks+1}) (PySem.W.looks_clsIn X hc) ?_))))));rw[hd'];refine aq (a:=some dx) (M (aq (M (wpAny_nsSet1 (s:={ s with toks:=s.toks+1}) I.ns λh' hn2 hs2=>?_))));obtain⟨oD,esD,epD,hoD,hdD,hcD⟩:=hn2.count (PySem.Within.cons name v hw);refine M (wpAny_lookBehind hoD (by rw[hdD];exact pastItsLine_dict (cV hcD (by rw[jJ];omega))) ?_);exact aq (h _ ⟨(hs2.2 _ (Ne.symm I.ne)).trans I.obj,hn2,I.ne⟩ hs2)
def Ò{R:Result->Shared->Prop}{vs:List Value}(X:K.In s.heap)(hm:PySem.W.makesIn K C=true)
  (hi:PySem.W.findIn K (.ref C) "__init__" = some (some (.ref f))) (hf:PySem.W.typeIn K (.ref f)=some (.type "function"))
  (h:codeAny (model prog w) (A.under (.builtin "type.__call__" ⟨.ref C::vs,kw⟩)) (.call (.ref f) ⟨.ref (s⁻¹+1)::vs,kw⟩) (PySem.W.InitBack (s⁻¹+1) R)
   { s with heap:=(s.heap.push PySem.W.emptyDict).push (PySem.W.instObj C s⁻¹)}) :
  codeAny (model prog w) A (.call (.ref C) ⟨vs,kw⟩) R s:=by
 obtain⟨hh,g,d,t,os⟩:=s;exact PySem.W.make_core (PySem.W.makes_of X hm) (PySem.W.looks_findIn X hi) (λself=>PySem.W.bind_fn X self hf) (.inl Z) h
end
def vX(f:Str)(v:V):List (Str×V)->List (Str×V)
 | []=>[(f,v)]
 |(g,x)::r=>if g=f then(g,v)::r else(g,x)::vX f v r
theorem Fl(f g:Str)(v:V):∀fs:List (Str×V),(vX f v fs).lookup g=if g=f then some v else fs.lookup g
 | []=>by
  show List.lookup g [(f,v)]=_
  by_cases h:g=f
  ·have hb:(g==f)=true:=Im.mpr h
   simp only[List.lookup,hb,if_pos h]
  ·have hb:(g==f)=false:=vH.mpr h
   simp only[List.lookup,hb,if_neg h]
 |(k,x)::r=>by
  have ih:=Fl f g v r
  rw[show vX f v ((k,x)::r)=(if k=f then(k,v)::r else(k,x)::vX f v r)from rfl]
  by_cases hk:k=f
  ·rw[aG hk]
   by_cases h:g=k
   ·have hb:(g==k)=true:=Im.mpr h
    simp only[List.lookup,hb,if_pos (h.trans hk)]
   ·have hb:(g==k)=false:=vH.mpr h
    simp only[List.lookup,hb,if_neg (λe:g=f=>h (e.trans hk.symm))]
  ·rw[aB hk]
   by_cases h:g=k
   ·have hb:(g==k)=true:=Im.mpr h
    simp only[List.lookup,hb,if_neg (λe:g=f=>hk (h.symm.trans e))]
   ·have hb:(g==k)=false:=vH.mpr h
    simp only[List.lookup,hb]
    exact ih
theorem Ec(f:Str)(v:V):∀fs:List (Str×V),f∈(vX f v fs).map (·.1)/\∀g,g∈fs.map (·.1)->g∈(vX f v fs).map (·.1)
 | []=>⟨by simp[vX],λg h=>by simp at h⟩
 |(k,x)::r=>by
  obtain⟨i1,i2⟩:=Ec f v r
  rw[show vX f v ((k,x)::r)=(if k=f then(k,v)::r else(k,x)::vX f v r)from rfl]
  by_cases hk:k=f
  ·rw[aG hk]
   subst hk
   exact⟨by simp,λg h=>by simpa using h⟩
  ·rw[aB hk]
   refine⟨?_,λg h=>?_⟩
   ·rw[cL]
    exact bC _ i1
   ·rw[cL]at h ⊢
    rcases bZ.mp h with e|e
    ·exact bZ.mpr (.inl e)
    ·exact bC _ (i2 g e)
theorem Fo(f:Str)(v:V):∀fs:List (Str×V),(vX f v fs).length<=fs.length+1
 | []=>by simp[vX]
 |(k,x)::r=>by
  have ih:=Fo f v r
  rw[show vX f v ((k,x)::r)=(if k=f then(k,v)::r else(k,x)::vX f v r)from rfl]
  by_cases hk:k=f
  ·rw[aG hk,jJ,jJ];omega
  ·rw[aB hk,jJ,jJ];omega
def sH.some_of{v:V}{o:Option Value}(r:sH (some v) o):∃u,o=some u/\cW v u:=by
 cases o with
 |none=>exact(show False from r).elim
 |some u=>exact⟨u,Z,r⟩
def sH.none_of{o:Option Value}(r:sH none o):o=none:=by
 cases o with
 |none=>rfl
 |some u=>exact(show False from r).elim
def Yj{v:V}{u:Value}(r:cW v u):PySem.W.handedIn u=true:=by
 cases v with
 |non=>cases(show u=Value.none from r);rfl
 |bl b=>cases(show u=Value.bool b from r);rfl
 |int i=>obtain⟨t,e⟩:=(show ∃t,u=Value.int i t from r);cases e;rfl
 |str x=>obtain⟨t,e⟩:=(show ∃t,u=Value.str x t from r);cases e;rfl
 |Wl b=>obtain⟨t,e⟩:=(show ∃t,u=Value.bytes b t from r);cases e;rfl
 |flt b=>obtain⟨t,e⟩:=(show ∃t,u=Value.float b t from r);cases e;rfl
 |ref a=>cases(show u=Value.ref a from r);rfl
 |ty n=>cases(show u=Value.type n from r);rfl
section
variable{P:Program}{w:World}{H H':Hp}{a C dx:Addr}{fs fs':List (Str×V)}
def GJ(hok:zu P w H h)(e:H a=some (.ins C dx fs)):∃mA,Uo h a dx C mA/\(∀f,sH (fs.lookup f) (mA f))/\PySem.Within mA (fs.map (·.1))/\fs.length<=1000/\H dx=some (.own a):=by
 obtain⟨d,z,ne,ob,mA,n,r,q⟩:=(show fY P w H h a (.ins C dx fs)from hok a _ e);exact⟨mA,⟨ob,n,ne⟩,r,q,z,d⟩
end
structure Cls(K:aJ)(C:Addr):Prop where
 pg:PySem.W.plainGet K C Str.empty=true
 hd:PySem.W.hasDictIn K C=true
 po:PySem.W.plainOver K C=true
 sa:PySem.W.findIn K (.ref C) "__setattr__" = some (some (.builtin "object.__setattr__"))
def Cls.get{C:Addr}(c:Cls K C)(f:Str):PySem.W.plainGet K C f=true:=c.pg
def eX(K:aJ)(C:Addr)(f:Str):Prop:=PySem.W.findIn K (.ref C) f=some none
def eX.taker{C:Addr}{f:Str}(n:eX K C f):PySem.W.takerIn K C f=some none:=by
 unfold PySem.W.takerIn;rw[show PySem.W.findIn K (.ref C) f=some none from n];rfl
structure Meth(K:aJ)(C:Addr)(m:Str)(f:Addr):Prop where
 at_:PySem.W.findIn K (.ref C) m=some (some (.ref f))
 fn:PySem.W.isFn K (.ref f)=true
 kp:PySem.W.keepIn K (.ref f)=true
section
variable{X:Cx}{Y:List (Addr×Obj)}{σ:St}{H:Hp}{s:Shared}{a C dx:Addr}{fs:List (Str×V)}{f:Str}{v:V}{E:Value->Shared->Prop}
def Uq{b:Bool}{Q:Value->Shared->Prop}(I:bH X Y σ H s)(e:H a=some (.ins C dx fs))(c:Cls X.K C)(n:eX X.K C f)(l:fs.lookup f=some v)
  (h:∀u s',bH X Y σ H s'->cW v u->Q u s'):wpAny (model X.prog X.w) A (getAttr (.ref a) f b) Q E s:=by
 obtain⟨mA,Z96,r,_,_,_⟩:=GJ I.hok e;obtain⟨u,hu,ru⟩:=sH.some_of (v:=v) (o:=mA f) (by rw[<-l];exact r f);exact get_map I.Dl Z96 (c.get f) c.hd n hu (Yj ru) (h u _ (I.tok _) ru)
def Ur{m:Str}{g:Addr}{Q:Value×List Value->Shared->Prop}(I:bH X Y σ H s)(e:H a=some (.ins C dx fs))(c:Cls X.K C)(k:Meth X.K C m g)(l:fs.lookup m=none)
  (h:Q (.ref g,[.ref a]) s):wpAny (model X.prog X.w) A (getMethod (.ref a) m pl) Q E s:=by
 obtain⟨mA,Z96,r,_,_,_⟩:=GJ I.hok e;have hn:mA m=none:=sH.none_of (by rw[<-l];exact r m);exact Ñ I.Dl Z96 (c.get m) k.at_ k.fn hn h
def Us{y:V}{u:Value}{Q:Unit->Shared->Prop}(I:bH X Y σ H s)(e:H a=some (.ins C dx fs))(c:Cls X.K C)(n:eX X.K C f)(hl:fs.length<1000)(ry:cW y u)
  (h:∀s',bH X Y σ (cN H a (.ins C dx (vX f y fs))) s'->Q ⟨⟩ s'):wpAny (model X.prog X.w) A (setAttr (.ref a) f u) Q E s:=by
 obtain⟨mA,Z96,r,wi,_,ho⟩:=GJ I.hok e;have hz:(fs.map (·.1)).length<=sizeLine:=by rw[aK,jC];omega
 refine ź I.Dl Z96 c.sa c.po n.taker c.hd wi hz λh' O' sb=>h _ ?_;have hd:∃o,h'.get? dx=some o:=let⟨o,_,_,e',_⟩:=O'.ns;⟨o,e'⟩
 refine I.write (x:=a) (e:=dx) (by rw[e];exact nD) (.inr ho) (λb q hb z=>(sb.2 b hb).trans z) hd ?_;refine⟨by rw[aW Z96.ne];exact ho,?_,Z96.ne,O'.obj,_,O'.ns,λg=>?_,λg hg=>?_⟩
 ·have:=Fo f y fs;omega
 ·show sH ((vX f y fs).lookup g) (if g=f then some u else mA g);rw[Fl];by_cases q:g=f
  ·rw[aG q,aG q];exact ry
  ·rw[aB q,aB q];exact r g
 ·by_cases q:g=f
  ·rw[q];exact(Ec f y fs).1
  ·refine(Ec f y fs).2 g (wi g λz=>hg ?_);show(if g=f then some u else mA g)=none;rw[aB q];exact z
def bH.made(I:bH X Y σ H s):bH X Y σ (cN (cN H s⁻¹ (.own (s⁻¹+1))) (s⁻¹+1) (.ins C s⁻¹ []))
  { s with heap:=(s.heap.push PySem.W.emptyDict).push (PySem.W.instObj C s⁻¹)}:=by
 have e1:(s.heap.push PySem.W.emptyDict).get? s⁻¹=some PySem.W.emptyDict:=bW s.heap rfl;have e2:((s.heap.push PySem.W.emptyDict).push (PySem.W.instObj C s⁻¹)).get? (s⁻¹+1)=some (PySem.W.instObj C s⁻¹):=by
  have:=bW (s.heap.push PySem.W.emptyDict) (o:=PySem.W.instObj C s⁻¹) rfl
  rwa [kh]at this
 have e3:(s.heap.push PySem.W.emptyDict).Ns s⁻¹ (λ_=>none):=⟨PySem.W.emptyDict,#[],_,e1,Z,(λe he=>absurd he (by simp)),λ_=>rfl⟩;have I1:=I.laid (a:=s⁻¹) (o:=.own (s⁻¹+1)) (h':=s.heap.push PySem.W.emptyDict) (t':=s.toks) (λb u q=>bL _ q) (aM _) ⟨_,e1⟩;refine I1.laid (a:=s⁻¹+1) (o:=.ins C s⁻¹ []) (t':=s.toks) (λb u q=>bL _ q) (Og (kh _ _)) ?_;have ne:s⁻¹≠s⁻¹+1:=b7 (xu _);refine⟨by rw[aW ne,dD],dw _,ne,e2,λ_=>none,(Heap.Ns1.of_empty e3).at λo q=>bL _ q,λ_=>nD,λy hy=>absurd Z hy⟩
def Ż{prog:Program}{w:World}{env:Env}{f:Str}{s:Shared}{Q:Value->Shared->Prop}(hb:attributeBase e f env (eval e env)=eval e env)
  (h:wpAny (model prog w) A (eval e env) (λo s₁=>wpAny (model prog w) A (getAttr o f true) Q E s₁) E s):wpAny (model prog w) A (eval (.Attribute e f pos) env) Q E s :=
 Attribute_any_ h (by rw[arm_eval_Attribute,hb])
end
inductive a4u(K:aJ)(f:Str)(x:V)(H1:Hp)(Q:VK):Prop
 |mk (a C dx fs v:_) (_:x=.ref a) (_:H1 a=some (.ins C dx fs)) (_:Cls K C) (_:eX K C f) (_:fs.lookup f=some v) (_:Q v H1)
def a4v(K:aJ)(ta:TE)(f:Str):TE:=λσ H Q=>ta σ H λx H1=>a4u K f x H1 Q
inductive a4w(K:aJ)(f:Str)(y x:V)(σ:St)(H2:Hp)(Q:St->Hp->Prop):Prop
 |mk (a C dx fs:_) (_:x=.ref a) (_:H2 a=some (.ins C dx fs)) (_:Cls K C) (_:eX K C f) (_:fs.length<1000) (_:Q σ (cN H2 a (.ins C dx (vX f y fs))))
def a6v(K:aJ)(ta tv:TE)(f:Str):TS:=λD σ H=>tv σ H λy H1=>ta σ H1 λx H2=>a4w K f y x σ H2 D.nx
section
variable{X:Cx}{o value:Expr}{f:Str}{pos' tpos:Pos}{tv:TE}
def a2g(he:PE X e ta)(hb:attributeBase e f X.env (eval e X.env)=eval e X.env):PE X (.Attribute e f pos) (a4v X.K ta f):=by
 intro Y s σ H Q I h;refine Ż hb (jG (he Y s σ H _ I h) λu s1 ⟨x,H1,I1,rx,a,C,dx,fs,v,ex,ea,c,n,l,q⟩=>?_);subst ex;obtain rfl:u=Value.ref a:=rx;exact Uq I1 ea c n l λu' s2 I2 ru=>⟨v,H1,I2,ru,q⟩
def Ah(ha:PE X o ta)(hv:PE X value tv)(hs:swapsWith value (some (.Attribute o f pos')) pos.line X.env=pure false):PS X (.Assign [.Attribute o f pos'] value pos) (a6v X.K ta tv f):=by
 intro Y s σ H D I h;refine plainObj_wpAny_Assign_Attribute (jG (hv Y s σ H _ I h) λu s1 ⟨y,H1,I1,ry,q⟩=>jG (ha Y s1 σ H1 _ I1 q) λov s2 ⟨x,H2,I2,rx,a,C,dx,fs,ex,ea,c,n,l,q2⟩=>?_) hs;subst ex;obtain rfl:ov=Value.ref a:=rx;exact Us I2 ea c n l ry λs3 I3=>⟨σ,_,I3,q2⟩
end
section
variable{X:Cx}{Y:List (Addr×Obj)}{σ:St}{H:Hp}{s:Shared}{E:Value->Shared->Prop}{Q:Value->Shared->Prop}{c:Value}{b:Bool}
inductive tR(K:aJ)(H:Hp):V->Value->Prop where
 |non:tR K H .non (.type "NoneType")
 |bl (x:Bool):tR K H (.bl x) (.type "bool")
 |int (i:Int):tR K H (.int i) (.type "int")
 |str (x:Str):tR K H (.str x) (.type "str")
 |flt (x:UInt64):tR K H (.flt x) (.type "float")
 |lst {a:Addr}{xs:List V} (e:H a=some (.lst xs)):tR K H (.ref a) (.type "list")
 |jo {a:Addr}{o:Obj}{xs:List V} (e:H a=some (.jo o (.lst xs))):tR K H (.ref a) (.type "list")
 |tup {a:Addr}{xs:List V} (e:H a=some (.tup xs)):tR K H (.ref a) (.type "tuple")
 |dK {a:Addr}{O:List (Key×V)} (e:H a=some (.dK O)):tR K H (.ref a) (.type "dict")
 |dT {a:Addr}{O:List (List Key×V)} (e:H a=some (.dT O)):tR K H (.ref a) (.type "dict")
 |ins {a C dx:Addr}{fs:List (Str×V)} (e:H a=some (.ins C dx fs)) (cl:Cls K C) (ha:PySem.W.findIn K (.ref C) "__class__" = some (some (.builtin "object.__class__")))
   (hn:PySem.W.specialIn K (.builtin "object.__class__") "__get__" = some (some (.builtin "getset_descriptor.__get__"))) (htk:PySem.W.takesIn K (.builtin "object.__class__")=some true)
   (hm:PySem.W.mroIn K C (.type "object")=some true):tR K H (.ref a) (.ref C)
def Yk{x:V}{u t:Value}(I:bH X Y σ H s)(rx:cW x u)(ty:tR X.K H x t)(e:PySem.W.kitOne X.K t c=some b)(h:∀tk,Q (.bool b) { s with toks:=tk}) :
  wpAny (model X.prog X.w) A (call (.builtin "isinstance") [u,c]) Q E s:=by
 cases ty with
 |non=>cases(show u=Value.none from rx);exact tG PySem.W.kitx_none I.Dl nD e (λz=>nomatch z) h
 |bl y=>cases(show u=Value.bool y from rx);exact tG PySem.W.kitx_bool I.Dl nD e (λz=>nomatch z) h
 |int i=>obtain⟨t,q⟩:=(show ∃t,u=Value.int i t from rx);cases q;exact tG PySem.W.kitx_int I.Dl nD e (λz=>nomatch z) h
 |str y=>obtain⟨t,q⟩:=(show ∃t,u=Value.str y t from rx);cases q;exact tG PySem.W.kitx_str I.Dl nD e (λz=>nomatch z) h
 |flt y=>obtain⟨t,q⟩:=(show ∃t,u=Value.float y t from rx);cases q;exact tG PySem.W.kitx_float I.Dl nD e (λz=>nomatch z) h
 | @lst a xs ea =>
  cases(show u=Value.ref a from rx);obtain⟨_,_,n,_,h1⟩:=(show fY X.prog X.w H s.heap a (.lst xs)from I.hok a _ ea);exact tG PySem.W.kitx_list I.Dl ⟨_,h1,Z⟩ e (λz=>nomatch z) h
 | @jo a ob xs ea =>
  cases(show u=Value.ref a from rx);obtain⟨_,_,_,n,_,h1⟩:=(show fY X.prog X.w H s.heap a (.jo ob (.lst xs))from I.hok a _ ea);exact tG PySem.W.kitx_list I.Dl ⟨_,h1,Z⟩ e (λz=>nomatch z) h
 | @tup a xs ea =>
  cases(show u=Value.ref a from rx);obtain⟨_,_,_,p⟩:=(show fY X.prog X.w H s.heap a (.tup xs)from I.hok a _ ea);obtain⟨o,h1,h2,_⟩:=p;exact tG PySem.W.kitx_tuple I.Dl ⟨o,h1,h2⟩ e (λz=>nomatch z) h
 | @dK a O ea =>
  cases(show u=Value.ref a from rx);obtain⟨_,_,vs,_,p⟩:=(show fY X.prog X.w H s.heap a (.dK O)from I.hok a _ ea);obtain⟨o,es,ep,h1,h2,_⟩:=p;exact tG PySem.W.kitx_dict I.Dl ⟨o,h1,h2.1⟩ e (λz=>nomatch z) h
 | @dT a O ea =>
  cases(show u=Value.ref a from rx);obtain⟨_,_,xs,_,o,es,ep,h1,h2,_⟩:=(show fY X.prog X.w H s.heap a (.dT O)from I.hok a _ ea);exact tG PySem.W.kitx_dict I.Dl ⟨o,h1,h2.1⟩ e (λz=>nomatch z) h
 | @ins a C dx fs ea cl ha hn htk hm =>
  cases(show u=Value.ref a from rx);obtain⟨mA,Z96,_⟩:=GJ I.hok ea;obtain⟨od,Z97,_⟩:=Z96.look;exact tG (PySem.W.kitx_own (cl.get _) cl.hd ha hn htk hm) I.Dl Z97 e (λz=>nomatch z) h
end
structure sJ(k:Nat)(A:Around):Prop where
 hd:A.handled=none
 dp:A.depth+3*k+5<recursionLimit
 un:A.units+16*k+200<cLine
def sJ.mono{j:Nat}(r:sJ k A)(h:j<=k):sJ j A:=⟨r.hd,by have:=r.dp;omega,by have:=r.un;omega⟩
def sJ.deeper{k:Nat}{A:Around}(r:sJ (k+1) A)(env:Env):sJ k (A.deeper env) :=
 ⟨r.hd,by have:=r.dp;show A.depth+1+3*k+5<_;omega,by have:=r.un;show A.units+3+16*k+200<_;omega⟩
def Ut{C:Addr}{us:List Value}:(A.under (.builtin "type.__call__" ⟨.ref C::us,kw⟩)).depth=A.depth+1:=by
 first|rfl|simp[Around.under,Code.weight,Code.isCreation,Code.isGuard,Code.isCaller,Code.frames,Code.isFrame,guardIds]
def Uu{C:Addr}{us:List Value}:(A.under (.builtin "type.__call__" ⟨.ref C::us,kw⟩)).units=A.units+1:=by
 first|rfl|simp[Around.under,Code.cUnits,Code.frames,Code.isFrame]
def sJ.make(r:sJ (k+1) A)(C:Addr)(us:List Value)(kw:List (Str×Value)):sJ k (A.under (.builtin "type.__call__" ⟨.ref C::us,kw⟩)) :=
 ⟨r.hd,by have:=r.dp;rw[Ut];omega,by have:=r.un;rw[Uu];omega⟩
def sJ.depth{k:Nat}{A:Around}(r:sJ k A):A.depth<recursionLimit:=by have:=r.dp;omega
def a2h:TA:=λ_ H Q=>Q [] H
def Ww(ta:TE)(tr:TA):TA:=λσ H Q=>ta σ H λx H1=>tr σ H1 λxs H2=>Q (x::xs) H2
section
variable{X:Cx}{t:TA}
def aj:PA X [] a2h:=λ_ _ _ _ H Q I h=>Calls.spliced_nil ⟨[],H,I,.nil,h⟩
def J(ha:PE X e te)(hr:PA X es t)(hs:@&(starEach (e::es) X.env=(false,eval e X.env)::starEach es X.env)):PA X (e::es) (Ww te t):=by
 intro pos Y s σ H Q I h;rw[hs];show wpAny _ _ (spliced ((false,eval e X.env)::backTo pos (starEach es X.env))) _ _ s;exact Calls.spliced_cons (jG (ha Y s σ H _ I h) λu s1 ⟨x,H1,I1,r1,q1⟩=>jG (hr pos Y s1 σ H1 _ I1 q1) λus s2 ⟨xs,H2,I2,r2,q2⟩=>⟨x::xs,H2,I2,.cons r1 r2,q2⟩)
end
abbrev Sp:=List V->Hp->VK->XK->Prop
abbrev R5:=List Env->Hp->Shared->XK->Value->Shared->Prop
structure Uv(P:Program)(w:World)(K:aJ)(mg:Str->Option Value)(base:Heap)(A:Around)(outer:List Env)(s:Shared)(H:Hp):Prop where
 frames:A.frames=some outer
 mod:Mod K mg base
 bs:∀b o,base.get? b=some o->s.heap.get? b=some o/\H b=none
 Ŝ:base.objs.size<=s⁻¹
 Bu:s.heap.FunFrames base outer
 ŵ:∀b∈frs outer,H b=none
 hok:zu P w H s.heap
 bare:AllBare s.gens
inductive CE(outer:List Env)(P:Program)(w:World)(H:Hp)(s:Shared)(Q:VK)(u:Value)(s':Shared):Prop
 |mk (v H':_) (_:s'.os=s.os) (_:AllBare s'.gens) (_:Un (frs outer) [] H H' s.heap s'.heap) (_:zu P w H' s'.heap) (_:cW v u) (_:Q v H')
def CR(CX:R5)(outer:List Env)(P:Program)(w:World)(H:Hp)(s:Shared)(Q:VK)(E:XK)(r:Result)(s':Shared):Prop :=
 match r with
 |.ok (.ret u)=>CE outer P w H s Q u s'
 |.ok _=>False
 |.error e=>CX outer H s E e s'
structure bf(P:Program)(w:World)(K:aJ)(mg:Str->Option Value)(base:Heap)(CX:R5)(k:Nat)(f:Addr)(fd:FuncData)(ps:List Str)(sp:Sp):Prop where
 len:∀vs H Q E,sp vs H Q E->vs.length=ps.length
 run:∀(A:Around) (outer:List Env) (s:Shared) (H:Hp) (args:Args) (us:List Value) (vs:List V) (Q:VK) (E:XK),sJ k A->Uv P w K mg base A outer s H->BindsTo s fd args (ps.zip us)->cM vs us->sp vs H Q E->
  codeAny (model P w) A (.call (.ref f) args) (CR CX outer P w H s Q E) s
def bf.mono{P:Program}{w:World}{K:aJ}{mg:Str->Option Value}{base:Heap}{CX:R5}{j k:Nat}{f:Addr}{fd:FuncData}{ps:List Str}{sp:Sp}(F:bf P w K mg base CX j f fd ps sp)(h:j<=k) :
  bf P w K mg base CX k f fd ps sp:=⟨F.len,λA outer s H args us vs Q E hr=>F.run A outer s H args us vs Q E (hr.mono h)⟩
def Uv.make{P:Program}{w:World}{outer:List Env}{s:Shared}{H:Hp}(e:Uv P w K mg base A outer s H)(C:Addr)(us:List Value)(kw:List (Str×Value)) :
  Uv P w K mg base (A.under (.builtin "type.__call__" ⟨.ref C::us,kw⟩)) outer s H:=⟨by first|exact e.frames|(simpa [Around.under,Code.envs,Code.isFrame,pushEnvs]using e.frames),e.mod,e.bs,e.Ŝ,e.Bu,e.ŵ,e.hok,e.bare⟩
section
variable{X:Cx}{Y:List (Addr×Obj)}{σ:St}{H:Hp}{s s':Shared}
def bH.env0(I:bH X Y σ H s):Uv X.prog X.w X.K X.mg X.base X.A X.stack s H :=
 ⟨I.ok.frames,I.ok.mod,I.bs,cV I.ok.Ŝ I.sz,I.stack,I.Wm,I.hok,I.bare⟩
def bH.after{Q:VK}{u:Value}(I:bH X Y σ H s)(h:CE X.stack X.prog X.w H s Q u s'):EP X Y σ Q u s':=by
 obtain⟨v,H',os,bare,un,hok,r,q⟩:=h;obtain⟨hh,g,d,t,os'⟩:=s';obtain rfl:os'=s.os:=os;exact⟨v,H',I.call (h':=hh) (g':=g) (d':=d) (t':=t) (ch:=[]) un hok bare (λb z=>absurd z (by simp)),r,q⟩
end
def a1q(sp:Sp)(KN:List V)(E:XK)(t:TA):TE:=λσ H Q=>t σ H λvs H1=>sp (vs++KN) H1 Q E
inductive a2i(C:Addr)(m:Str)(x:V)(H1:Hp)(Q:Prop):Prop
 |mk (a dx fs:_) (_:x=.ref a) (_:H1 a=some (.ins C dx fs)) (_:fs.lookup m=none) (_:Q)
def a4x(C:Addr)(m:Str)(sp:Sp)(KN:List V)(E:XK)(ta:TE)(t:TA):TE:=λσ H Q=>ta σ H λx H1=>a2i C m x H1 (t σ H1 λvs H2=>sp (x::(vs++KN)) H2 Q E)
def a4y(C:Addr)(sp:Sp)(KN:List V)(E:XK)(t:TA):TE:=λσ H Q=>t σ H λvs H1=>∀x dx,H1 x=none->H1 dx=none->dx≠x->
 sp (.ref x::(vs++KN)) (cN (cN H1 dx (.own x)) x (.ins C dx [])) (λv H2=>v=.non/\Q (.ref x) H2) E
def Binds(K:aJ)(fd:FuncData)(ps:List Str)(ds:List Value):Prop :=
 ∀(s:Shared) (us:List Value),K.In s.heap->(us++ds).length=ps.length->BindsTo s fd ⟨us,[]⟩ (ps.zip (us++ds))
def Binds.all{fd:FuncData}{ps:List Str}(h:∀us:List Value,us.length=ps.length->bindArgs fd ⟨us,[]⟩=pure (ps.zip us)):Binds K fd ps []:=λs us _ hl=>by
 rw[lH]at hl ⊢;exact .of_eq (h us hl)
def Ai(CX:R5)(X:Cx)(E:XK):Prop:=∀(Y:List (Addr×Obj)) (σ:St) (H:Hp) (s:Shared) (e:Value) (s':Shared),bH X Y σ H s->CX X.stack H s E e s'->X.xe e s'
section
variable{X:Cx}{CX:R5}{f C:Addr}{fd:FuncData}{ps:List Str}{sp:Sp}{KN:List V}{ds:List Value}{E:XK}{x m:Str}{apos:Pos}{o:Expr}{t:TA}
def Uw{Y:List (Addr×Obj)}{σ:St}{H:Hp}{s:Shared}{Q:VK}{us:List Value}{vs:List V}(F:bf X.prog X.w X.K X.mg X.base CX k f fd ps sp)(hr:sJ k X.A)(hb:Binds X.K fd ps ds)(hd:cM KN ds)(hx:Ai CX X E)
  (I:bH X Y σ H s) (r:cM vs us) (h:sp (vs++KN) H Q E):wpAny (model X.prog X.w) X.A (call (.ref f) us) (EP X Y σ Q) X.xe s:=by
 have r2:cM (vs++KN) (us++ds):=r.append hd;have hl:(us++ds).length=ps.length:=by rw[<-r2.length];exact F.len _ _ _ _ h
 refine wpAny_call (DW (F.run X.A X.stack s H ⟨us,[]⟩ (us++ds) (vs++KN) Q E hr I.env0 (hb s us I.Dl hl) r2 h) λr s' hq=>?_);cases r with
 |error e=>exact hx Y σ H s e s' I hq
 |ok fl =>
  cases fl with
  |ret u=>exact I.after hq
  |next=>exact False.elim hq
  |brk=>exact False.elim hq
  |cont=>exact False.elim hq
def bw(F:bf X.prog X.w X.K X.mg X.base CX k f fd ps sp)(hr:sJ k X.A)(hg:Gl X x)(hm:X.mg x=some (.ref f))(hk:PySem.W.keepIn X.K (.ref f)=true)(hb:Binds X.K fd ps ds)(hd:cM KN ds)(hx:Ai CX X E)
  (ha:PA X (e::es) t) (hdb:@&((x==("__debug__" : Str))=false)) (he:@&(starEach (e::es) X.env=(false,eval e X.env)::starEach es X.env)) (hpl:@&((backTo pos (starEach es X.env)).any (·.1)=false)) :
  PE X (.Call (.Name x p) (e::es) [] pos) (a1q sp KN E t):=by
 intro Y s σ H Q I h;exact xq (Bw I hg hm (Nx (h₀:=X.base) I.ok.mod.kin hk (jG (ha pos Y s σ H _ I h) λus s1 ⟨vs,H1,I1,r,q⟩=>⟨I1.Dl,Uw F hr hb hd hx I1 r q⟩) he hpl) hdb)
def vY(he:PE X o ta)(c:Cls X.K C)(hm:Meth X.K C m f)(F:bf X.prog X.w X.K X.mg X.base CX k f fd ps sp)(hr:sJ k X.A)(hb:Binds X.K fd ps ds)(hd:cM KN ds)(hx:Ai CX X E)(ha:PA X (e::es) t)
  (hst:@&(starEach (e::es) X.env=(false,eval e X.env)::starEach es X.env)) (hpl:@&((backTo pos (starEach es X.env)).any (·.1)=false))
  (ht:@&(eval (.Call (.Attribute o m apos) (e::es) [] pos) X.env=(do
   let ov <-eval o X.env
   standAt apos.atName
   let(f,first) <-holding [ov] (getMethod ov m pl)
   callWith pos f first (backTo pos (starEach (e::es) X.env)) (backToKw pos (keywordEach [] X.env))))) :
  PE X (.Call (.Attribute o m apos) (e::es) [] pos) (a4x C m sp KN E ta t):=by
 intro Y s σ H Q I h;refine PySem.W.methodCall_KW (pl:=pl) (jG (he Y s σ H _ I h) λu s1 ⟨x,H1,I1,rx,a,dx,fs,ex,ea,l,q⟩=>?_) ht;subst ex;obtain rfl:u=Value.ref a:=rx;exact Ur I1 ea c hm l (Nx (first:=[.ref a]) (h₀:=X.base) I.ok.mod.kin hm.kp (jG (ha pos Y s1 σ H1 _ I1 q) λus s2 ⟨vs,H2,I2,r,q2⟩=>⟨I2.Dl,Uw (us:=.ref a::us) (vs:=.ref a::vs) F hr hb hd hx I2 (.cons Z r) q2⟩) hst hpl)
structure Mk(K:aJ)(C f:Addr):Prop where
 makes:PySem.W.makesIn K C=true
 init:PySem.W.findIn K (.ref C) "__init__" = some (some (.ref f))
 fn:PySem.W.isFn K (.ref f)=true
 kp:PySem.W.keepIn K (.ref C)=true
def Ó{Y:List (Addr×Obj)}{σ:St}{H:Hp}{s:Shared}{Q:VK}{us:List Value}{vs:List V}(Z98:Mk X.K C f)(F:bf X.prog X.w X.K X.mg X.base CX k f fd ps sp)(hr:sJ (k+1) X.A)(hb:Binds X.K fd ps ds)(hd:cM KN ds)
  (hx:Ai CX X E) (I:bH X Y σ H s) (r:cM vs us)
  (h:∀x dx,H x=none->H dx=none->dx≠x->sp (.ref x::(vs++KN)) (cN (cN H dx (.own x)) x (.ins C dx [])) (λv H2=>v=.non/\Q (.ref x) H2) E) :
  wpAny (model X.prog X.w) X.A (call (.ref C) us) (EP X Y σ Q) X.xe s:=by
 have hq:=h (s⁻¹+1) s⁻¹ (I.hok.fresh (vR _)) (I.hok.fresh (aM _)) (b7 (xu _));have I2:=bH.made (C:=C) I;have r2:cM (V.ref (s⁻¹+1)::(vs++KN)) (Value.ref (s⁻¹+1)::(us++ds)):=.cons Z (r.append hd);have hl:(Value.ref (s⁻¹+1)::us++ds).length=ps.length:=by
  have e:=r2.length;rw[F.len _ _ _ _ hq]at e;exact e.symm
 refine wpAny_call (Ò (f:=f) I.Dl Z98.makes Z98.init (Im.mp Z98.fn) (DW (F.run _ X.stack _ _ ⟨Value.ref (s⁻¹+1)::us,[]⟩ (Value.ref (s⁻¹+1)::(us++ds)) _ _ E (hr.make C us [])
  (I2.env0.make C us []) (hb _ (Value.ref (s⁻¹+1)::us) I2.Dl hl) r2 hq) λr s' hq'=>?_))
 cases r with
 |error e=>exact hx Y σ _ _ e s' I2 hq'
 |ok fl =>
  cases fl with
  |ret u =>
   obtain⟨v,H',I3,rv,ev,q3⟩:=I2.after hq';subst ev;exact⟨rv,⟨V.ref (s⁻¹+1),H',I3,Z,q3⟩⟩
  |next=>exact False.elim hq'
  |brk=>exact False.elim hq'
  |cont=>exact False.elim hq'
def Ov(Z98:Mk X.K C f)(F:bf X.prog X.w X.K X.mg X.base CX k f fd ps sp)(hr:sJ (k+1) X.A)(hg:Gl X x)(hm:X.mg x=some (.ref C))(hb:Binds X.K fd ps ds)(hd:cM KN ds)(hx:Ai CX X E)
  (ha:PA X (e::es) t) (hdb:@&((x==("__debug__" : Str))=false)) (he:@&(starEach (e::es) X.env=(false,eval e X.env)::starEach es X.env)) (hpl:@&((backTo pos (starEach es X.env)).any (·.1)=false)) :
  PE X (.Call (.Name x p) (e::es) [] pos) (a4y C sp KN E t):=by
 intro Y s σ H Q I h;exact xq (Bw I hg hm (Nx (h₀:=X.base) I.ok.mod.kin Z98.kp (jG (ha pos Y s σ H _ I h) λus s1 ⟨vs,H1,I1,r,q⟩=>⟨I1.Dl,Ó Z98 F hr hb hd hx I1 r q⟩) he hpl) hdb)
end
structure bD(N P:List Str)(sc:Scope):Prop where
 kind:sc.kind=.function:=by rfl
 co:sc.isCoroutine=false:=by rfl
 gen:sc.isGenerator=false:=by rfl
 nd:N.Nodup:=by decide
 pre:N.take P.length=P:=by rfl
 par:∀x∈P,sc.names.lookup x=some .local\/sc.names.lookup x=some .cell:=by decide
 a2j:∀y∈sc.names,y.2≠.free:=by decide
theorem Lx{kindOf:Str->Option NameKind}{x:Str}:∀{binds:List (Str×Value)}{m:Str->Option Value},(∀v,(x,v)∉binds)->bindL kindOf binds m x=m x
 | [],_,_=>rfl
 |(n,v)::r,m,h=>by
  unfold bindL
  rw[Lx λw hw=>h w (bC _ hw)]
  split
  ·have:x≠n:=by rintro rfl;exact h v aU
   simp[this]
  ·rfl
theorem Ly{kindOf:Str->Option NameKind}{x:Str}:∀{binds:List (Str×Value)}{m:Str->Option Value},(∀v,(x,v)∉binds)->bindC kindOf binds m x=m x
 | [],_,_=>rfl
 |(n,v)::r,m,h=>by
  unfold bindC
  rw[Ly λw hw=>h w (bC _ hw)]
  split
  ·rfl
  ·have:x≠n:=by rintro rfl;exact h v aU
   simp[this]
theorem Lz{kindOf:Str->Option NameKind}{x:Str}{v:Value}:∀{P:List Str}{vs:List Value}{i:Nat}{m:Str->Option Value},P.Nodup->P[i]?=some x->vs[i]?=some v->kindOf x=some .local->
  bindL kindOf (P.zip vs) m x=some v
 | [],_,_,_,_,h,_,_=>by simp at h
 |_::_,[],_,_,_,_,h,_=>by simp at h
 |p::P,w::vs,0,m,nd,h1,h2,hk=>by
  simp at h1 h2;subst h1;subst h2
  show bindL kindOf ((p,w)::P.zip vs) m p=_
  unfold bindL
  rw[Lx λv hv=>(jB.mp nd).1 (TY hv).1,aG hk]
  simp
 |p::P,w::vs,i+1,m,nd,h1,h2,hk=>by
  show bindL kindOf ((p,w)::P.zip vs) m x=_
  unfold bindL
  exact Lz (i:=i) (jB.mp nd).2 (by simpa using h1) (by simpa using h2) hk
theorem LC{kindOf:Str->Option NameKind}{x:Str}{v:Value}:∀{P:List Str}{vs:List Value}{i:Nat}{m:Str->Option Value},P.Nodup->P[i]?=some x->vs[i]?=some v->kindOf x≠some .local->
  bindC kindOf (P.zip vs) m x=some v
 | [],_,_,_,_,h,_,_=>by simp at h
 |_::_,[],_,_,_,_,h,_=>by simp at h
 |p::P,w::vs,0,m,nd,h1,h2,hk=>by
  simp at h1 h2;subst h1;subst h2
  show bindC kindOf ((p,w)::P.zip vs) m p=_
  unfold bindC
  rw[Ly λv hv=>(jB.mp nd).1 (TY hv).1,aB hk]
  simp
 |p::P,w::vs,i+1,m,nd,h1,h2,hk=>by
  show bindC kindOf ((p,w)::P.zip vs) m x=_
  unfold bindC
  exact LC (i:=i) (jB.mp nd).2 (by simpa using h1) (by simpa using h2) hk
def start(N:List Str)(vs:List V):St:=vs.map some++List.replicate (N.length-vs.length) none
def Ux(CX:R5)(P:Program)(w:World)(K:aJ)(mg:Str->Option Value)(base:Heap)(N:List Str)(qual:Str)(scope:Scope)(f:Addr)(cd:Value)(A:Around)(outer:List Env)(s:Shared)(H:Hp)(E:XK):Cx where
 prog:=P
 w:=w
 K:=K
 mg:=mg
 base:=base
 A:=A.deeper (envOfC qual scope s⁻¹ f cd)
 N:=N
 s₀:=s
 H₀:=H
 env:=envOfC qual scope s⁻¹ f cd
 outer:=outer
 stack:=envOfC qual scope s⁻¹ f cd::outer
 ex:=[]
 calm:=true
 fn:=λ_=>true
 pn:=[]
 xe:=λe s'=>wpAny (model P w) (A.deeper (envOfC qual scope s⁻¹ f cd)) (leaving (envOfC qual scope s⁻¹ f cd) e) (λ_ s''=>CX outer H s E e s'') (λe' s''=>CX outer H s E e' s'') s'
def QF{sc:Scope}{x:Str}(h:sc.names.lookup x=some .cell):∃c,(cellsFrom n sc.names []).lookup x=some c:=by
 have q:=PySem.W.cellsFrom_some sc.names n [] (.inl h);exact Option.isSome_iff_exists.mp q
def Yl{CX:R5}{P:Program}{w:World}{ps:List Str}{qual:Str}{scope:Scope}{f:Addr}{cd:Value}{outer:List Env}{s s1:Shared}{H:Hp}{E:XK}{us:List Value}{vs:List V}
  (S:bD N ps scope) (hd:A.handled=none) (e0:Uv P w K mg base A outer s H) (hl:vs.length=ps.length) (r:cM vs us)
  (x:InCallC s s⁻¹ (bindL (envOfC qual scope s⁻¹ f cd).kindOf (ps.zip us) λ_=>none) (cellsFrom (s⁻¹+1) scope.names []) (bindC (envOfC qual scope s⁻¹ f cd).kindOf (ps.zip us) λ_=>none) s1) :
  bH (Ux CX P w K mg base N qual scope f cd A outer s H E) [] (start N vs) H s1:=by
 have hpl:ps.length<=N.length:=by have:=congrArg List.length S.pre;rw[gb]at this;omega
 obtain⟨h1,tk,rfl,hk⟩:=x.done;have noA:∀b:Addr,b∉(Ux CX P w K mg base N qual scope f cd A outer s H E).ex:=λb z=>absurd (show b∈([]:List Addr)from z) (by simp);refine⟨⟨e0.mod,S.kind,Z,Z,aM _,λy z c h1 h2=>?_,λy hy=>?_,λy c _ h=>?_,λ_=>hd,Around.frames_deeper e0.frames,.inr ⟨Z,Z⟩,λb z=>absurd z (noA b),e0.bs,e0.Ŝ,λb _ _=>noA b,λb z=>absurd z (noA b),e0.Bu,e0.ŵ⟩,
  rfl,e0.bare,Un.kept hk,⟨_,x.toInCall.ns,λi y v h1 h2 h3=>?_⟩,λy c h=>⟨_,x.cell y c h⟩,e0.hok.fresh (aM _),λy c h=>?_,λp hp=>absurd (show p∈([]:List (Addr×Obj))from hp) (by simp),e0.hok.kept hk,?_⟩
 ·exact name_of_addr x.apart (Du h1) (Du h2)
 ·have hy:scope.names.lookup y=some .cell\/scope.names.lookup y=some .free:=hy;rcases hy with hy|hy
  ·exact QF hy
  ·exact absurd Z (S.a2j _ (Du hy))
 ·exact eO (x.above y c (Du h))
 ·have hi:i<vs.length:=by
   unfold start at h2;by_cases hi:i<vs.length
   ·exact hi
   ·rw[wZ (by simpa using hi)]at h2;rw[List.getElem?_replicate]at h2;split at h2<;>cases h2
  have ha:vs[i]?=some v:=by
   unfold start at h2;rw[zR (by simpa using hi),dU]at h2;cases e:vs[i]? with
   |none=>rw[e]at h2;cases h2
   |some a=>rw[e]at h2;cases h2;rfl
  obtain⟨u,hu,rv⟩:=r.get ha;have hp:ps[i]?=some y:=by
   rw[<-S.pre,List.getElem?_take_of_lt ()];exact h1
  have ndP:ps.Nodup:=by rw[<-S.pre];exact S.nd.sublist (Ny _ _)
  refine⟨u,rv,?_⟩;rcases S.par y (jz hp)with k|k
  ·exact .inl ⟨k,Lz ndP hp hu k⟩
  ·obtain⟨c,e⟩:=QF (n:=s⁻¹+1) k;refine .inr ⟨.inl k,c,e,?_⟩;have q:=x.cell y c e;rw[LC ndP hp hu (by show scope.names.lookup y≠_;rw[k];decide)]at q;exact q
 ·exact e0.hok.fresh (eO (x.above y c (Du h)))
 ·unfold start;show _=N.length;rw[cB,aK,S5];omega
def a1r{CX:R5}{P:Program}{w:World}{f:Addr}{name qual:Str}{params:Arguments}{scope:Scope}{dV kV doc pm dZ ct oc:Value}{an od:Option Addr}
  {osl:Array (Option Value)}{ps:List Str}{sp:Sp} (lk:K.lookup f=some ⟨oc,od,.func (PySem.W.fnOf name qual params body scope dV kV doc pm an dZ ct),osl⟩) (hcd:PySem.W.codeIn K dZ qual=true) (S:bD N ps scope)
  (len:∀vs H Q E,sp vs H Q E->vs.length=ps.length)
  (hbody:∀(A:Around) (outer:List Env) (s:Shared) (H:Hp) (vs:List V) (Q:VK) (E:XK),sJ k (A.deeper (envOfC qual scope s⁻¹ f dZ))->sp vs H Q E->
   ∃t,Qz (Ux CX P w K mg base N qual scope f dZ A outer s H E) body t/\t { nx:=λ_ H'=>Q .non H',rt:=Q} (start N vs) H) :
  bf P w K mg base CX (k+1) f (PySem.W.fnOf name qual params body scope dV kV doc pm an dZ ct) ps sp:=by
 refine⟨len,λA outer s H args us vs Q E hr e0 hb r hsp=>?_⟩;have hl:=len _ _ _ _ hsp;have KX:K.In s.heap:=e0.mod.kin.keeps λb o e=>(e0.bs b o e).1;have lim:s.heap.NoLimit:=e0.mod.nolimit.keeps λb o e=>(e0.bs b o e).1;have hkind:∀y∈ps.zip us,scope.names.lookup y.1=some .local\/(scope.names.lookup y.1=some .cell/\((cellsFrom (s⁻¹+1) scope.names []).lookup y.1).isSome=true):=λ⟨n,v⟩ hy=>by
  rcases S.par n (TY hy).1 with q|q
  ·exact .inl q
  ·exact .inr ⟨q,PySem.W.cellsFrom_some _ _ _ (.inl q)⟩
 refine codeAny_call_function hr.depth (KX _ _ lk) Z S.co S.gen Z (PySem.W.codeRec_of KX hcd) (hb _ _ _ _ (wpAny_newFunctionEnv_cells S.kind hkind λenv he s1 x=>?_));subst he;refine⟨lim.keeps x.toInCall.keep,codeAny_func ?_⟩;obtain⟨t,ht,hq⟩:=hbody A outer s H vs Q E (hr.deeper _) hsp;have I:bH (Ux CX P w K mg base N qual scope f dZ A outer s H E) [] (start N vs) H s1:=Yl S hr.hd e0 hl r x;refine iG (ht [] s1 (start N vs) H _ I hq) (λfl s' hs=>?_) λe s' hs=>hs;have fin:∀{σ':St}{H':Hp}{v:V}{u:Value},bH (Ux CX P w K mg base N qual scope f dZ A outer s H E) [] σ' H' s'->cW v u->Q v H'->CE outer P w H s Q u s' :=
  λ{σ' H' v u} Z97 rv q=>⟨v,H',Z97.os,Z97.bare,Z97.base,Z97.hok,rv,q⟩
 cases fl with
 |ret u =>
  obtain⟨v,σ',H',Z97,rv,q⟩:=hs;exact fin Z97 rv q
 |next =>
  obtain⟨σ',H',Z97,q⟩:=hs;exact fin (v:=V.non) (u:=Value.none) Z97 Z q
 |brk =>
  obtain⟨_,_,_,q⟩:=hs;exact False.elim q
 |cont =>
  obtain⟨_,_,_,q⟩:=hs;exact False.elim q
section
variable{X:Cx}{x:Str}{t:TA}{id T:String}{r:List V->Hp->VK->Prop}
def tCB(r:List V->Hp->VK->Prop)(t:TA):TE:=λσ H Q=>t σ H λvs H1=>r vs H1 Q
def bK(hc:jT X (.builtin id) r)(hg:Gl X x)(hm:X.mg x=none)(hv:bootBuiltins x=some (.builtin id))(ha:PA X (e::es) t)(hn:@&(x≠ "__name__"))(hdb:@&((x==("__debug__" : Str))=false))
  (he:@&(starEach (e::es) X.env=(false,eval e X.env)::starEach es X.env)) (hpl:@&((backTo pos (starEach es X.env)).any (·.1)=false)):PE X (.Call (.Name x p) (e::es) [] pos) (tCB r t):=by
 intro Y s σ H Q I h;exact xq (vU I hg hm hv (PyProof.Rows.callWith_builtin1 (jG (ha pos Y s σ H _ I h) λus s1 ⟨vs,H1,I1,r1,q1⟩=>hc Y s1 σ H1 vs us Q I1 r1 q1) he hpl) hn hdb)
def jY(hc:jT X (.type T) r)(hg:Gl X x)(hm:X.mg x=none)(hv:bootBuiltins x=some (.type T))(ha:PA X (e::es) t)(hn:@&(x≠ "__name__"))(hdb:@&((x==("__debug__" : Str))=false))
  (he:@&(starEach (e::es) X.env=(false,eval e X.env)::starEach es X.env)) (hpl:@&((backTo pos (starEach es X.env)).any (·.1)=false)):PE X (.Call (.Name x p) (e::es) [] pos) (tCB r t):=by
 intro Y s σ H Q I h;exact xq (vU I hg hm hv (zQ (jG (ha pos Y s σ H _ I h) λus s1 ⟨vs,H1,I1,r1,q1⟩=>hc Y s1 σ H1 vs us Q I1 r1 q1) he hpl) hn hdb)
end
end L2
namespace HT
open PyProof.Rows
section
variable{prog:Program}{w:World}{A:Around}{E:Value->Shared->Prop}{s:Shared}
def ż{t b:Addr}{vs ws:List Value}{Q:Value->Shared->Prop}(ht:IsTup s.heap t vs.toArray)(hb:IsTup s.heap b ws.toArray)(hv:vs≠[])
  (h1:ws=[]->Q (.ref t) s) (h2:ws≠[]->Q (.ref s⁻¹) { s with heap:=s.heap.push { cls:=.type "tuple",data:=.seq (vs++ws).toArray}})
  (hsz:vs.length+ws.length<=sizeLine):wpAny (model prog w) A (binaryOp .Add (.ref t) (.ref b)) Q E s:=by
 obtain⟨⟨cls,dd,data,sl⟩,ho,hc,n,hd⟩:=id ht;obtain⟨⟨cls2,dd2,data2,sl2⟩,ho2,hc2,n2,hd2⟩:=id hb;simp only at hc hd hc2 hd2;subst hc hd hc2 hd2;have e:vs.toArray++ws.toArray=(vs++ws).toArray:=by simp
 by_cases hw:ws=[]
 ·exact Oh ⟨_,ho,Z⟩ ⟨_,ho2,Z⟩ NP Od Nk Ni (Ng _ _)
   (tuple_addW1 t b vs.toArray ws.toArray n n2 dd dd2 sl sl2 (by simpa using hv) (by simp[hw])) ⟨ho,ho2,h1 hw⟩
 ·refine Oh ⟨_,ho,Z⟩ ⟨_,ho2,Z⟩ NP Od Nk Ni (Ng _ _)
   (tuple_addW2 t b vs.toArray ws.toArray n n2 dd dd2 sl sl2 (by simpa using hv) (by simpa using hw) (by rw[gn,gn];exact hsz)) ⟨ho,ho2,?_⟩
  rw[e];exact h2 hw
def lK(n d:Nat):Option Int->Nat
 |none=>d
 |some v=>if v<0 then(v+(n:Int)).toNat else min v.toNat n
def QG(n d:Nat):lK n d none=d:=rfl
def Ow(n d k:Nat):lK n d (some (k:Int))=min k n:=by
 show(if(k:Int)<0 then((k:Int)+(n:Int)).toNat else min (k:Int).toNat n)=min k n;rw[aB (),iU]
def a2k(n d:Nat)(hd:d<=n)(o:Option Int):lK n d o<=n:=by
 cases o with
 |none=>exact hd
 |some v =>
  show(if v<0 then(v+(n:Int)).toNat else min v.toNat n)<=n;by_cases hv:v<0
  ·rw[aG hv];omega
  ·rw[aB hv];exact TF _ _
def Wx(v:Int)(n d:Nat):(if v<0 then max (v+(n:Int)) 0 else min v (n:Int))=((lK n d (some v):Nat):Int):=by
 show(if v<0 then max (v+(n:Int)) 0 else min v (n:Int))=(((if v<0 then(v+(n:Int)).toNat else min v.toNat n):Nat):Int);by_cases hv:v<0
 ·simp only[if_pos hv];omega
 ·simp only[if_neg hv];omega
def Uy(lo hi:Option Int)(n:Nat):Builtin.Slice.sliceAdjust lo hi 1 (n:Int)=(((lK n 0 lo:Nat):Int),((lK n n hi:Nat):Int)):=by
 have h1:¬((1:Int)<0):=()
 unfold Builtin.Slice.sliceAdjust;simp only[h1,if_false];refine Prod.ext ?_ ?_
 ·cases lo with
  |none=>rfl
  |some v=>exact Wx v n 0
 ·cases hi with
  |none=>rfl
  |some v=>exact Wx v n n
def Uz(i j:Nat):Builtin.Slice.slicePlaces (i:Int) (j:Int) 1=j-i:=by
 unfold Builtin.Slice.slicePlaces;have h1:(1:Int)>0:=()
 simp only[h1,if_true,Int.ediv_one];split<;>omega
def Ja{v:Value}{o:Option Int}{Q:Option Int->Shared->Prop}(p:IsPart v o)(h:Q o s):wpAny (model prog w) A (Builtin.Slice.slicePartIndex v) Q E s:=by
 cases p with
 |none=>exact slicePart_none h
 |int i t=>exact slicePart_int h
def u5{sl:Addr}{vl vu:Value}{lo hi:Option Int}{n:Nat}{Q:Int×Int×Nat->Shared->Prop}(hs:s.heap.IsSliceOf sl vl vu .none)(pl:IsPart vl lo)(pu:IsPart vu hi)
  (h:Q (((lK n 0 lo:Nat):Int),1,lK n n hi-lK n 0 lo) s):wpAny (model prog w) A (Builtin.Slice.sliceApplied (.ref sl) (pure (n:Int))) Q E s:=by
 obtain⟨os,hos,hcs,hds⟩:=id hs;unfold Builtin.Slice.sliceApplied Builtin.Slice.sliceFields;refine M (M (gq hos hds (x:=vl) Z (M (gq hos hds (x:=vu) Z (M (gq hos hds (x:=.none) Z (aq (M (slicePart_none ?_)))))))));show wpAny _ _ (if((1:Int)==0)=true then _ else _) _ _ s;rw[aB ()];refine M (Ja pl (M (Ja pu (M (aq ?_)))));show wpAny _ _ (match Builtin.Slice.sliceAdjust lo hi 1 (n:Int)with|(lo,hi)=>pure (lo,(1:Int),Builtin.Slice.slicePlaces lo hi 1)) _ _ s;rw[Uy lo hi n];show wpAny _ _ (pure (((lK n 0 lo:Nat):Int),(1:Int),Builtin.Slice.slicePlaces ((lK n 0 lo:Nat):Int) ((lK n n hi:Nat):Int) 1)) _ _ s;rw[Uz];exact aq h
def Ô(xs:Array Value)(i k:Nat):((List.range k).filterMap λ(m:Nat)=>xs[((i:Int)+(m:Int)*1).toNat]?).toArray=((xs.toList.drop i).take k).toArray:=by
 have e:(λ(m:Nat)=>xs[((i:Int)+(m:Int)*1).toNat]?)=λm=>xs[i+m]?:=by
  funext m;have:((i:Int)+(m:Int)*1).toNat=i+m:=()
  rw[this]
 rw[e];have:=pick_run xs i k;rw[Tj]at this;have e2:((λx=>xs[x]?)∘λx=>i+x)=λm=>xs[i+m]?:=rfl;rw[e2]at this;rw[this]
def BK{t sl:Addr}{items:Array Value}{vl vu:Value}{lo hi:Option Int}{Q:Value->Shared->Prop}(ht:IsTup s.heap t items)(hs:s.heap.IsSliceOf sl vl vu .none)(pl:IsPart vl lo)(pu:IsPart vu hi)
  (hw:¬(lK items.size 0 lo=0/\lK items.size items.size hi=items.size))
  (h:Q (.ref s⁻¹) { s with heap:=s.heap.push { cls:=.type "tuple",data:=.seq ((items.toList.drop (lK items.size 0 lo)).take (lK items.size items.size hi-lK items.size 0 lo)).toArray}})
  (hsz:items.size<=sizeLine):wpAny (model prog w) A (getItem (.ref t) (.ref sl)) Q E s:=by
 have Wy:sizeOk (.seq ((items.toList.drop (lK items.size 0 lo)).take (lK items.size items.size hi-lK items.size 0 lo)).toArray):=by
  show((items.toList.drop (lK items.size 0 lo)).take (lK items.size items.size hi-lK items.size 0 lo)).toArray.size<=sizeLine;rw[gn,gb,j9,vI];omega
 have hj:lK items.size items.size hi<=items.size:=a2k _ _ (aM _) hi;obtain⟨os,hos,hcs,hds⟩:=id hs;have hTs:s.TypeIs (.ref sl) "slice" :=⟨os,hos,hcs⟩;unfold getItem;try with_reducible refine fG ?_
 first|refine M (aq ?_)|skip
 refine M (wpAny_sequenceKey ht.typeIs () ?_);refine M (oE (name:=Str.ofString "__getitem__") ht.typeIs M6
  (gF M6 ht.typeIs entry_tuple_getitem ?_ (args_tuple_getitem _ _)))
 show wpAny _ _ (Builtin.Tuple.tupleItemsOf (.ref t) >>= _) _ _ s;refine M (tupleItemsOf_ ht (M (vQ hTs ?_)));rw[aG ()];refine M (u5 hs pl pu ?_);have hno:¬((((lK items.size 0 lo:Nat):Int)==0&&(1:Int)==1&&(lK items.size items.size hi-lK items.size 0 lo)==items.size)=true):=by
  intro q;rw[qj,qj]at q;have q1:((lK items.size 0 lo:Nat):Int)=0:=eq_of_beq q.1.1;have q2:lK items.size items.size hi-lK items.size 0 lo=items.size:=eq_of_beq q.2;exact hw ⟨(),()⟩
 show wpAny _ _ (if(((lK items.size 0 lo:Nat):Int)==0&&(1:Int)==1&&(lK items.size items.size hi-lK items.size 0 lo)==items.size)=true then _ else _) _ _ s;rw[aB hno,Ô];first
  |exact M (m:=Builtin.Tuple.tupleExact _) (j8 (aq ⟨_,Z,aq h⟩) Wy)
  |exact M (m:=Builtin.Tuple.tupleExact _) (j8 (M (aq (aq ⟨_,Z,aq h⟩))) Wy)
  |exact M (M (m:=Builtin.Tuple.tupleExact _) (j8 (aq (aq ⟨_,Z,aq h⟩)) Wy))
  |exact M (M (m:=Builtin.Tuple.tupleExact _) (j8 (aq ⟨_,Z,aq h⟩) Wy))
end
end HT
namespace L2
open PyProof.Rows
variable{X:Cx}{us bV:List Value}{n:Nat}{α:Type}{Y:List (Addr×Obj)}{σ:St}
abbrev TO:=St->Hp->(Option Int->Hp->Prop)->Prop
def PO(X:Cx)(e:Option Expr)(t:TO):Prop :=
 ∀(Y:List (Addr×Obj)) (s:Shared) (σ:St) (H:Hp) (Q:Option Int->Hp->Prop),bH X Y σ H s->t σ H Q->
  wpAny (model X.prog X.w) X.A (evalPart e X.env) (λu s'=>∃o H',bH X Y σ H' s'/\IsPart u o/\Q o H') X.xe s
def Ž:TO:=λ_ H Q=>Q none H
def a4z(t:TE):TO:=λσ H Q=>t σ H λx H1=>EA (λi=>x=.int i) λi=>Q (some i) H1
section
variable{e:Expr}{te:TE}{lo hi:Option Expr}{tl th:TO}{pos p2:Pos}
def jL:PO X none Ž:=by
 intro Y s σ H Q I h;rw[evalPart_none];exact aq ⟨none,H,I,.none,h⟩
def jM(h:PE X e te):PO X (some e) (a4z te):=by
 intro Y s σ H Q I hw;rw[evalPart_some];refine jG (h Y s σ H _ I hw) λu s1 ⟨x,H1,I1,r1,q1⟩=>?_;obtain⟨i,rfl,q⟩:=q1;obtain⟨t,rfl⟩:=r1;exact⟨some i,H1,I1,.int i t,q⟩
def SlR(X:Cx)(r:V->Option Int->Option Int->Hp->VK->Prop):Prop :=
 ∀(Y:List (Addr×Obj)) (s:Shared) (σ:St) (H:Hp) (x:V) (v vl vu:Value) (lo hi:Option Int) (sl:Addr) (Q:VK),bH X Y σ H s->cW x v->s.heap.IsSliceOf sl vl vu .none->IsPart vl lo->IsPart vu hi->r x lo hi H Q->
  ∃T id,typeLookup (.type T) "__getitem__" = pure (some (.builtin id))/\s.TypeIs v T/\wpAny (model X.prog X.w) X.A (getItem v (.ref sl)) (EP X Y σ Q) X.xe s
def tSl(r:V->Option Int->Option Int->Hp->VK->Prop)(te:TE)(tl th:TO):TE:=λσ H Q=>te σ H λx H1=>tl σ H1 λl H2=>th σ H2 λu H3=>r x l u H3 Q
def iH{r:V->Option Int->Option Int->Hp->VK->Prop}(hr:SlR X r)(he:PE X e te)(hl:PO X lo tl)(hu:PO X hi th):PE X (.Subscript e (.Slice lo hi none p2) pos) (tSl r te tl th):=by
 intro Y s σ H Q I h;refine Subscript_ (jG (he Y s σ H _ I h) λv s1 ⟨x,H1,I1,r1,q1⟩=>wpAny_Slice (jG (hl Y s1 σ H1 _ I1 q1) λvl s2 ⟨l,H2,I2,pl,q2⟩=>jG (hu Y s2 σ H2 _ I2 q2) λvu s3 ⟨u,H3,I3,pu,q3⟩=>?_));rw[evalPart_none];refine aq ?_;have I4:bH X Y σ H3 { s3 with heap:=s3.heap.push { cls:=.type "slice",data:=.fields #[vl,vu,.none]}}:=I3.kept (t':=s3.toks) λb ob q=>bL _ q;obtain⟨T,id,hT,ht,hg⟩:=hr Y { s3 with heap:=s3.heap.push { cls:=.type "slice",data:=.fields #[vl,vu,.none]}} σ H3 x v vl vu l u s3⁻¹ Q I4 r1 (Heap.IsSliceOf.new ..) pl pu q3;show wpAny (model X.prog X.w) X.A (subscriptTail e (.Slice lo hi none p2) v (.ref s3⁻¹)) (EP X Y σ Q) X.xe { s3 with heap:=s3.heap.push { cls:=.type "slice",data:=.fields #[vl,vu,.none]}};exact tail_any (ops:=[.ref s3⁻¹,v]) ht hT hg (by with_unfolding_all rfl)
def uM(xs:List V)(lo hi:Option Int):List V:=(xs.drop (HT.lK xs.length 0 lo)).take (HT.lK xs.length xs.length hi-HT.lK xs.length 0 lo)
def Fp(xs:List V)(lo hi:Option Int):(uM xs lo hi).length<=xs.length:=by
 unfold uM;rw[gb,j9];omega
inductive a6w(K:aJ)(x:V)(lo:Option Int)(hi:Option Int)(H:Hp)(Q:VK):Prop
 |mk (a xs:_) (_:x=.ref a) (_:cQ K H a xs) (_:¬(HT.lK xs.length 0 lo=0/\HT.lK xs.length xs.length hi=xs.length)) (_:∀p,H p=none->Q (.ref p) (cN H p (.tup (uM xs lo hi))))
def Õ:SlR X (a6w X.K):=by
 intro Y s σ H x v vl vu lo hi sl Q I rx hs pl pu h;obtain⟨a,xs,rfl,hx,hw,q⟩:=h;cases rx;obtain⟨bV,r,ht,hz⟩:=I.tuple hx;have hlen:bV.toArray.size=xs.length:=by rw[gn];exact r.length.symm
 refine⟨"tuple",_,PyProof.Rows.slot_tuple_getitem.lookup,ht.typeIs,?_⟩;refine HT.BK ht hs pl pu (by rw[hlen];exact hw) ?_ (by rw[hlen];exact hz);rw[hlen];exact⟨.ref s⁻¹,_,I.laid (t':=s.toks) (o:=.tup (uM xs lo hi)) (λb ob q=>bL _ q) (aM _) ⟨cV (Fp xs lo hi) hz,_,(r.drop (HT.lK xs.length 0 lo)).take (HT.lK xs.length xs.length hi-HT.lK xs.length 0 lo),IsTup.new _ _⟩,Z,q _ (I.hok.fresh (aM _))⟩
inductive a4A(K:aJ)(x:V)(y:V)(H:Hp)(Q:VK):Prop
 |mk (a b xs ys:_) (_:x=.ref a) (_:y=.ref b) (_:cQ K H a xs) (_:cQ K H b ys) (_:xs≠[]) (_:xs.length+ys.length<=sizeLine) (_:(ys=[]->Q (.ref a) H)) (_:(ys≠[]->∀p,H p=none->Q (.ref p) (cN H p (.tup (xs++ys)))))
def cM.BL{xs:List V}(r:cM xs us):us=[]↔xs=[]:=by
 cases r with
 |nil=>simp
 |cons _ _=>simp
def Wz:sX X (binaryOp .Add) (a4A X.K):=by
 intro Y s σ H x y v u Q I rx ry h;obtain⟨a,b,xs,ys,rfl,rfl,ha,hb,hx,hz,q1,q2⟩:=h;cases rx;cases ry;obtain⟨bV,r1,p1,_⟩:=I.tuple ha;obtain⟨its2,r2,p2,_⟩:=I.tuple hb;refine HT.ż p1 p2 (λz=>hx (r1.BL.mp z)) (λz=>⟨.ref a,H,I,Z,q1 (r2.BL.mp z)⟩) (λz=>?_) (by rw[<-r1.length,<-r2.length];exact hz);refine⟨.ref s⁻¹,_,I.laid (t':=s.toks) (o:=.tup (xs++ys)) (λb ob q=>bL _ q) (aM _) ?_,Z,q2 (λw=>z (r2.BL.mpr w)) _ (I.hok.fresh (aM _))⟩;exact⟨by rw[cB];exact hz,_,r1.append r2,IsTup.new _ _⟩
end
def Ş(n:Nat)(i:Int):Option Nat:=if 0<=i then(if i<n then some i.toNat else none)else if -(n:Int)<=i then some (i+n).toNat else none
def R6{α:Type}(xs:List α)(i:Int):Option α:=(Ş xs.length i).bind λj=>xs[j]?
def WD{i:Int}{j:Nat}(h:Ş n i=some j):seqIndex? i n=some j/\j<n/\ -(n:Int)<=i/\i<n:=by
 unfold Ş at h;by_cases h0:0<=i
 ·rw[aG h0]at h;by_cases h1:i<n
  ·rw[aG h1]at h;have e:i.toNat=j:=dB h;exact⟨by rw[seqIndex_of h0 h1,e],(),(),h1⟩
  ·rw[aB h1]at h;cases h
 ·rw[aB h0]at h;by_cases h1 : -(n:Int)<=i
  ·rw[aG h1]at h;have e:(i+n).toNat=j:=dB h;exact⟨by rw[seqIndex_neg () h1,e],(),h1,()⟩
  ·rw[aB h1]at h;cases h
def Ox{xs:List α}{i:Int}{v:α}(h:R6 xs i=some v):∃j,seqIndex? i xs.length=some j/\xs[j]?=some v/\j<xs.length/\ -(xs.length:Int)<=i/\i<xs.length:=by
 unfold R6 at h;cases e:Ş xs.length i with
 |none=>rw[e]at h;cases h
 |some j =>
  rw[e]at h;obtain⟨h1,h2,h3,h4⟩:=WD e;exact⟨j,h1,h,h2,h3,h4⟩
def cu{xs:List α}{j:Nat}{v:α}(h:xs[j]?=some v):R6 xs (j:Int)=some v:=by
 have hj:j<xs.length:=(fL.mp h).1;have e:Ş xs.length (j:Int)=some j:=by
  unfold Ş;rw[aG (),aG ()];simp
 unfold R6;rw[e];exact h
def ž(b:Expr):Prop:=∀o i,subscripted b false o i=operate [o,i] (getItem o i)
def IxR(X:Cx)(r:R2):Prop :=
 ∀(value slice:Expr) (Y:List (Addr×Obj)) (s:Shared) (σ:St) (H:Hp) (x y:V) (v u:Value) (Q:VK),bH X Y σ H s->cW x v->cW y u->r x y H Q->
  subscripted slice false v u=operate [v,u] (getItem v u)->wpAny (model X.prog X.w) X.A (subscriptTail value slice v u) (EP X Y σ Q) X.xe s
def MtR(X:Cx)(id:String)(r:V->List V->Hp->VK->Prop):Prop :=
 ∀(Y:List (Addr×Obj)) (s:Shared) (σ:St) (H:Hp) (x:V) (xs:List V) (v:Value) (us:List Value) (Q:VK),bH X Y σ H s->cW x v->cM xs us->r x xs H Q->
  wpAny (model X.prog X.w) X.A (call (.builtin id) (v::us)) (EP X Y σ Q) X.xe s
section
variable{a b:Expr}{ta tb:TE}{pos:Pos}
def aQ{r:R2}(hr:IxR X r)(ha:PE X a ta)(hb:PE X b tb)(hs:ž b:=by exact λ_ _=>rfl):PE X (.Subscript a b pos) (tOp r ta tb):=by
 intro Y s σ H Q I h;exact Subscript_ (a2d ha hb I h λv u s2 x y H2 I2 rx ry q=>hr a b Y s2 σ H2 x y v u Q I2 rx ry q (hs _ _))
inductive a4B(K:aJ)(x:V)(y:V)(H:Hp)(Q:VK):Prop
 |mk (p xs i v:_) (_:x=.ref p) (_:y=.int i) (_:bN K H p xs) (_:R6 xs i=some v) (_:Q v H)
inductive a4C(K:aJ)(x:V)(y:V)(H:Hp)(Q:VK):Prop
 |mk (p xs i v:_) (_:x=.ref p) (_:y=.int i) (_:cQ K H p xs) (_:R6 xs i=some v) (_:Q v H)
def Α:IxR X (a4B X.K):=by
 intro value slice Y s σ H x y v u Q I rx ry h hs;obtain⟨p,xs,i,z,rfl,rfl,hq,he,q⟩:=h;cases rx;obtain⟨t,rfl⟩:=ry;obtain⟨bV,r,pl,hz⟩:=I.list hq;obtain⟨j,h1,h2,h3,h4,h5⟩:=Ox he;obtain⟨w,ew,Ym⟩:=r.get h2;have hl:=r.length;have hn:=IW;have fin:EP X Y σ Q w s:=⟨z,H,I,Ym,q⟩;by_cases h0:0<=i
 ·have hj:i.toNat=j:=by
   rw[seqIndex_of h0 h5]at h1;exact dB h1
  exact item_listR pl.isList h0 () (by rw[hj];simpa using ew) fin hs
 ·have hj:(i+(bV.toArray.size:Int)).toNat=j:=by
   rw[seqIndex_neg () h4]at h1;rw[gn,<-hl];exact dB h1
  exact subscriptTail_builtinR (x:=w) pl.isList.typeIs slot_list_getitem.lookup
   (wpAny_getItem_list_neg (Q:=λr s'=>r=w/\EP X Y σ Q r s') pl.isList () (by rw[gn]<;>omega) () (by rw[hj];simpa using ew) ⟨Z,fin⟩) hs
def a2l:IxR X (a4C X.K):=by
 intro value slice Y s σ H x y v u Q I rx ry h hs;obtain⟨p,xs,i,z,rfl,rfl,hq,he,q⟩:=h;cases rx;obtain⟨t,rfl⟩:=ry;obtain⟨bV,r,pl,hz⟩:=I.tuple hq;obtain⟨j,h1,h2,h3,h4,h5⟩:=Ox he;obtain⟨w,ew,Ym⟩:=r.get h2;have hl:=r.length;have hn:=IW;have fin:EP X Y σ Q w s:=⟨z,H,I,Ym,q⟩;exact subscriptTail_builtinR (x:=w) pl.typeIs slot_tuple_getitem.lookup
  (getItem_tuple (j:=j) (Q:=λr s'=>r=w/\EP X Y σ Q r s') pl () () (by rw[gn,<-hl];exact h1) (by simpa using ew) ⟨Z,fin⟩) hs
def UG(bV:List Value)(n j:Nat)(u:Value):Obj.mapSeq (·.setIfInBounds j u) { cls:=.type "list",data:=.seq bV.toArray n}={ cls:=.type "list",data:=.seq (bV.set j u).toArray n}:=by
 simp[Obj.mapSeq]
def bH.lst{Y:List (Addr×Obj)}{σ:St}{H:Hp}{s:Shared}{p:Addr}{xs:List V}(I:bH X Y σ H s)(h:H p=some (.lst xs)) :
  ∃(bV:List Value) (n:Nat),cM xs bV/\s.heap.get? p=some { cls:=.type "list",data:=.seq bV.toArray n}/\xs.length<=sizeLine:=by
 obtain⟨z,bV,n,r,e⟩:=I.hok p _ h;exact⟨bV,n,r,e,z⟩
def bH.a2m{H:Hp}{s:Shared}{p:Addr}{xs ys:List V}{its':List Value}{n':Nat}{f:Obj->Obj}(I:bH X Y σ H s)(h:H p=some (.lst xs))
  (ho:s.heap.get? p=some { cls:=.type "list",data:=.seq bV.toArray n}) (hf:f { cls:=.type "list",data:=.seq bV.toArray n}={ cls:=.type "list",data:=.seq its'.toArray n'}) (r:cM ys its') (hz:ys.length<=sizeLine) (t:Nat) :
  bH X Y σ (cN H p (.lst ys)) { s with heap:=s.heap.update p f,toks:=t}:=by
 have e:(s.heap.update p f).get? p=some { cls:=.type "list",data:=.seq its'.toArray n'}:=by
  rw[zW f ho (by rw[hf]<;>rfl),hf]
 refine I.write (x:=p) (e:=p) (by rw[h];trivial) (.inl Z) (λb u hb q=>(Nm _ _ (Ne.symm hb)).trans q) ⟨_,e⟩ ?_;exact⟨hz,its',n',r,e⟩
inductive a4D(o:V)(i:V)(v:V)(H:Hp)(Q:Hp->Prop):Prop
 |mk (p xs k j:_) (_:o=.ref p) (_:i=.int k) (_:H p=some (.lst xs)) (_:Ş xs.length k=some j) (_:Q (cN H p (.lst (xs.set j v))))
def set_list:Ŷ X a4D:=by
 intro Y s σ H o i v ov iv u Q I ro ri rv h;obtain⟨p,xs,k,j,rfl,rfl,hp,hj,q⟩:=h;cases ro;obtain⟨t,rfl⟩:=ri;obtain⟨bV,n,r,ho,hz⟩:=I.lst hp;obtain⟨h1,h2,h3,h4⟩:=WD hj;have hl:=r.length;have hn:=IW;have I':bH X Y σ (cN H p (.lst (xs.set j v))) { s with heap:=s.heap.update p (Obj.mapSeq (·.setIfInBounds j u))} :=
  I.a2m hp ho (UG bV n j u) (r.set rv j) (by rw[List.length_set];exact hz) s.toks
 by_cases h0:0<=k
 ·have hk:k.toNat=j:=by
   rw[seqIndex_of h0 h4]at h1;exact dB h1
  exact PySem.W.ki_setAt ho h0 () (by rw[gn,<-hl];exact h4) (by rw[hk];exact⟨_,I',q⟩)
 ·have hk:(k+(bV.toArray.size:Int)).toNat=j:=by
   rw[seqIndex_neg () h3]at h1;rw[gn,<-hl];exact dB h1
  exact PySem.W.ki_setBack ho () (by rw[gn,<-hl];exact h3) () (by rw[hk];exact⟨_,I',q⟩)
def Oz(lo hi:Option Int)(n:Nat):(sliceBounds lo hi none n).1=((HT.lK n 0 lo:Nat):Int)/\(sliceBounds lo hi none n).2.1=((HT.lK n n hi:Nat):Int)/\(sliceBounds lo hi none n).2.2=1:=by
 refine⟨?_,?_,Z⟩
 ·cases lo with
  |none=>simp[sliceBounds,HT.lK]
  |some i =>
   simp only[sliceBounds,HT.lK,Option.getD_none,show(1:Int)>0 by decide,if_true];by_cases h:i<0
   ·simp only[h,if_true]<;>omega
   ·simp only[h,if_false]<;>omega
 ·cases hi with
  |none=>simp[sliceBounds,HT.lK]
  |some i =>
   simp only[sliceBounds,HT.lK,Option.getD_none,show(1:Int)>0 by decide,if_true];by_cases h:i<0
   ·simp only[h,if_true]<;>omega
   ·simp only[h,if_false]<;>omega
def KY(bV:List Value)(lo hi:Option Int):slicePick bV.toArray lo hi none=((bV.drop (HT.lK bV.length 0 lo)).take (HT.lK bV.length bV.length hi-HT.lK bV.length 0 lo)).toArray:=by
 obtain⟨h1,h2,h3⟩:=Oz lo hi bV.toArray.size;unfold slicePick;rw[h1,h2,h3];simp only[sliceRange_one,pick_run,List.size_toArray]<;>rfl
inductive a6x(K:aJ)(x:V)(lo:Option Int)(hi:Option Int)(H:Hp)(Q:VK):Prop
 |mk (a xs:_) (_:x=.ref a) (_:bN K H a xs) (_:∀p,H p=none->Q (.ref p) (cN H p (.lst (uM xs lo hi))))
def Β:SlR X (a6x X.K):=by
 intro Y s σ H x v vl vu lo hi sl Q I rx hs pl pu h;obtain⟨a,xs,rfl,hx,q⟩:=h;cases rx;obtain⟨bV,r,ht,hz⟩:=I.list hx;have hlen:=r.length;refine⟨"list",_,slot_list_getitem.lookup,ht.isList.typeIs,?_⟩;refine wpAny_getItem_list_slice ht.isList hs pl pu .none (by simp) ?_ (by rw[gn]<;>omega);rw[KY,<-hlen];exact⟨.ref s⁻¹,_,I.laid (t':=s.toks) (o:=.lst (uM xs lo hi)) (λb ob q=>bL _ q) (aM _) ⟨cV (Fp xs lo hi) hz,_,0,(r.drop (HT.lK xs.length 0 lo)).take (HT.lK xs.length xs.length hi-HT.lK xs.length 0 lo),bW _ Z⟩,Z,q _ (I.hok.fresh (aM _))⟩
def BP:V->Bool
 |.non=>true
 |.bl _=>true
 |.int _=>true
 |.str _=>true
 |_=>false
def Ö:V->V->Bool
 |.non,.non=>true
 |.bl a,.bl b=>a==b
 |.bl a,.int b=>(if a then 1 else 0)==b
 |.int a,.bl b=>a==(if b then 1 else 0)
 |.int a,.int b=>a==b
 |.str a,.str b=>a==b
 |_,_=>false
def a2n{A:Around}{s:Shared}{y x:V}{u v:Value}(ry:cW y u)(rx:cW x v)(fy:BP y=true)(fx:BP x=true):SeqAt.EqAt A s u v (Ö y x):=by
 cases y with
 |non =>
  cases ry;cases x with
  |non=>cases rx;exact SeqAt.EqAt.same _
  |bl b=>cases rx;exact SeqAt.EqAt.none_bool b
  |int b=>obtain⟨t,rfl⟩:=rx;exact SeqAt.EqAt.none_int b t
  |str b=>obtain⟨t,rfl⟩:=rx;exact SeqAt.EqAt.none_str b t
  |_=>exact absurd (show false=true from fx) dh
 |bl a =>
  cases ry;cases x with
  |non=>cases rx;exact SeqAt.EqAt.bool_none a
  |bl b=>cases rx;exact SeqAt.EqAt.bool_bool a b
  |int b=>obtain⟨t,rfl⟩:=rx;exact SeqAt.EqAt.bool_int a b t
  |str b=>obtain⟨t,rfl⟩:=rx;exact SeqAt.EqAt.bool_str a b t
  |_=>exact absurd (show false=true from fx) dh
 |int a =>
  obtain⟨t',rfl⟩:=ry;cases x with
  |non=>cases rx;exact SeqAt.EqAt.int_none a t'
  |bl b=>cases rx;exact SeqAt.EqAt.int_bool a t' b
  |int b=>obtain⟨t,rfl⟩:=rx;exact SeqAt.EqAt.int_int a t' b t
  |str b=>obtain⟨t,rfl⟩:=rx;exact SeqAt.EqAt.int_str a t' b t
  |_=>exact absurd (show false=true from fx) dh
 |str a =>
  obtain⟨t',rfl⟩:=ry;cases x with
  |non=>cases rx;exact SeqAt.EqAt.str_none a t'
  |bl b=>cases rx;exact SeqAt.EqAt.str_bool a t' b
  |int b=>obtain⟨t,rfl⟩:=rx;exact SeqAt.EqAt.str_int a t' b t
  |str b=>obtain⟨t,rfl⟩:=rx;exact SeqAt.EqAt.str_str a t' b t
  |_=>exact absurd (show false=true from fx) dh
 |_=>exact absurd (show false=true from fy) dh
def UJ(x:V)(u:Value):Bool:=match u with
 |.none=>Ö .non x
 |.bool b=>Ö (.bl b) x
 |.int i _=>Ö (.int i) x
 |.str z _=>Ö (.str z) x
 |_=>false
def Ø{x y:V}{u:Value}(r:cW y u)(f:BP y=true):UJ x u=Ö y x:=by
 cases y with
 |non=>cases r;rfl
 |bl b=>cases r;rfl
 |int i=>obtain⟨t,rfl⟩:=r;rfl
 |str z=>obtain⟨t,rfl⟩:=r;rfl
 |_=>exact absurd (show false=true from f) dh
def GK{x:V}{xs:List V}(h:cM xs us)(f:xs.all BP=true):us.any (UJ x)=xs.any λy=>Ö y x:=by
 induction h with
 |nil=>rfl
 |cons r t ih =>
  rw[List.all_cons,qj]at f;rw[tH,tH,Ø r f.1,ih f.2]
def BR{A:Around}{s:Shared}{x:V}{v:Value}(rx:cW x v)(fx:BP x=true){xs:List V}(h:cM xs us)(f:xs.all BP=true):∀u∈us,SeqAt.EqAt A s u v (UJ x u):=by
 induction h with
 |nil=>intro u hu;cases hu
 |cons r t ih =>
  intro u' hu;rw[List.all_cons,qj]at f;rcases bZ.mp hu with rfl|hu
  ·rw[Ø r f.1];exact a2n r rx f.1 fx
  ·exact ih f.2 u' hu
def inV(x:V)(xs:List V):Bool:=xs.any λy=>Ö y x
inductive rIn(K:aJ)(neg:Bool)(x:V)(y:V)(H:Hp)(Q:VK):Prop
 |mk (p xs:_) (_:y=.ref p) (_:(bN K H p xs\/cQ K H p xs)) (_:BP x=true) (_:xs.all BP=true) (_:Q (.bl (if neg then !inV x xs else inV x xs)) H)
def Yn:sX X (compareOp .In) (rIn X.K false):=by
 intro Y s σ H x y v u Q I rx ry h;obtain⟨p,xs,rfl,hq,fx,fs,q⟩:=h;cases ry;rcases hq with hq|hq
 ·obtain⟨bV,r,pl,hz⟩:=I.list hq;refine SeqAt.in_listAt (UJ x) pl.isList (λw hw=>BR rx fx r fs w (by simpa using hw)) ⟨.bl _,H,I,Z,?_⟩;rw[show bV.toArray.any (UJ x)=bV.any (UJ x) by simp,GK r fs];exact q
 ·obtain⟨bV,r,pl,hz⟩:=I.tuple hq;refine SeqAt.in_tupleAt (UJ x) pl (λw hw=>BR rx fx r fs w (by simpa using hw)) ⟨.bl _,H,I,Z,?_⟩;rw[show bV.toArray.any (UJ x)=bV.any (UJ x) by simp,GK r fs];exact q
def OD:sX X (compareOp .NotIn) (rIn X.K true):=by
 intro Y s σ H x y v u Q I rx ry h;obtain⟨p,xs,rfl,hq,fx,fs,q⟩:=h;cases ry;rcases hq with hq|hq
 ·obtain⟨bV,r,pl,hz⟩:=I.list hq;refine SeqAt.notIn_listAt (UJ x) pl.isList (λw hw=>BR rx fx r fs w (by simpa using hw)) ⟨.bl _,H,I,Z,?_⟩;rw[show bV.toArray.any (UJ x)=bV.any (UJ x) by simp,GK r fs];exact q
 ·obtain⟨bV,r,pl,hz⟩:=I.tuple hq;refine SeqAt.notIn_tupleAt (UJ x) pl (λw hw=>BR rx fx r fs w (by simpa using hw)) ⟨.bl _,H,I,Z,?_⟩;rw[show bV.toArray.any (UJ x)=bV.any (UJ x) by simp,GK r fs];exact q
def OJ:jT X (.builtin "len") (λxs H Q=>∃p ys,xs=[.ref p]/\(bN X.K H p ys\/cQ X.K H p ys)/\Q (.int ys.length) H):=by
 intro Y s σ H xs us Q I r h;obtain⟨p,ys,rfl,hq,q⟩:=h;obtain⟨u,rfl,rx⟩:=vals1 r;cases rx;have hn:=IW;rcases hq with hq|hq
 ·obtain⟨bV,r',pl,hz⟩:=I.list hq;have hlen:=r'.length;exact Calls.call_len_list pl.isList (by simp only[List.size_toArray]<;>omega) ⟨.int ys.length,H,I.tok _,⟨s.toks+1,by rw[gn,hlen]⟩,q⟩
 ·obtain⟨bV,r',pl,hz⟩:=I.tuple hq;have hlen:=r'.length;exact len_tuple pl (by simp only[List.size_toArray]<;>omega) ⟨.int ys.length,H,I.tok _,⟨s.toks+1,by rw[gn,hlen]⟩,q⟩
def O1:jT X (.type "list") (λxs H Q=>∃p ys,xs=[.ref p]/\(bN X.K H p ys\/cQ X.K H p ys)/\∀l,H l=none->Q (.ref l) (cN H l (.lst ys))):=by
 intro Y s σ H xs us Q I r h;obtain⟨p,ys,rfl,hq,q⟩:=h;obtain⟨u,rfl,rx⟩:=vals1 r;cases rx;have fin:∀(bV:List Value),cM ys bV->ys.length<=sizeLine->∀(h':Heap) (c':Nat),(∀b o',s.heap.get? b=some o'->h'.get? b=some o')->
   h'.get? s⁻¹=some { cls:=.type "list",dict:=none,data:=.seq bV.toArray c',slots:=#[]}->EP X Y σ Q (.ref s⁻¹) { s with heap:=h'}:=λbV r' hz h' c' kp e =>
  ⟨.ref s⁻¹,_,I.laid (t':=s.toks) kp (aM _) (show fY X.prog X.w _ h' _ (.lst ys)from⟨hz,bV,c',r',e⟩),Z,q _ (I.hok.fresh (aM _))⟩
 rcases hq with hq|hq
 ·obtain⟨bV,r',pl,hz⟩:=I.list hq;have hlen:=r'.length;obtain⟨o,ho,hc,n,hd⟩:=pl.isList;exact call_list_seq p (.inl Z) ho hc hd (λh' c' kp e=>fin bV r' hz h' c' kp e) (by simp only[List.size_toArray]<;>omega)
 ·obtain⟨bV,r',pl,hz⟩:=I.tuple hq;have hlen:=r'.length;obtain⟨o,ho,hc,n,hd⟩:=pl;exact call_list_seq p (.inr Z) ho hc hd (λh' c' kp e=>fin bV r' hz h' c' kp e) (by simp only[List.size_toArray]<;>omega)
def uN:jT X (.type "tuple") (λxs H Q=>∃p ys,xs=[.ref p]/\((bN X.K H p ys/\∀l,H l=none->Q (.ref l) (cN H l (.tup ys)))\/(cQ X.K H p ys/\Q (.ref p) H))):=by
 intro Y s σ H xs us Q I r h;obtain⟨p,ys,rfl,h⟩:=h;obtain⟨u,rfl,rx⟩:=vals1 r;cases rx;rcases h with⟨hq,q⟩|⟨hq,q⟩
 ·obtain⟨bV,r',pl,hz⟩:=I.list hq;have hlen:=r'.length;refine call_tuple_list pl.isList (λh' kp=>?_) (by simp only[List.size_toArray]<;>omega);have I1:bH X Y σ H { s with heap:=h'}:=I.kept (t':=s.toks) kp;have I2:bH X Y σ (cN H h'.objs.size (.tup ys)) { s with heap:=h'.push { cls:=.type "tuple",data:=.seq bV.toArray}} :=
   I1.laid (t':=s.toks) (λb o e=>bL _ e) (aM _) (show fY X.prog X.w _ _ _ (.tup ys)from⟨hz,bV,r',IsTup.new _ _⟩)
  exact⟨.ref h'.objs.size,_,I2,Z,q _ (I1.hok.fresh (aM _))⟩
 ·obtain⟨bV,r',pl,hz⟩:=I.tuple hq;exact call_tuple_same pl ⟨.ref p,H,I,Z,q⟩
def tyV(K:aJ)(T:String)(x:V)(H:Hp):Prop:=match x with
 |.str _=>T = "str"
 |.int _=>T = "int"
 |.ref p=>(T = "list" /\∃xs,bN K H p xs)\/(T = "tuple" /\∃o,K.lookup p=some o/\o.cls=.type "tuple" /\o.dict=none)\/
   (T = "dict" /\((∃O,H p=some (.dK O))\/∃O,H p=some (.dT O)))\/(T = "set" /\∃S n,H p=some (.set S n))
 |_=>False
def Ù{H:Hp}{s:Shared}{T:String}{x:V}{v:Value}(I:bH X Y σ H s)(r:cW x v)(ty:tyV X.K T x H) :
  s.TypeIs v T/\∀a,v=.ref a->∃ob,s.heap.get? a=some ob/\ob.dict=none:=by
 cases x with
 |str z =>
  obtain⟨t,rfl⟩:=r;cases(show T = "str" from ty);exact⟨typeIs_str s z t,λ_ e=>nomatch e⟩
 |int i =>
  obtain⟨t,rfl⟩:=r;cases(show T = "int" from ty);exact⟨typeIs_int s i t,λ_ e=>nomatch e⟩
 |ref p =>
  cases r;rcases ty with⟨rfl,xs,hq⟩|⟨rfl,o,hk,hc,hd⟩|⟨rfl,hk⟩|⟨rfl,S,n,hk⟩
  ·obtain⟨bV,_,pl,_⟩:=I.list hq;refine⟨pl.isList.typeIs,λa e=>?_⟩;cases e;obtain⟨o,n,e,c,hd,_⟩:=pl;exact⟨o,e,hd⟩
  ·refine⟨⟨o,I.Dl p o hk,hc⟩,λa e=>?_⟩;cases e;exact⟨o,I.Dl _ o hk,hd⟩
  ·have z:∃o,s.heap.get? p=some o/\o.ExactDict:=by
    rcases hk with⟨O,hk⟩|⟨O,hk⟩
    ·obtain⟨_,_,_,_,o,_,_,e,ex,_⟩:=I.hok p _ hk;exact⟨o,e,ex⟩
    ·obtain⟨_,_,_,_,o,_,_,e,ex,_⟩:=I.hok p _ hk;exact⟨o,e,ex⟩
   obtain⟨o,e,ex⟩:=z;refine⟨⟨o,e,ex.1⟩,λa e2=>?_⟩;cases e2;exact⟨o,e,ex.2.1⟩
  ·obtain⟨o,_,_,_,e,ex,_⟩:=I.hok p _ hk;refine⟨⟨o,e,ex.1⟩,λa e2=>?_⟩;cases e2;exact⟨o,e,ex.2.1⟩
 |_=>exact False.elim ty
def a4E(K:aJ)(T:String)(r:V->List V->Hp->VK->Prop)(to:TE):TE:=λσ H Q=>to σ H λx H1=>tyV K T x H1/\r x [] H1 Q
def tBM(K:aJ)(T:String)(r:V->List V->Hp->VK->Prop)(to:TE)(t:TA):TE:=λσ H Q=>to σ H λx H1=>tyV K T x H1/\t σ H1 λxs H2=>r x xs H2 Q
variable{o e:Expr}{es:List Expr}{to:TE}{t:TA}{name:Str}{apos cpos:Pos}{T id:String}{r:V->List V->Hp->VK->Prop}
def a2o(pa:PlainAttrs T)(slot:Slot T name id)(hty:typeOf (.builtin id)=pure (.type "method_descriptor"))(hm:MtR X id r)(ho:PE X o to)
  (hbase:@&(attributeBase o name X.env (eval o X.env)=eval o X.env)) (hline:@&((apos.endLine==cpos.line)=true)):PE X (.Call (.Attribute o name apos) [] [] cpos) (a4E X.K T r to):=by
 intro Y s σ H Q I h;refine wpAny_Call_method0_late hbase hline (jG (ho Y s σ H _ I h) λv s1 ⟨x,H1,I1,r1,ty,q1⟩=>?_);obtain⟨h1,h2⟩:=Ù I1 r1 ty;exact⟨T,id,pa,slot,hty,h1,h2,SM Z (PySem.evalArgs_none (hm Y s1 σ H1 x [] v [] Q I1 r1 .nil q1))⟩
def a4F(pa:PlainAttrs T)(slot:Slot T name id)(hty:typeOf (.builtin id)=pure (.type "method_descriptor"))(hm:MtR X id r)(ho:PE X o to)(ha:PA X (e::es) t)
  (hbase:@&(attributeBase o name X.env (eval o X.env)=eval o X.env))
  (hfew:@&(((backTo cpos (starEach (e::es) X.env)).all (λx=>!x.1)&&(backToKw cpos (keywordEach [] X.env)).all (λx=>x.1.isSome)
   && decide ((e::es).length+([]:List Keyword).length+(if([]:List Keyword).isEmpty then 0 else 1)<30))=true))
  (hline:@&((apos.endLine==cpos.line)=true)) (hs:@&(starEach (e::es) X.env=(false,eval e X.env)::starEach es X.env)) (hplain:@&((backTo cpos (starEach es X.env)).any (·.1)=false)) :
  PE X (.Call (.Attribute o name apos) (e::es) [] cpos) (tBM X.K T r to t):=by
 intro Y s σ H Q I h;refine wpAny_Call_method_late hbase hfew hline Z (jG (ho Y s σ H _ I h) λv s1 ⟨x,H1,I1,r1,ty,q1⟩=>?_);obtain⟨h1,h2⟩:=Ù I1 r1 ty;refine⟨T,id,pa,slot,hty,h1,h2,?_⟩;have hA:=ha cpos Y s1 σ H1 _ I1 q1;rw[hs]at hA ⊢;refine SM (by show(false||(backTo cpos (starEach es X.env)).any (·.1))=false;rw[hplain]<;>rfl) (Calls.evalArgs_plain ?_);exact jG hA λus s2 ⟨vs,H2,I2,r2,q2⟩=>hm Y s2 σ H2 x vs v us Q I2 r1 r2 q2
end
def UL(X:Cx)(id:String)(r:V->List V->Hp->VK->Prop):Prop :=
 ∀(Y:List (Addr×Obj)) (s:Shared) (σ:St) (H:Hp) (x:V) (xs:List V) (v:Value) (us:List Value) (Q:VK),bH X Y σ H s->cW x v->cM xs us->r x xs H Q->
  wpAny (model X.prog X.w) X.A (call (.builtin id) (v::us)) (EP X Y σ Q) X.xe s
def cM.gh{x:V}(h:cM [x] us):∃u,us=[u]/\cW x u:=by
 cases h with
 |cons r t =>
  cases t;exact⟨_,Z,r⟩
def cM.zero:∀{us:List Value},cM [] us->us=[]
 |_,.nil=>rfl
def cM.dropLast{xs:List V}{us:List Value}(h:cM xs us):cM xs.dropLast us.dropLast:=by
 induction h with
 |nil=>exact .nil
 |cons r t ih =>
  cases t with
  |nil=>exact .nil
  |cons q t'=>exact .cons r ih
def UW(l:List α):l.eraseIdx (l.length-1)=l.dropLast:=by
 induction l with
 |nil=>rfl
 |cons a r ih =>
  cases r with
  |nil=>rfl
  |cons b r =>
   have e:(a::b::r).length-1=((b::r).length-1)+1:=by
    have h1:(a::b::r).length=r.length+2:=rfl;have h2:(b::r).length=r.length+1:=rfl;omega
   rw[e,List.eraseIdx_cons_succ,ih];all_goals rfl
section
variable{H:Hp}{s:Shared}{l b:Addr}{xs ys zs:List V}
def bH.a2p{its':List Value}{f:Array Value->Array Value}{t':Nat}(I:bH X Y σ H s)(hH:H l=some (.lst xs))
  (e:s.heap.get? l=some { cls:=.type "list",data:=.seq bV.toArray n}) (hf:f bV.toArray=its'.toArray) (hv:cM ys its') (hz:ys.length<=sizeLine) :
  bH X Y σ (cN H l (.lst ys)) { s with heap:=s.heap.update l (Obj.mapSeq f),toks:=t'}:=by
 have q:=PySem.IsL.update e f;rw[hf]at q;refine I.write (x:=l) (e:=l) (by rw[hH];exact trivial) (.inl Z) (λb' u hb hu=>(Nm s.heap (Obj.mapSeq f) (Ne.symm hb)).trans hu) ⟨_,q⟩ ?_;exact⟨hz,its',_,hv,q⟩
def bH.a6y{t':Nat}(I:bH X Y σ H s)(hv:cM ys bV)(hz:ys.length<=sizeLine) :
  bH X Y σ (cN H s⁻¹ (.lst ys)) { s with heap:=s.heap.push { cls:=.type "list",data:=.seq bV.toArray},toks:=t'} :=
 I.laid (λ_ _ q=>bL _ q) (aM _) ⟨hz,bV,0,hv,bW _ Z⟩
def bH.fresh(I:bH X Y σ H s):H s⁻¹=none:=I.hok.fresh (aM _)
def bH.Yo(I:bH X Y σ H s)(hH:H l=some (.lst xs)):xs.length<=sizeLine/\∃(bV:List Value) (n:Nat),cM xs bV/\xs.length=bV.length/\s.heap.get? l=some { cls:=.type "list",data:=.seq bV.toArray n}:=by
 obtain⟨z,bV,n,r,e⟩:=I.hok l _ hH;exact⟨z,bV,n,r,r.length,e⟩
end
inductive Δ(x:V)(vs:List V)(H:Hp)(Q:VK):Prop
 |mk (l xs y:_) (_:x=.ref l) (_:vs=[y]) (_:H l=some (.lst xs)) (_:xs.length<sizeLine) (_:Q .non (cN H l (.lst (xs++[y]))))
def Yp:UL X "list.append" Δ:=by
 intro Y s σ H x vs v us Q I rx rv h;obtain⟨l,xs,y,rfl,rfl,hH,hz,q⟩:=h;cases rx;obtain⟨u,rfl,ru⟩:=rv.gh;obtain⟨z,bV,n,r,hl,e⟩:=I.Yo hH;refine Io F.slot_list_append ⟨_,e,Z⟩ F.entry_list_append (F.args_list_append_2 _ _) (PySem.list_append l bV.toArray n u (by rw[List.size_toArray];omega)) ⟨e,?_⟩;refine⟨.non,_,I.a2p (its':=bV++[u]) hH e (by simp) (r.append (.cons ru .nil)) ?_,Z,q⟩;rw[cB,zX];omega
inductive a6z(x:V)(vs:List V)(H:Hp)(Q:VK):Prop
 |mk (l xs y:_) (_:x=.ref l) (_:vs=[]) (_:H l=some (.lst xs)) (_:xs[xs.length-1]?=some y) (_:Q y (cN H l (.lst xs.dropLast)))
def a2q:UL X "list.pop" a6z:=by
 intro Y s σ H x vs v us Q I rx rv h;obtain⟨l,xs,y,rfl,rfl,hH,hy,q⟩:=h;cases rx;have hus:=rv.zero;subst hus;obtain⟨z,bV,n,r,hl,e⟩:=I.Yo hH;obtain⟨u,hu,ru⟩:=r.get hy;have hy':bV.toArray[bV.toArray.size-1]?=some u:=by
  show bV.toArray[bV.length-1]?=some u;rw[<-HJ,<-hl];exact hu
 refine Io F.slot_list_pop ⟨_,e,Z⟩ F.entry_list_pop (F.args_list_pop_1 _) (MeetsSeq.list_pop_last l bV.toArray n u hy' (by rw[gn];omega)) ⟨e,?_⟩;refine⟨y,_,I.a2p (its':=bV.dropLast) hH e ?_ r.dropLast ?_,ru,q⟩
 ·show bV.toArray.eraseIdxIfInBounds (bV.toArray.size-1)=bV.dropLast.toArray;rw[gn,List.eraseIdxIfInBounds_toArray,UW]
 ·rw[S8];omega
inductive a6A(x:V)(y:V)(H:Hp)(Q:VK):Prop
 |mk (l b xs zs:_) (_:x=.ref l) (_:y=.ref b) (_:H l=some (.lst xs)) (_:H b=some (.lst zs)) (_:xs.length+zs.length<=sizeLine) (_:∀p,H p=none->Q (.ref p) (cN H p (.lst (xs++zs))))
def a2r:sX X (binaryOp .Add) a6A:=by
 intro Y s σ H x y v u Q I rx ry h;obtain⟨l,b,xs,zs,rfl,rfl,hH,hB,hz,q⟩:=h;cases rx;cases ry;obtain⟨z,bV,n,r,hl,e⟩:=I.Yo hH;obtain⟨z2,its2,n2,r2,hl2,e2⟩:=I.Yo hB;refine PySem.P.add_list e e2 ?_ (by rw[gn,gn];omega);have ea:bV.toArray++its2.toArray=(bV++its2).toArray:=by simp
 rw[ea];exact⟨.ref _,_,I.a6y (t':=s.toks) (r.append r2) (by rw[List.length_append];omega),Z,q _ I.fresh⟩
end L2
namespace Att
open PySem.W PySem.Calls PyProof.Rows
def Gg{P:Params}{h:Heap}:∀(ns:List Int) (vs:List Value),WellAll P h vs (ns.map WData.int)->IntsAre vs ns:=by
 intro ns
 induction ns with
 |nil =>
  intro vs w;rw[List.map_nil]at w;cases w;exact .nil
 |cons n ns ih =>
  intro vs w;rw[cL]at w;cases w with
  |cons a b =>
   cases a;exact .cons _ _ (ih _ b)
def Yq{l : OpenLaw}{n : Nat}(hn : l.most = some n){P : Params}{h : Heap}{args : List WData}{vals : List Value}
    (hpre : l.row.toRowW.claim.pre args = true) (hwl : WellAll P h vals args) :
    ∃ a vs ns, vals = [Value.ref a] ∧ args = [WData.list (ns.map WData.int)] ∧ h.get? a = some { cls := .type "list", data := .seq vs.toArray } ∧ IntsAre vs ns ∧ ns.length ≤ n := by
  have hsh : WShape.hasAll [] args [.list .int] = true := (pre_splitW hpre).1;have hc : l.pre.holds [] { args := args } = true := (pre_splitW hpre).2;obtain ⟨d, r, rfl, h1, h2⟩ := hasAllW_cons hsh;obtain rfl := hasAllW_nil h2;obtain ⟨xs, rfl, h3⟩ := hasW_list h1;obtain ⟨ns, rfl⟩ := items_int h3;have hlen : ns.length ≤ n := by
    unfold OpenLaw.pre at hc;have h4 : (WTm.not (.lt (.lit (.int (n : Int))) (.len (.arg 0)))).holds [] { args := [.list (ns.map .int)] } = true := by
      have h4 := (holds_andW hc).1;rw [hn] at h4;exact h4
    have h5 := condW_of h4 (w_not (w_lt w_lit (w_len_list (w_arg Z))));rw [aK] at h5;refine Nat.le_of_not_lt fun q => ?_;have q' : (n : Int) < ((ns.length : Nat) : Int) := by omega
    first
      | (rw [bA q'] at h5; exact absurd h5 ())
      | (simp at h5; omega)
  cases hwl with
  | cons w1 w2 =>
    cases w2;cases w1 with
    | list ho hall => exact ⟨_, _, ns, Z, Z, ho, Gg ns _ hall, hlen⟩
def Yr(l : OpenLaw)(args : List WData) : l.row.toRowW.claim.post args (.bool true) args = true :=
  postW_of (r := l.row.toRowW) (X := (true == true))
    (show WShape.has [] (.bool true) .bool = true by first | rfl | decide | simp [WShape.has, WShape.arms, WShape.armsAll])
    (show (WTm.eq .res (.lit (.bool true))).value [] { args := args, res := some (.bool true), after := args } = some (.bool (true == true)) from w_eq_bool (w_res Z) w_lit) rfl
def QH{l:OpenLaw}{n:Nat}{q:Program}{loose:List Str}{XP:(Str->Option Value)->Heap->Prop}{YP:World->Heap->Prop}{d:DefRec}
  (hn:l.most=some n) (hdf:d.params.defaults=[])
  (call:∀(w:World) (s₀ s₁:Shared) (mg mb:Str->Option Value) (fa:Addr) (o:Obj) (pm cd doc:Value) (a:Addr) (vs:List Value) (ns:List Int),
   Ground q loose [] XP w s₀ mg mb s₁.heap->YP w s₁.heap->
   s₁.heap.get? fa=some o->o.data=.func (docDef d.name d.params d.body d.scope pm cd doc)->s₁.heap.CodeRec cd d.name->mg d.name=some (.ref fa)->
   s₁.heap.get? a=some { cls:=.type "list",data:=.seq vs.toArray}->IntsAre vs ns->ns.length<=n->s₁.gens = #[]->
   codeAny (model l.prog w) callerA (.call (.ref fa) ⟨[.ref a],[]⟩) (λr s'=>r=.ok (.ret (.bool true))/\OldK s₁.heap s'.heap/\s'.os=s₁.os/\AllBare s'.gens) s₁) :
  WalkO q loose XP YP l.row.toRowW d [] (λf vs=>PySem.call f vs):=by
 intro w s₀ s₁ mg mb G Z99 fa o pm cd doc dV kV ho hd hcd hD hmg hg args vals as hpre hlay hrd hwl hlo;obtain rfl:dV=.none:=Dflts.none hD hdf;obtain rfl:kV=.none:=Dflts.noKw hD;obtain⟨a,vs,ns,rfl,rfl,hobj,hints,hlen⟩:=Yq hn hpre hwl;refine enter_call (DW (call w s₀ s₁ mg mb fa o pm cd doc a vs ns G Z99 ho (fd_plain hd) hcd hmg hobj hints hlen hg) λr s' hq=>?_);obtain⟨rfl,h2,h3,h4⟩:=hq;exact⟨.inl ⟨.bool true,.bool true,[],Z,λ_=>rfl,.bool true,Yr l _,λ_=>⟨List.Pairwise.nil,λ_ hm=>(nomatch hm)⟩⟩,h2,h3,h4⟩
end Att
namespace L2
open PyProof.Rows
variable{X:Cx}{σ:St}{ix:List (Option Nat)}{x qual:Str}{Y:List (Addr×Obj)}{a it:Addr}{n k:Nat}{scope:Scope}{g:TG}{tt:TT}{te:TE}{pos:Pos}{H1 H':Hp}{Q:VK}{o:HO}{N':List Str}{tg elt iter:Expr}{w:World}{fd:FuncData}{A B:Prop}{R:Result->Shared->Prop}{ifs es:List Expr}{r:V->List V->Hp->VK->Prop}
def LK:∀{vs:List Value}{ns:List Int},IntsAre vs ns->cM (ns.map V.int) vs
 |_,_,.nil=>.nil
 |_,_,.cons n t h=>.cons ⟨t,Z⟩ (LK h)
def Only(H:Hp):Prop:=∀b,H b=none\/∃o xs,H b=some (.jo o (.lst xs))
def Ú{P:Program}{K:aJ}{mg mb:Str->Option Value}{CX:R5}{fa:Addr}{sp:Sp}{s₁:Shared}{vs:List Value}{ns:List Int}
  (KX:K.In s₁.heap) (hns:s₁.heap.Ns mainGlobals mg) (hb:s₁.heap.Ns builtinsNs mb) (hbb:∀x:Str,x≠ "__name__" ->mb x=bootBuiltins x) (hlim:s₁.heap.NoLimit) (hg:s₁.gens = #[])
  (ha:s₁.heap.get? a=some { cls:=.type "list",data:=.seq vs.toArray}) (hi:IntsAre vs ns) (hl:ns.length<=sizeLine) (hr:sJ k callerA)
  (F:∀base:Heap,K.In base->base.Ns mainGlobals mg->bf P w K mg base CX k fa fd [x] sp) (hbind:∀(s:Shared) (u:Value),BindsTo s fd ⟨[u],[]⟩ [(x,u)])
  (hsp:∀H:Hp,Only H->bN K H a (ns.map V.int)->sp [.ref a] H (λv _=>v=.bl true) λ_ _ _=>False)
  (hCX:∀H e s',CX [] H s₁ (λ_ _ _=>False) e s'->False) :
  codeAny (model P w) callerA (.call (.ref fa) ⟨[.ref a],[]⟩) (λr s'=>r=.ok (.ret (.bool true))/\OldK s₁.heap s'.heap/\s'.os=s₁.os/\AllBare s'.gens) s₁:=by
 have rv:=LK hi;have lenV:=hi.length;have core:∀H:Hp,Only H->bN K H a (ns.map V.int)->zu P w H s₁.heap->(∀b,H b≠none->b=a)->(H a≠none->K.lookup a=none)->
   codeAny (model P w) callerA (.call (.ref fa) ⟨[.ref a],[]⟩) (λr s'=>r=.ok (.ret (.bool true))/\OldK s₁.heap s'.heap/\s'.os=s₁.os/\AllBare s'.gens) s₁:=by
  intro H hO hS hok hA hK;have WK:∀{b:Addr}{o:Obj},s₁.heap.get? b=some o->H b=none->(Oo s₁.heap H).get? b=some o:=λe n=>Ã e n;have noA:∀{b:Addr}{o:Obj}{es:Array DictEntry}{ep:Nat},s₁.heap.get? b=some o->o.data=.dict es ep->H b=none:=λ{b o es ep} e d=>by
   cases q:H b with
   |none=>rfl
   |some u =>
    have e':b=a:=hA b (by rw[q];simp);subst e';rw[ha]at e;cases e;have d':Data.seq vs.toArray _=Data.dict es ep:=d;cases d'
  have nsK:∀{b:Addr}{m:Str->Option Value},s₁.heap.Ns b m->(Oo s₁.heap H).Ns b m:=λ{b m} ⟨o,es,ep,e,d,r⟩=>⟨o,es,ep,WK e (noA e d),d,r⟩;have hKb:K.In (Oo s₁.heap H):=λb o e=>WK (KX b o e) (by
   cases q:H b with
   |none=>rfl
   |some u =>
    have e':b=a:=hA b (by rw[q];simp);subst e';rw[hK (by rw[q];simp)]at e;cases e)
  have hM:Mod K mg (Oo s₁.heap H):=⟨hKb,nsK hns,⟨mb,nsK hb,hbb⟩,let⟨mc,h1,h2⟩:=hlim;⟨mc,nsK h1,h2⟩⟩;have e0:Uv P w K mg (Oo s₁.heap H) callerA [] s₁ H:=⟨Z,hM,λb o e=>Ŵ e,Og (Yc _ _),trivial,λb hb=>absurd (show b∈([]:List Addr)from hb) (by simp),hok,.of_eq hg⟩;refine DW ((F _ hKb (nsK hns)).run callerA [] s₁ H ⟨[.ref a],[]⟩ [.ref a] [.ref a] _ _ hr e0 (hbind s₁ (.ref a)) (.cons Z .nil) (hsp H hO hS)) λr s' h=>?_;cases r with
  |error e=>exact(hCX H e s' h).elim
  |ok fl =>
   cases fl with
   |next=>exact False.elim h
   |brk=>exact False.elim h
   |cont=>exact False.elim h
   |ret u =>
    obtain⟨v,H',os,bare,un,hok',r',q⟩:=h;have q':v=.bl true:=q;subst q';obtain rfl:u=Value.bool true:=r';refine⟨Z,OldK.of_keep λb o e=>?_,os,bare⟩;cases q:H b with
    |none=>exact un.keep b o e q (by intro z;exact absurd (show b∈([]:List Addr)from z) (by simp)) (by simp)
    |some u =>
     rcases hO b with z|⟨ob,xs,z⟩
     ·rw[q]at z;cases z
     ·have z2:=un.Iu b ob _ z;obtain⟨e1,_⟩:=hok b _ z;obtain⟨e2,_⟩:=hok' b _ z2;rw[e]at e1;cases e1;exact e2
 cases hk:K.lookup a with
 |some o =>
  have e:=KX a o hk;rw[ha]at e;cases e;refine core (λ_=>none) (λ_=>.inl Z) (.inr ⟨_,vs.toArray,_,hk,Z,Z,Z,by rw[gn,lenV];exact hl,by simpa using rv⟩) (λb u z=>by have z':(none:Option HO)=some u:=z;cases z') (λb z=>absurd Z z) λz=>absurd Z z
 |none =>
  refine core (λb=>if b=a then some (.jo { cls:=.type "list",data:=.seq vs.toArray} (.lst (ns.map V.int)))else none) (λb=>?_) (.inl (.inr ⟨{ cls:=.type "list",data:=.seq vs.toArray},aG Z⟩)) (λb u z=>?_) (λb z=>?_) λ_=>hk
  ·by_cases hb:b=a
   ·exact .inr ⟨_,_,aG hb⟩
   ·exact .inl (aB hb)
  ·by_cases hb:b=a
   ·have z':=(aG hb).symm.trans z;cases z';subst hb;exact⟨ha,by rw[aK];exact hl,vs,_,rv,ha⟩
   ·have z':=(aB hb).symm.trans z;cases z'
  ·by_cases hb:b=a
   ·exact hb
   ·exact absurd (aB hb) z
abbrev KOf{K:aJ}{h:Heap}(_:K.In h):aJ:=K
def Ε{l:PySem.W.OpenLaw}{q:Program}{loose:List Str}{XP:(Str->Option Value)->Heap->Prop}{YP:World->Heap->Prop}{d:DefRec}{K:Params->aJ}{CX:World->R5}{sp:World->Sp}
  (hn:l.most=some n) (hn2:n<=sizeLine) (hdf:d.params.defaults=[]) (hr:sJ k callerA)
  (hY:∀(w:World) (h:Heap),YP w h->(K w.params).In h)
  (F:∀(w:World) (mg:Str->Option Value) (fa:Addr) (h:Heap),(K w.params).In h->h.Ns mainGlobals mg->mg d.name=some (.ref fa)->
   ∃fd:FuncData,(∀(s:Shared) (u:Value),BindsTo s fd ⟨[u],[]⟩ [(x,u)])/\
    ∀base:Heap,(K w.params).In base->base.Ns mainGlobals mg->bf l.prog w (K w.params) mg base (CX w) k fa fd [x] (sp w))
  (hsp:∀(w:World) (H:Hp) (a:Addr) (ns:List Int),ns.length<=n->Only H->bN (K w.params) H a (ns.map V.int)->sp w [.ref a] H (λv _=>v=.bl true) λ_ _ _=>False)
  (hCX:∀(w:World) (H:Hp) (s:Shared) (e:Value) (s':Shared),CX w [] H s (λ_ _ _=>False) e s'->False) :
  PySem.W.WalkO q loose XP YP l.row.toRowW d [] (λf vs=>PySem.call f vs):=by
 refine Att.QH hn hdf λw s₀ s₁ mg mb fa o pm cd doc a vs ns G Z99 ho hd hcd hmg hobj hints hlen hg=>?_;have KX:=hY w _ Z99;obtain⟨fd,hb,hF⟩:=F w mg fa _ KX G.T.g hmg;exact Ú KX G.T.g G.T.b G.T.builtins G.T.nolimit hg hobj hints (cV hlen hn2) hr hF hb (λH hO hS=>hsp w H a ns hlen hO hS) λH e s'=>hCX w H s₁ e s'
def Û{l:PySem.W.OpenLaw}{q:Program}{loose:List Str}{XP:(Str->Option Value)->Heap->Prop}{YP:World->Heap->Prop}{d:DefRec}{K:Params->aJ}{CX:R5}{sp:aJ->Sp}
  (hn:l.most=some n) (hn2:n<=sizeLine) (hdf:d.params.defaults=[]) (hr:sJ k callerA)
  (hY:∀(w:World) (h:Heap),YP w h->(K w.params).In h)
  (F:∀(w:World) (mg:Str->Option Value) (fa:Addr) (h:Heap),(K w.params).In h->h.Ns mainGlobals mg->mg d.name=some (.ref fa)->
   ∃fd:FuncData,(∀(s:Shared) (u:Value),BindsTo s fd ⟨[u],[]⟩ [(x,u)])/\
    ∀base:Heap,(K w.params).In base->base.Ns mainGlobals mg->bf l.prog w (K w.params) mg base CX k fa fd [x] (sp (K w.params)))
  (hsp:∀(K:aJ) (H:Hp) (a:Addr) (ns:List Int),ns.length<=n->Only H->bN K H a (ns.map V.int)->sp K [.ref a] H (λv _=>v=.bl true) λ_ _ _=>False)
  (hCX:∀(H:Hp) (s:Shared) (e:Value) (s':Shared),CX [] H s (λ_ _ _=>False) e s'->False) :
  PySem.W.WalkO q loose XP YP l.row.toRowW d [] (λf vs=>PySem.call f vs) :=
 Ε (K:=K) (CX:=λ_=>CX) (sp:=λw=>sp (K w.params)) hn hn2 hdf hr hY F (λw H a ns h1 h2 h3=>hsp (K w.params) H a ns h1 h2 h3) λ_ H s e s'=>hCX H s e s'
def inClass(s:Stmt)(j:Nat):Stmt:=match s with
 |.ClassDef _ _ _ body _ _ _ _ _ _ _=>body.getD j (.Pass ⟨0,0,0,0⟩)
 |_=>.Pass ⟨0,0,0,0⟩
def gY(s:Stmt):Arguments:=match s with
 |.FunctionDef _ a _ _ _ _ _ _ _ _=>a
 |_=>{ posonlyargs:=[],args:=[],vararg:=none,kwonlyargs:=[],kw_defaults:=[],kwarg:=none,defaults:=[]}
def gB(s:Stmt):List Stmt:=match s with
 |.FunctionDef _ _ b _ _ _ _ _ _ _=>b
 |_=>[]
def aH(s:Stmt):Scope:=match s with
 |.FunctionDef _ _ _ _ _ _ sc _ _ _=>sc
 |_=>{ kind:=.function,names:=[],isGenerator:=false,isCoroutine:=false}
abbrev fX:R5:=λ_ _ _ _ _ _=>False
abbrev E0:XK:=λ_ _ _=>False
def cA:Ai fX X E0:=λ_ _ _ _ _ _ _ h=>h.elim
structure Fun(K:aJ)(x qual:Str)(st:Stmt)(f:Addr)(fd:FuncData):Prop where
 ex:∃(oc:Value) (od:Option Addr) (kV doc pm:Value) (an:Option Addr) (dZ ct:Value) (osl:Array (Option Value)),
  fd=PySem.W.fnOf x qual (gY st) (gB st) (aH st) .none kV doc pm an dZ ct/\K.lookup f=some ⟨oc,od,.func fd,osl⟩/\PySem.W.codeIn K dZ qual=true
 kp:PySem.W.keepIn K (.ref f)=true
section
variable{P:Program}{K:aJ}{mg:Str->Option Value}{base:Heap}
def Fun.ok{st:Stmt}{f:Addr}{N ps:List Str}{sp:Sp}(F:Fun K x qual st f fd)(S:bD N ps (aH st))(hbody:∀(dZ:Value) (A:Around) (outer:List Env) (s:Shared) (H:Hp) (vs:List V) (Q:VK) (E:XK),sJ k (A.deeper (envOfC qual (aH st) s⁻¹ f dZ))->sp vs H Q E->
   ∃t,Qz (Ux fX P w K mg base N qual (aH st) f dZ A outer s H E).nox (gB st) t/\t { nx:=λ_ H'=>Q .non H',rt:=Q} (start N vs) H)
  (len:∀vs H Q E,sp vs H Q E->vs.length=ps.length:=by intro vs H Q E h;first|(cases h;subst_vars;rfl)|(repeat first|(obtain⟨e,_⟩:=h;rw[e];rfl)|(obtain⟨_,h⟩:=h))):bf P w K mg base fX (k+1) f fd ps sp:=by
 obtain⟨oc,od,kV,doc,pm,an,dZ,ct,osl,rfl,lk,hcd⟩:=F.ex;refine a1r lk hcd S len λA outer s H vs Q E hr hsp=>?_;obtain⟨t,h,q⟩:=hbody dZ A outer s H vs Q E hr hsp;exact⟨t,h.nox,q⟩
def Fun.binds{st:Stmt}{f:Addr}{ps:List Str}(F:Fun K x qual st f fd)
  (h:∀(kV doc pm:Value) (an:Option Addr) (dZ ct:Value) (us:List Value),us.length=ps.length->bindArgs (PySem.W.fnOf x qual (gY st) (gB st) (aH st) .none kV doc pm an dZ ct) ⟨us,[]⟩=pure (ps.zip us)):Binds K fd ps []:=by
 obtain⟨oc,od,kV,doc,pm,an,dZ,ct,osl,rfl,lk,hcd⟩:=F.ex;exact .all (h kV doc pm an dZ ct)
def U4{st:Stmt}{f:Addr}{oc:Value}{od an:Option Addr}{osl:Array (Option Value)}{kV doc pm dZ ct:Value}(l:K.lookup f=some ⟨oc,od,.func (PySem.W.fnOf x qual (gY st) (gB st) (aH st) .none kV doc pm an dZ ct),osl⟩)
  (c:PySem.W.codeIn K dZ qual=true) (k:PySem.W.keepIn K (.ref f)=true):Fun K x qual st f (PySem.W.fnOf x qual (gY st) (gB st) (aH st) .none kV doc pm an dZ ct):=⟨⟨oc,od,kV,doc,pm,an,dZ,ct,osl,Z,l,c⟩,k⟩
end
def cO(h:n<=1000):n<sizeLine:=Tn h ()
def pv(i:Nat)(hN:@&(X.N[i]?=some x))(hv:Vis X.env.scope x:=by first|exact Or.inl rfl|exact Or.inr (Or.inl Z)|exact Or.inr (Or.inr Z))(hd:@&((x==("__debug__" : Str))=false))
  (hcd:@&((x==("__classdict__" : Str))=false)):PE X (.Name x pos) (Ä i):=a1S hN hv hd hcd
def cY(h:B):if false=true then A else B:=by
 rw[aB dh];exact h
def gZ(h:A):if true=true then A else B:=by
 rw[aG rfl];exact h
def uO{c:Prop} [Decidable c] (h1:c->A) (h2:¬c->B):if c then A else B:=by
 by_cases h:c
 ·rw[aG h];exact h1 h
 ·rw[aB h];exact h2 h
def aL(H H':Hp):Prop:=∀b o,H b=some o->H' b=some o
def aL.refl(H:Hp):aL H H:=λ_ _ h=>h
def aL.trans{H H2:Hp}(a:aL H H1)(b:aL H1 H2):aL H H2:=λc o h=>b c o (a c o h)
def aL.free{H:Hp}(e:aL H H'){l:Addr}(h:H' l=Option.none):H l=Option.none:=by
 cases q:H l with
 |none=>rfl
 |some o =>
  rw[e l o q]at h;cases h
def aL.seq{K:aJ}{H:Hp}{xs:List V}(e:aL H H')(h:bN K H a xs):bN K H' a xs:=by
 rcases h with(h|⟨o,h⟩)|h
 ·exact .inl (.inl (e _ _ h))
 ·exact .inl (.inr ⟨o,e _ _ h⟩)
 ·exact .inr h
def vZ(cells:List (Str×Addr)):List (Str×NameKind)->List (Str×Addr)->List (Str×Addr)
 | [],acc=>acc
 |(n,k)::r,acc=>vZ cells r (if k==.free then(match cells.lookup n with|some c=>(n,c)::acc|none=>acc)else acc)
theorem Ü{env:Env}:∀(ns:List (Str×NameKind)) (acc:List (Str×Addr)),(∀x∈ns,x.2=.free->∃c,env.cells.lookup x.1=some c)->
  (forIn ns acc λ(x:Str×NameKind) (cs:List (Str×Addr))=>(if x.2==NameKind.free then do let a <-cellOf env x.1;pure (ForInStep.yield ((x.1,a)::cs))else pure (ForInStep.yield cs):Sem (ForInStep (List (Str×Addr)))))=pure (vZ env.cells ns acc)
 | [],acc,_=>by simp[vZ]
 |(n,k)::r,acc,h=>by
  rw[List.forIn_cons]
  have ih:=λa=>Ü (env:=env) r a λx hx=>h x (bC _ hx)
  unfold vZ
  by_cases hk:(k==NameKind.free)=true
  ·obtain⟨c,hc⟩:=h (n,k) aU ()
   have hc':env.cells.lookup n=some c:=hc
   have hce:cellOf env n=pure c:=by simp only[cellOf,hc']
   simp only[hk,if_true,hce,pure_bind,hc']
   exact ih _
  ·simp only[hk,if_false,pure_bind,ih]
   simp
def Jb{env:Env}(h:∀x∈scope.names,x.2=.free->∃c,env.cells.lookup x.1=some c):closureFor scope env=pure (vZ env.cells scope.names []):=by
 have q:=Ü (env:=env) scope.names [] h;unfold closureFor;rw[<-q];first
  |rfl
  |simp
set_option tactic.hygienic true in
theorem BV{cells:List (Str×Addr)}:∀(ns:List (Str×NameKind)) (acc:List (Str×Addr)) {x:Str}{c:Addr},(∀y d,acc.lookup y=some d->cells.lookup y=some d)->(vZ cells ns acc).lookup x=some c->cells.lookup x=some c
 | [],acc,x,c,ha,h=>ha x c h
 |(n,k)::r,acc,x,c,ha,h=>by
  unfold vZ at h
  refine BV r _ (λy d hy=>?_) h
  split at hy
  ·split at hy
   ·rename_i c' hc'
    rw[Ib]at hy
    split at hy
    ·rename_i e
     have e':y=n:=by simpa using e
     subst e'
     rw[hc'];exact hy
    ·exact ha y d hy
   ·exact ha y d hy
  ·exact ha y d hy
theorem LQ{cells:List (Str×Addr)}:∀(ns:List (Str×NameKind)) (acc:List (Str×Addr)) {x:Str},(∃c,acc.lookup x=some c)->∃c,(vZ cells ns acc).lookup x=some c
 | [],acc,x,h=>h
 |(n,k)::r,acc,x,h=>by
  unfold vZ
  refine LQ r _ ?_
  split
  ·split
   ·rw[Ib]
    split
    ·exact⟨_,Z⟩
    ·exact h
   ·exact h
  ·exact h
theorem Jc{cells:List (Str×Addr)}:∀(ns:List (Str×NameKind)) (acc:List (Str×Addr)) {x:Str},(x,NameKind.free)∈ns->(∃c,cells.lookup x=some c)->∃c,(vZ cells ns acc).lookup x=some c
 | [],acc,x,h,_=>nomatch h
 |(n,k)::r,acc,x,h,hc=>by
  unfold vZ
  rcases bZ.mp h with e|h
  ·cases e
   obtain⟨c,hc⟩:=hc
   refine LQ r _ ?_
   simp[hc]
  ·exact Jc r _ h hc
def bH.track{H:Hp}{s:Shared}(I:bH X Y σ H s)(hn:H a=none)(h0:X.s₀.heap.objs.size<=a)(hL:a≠X.env.locals)
  (hc:∀x c,X.env.cells.lookup x=some c->c≠a) (hp:∀p∈X.pn++Y,p.1≠a) (new:fY X.prog X.w (cN H a o) s.heap a o):bH X Y σ (cN H a o) s:=by
 have ne:∀b u,H b=some u->b≠a:=λb u e=>eE e hn;have q:=I.step (g':=s.gens) (d':=s.drawn) (t':=s.toks) (h':=s.heap) (H':=cN H a o) (ch:=[a]) (λb hb=>?_) (λb ob _ _ _ e _=>e) (λb ob _ _ _ e _=>⟨ob.slots,e⟩) (λb ob hb _ n=>?_)
  (λb ob _ e=>⟨ob,e⟩) (λb xs e=>by rw[aW (ne b _ e)];exact e) (λb ob u e=>by rw[aW (ne b _ e)];exact e) (λb ps e=>⟨#[],by rw[aW (ne b _ e),e];simp⟩) (λm hm=>hm) (λb u e=>?_) I.bare
 ·exact q
 ·have e:b=a:=by simpa using hb
  subst e;exact⟨.inr h0,hL,hc,hp⟩
 ·rw[aW (λz=>hb (by simp[z]))];exact n
 ·by_cases hb:b=a
  ·subst hb;rw[dD]at e;grind
  ·rw[aW hb]at e;exact(I.hok b u e).stay (λc v _ q=>q) (λc q=>by rw[aW (eE q hn)];exact q) λc xs q=>by rw[aW (eE q hn)];exact q
def tU(X:Cx)(N':List Str)(scope:Scope)(C:Addr)(s:Shared)(H:Hp)(fp:List Addr)(xe:Value->Shared->Prop):Cx :=
 { X with N:=N',s₀:=s,H₀:=H,env:=compEnvC scope (vZ X.env.cells scope.names []) C X.env,outer:=X.stack,ex:=fp,fn:=λ_=>false,xe:=xe}
structure WL(X:Cx)(N':List Str)(ix:List (Option Nat))(scope:Scope):Prop where
 kind:scope.kind=.function
 Ý:∀y∈scope.names,y.2≠.cell
 locs:∀y∈scope.names,y.2=.local->scope.names.lookup y.1=some .local
 free:∀y∈scope.names,y.2=.free->X.env.kindOf y.1=some .cell\/X.env.kindOf y.1=some .free
 len:ix.length=N'.length
 cap:∀(i j:Nat),ix[i]?=some (some j)->∃x,N'[i]?=some x/\X.N[j]?=some x/\scope.names.lookup x=some .free
def qM(ix:List (Option Nat))(σ:St):St:=ix.map λo=>o.bind λj=>(σ[j]?).join
theorem BW{env:Env}{x:Str}:∀{names:List (Str×NameKind)},names.lookup x=some .free->(names.map λ(n,k)=>if(k==NameKind.free&&env.scope.kind==.function&&env.kindOf n==some .cell)then(n,NameKind.cell)else(n,k)).lookup x=some .cell\/(names.map λ(n,k)=>if(k==NameKind.free&&env.scope.kind==.function&&env.kindOf n==some .cell)then(n,NameKind.cell)else(n,k)).lookup x=some .free
 | [],h=>by simp at h
 |(n,k)::r,h=>by
  have ih:=@BW env x r
  grind
theorem BX{env:Env}{x:Str}:∀{names:List (Str×NameKind)},(∀y∈names,y.2≠.cell)->((names.map λ(n,k)=>if(k==NameKind.free&&env.scope.kind==.function&&env.kindOf n==some .cell)then(n,NameKind.cell)else(n,k)).lookup x=some .cell\/(names.map λ(n,k)=>if(k==NameKind.free&&env.scope.kind==.function&&env.kindOf n==some .cell)then(n,NameKind.cell)else(n,k)).lookup x=some .free)->(x,NameKind.free)∈names
 | [],_,h=>by simp at h
 |(n,k)::r,hn,h=>by
  have ih:=@BX env x r λy hy=>hn y (bC _ hy)
  grind
def LR{H:Hp}{s:Shared}{i:Nat}{v:V}(B:WL X N' ix scope)(I:bH X Y σ H s)
  (h1:N'[i]?=some x) (h2:(qM ix σ)[i]?=some (some v)):∃u c,cW v u/\(vZ X.env.cells scope.names []).lookup x=some c/\X.env.cells.lookup x=some c/\s.heap.IsCell c (some u)/\
   ((relabel scope X.env).names.lookup x=some .cell\/(relabel scope X.env).names.lookup x=some .free):=by
 have ş:∀x c,(vZ X.env.cells scope.names []).lookup x=some c->X.env.cells.lookup x=some c:=λx c h=>BV scope.names [] (λ_ _ z=>by simp at z) h;obtain⟨j,hj,hv⟩:∃j,ix[i]?=some (some j)/\σ[j]?=some (some v):=by
  unfold qM at h2;rw[dU]at h2;cases e:ix[i]? with
  |none=>grind
  |some o =>
   rw[e]at h2;cases o with
   |none=>cases h2
   |some j =>
    grind
 obtain⟨x',hx1,hx2,hx3⟩:=B.cap i j hj;have exx:x'=x:=by
  grind
 subst exx;have hmem:=Du hx3;have hout:=B.free _ hmem rfl;obtain⟨m0,_,hl⟩:=I.loc;obtain⟨u,r,l⟩:=hl j x' v hx2 hv (by
  rcases hout with e|e
  ·exact .inr (.inl e)
  ·exact .inr (.inr e))
 rcases l with⟨k,_⟩|⟨k,c,e,z⟩
 ·rcases hout with e|e
  ·rw[e]at k;cases k
  ·rw[e]at k;cases k
 ·obtain⟨c',hc'⟩:=Jc scope.names [] hmem (I.ok.has x' hout);have:=ş x' c' hc';rw[e]at this;cases this;exact⟨u,c,r,hc',e,z,BW hx3⟩
def Ys{H:Hp}{s s4:Shared}{C:Addr}{fp:List Addr}{xe:Value->Shared->Prop}{m:Str->Option Value}
  (B:WL X N' ix scope) (I:bH X Y σ H s) (hf:∀b∈fp,Ge X Y H b) (hC:s⁻¹<=C) (hfs:∀b∈fp,b<s⁻¹)
  (ho:s4.os=s.os) (hg:s4.gens=s.gens) (hk:∀b o,s.heap.get? b=some o->s4.heap.get? b=some o) (hns:s4.heap.Ns C m) :
  bH (tU X N' scope C s H fp xe) Y (qM ix σ) H s4:=by
 have ş:∀x c,(vZ X.env.cells scope.names []).lookup x=some c->X.env.cells.lookup x=some c:=λx c h=>BV scope.names [] (λ_ _ z=>by simp at z) h;have hfree:H C=none:=I.hok.fresh hC;have neC:∀b o,s.heap.get? b=some o->b≠C:=λb o e=>b7 (jA (aY e) hC);refine⟨⟨I.ok.mod,B.kind,I.ok.glob,I.ok.blt,hC,λx y c h1 h2=>I.ok.inj x y c (ş x c h1) (ş y c h2),λx hx=>?_,λx c h=>absurd (show false=true from h) dh,I.ok.hd,I.ok.frames,.inl Z,λb hb=>⟨?_,λx c e=>?_⟩,I.bs,?_,λb o e hb=>?_,λb hb z=>?_,I.stack,I.Wm⟩,
  ho,?_,Un.kept hk,⟨m,hns,λi x v h1 h2 h3=>?_⟩,λx c e=>?_,hfree,λx c e=>I.tL x c (ş x c e),λp hp=>?_,I.hok.kept hk,?_⟩
 ·have hx':=BX (env:=X.env) (x:=x) B.Ý hx;exact Jc scope.names [] hx' (I.ok.has x (B.free _ hx' Z))
 ·exact b7 (jA (hfs b hb) hC)
 ·exact(hf b hb).2.2.2.2.1 x c (ş x c e)
 ·exact cV I.ok.Ŝ I.sz
 ·obtain⟨_,_,_,q,_⟩:=hf b hb;rcases q with q|q
  ·exact I.ok.Uh b o e q
  ·exact absurd (jA (aY (I.ok.bs b o e).1) q) (xK _)
 ·obtain⟨_,q1,q2,_⟩:=hf b hb;rcases bZ.mp (I.Eb b z)with e|e
  ·exact q1 e
  ·exact q2 e
 ·rw[hg];exact I.bare
 ·obtain⟨u,c,r,hc1,_,⟨oc,z1,z2⟩,hk'⟩:=LR B I h1 h2;exact⟨u,r,.inr ⟨hk',c,hc1,oc,hk _ _ z1,z2⟩⟩
 ·obtain⟨v,oc,h1,h2⟩:=I.cell x c (ş x c e);exact⟨v,oc,hk _ _ h1,h2⟩
 ·obtain⟨e,n,ne,nf,d⟩:=I.pin p hp;refine⟨hk _ _ e,n,neC _ _ e,λz=>?_,d⟩;rcases bZ.mp (I.Eb p.1 z)with e'|e'
  ·exact ne e'
  grind
 ·show(ix.map _).length=N'.length;rw[aK];exact B.len
def QJ{prog:Program}{A:Around}{s:Shared}{target:Expr}{it acc:Value}{env:Env}(Iv:Nat->Shared->Prop)
  (turn:∀n s,Iv n s->wpAny (model prog w) A (pyNext it) (λr s₁=>match r with
   |none=>R (.ok .next) s₁
   |some v=>wpAny (model prog w) A (letOwnedTupleGo target it v) (λ_ s₁'=>wpAny (model prog w) A (assign target env v) (λ_ s₂ =>
     wpAny (model prog w) A (forIn ifs true λc r=>if r=true then do let ok <-isTrue c env (eval c env);pure (ForInStep.yield ok)else pure (ForInStep.yield r)) (λok s₃ =>
      if ok=true then wpAny (model prog w) A (eval elt env) (λx s₄ =>
       wpAny (model prog w) A (call (.builtin "list.append") [acc,x]) (λ_ s₅=>∃m,m<n/\Iv m s₅) (notedBy (model prog w) A env λe s'=>R (.error e) s') s₄) (notedBy (model prog w) A env λe s'=>R (.error e) s') s₃
      else ∃m,m<n/\Iv m s₃) (notedBy (model prog w) A env λe s'=>R (.error e) s') s₂) (notedBy (model prog w) A env λe s'=>R (.error e) s') s₁') (notedBy (model prog w) A env λe s'=>R (.error e) s') s₁) (notedBy (model prog w) A env λe s'=>R (.error e) s') s)
  (n:Nat) (h:Iv n s) :
  codeAny (model prog w) A (.compLoop (.ListComp elt [⟨target,iter,ifs,0⟩] scope pos) 0 it acc env) R s:=by
 refine codeAny_loop Z Iv (λn s hI=>?_) n h;show wpAny _ A ((compTurn (.ListComp elt [⟨target,iter,ifs,0⟩] scope pos) 0 it acc env).onRaise λx=>do noteFrame x env;theTreesLotGoes x) _ _ s;refine wpAny_noted ?_;rw[compTurn_list];refine M (Oc (M (iG (turn n s hI) (λr s₁ h₁=>?_) λ_ _ h'=>h')));cases r with
 |none=>exact aq h₁
 |some v =>
  refine M (iG h₁ (λ_ s₁' h₁'=>M (iG h₁' (λ_ s₂ h₂=>M (iG h₂ (λok s₃ h₃=>?_) λ_ _ h'=>h')) λ_ _ h'=>h')) λ_ _ h'=>h');cases ok with
  |false=>exact aq ⟨Z,h₃⟩
  |true =>
   exact M (M (iG h₃ (λx s₄ h₄=>M (iG h₄ (λ_ s₅ h₅=>aq (aq ⟨Z,h₅⟩)) λ_ _ h'=>h')) λ_ _ h'=>h'))
def PTs(X:Cx)(ifs:List Expr)(t:TT):Prop :=
 ∀(Y:List (Addr×Obj)) (s:Shared) (σ:St) (H:Hp) (Q:Bool->Hp->Prop),bH X Y σ H s->t σ H Q->
  wpAny (model X.prog X.w) X.A (forIn ifs true λc r=>if r=true then do let ok <-isTrue c X.env (eval c X.env);pure (ForInStep.yield ok)else pure (ForInStep.yield r)) (TP X Y σ Q) X.xe s
def a4G:TT:=λ_ H Q=>Q true H
def gM:PTs X [] a4G:=λ_ _ _ H _ I h=>wpAny_tests_nil ⟨H,I,h⟩
def v5{c:Expr}{t:TT}(h:PT X c t):PTs X [c] t:=λY s σ H Q I hw=>wpAny_tests_one (h Y s σ H Q I hw)
def nF(ix:List (Option Nat))(g:TG)(tt:TT)(te:TE)(σ:St)(H1:Hp)(Q:VK)(Z97:It):Prop:=∃W:Nat->Nat->List V->Hp->Prop,(∃m,W 0 m [] H1)/\∀i m ys H,W i m ys H->
 (Z97.stop i H/\ys.length<=sizeLine/\∀p,H p=none->Q (.ref p) (cN H p (.lst ys)))\/
 (Z97.go i H/\ys.length<=sizeLine/\∃N:List V->Hp->Prop,(∀ys' H',N ys' H'->∃m',m'<m/\W (i+1) m' ys' H')/\∀x H',Z97.ZQ i H x H'->g x (qM ix σ) H' λσ2 H2=>tt σ2 H2 λb H3=>if b=true then te σ2 H3 λv H4=>N (ys++[v]) H4 else N ys H3)
def tLC(ix:List (Option Nat))(wi:TI)(g:TG)(tt:TT)(te:TE):TE:=λσ H Q=>wi σ H λZ97 H1=>nF ix g tt te σ H1 Q Z97
section
variable{wi:TI}
def Þ(B:WL X N' ix scope)(hc:X.calm=true)
  (hg:∀C s H fp xe,PG (tU X N' scope C s H fp xe) tg g) (ht:∀C s H fp xe,PTs (tU X N' scope C s H fp xe) ifs tt) (he:∀C s H fp xe,PE (tU X N' scope C s H fp xe) elt te) {s2:Shared}{H2:Hp}{fp:List Addr}{tn:Nat->Heap->Prop}{Z97:It}{RR:Value->Addr->Result->Shared->Prop}{E:Value->Shared->Prop}
  (I2:bH X Y σ H2 s2) (T:Turn X.prog X.w X.K tg Z97 fp it tn) (st2:tn 0 s2.heap) (f2:∀b∈fp,Ge X Y H2 b)
  (q:∃W:Nat->Nat->List V->Hp->Prop,(∃m,W 0 m [] H2)/\∀i m ys H,W i m ys H->
   (Z97.stop i H/\ys.length<=sizeLine/\∀p,H p=none->Q (.ref p) (cN H p (.lst ys)))\/
   (Z97.go i H/\ys.length<=sizeLine/\∃N:List V->Hp->Prop,(∀ys' H',N ys' H'->∃m',m'<m/\W (i+1) m' ys' H')/\∀x H',Z97.ZQ i H x H'->g x (qM ix σ) H' λσ2 H2=>tt σ2 H2 λb H3=>if b=true then te σ2 H3 λv H4=>N (ys++[v]) H4 else N ys H3))
  (hRR:∀D C s' H' ys,bH X Y σ (cN H' D (.lst ys)) s'->H' D=none->Q (.ref D) (cN H' D (.lst ys))->(∃m,s'.heap.Ns C m)->cN H' D (.lst ys) C=none->C≠X.env.locals->X.s₀.heap.objs.size<=C->(∀x c,X.env.cells.lookup x=some c->c≠C)->(∀p∈X.pn++Y,p.1≠C)->RR (.ref D) C (.ok .next) s') :
  wpAny (model X.prog X.w) X.A (newList []) (λacc s₃=>wpAny (model X.prog X.w) X.A (newFunctionEnv scope X.env.globals (vZ X.env.cells scope.names []) [] X.env.qual none .none (some X.env)) (λcenv s₄ =>
   codeAny (model X.prog X.w) X.A (.compStart (.ListComp elt [⟨tg,iter,ifs,0⟩] scope pos) 0 (.ref it) acc { cenv with scope:=relabel scope X.env}) (RR acc cenv.locals) s₄) E s₃) E s2:=by
 have hfs:∀b∈fp,b<s2⁻¹:=λb hb=>by
  obtain⟨o,e,_⟩:=T.obj _ _ st2 b hb;exact aY e
 refine j8 (wpAny_newFunctionEnv B.Ý (by intro y hy;simp at hy) (λh₁ hns₁ hsb₁=>?_) B.kind);dsimp only at hns₁ hsb₁ ⊢;generalize hH3:s2.heap.push { cls:=.type "list",dict:=none,data:=.seq ([]:List Value).toArray}=H3 at hns₁ hsb₁ ⊢;have hC:H3.objs.size=s2⁻¹+1:=by rw[<-hH3,kh]
 have hDC:s2⁻¹≠H3.objs.size:=by rw[hC];exact b7 (xu _)
 have below:∀b,b<s2⁻¹->b≠H3.objs.size/\b≠s2⁻¹:=λb hb=>⟨by rw[hC];exact b7 (HX hb),b7 hb⟩;have old:∀b o,s2.heap.get? b=some o->h₁.get? b=some o:=λb o e=>hsb₁.extBut b o (below b (aY e)).1 (bL _ (hH3▸bL _ e));have hacc:h₁.get? s2⁻¹=some { cls:=.type "list",data:=.seq ([]:List Value).toArray 0}:=hsb₁.extBut _ _ hDC (bL _ (hH3▸bW _ Z));have hCle:s2⁻¹<=H3.objs.size:=by rw[hC];exact vR _
 generalize hD:s2⁻¹=D at *
 generalize hCC:H3.objs.size=C at *
 obtain⟨W,⟨m0,w0⟩,turn⟩:=q;let xe:Value->Shared->Prop:=notedBy (model X.prog X.w) X.A (compEnvC scope (vZ X.env.cells scope.names []) C X.env) λe s'=>RR (.ref D) C (.error e) s';let X':Cx:=tU X N' scope C s2 H2 fp xe;have DL:D∉frs X.stack:=λz=>by
  rcases bZ.mp (I2.Eb D z)with e|e
  ·exact absurd I2.lt (by rw[<-e,hD];exact xK _)
  ·exact I2.a4c (by rw[hD];exact aM _) e
 have U5:∀x c,X.env.cells.lookup x=some c->c<D:=λx c e=>by
  obtain⟨v,oc,h,_⟩:=I2.cell x c e;rw[<-hD];exact aY h
 have ş:∀x c,(vZ X.env.cells scope.names []).lookup x=some c->X.env.cells.lookup x=some c:=λx c h=>BV scope.names [] (λ_ _ z=>by simp at z) h;have ß:∀p∈X.pn++Y,p.1<D:=λp hp=>by rw[<-hD];exact aY (I2.pin p hp).1
 have fpX:∀{pl:List (Addr×Obj)}{H':Hp},(∀b∈fp,H' b=none)->(∀p∈pl,p∈Y\/p.1=D)->∀b∈fp,Ge X' pl H' b:=λ{pl H'} hn hpl b hb=>by
  obtain⟨_,q1,q2,q3,q4,q5⟩:=f2 b hb;refine⟨hn b hb,(below b (hfs b hb)).1,λz=>?_,.inl hb,λx c e=>q4 x c (ş x c e),λp hp=>?_⟩
  ·rcases bZ.mp (I2.Eb b z)with e|e
   ·exact q1 e
   ·exact q2 e
  ·rcases cH.mp hp with hp|hp
   ·exact q5 p (rM _ hp)
   ·rcases hpl p hp with z|z
    ·exact q5 p (gD _ z)
    ·rw[z];exact Ne.symm (below b (hfs b hb)).2
 have loop:∀s₃:Shared,s₃={ s2 with heap:=h₁,toks:=s2.toks+([]:List (Str×Value)).length}->
   codeAny (model X.prog X.w) X.A (.compLoop (.ListComp elt [⟨tg,iter,ifs,0⟩] scope pos) 0 (.ref it) (.ref D) (compEnvC scope (vZ X.env.cells scope.names []) C X.env)) (RR (.ref D) C) s₃:=by
  rintro s₃ rfl;refine QJ (λn s'=>∃i H' ys bV k,bH X' Y (qM ix σ) H' s'/\tn i s'.heap/\(∀b∈fp,H' b=none)/\H' D=none/\s'.heap.get? D=some { cls:=.type "list",data:=.seq (List.toArray bV) k}/\cM ys bV/\W i n ys H') ?_ m0
   ⟨0,H2,[],[],0,Ys B I2 f2 (by rw[hD];exact hCle) (λb hb=>by rw[hD];exact hfs b hb) Z Z old hns₁,T.keep _ _ _ st2 λb _ o e=>old b o e,λb hb=>(f2 b hb).1,I2.hok.fresh (by rw[hD];exact aM _),hacc,.nil,w0⟩
  rintro n s' ⟨i,H',ys,bV,k,I',st',fr',hDn,hDo,rv,w'⟩;have hDX:∀v,({ cls:=.type "list",data:=.seq (List.toArray bV) k}:Obj).data≠.cell v:=λv z=>by
   have z':Data.seq (List.toArray bV) k=Data.cell v:=z;cases z'
  have a6B:∀{σ':St}{R7:Hp}{s'':Shared}{its':List Value}{k':Nat},bH X' Y σ' R7 s''->R7 D=none->s''.heap.get? D=some { cls:=.type "list",data:=.seq (List.toArray its') k'}->bH X' (Y++[(D,{ cls:=.type "list",data:=.seq (List.toArray its') k'})]) σ' R7 s'':=λ{σ' R7 s'' its' k'} Z97 hn ho =>
   Z97.GD λp hp=>(cH.mp hp).elim (λz=>Z97.pin p (gD _ z)) λz=>by
    have e:p=(D,{ cls:=.type "list",data:=.seq (List.toArray its') k'}):=by simpa using z
    subst e;exact⟨ho,hn,hDC,DL,λv z=>by
     have z':Data.seq (List.toArray its') k'=Data.cell v:=z;cases z'⟩
  have plD:∀{its':List Value}{k':Nat},∀p∈Y++[(D,({ cls:=.type "list",data:=.seq (List.toArray its') k'}:Obj))],p∈Y\/p.1=D:=λ{its' k'} p hp=>(cH.mp hp).elim .inl λz=>by
   have e:p=(D,{ cls:=.type "list",data:=.seq (List.toArray its') k'}):=by simpa using z
   subst e;exact .inr rfl
  have unD:∀{pl:List (Addr×Obj)}{σ':St}{R7:Hp}{s'':Shared},bH X' (Y++pl) σ' R7 s''->bH X' Y σ' R7 s'':=λZ97=>Z97.GD λp hp=>Z97.pin p (gD _ (rM _ hp));have I'p:=a6B I' hDn hDo;rcases turn i n ys H' w' with⟨stop,hsz,fin⟩|⟨go,hsz,N,hN,step⟩
  ·refine iG (T.done X' Z Z Z hc i _ s' (qM ix σ) H' X'.xe I'p (fpX fr' plD) st' stop) (λr s5 ⟨hr,I5⟩=>?_) λ_ _ z=>z;subst hr;have a6C:s5.heap.get? D=some { cls:=.type "list",data:=.seq (List.toArray bV) k}:=(I5.pin (D,_) (gD _ (gD _ (bG.mpr Z)))).1;have sz0:X.s₀.heap.objs.size<=D:=by rw[<-hD];exact I2.sz
   have Z97:bH X Y σ H' s5:=I2.call' (ch:=fp) I5.os I5.base I5.hok I5.bare λb hb=>by
    obtain⟨_,q1,_,q3,q4,q5⟩:=f2 b hb;exact⟨q3,q1,q4,q5⟩
   have nL:X.env.locals<D:=by rw[<-hD];exact I2.lt
   have J2:bH X Y σ (cN H' D (.lst ys)) s5:=bH.track Z97 hDn sz0 (gG nL) (λx c e=>b7 (U5 x c e)) (λp hp=>b7 (ß p hp)) ⟨hsz,bV,k,rv,a6C⟩;obtain⟨mC,hnC,_⟩:=I5.loc;have a2s:D<C:=Nat.lt_of_le_of_ne hCle hDC;refine hRR D C s5 H' ys J2 hDn (fin D hDn) ⟨mC,hnC⟩ ?_ (gG (uK nL a2s)) (cV sz0 hCle) (λx c e=>b7 (uK (U5 x c e) a2s)) λp hp=>b7 (uK (ß p hp) a2s);rw[aW (Ne.symm hDC)];exact I5.free
  ·refine iG (T.item X' Z Z Z hc i _ s' (qM ix σ) H' X'.xe I'p (fpX fr' plD) st' go) (λr s5 ⟨u,hr,h5⟩=>?_) λ_ _ z=>z;subst hr;refine iG h5 (λ_ s6 ⟨x,H6,I6,r6,y6,st6,fr6⟩=>?_) λ_ _ z=>z;have I6':=I6.pinned (fpX fr6 plD) (T.obj _ _ st6);refine iG (hg C s2 H2 fp xe _ s6 (qM ix σ) H6 x u _ I6' r6 (step x H6 y6)) (λ_ s7 ⟨Wr,H7,I7,q7⟩=>?_) λ_ _ z=>z;have after:∀{σ8:St}{H8:Hp}{s8:Shared},bH X' ((Y++[(D,{ cls:=.type "list",data:=.seq (List.toArray bV) k})])++vV fp s6.heap) σ8 H8 s8->
     bH X' Y (qM ix σ) H8 s8/\tn (i+1) s8.heap/\(∀b∈fp,H8 b=none)/\H8 D=none/\s8.heap.get? D=some { cls:=.type "list",data:=.seq (List.toArray bV) k}:=λ{σ8 H8 s8} I8=>by
    have pD:=I8.pin (D,{ cls:=.type "list",data:=.seq (List.toArray bV) k}) (gD _ (rM _ (gD _ (bG.mpr Z))));have fpP:∀b∈fp,∀o,s6.heap.get? b=some o->s8.heap.get? b=some o/\H8 b=none:=λb hb o e=>by
     have z:=I8.pin (b,o) (gD _ (gD _ (tO hb e)));exact⟨z.1,z.2.1⟩
    refine⟨⟨I8.ok,I8.os,I8.bare,I8.base,?_,I8.cell,I8.free,I8.tL,λp hp=>?_,I8.hok,?_⟩,T.keep _ _ _ st6 λb hb o e=>(fpP b hb o e).1,λb hb=>?_,pD.2.1,pD.1⟩
    ·obtain⟨m8,hn8,_⟩:=I8.loc;refine⟨m8,hn8,λi x v h1 h2 h3=>?_⟩;obtain⟨u,c,r,hc1,hc2,⟨oc,z1,z2⟩,hk'⟩:=LR B I2 h1 h2;obtain⟨sl,e8⟩:=I8.base.any z1 (I2.tL x c hc2) λz=>(f2 c z).2.2.2.2.1 x c hc2 rfl;exact⟨u,r,.inr ⟨hk',c,hc1,_,e8,z2⟩⟩
    ·rcases cH.mp hp with hp|hp
     ·exact I8.pin p (rM _ hp)
     ·exact I8.pin p (gD _ (rM _ (rM _ hp)))
    ·show(qM ix σ).length=N'.length;unfold qM;rw[aK];exact B.len
    ·obtain⟨o,e,_⟩:=T.obj _ _ st6 b hb;exact(fpP b hb o e).2
   refine iG (ht C s2 H2 fp xe _ s7 Wr H7 _ I7 q7) (λb s8 ⟨H8,I8,q8⟩=>?_) λ_ _ z=>z;cases b with
   |false =>
    rw[aB dh]at q8 ⊢;obtain⟨m',hm,w8⟩:=hN _ _ q8;obtain⟨Z97,tn8,f8,d8,o8⟩:=after I8;exact⟨m',hm,i+1,H8,ys,bV,k,Z97,tn8,f8,d8,o8,rv,w8⟩
   |true =>
    rw[aG rfl]at q8 ⊢;refine iG (he C s2 H2 fp xe _ s8 Wr H8 _ I8 q8) (λv s9 ⟨y,H9,I9,r9,q9⟩=>?_) λ_ _ z=>z;obtain⟨Z97,tn9,f9,d9,o9⟩:=after I9;obtain⟨m',hm,w9⟩:=hN _ _ q9;refine append_at (hsz:=by rw[gn,<-rv.length];exact hsz) o9 λh10 a4H a4I=>?_;refine⟨m',hm,i+1,H9,ys++[y],bV++[v],k+1,?_,T.keep _ _ _ tn9 λb hb o e=>a4H.extBut b o (λz=>?_) e,f9,d9,by rw[List.push_toArray]at a4I;exact a4I,rv.append (.cons r9 .nil),w9⟩
    ·refine Z97.turned (t':=s9.toks) (it:=D) (λb o hb e=>a4H.extBut b o hb e) d9 hDC (.inr (by show s2⁻¹<=D;rw[hD];exact aM _)) (λx c e=>b7 (U5 x c (ş x c e))) λp hp=>b7 (ß p hp)
    ·exact(below b (hfs b hb)).2 z
 exact codeAny_compStart_list (loop _ Z) (T.self X.A 0 _ _ _ (T.keep _ _ _ st2 λb _ o e=>old b o e) (loop _ Z))
end
def BZ(outer:Scope)(N N':List Str)(ix:List (Option Nat))(scope:Scope):Bool :=
 (scope.kind==.function)&&(scope.names.all λy=>y.2 != .cell)&&(scope.names.all λy=>y.2 != .local||scope.names.lookup y.1==some .local) &&
 (scope.names.all λy=>y.2 != .free||outer.names.lookup y.1==some .cell||outer.names.lookup y.1==some .free)&&(ix.length==N'.length) &&
 (List.range ix.length).all λi=>match ix[i]? with
  |some (some j)=>(match N'[i]? with|some x=>N[j]?==some x&&scope.names.lookup x==some .free|none=>false)
  |_=>true
def à(h:BZ X.env.scope X.N N' ix scope=true):WL X N' ix scope:=by
 unfold BZ at h;simp only[Bool.and_eq_true]at h;obtain⟨⟨⟨⟨⟨h1,h2⟩,h3⟩,h4⟩,h5⟩,h6⟩:=h;refine⟨?_,λy hy=>?_,λy hy hl=>?_,λy hy hl=>?_,(),λi j e=>?_⟩
 ·grind
 ·grind
 ·grind
 ·have:=DN.mp h4 y hy;rw[hl]at this;simp at this;exact this
 ·have hi:i<ix.length:=(fL.mp e).1;have:=DN.mp h6 i (mK.mpr hi);rw[e]at this;simp only at this;cases q:N'[i]? with
  |none=>rw[q]at this;simp at this
  |some x =>
   rw[q]at this;simp at this;exact⟨x,Z,this.1,this.2⟩
section
variable{wi:TI}
def kJ(N':List Str)(ix:List (Option Nat))(hB:BZ X.env.scope X.N N' ix scope=true)(hc:X.calm=true)(hi:PI X tg iter wi)
  (hg:∀C s H fp xe,PG (tU X N' scope C s H fp xe) tg g) (ht:∀C s H fp xe,PTs (tU X N' scope C s H fp xe) ifs tt) (he:∀C s H fp xe,PE (tU X N' scope C s H fp xe) elt te)
  (hs:autoParam (∀x,foldedSetIterable iter X.env x=pure x) Q0_._auto_1):PE X (.ListComp elt [⟨tg,iter,ifs,0⟩] scope pos) (tLC ix wi g tt te):=by
 intro Y s σ H Q I h;have B:=à hB;rw[eval_ListComp];refine Á (use:=none) Z hs (Jb λy hy hf=>I.ok.has y.1 (B.free y hy hf)) B.kind B.locs (jG (hi Y s σ H _ I h) λv s1 h1=>jG h1 λitv s2 h2=>?_);obtain⟨it,fp,tn,Z97,H2,e,I2,T,st2,f2,q⟩:=h2;subst e;refine Þ B hc hg ht he I2 T st2 f2 q ?_;intro D C s' H' ys J2 hDn hq ⟨m,hn⟩ hC1 hC2 hC3 hC4 hC5;exact⟨m,hn,λh' hs'=>⟨.ref D,_,J2.turned (t':=s'.toks) (it:=C) (λb o hb e=>hs'.extBut b o hb e) hC1 hC2 (.inr hC3) hC4 hC5,Z,hq⟩⟩
def Jd{i:Nat}{pos' spos:Pos}(N':List Str)(ix:List (Option Nat))(hN:X.N.Nodup)(hi':X.N[i]?=some x)(hx:X.env.scope.names.lookup x=some .local)
  (hB:BZ X.env.scope X.N N' ix scope=true) (hc:X.calm=true) (hi:PI X tg iter wi)
  (hg:∀C s H fp xe,PG (tU X N' scope C s H fp xe) tg g) (ht:∀C s H fp xe,PTs (tU X N' scope C s H fp xe) ifs tt) (he:∀C s H fp xe,PE (tU X N' scope C s H fp xe) elt te)
  (hsw:swapsWith (.ListComp elt [⟨tg,iter,ifs,0⟩] scope pos) (some (.Name x pos')) spos.line X.env=pure true)
  (hs:autoParam (∀x,foldedSetIterable iter X.env x=pure x) Q0_._auto_1):PS X (.Assign [.Name x pos'] (.ListComp elt [⟨tg,iter,ifs,0⟩] scope pos) spos) (a2a (tLC ix wi g tt te) (Wn i)):=by
 intro Y s σ H D0 I h;have B:=à hB;rw[exec_Assign_Name_used _ _ _ _ hsw];refine M (Oc (M ?_));show wpAny _ X.A (do let _ <-comprehension (.ListComp elt [⟨tg,iter,ifs,0⟩] scope pos) scope X.env _ (newList []) false (eval iter X.env) (some (assign (.Name x pos') X.env))) _ _ s;refine M (iG (Á (use:=some (assign (.Name x pos') X.env)) (Q:=λ_ s'=>SP X Y D0 .next s') Z hs (Jb λy hy hf=>I.ok.has y.1 (B.free y hy hf)) B.kind B.locs
  (jG (hi Y s σ H _ I h) λv s1 h1=>jG h1 λitv s2 h2=>?_)) (λ_ s' hq=>aq (aq hq)) λ_ _ e=>e)
 obtain⟨it,fp,tn,Z97,H2,e,I2,T,st2,f2,q⟩:=h2;subst e;refine Þ (Q:=λx H1=>Wn i x σ H1 D0.nx) B hc hg ht he I2 T st2 f2 q ?_;intro D C s' H' ys J2 hDn hq ⟨m,hn⟩ hC1 hC2 hC3 hC4 hC5;show wpAny _ X.A (assign (.Name x pos') X.env (.ref D)) _ _ _;refine wpAny_assign_Name (Lp (v:=.ref D) J2 hN hi' (.inl hx) Z (λs'' I'' hsb=>?_) (.inr hx));obtain⟨a,hsb,ha⟩:=hsb;have aC:C≠a:=by
  rcases ha with rfl|ha
  ·exact hC2
  ·exact λz=>hC4 x a ha z.symm
 exact⟨m,hn.sameBut hsb aC,λh'' hs''=>⟨_,_,I''.turned (t':=s''.toks) (it:=C) (λb o hb e=>hs''.extBut b o hb e) hC1 hC2 (.inr hC3) hC4 hC5,hq⟩⟩
end
section
variable{K:aJ}{xs:List V}
def wg(Pv:Nat->List V->Hp->Prop)(h0:Pv 0 [] H1)(hl:∀i ys H,i<=xs.length->Pv i ys H->bN K H a xs/\ys.length<=sizeLine)
  (hs:∀i x ys H,xs[i]?=some x->Pv i ys H->g x (qM ix σ) H λσ2 H2=>tt σ2 H2 λb H3=>if b=true then te σ2 H3 λv H4=>Pv (i+1) (ys++[v]) H4 else Pv (i+1) ys H3)
  (hd:∀ys H,Pv xs.length ys H->∀p,H p=none->Q (.ref p) (cN H p (.lst ys))):nF ix g tt te σ H1 Q (ŝ K a):=by
 refine⟨λi m ys H=>m=xs.length-i/\i<=xs.length/\Pv i ys H,⟨xs.length,by simp,dw _,h0⟩,?_⟩;rintro i m ys H ⟨rfl,hi,p⟩;obtain⟨q,z⟩:=hl i ys H hi p;by_cases hlt:i<xs.length
 ·refine .inr ⟨⟨xs,xs[i],q,by simp[hlt]⟩,z,Pv (i+1),λys' H' p'=>⟨xs.length-(i+1),(),Z,hlt,p'⟩,λx H' y=>?_⟩;obtain⟨e,y⟩:=y;subst e;exact hs i x ys _ (y xs q) p
 ·have e:i=xs.length:=()
  subst e;exact .inl ⟨⟨xs,q,aM _⟩,z,hd ys H p⟩
def xT{lo:Int}(Pv:Nat->List V->Hp->Prop)(h0:Pv 0 [] H1)(hl:∀i ys H,i<=n->Pv i ys H->ys.length<=sizeLine)
  (hs:∀i ys H,i<n->Pv i ys H->g (.int (lo+i)) (qM ix σ) H λσ2 H2=>tt σ2 H2 λb H3=>if b=true then te σ2 H3 λv H4=>Pv (i+1) (ys++[v]) H4 else Pv (i+1) ys H3)
  (hd:∀ys H,Pv n ys H->∀p,H p=none->Q (.ref p) (cN H p (.lst ys))):nF ix g tt te σ H1 Q (Wq lo n):=by
 refine⟨λi m ys H=>m=n-i/\i<=n/\Pv i ys H,⟨n,by simp,dw _,h0⟩,?_⟩;rintro i m ys H ⟨rfl,hi,p⟩;have z:=hl i ys H hi p;by_cases hlt:i<n
 ·refine .inr ⟨hlt,z,Pv (i+1),λys' H' p'=>⟨n-(i+1),(),Z,hlt,p'⟩,λx H' y=>?_⟩;obtain⟨e,y⟩:=y;subst e y;exact hs i ys _ hlt p
 ·have e:i=n:=()
  subst e;exact .inl ⟨aM _,z,hd ys H p⟩
end
def a4J{K:aJ}{xs:List V}(f:V->Option V)(hx:bN K H1 a xs)(hz:xs.length<=sizeLine)
  (hs:∀x H (N:Option V->Hp->Prop),x∈xs->aL H1 H->(∀H',aL H1 H'->N (f x) H')->g x (qM ix σ) H λσ2 H2=>tt σ2 H2 λb H3=>if b=true then te σ2 H3 λv H4=>N (some v) H4 else N none H3)
  (hd:∀H p,aL H1 H->H p=none->Q (.ref p) (cN H p (.lst (xs.filterMap f)))):nF ix g tt te σ H1 Q (ŝ K a):=by
 refine wg (K:=K) (a:=a) (xs:=xs) (λi ys H=>ys=(xs.take i).filterMap f/\aL H1 H) ⟨Z,aL.refl _⟩ (λi ys H hi ⟨e,s⟩=>⟨s.seq hx,?_⟩) (λi x ys H hi ⟨e,s⟩=>?_) λys H ⟨e,s⟩ p hp=>?_
 ·subst e;refine cV (Ss _ _) (cV ?_ hz);rw[gb];exact TF _ _
 ·have hm:x∈xs:=jz hi;obtain⟨hil,hix⟩:=fL.mp hi;have et:xs.take (i+1)=xs.take i++[x]:=by rw[zP hil,hix]
  refine hs x H (λo H'=>match o with|some v=>(ys++[v]=(xs.take (i+1)).filterMap f/\aL H1 H')|none=>(ys=(xs.take (i+1)).filterMap f/\aL H1 H')) hm s λH' s'=>?_;cases ef:f x with
  |some v =>
   refine⟨?_,s'⟩;rw[e,et,w6];simp[ef]
  |none =>
   refine⟨?_,s'⟩;rw[e,et,w6];simp[ef]
 ·subst e;rw[je];exact hd H p s hp
def a2t{lo:Int}(f:Nat->Option V)(hz:n<=sizeLine)
  (hs:∀i H (N:Option V->Hp->Prop),i<n->aL H1 H->(∀H',aL H1 H'->N (f i) H')->g (.int (lo+i)) (qM ix σ) H λσ2 H2=>tt σ2 H2 λb H3=>if b=true then te σ2 H3 λv H4=>N (some v) H4 else N none H3)
  (hd:∀H p,aL H1 H->H p=none->Q (.ref p) (cN H p (.lst ((List.range n).filterMap f)))):nF ix g tt te σ H1 Q (Wq lo n):=by
 refine xT (λi ys H=>ys=(List.range i).filterMap f/\aL H1 H) ⟨Z,aL.refl _⟩ (λi ys H hi ⟨e,s⟩=>?_) (λi ys H hi ⟨e,s⟩=>?_) λys H ⟨e,s⟩ p hp=>?_
 ·grind
 ·refine hs i H (λo H'=>match o with|some v=>(ys++[v]=(List.range (i+1)).filterMap f/\aL H1 H')|none=>(ys=(List.range (i+1)).filterMap f/\aL H1 H')) hi s λH' s'=>?_;cases ef:f i with
  |some v =>
   refine⟨?_,s'⟩;rw[e,vN,w6];simp[ef]
  |none =>
   refine⟨?_,s'⟩;rw[e,vN,w6];simp[ef]
 ·subst e;exact hd H p s hp
mutual
inductive KQ(K:aJ) (H:Hp):V->PyData->Prop
 |non:KQ K H .non .none
 |bl (b:Bool):KQ K H (.bl b) (.bool b)
 |int (i:Int):KQ K H (.int i) (.int i)
 |str (x:Str):KQ K H (.str x) (.str x)
 |lst {a:Addr}{xs:List V}{ds:List PyData}:bN K H a xs->uP K H xs ds->KQ K H (.ref a) (.list ds)
 |tup {a:Addr}{xs:List V}{ds:List PyData}:cQ K H a xs->uP K H xs ds->KQ K H (.ref a) (.tuple ds)
inductive uP(K:aJ) (H:Hp):List V->List PyData->Prop
 |nil:uP K H [] []
 |cons {x:V}{xs:List V}{d:PyData}{ds:List PyData}:KQ K H x d->uP K H xs ds->uP K H (x::xs) (d::ds)
end
def aL.wj{K:aJ}{H:Hp}{xs:List V}(e:aL H H')(h:cQ K H a xs):cQ K H' a xs:=by
 rcases h with(h|⟨o,h⟩)|h
 ·exact .inl (.inl (e _ _ h))
 ·exact .inl (.inr ⟨o,e _ _ h⟩)
 ·exact .inr h
def KQ.reads{H:Hp}{s:Shared}(I:bH X Y σ H s){v:V}{d:PyData}{u:Value}(h:KQ X.K H v d)(r:cW v u):∃as,Reads s.heap u d as:=by
 refine KQ.rec (motive_1:=λv d _=>∀u,cW v u->∃as,Reads s.heap u d as) (motive_2:=λxs ds _=>∀us,cM xs us->∃as,ReadsAll s.heap us ds as) (λu r=>?_) (λb u r=>?_) (λi u r=>?_) (λx u r=>?_) (λh q ih u r=>?_) (λh q ih u r=>?_) (λus q=>?_) (λh q ih jh us z=>?_) h u r
 ·cases r;exact⟨_,.none⟩
 ·cases r;exact⟨_,.bool b⟩
 ·obtain⟨t,rfl⟩:=r;exact⟨_,.int i t⟩
 ·obtain⟨t,rfl⟩:=r;exact⟨_,.str x t⟩
 ·cases r;obtain⟨bV,rv,⟨o,n,e,c,_,d⟩,_⟩:=I.list h;obtain⟨as,ra⟩:=ih _ rv;exact⟨_,.list e c d (by simpa using ra)⟩
 ·cases r;obtain⟨bV,rv,⟨o,e,c,n,d⟩,_⟩:=I.tuple h;obtain⟨as,ra⟩:=ih _ rv;exact⟨_,.tuple e c d (by simpa using ra)⟩
 ·cases q;exact⟨_,.nil⟩
 ·cases z with
  |cons r t =>
  obtain⟨as,ra⟩:=ih _ r;obtain⟨bs,rb⟩:=jh _ t;exact⟨_,.cons ra rb⟩
theorem uP.ints{K:aJ}{H:Hp}:∀ns:List Int,uP K H (ns.map V.int) (ns.map PyData.int)
 | []=>.nil
 |n::ns=>.cons (.int n) (uP.ints ns)
inductive Ζ(K:aJ)(neg:Bool)(x:V)(y:V)(H:Hp)(Q:VK):Prop
 |mk (d d':_) (_:KQ K H x d) (_:KQ K H y d') (_:SeqAt.shaped d=true) (_:SeqAt.shaped d'=true) (_:Q (.bl (if neg then !PyData.eqv d d' else PyData.eqv d d')) H)
def a2u(hu:X.A.units+64<cLine):sX X (compareOp .Eq) (Ζ X.K false):=by
 intro Y s σ H x y v u Q I rx ry h;obtain⟨d,d',h1,h2,s1,s2,q⟩:=h;obtain⟨as,ra⟩:=h1.reads I rx;obtain⟨bs,rb⟩:=h2.reads I ry;exact eq_dataH ra rb s1 s2 hu ⟨.bl _,H,I,Z,q⟩
def a2v(hu:X.A.units+64<cLine):sX X (compareOp .NotEq) (Ζ X.K true):=by
 intro Y s σ H x y v u Q I rx ry h;obtain⟨d,d',h1,h2,s1,s2,q⟩:=h;obtain⟨as,ra⟩:=h1.reads I rx;obtain⟨bs,rb⟩:=h2.reads I ry;exact ne_dataH ra rb s1 s2 hu ⟨.bl _,H,I,Z,q⟩
inductive U6(K:aJ)(neg:Bool)(x:V)(y:V)(H:Hp)(Q:VK):Prop
 |mk (d ds:_) (_:KQ K H x d) (_:KQ K H y (.list ds)) (_:SeqAt.shaped d=true) (_:SeqAt.shaped (.list ds)=true) (_:Q (.bl (if neg then !ds.any (λe=>PyData.eqv e d)else ds.any (λe=>PyData.eqv e d))) H)
def a2w(hu:X.A.units+65<cLine):sX X (compareOp .In) (U6 X.K false):=by
 intro Y s σ H x y v u Q I rx ry h;obtain⟨d,ds,h1,h2,s1,s2,q⟩:=h;obtain⟨as,ra⟩:=h1.reads I rx;obtain⟨bs,rb⟩:=h2.reads I ry;exact SeqAt.in_list_reads rb ra (zV s2) (zV s1) (room_in_shaped s1 hu) ⟨.bl _,H,I,Z,q⟩
def Yt(hu:X.A.units+65<cLine):sX X (compareOp .NotIn) (U6 X.K true):=by
 intro Y s σ H x y v u Q I rx ry h;obtain⟨d,ds,h1,h2,s1,s2,q⟩:=h;obtain⟨as,ra⟩:=h1.reads I rx;obtain⟨bs,rb⟩:=h2.reads I ry;exact SeqAt.notIn_list_reads rb ra (zV s2) (zV s1) (room_in_shaped s1 hu) ⟨.bl _,H,I,Z,q⟩
def a2x:V->Option Value
 |.ty n=>some (.type n)
 |.ref a=>some (.ref a)
 |_=>none
def á{c:V}{cv u:Value}(h:a2x c=some cv)(r:cW c u):u=cv:=by
 cases c with
 |ty n=>cases h;exact r
 |ref a=>cases h;exact r
 |_=>cases h
def QK:jT X (.builtin "isinstance") (λxs H Q=>∃x c cv t b,xs=[x,c]/\a2x c=some cv/\tR X.K H x t/\PySem.W.kitOne X.K t cv=some b/\Q (.bl b) H):=by
 intro Y s σ H xs us Q I r h;obtain⟨x,c,cv,t,b,rfl,hc,ty,hk,q⟩:=h;obtain⟨u1,u2,rfl,r1,r2⟩:=vals2 r;obtain rfl:=á hc r2;exact Yk I r1 ty hk λtk=>⟨.bl b,H,I.tok tk,Z,q⟩
abbrev Cx.in1(X:Cx):Cx:={ X with A:=X.A.in1}
def bH.in1{Y:List (Addr×Obj)}{σ:St}{H:Hp}{s:Shared}(I:bH X Y σ H s):bH X.in1 Y σ H s :=
 ⟨⟨I.ok.mod,I.ok.kind,I.ok.glob,I.ok.blt,I.ok.above,I.ok.inj,I.ok.has,I.ok.cab,I.ok.hd,I.ok.frames,I.ok.stk,I.ok.exf,I.ok.bs,I.ok.Ŝ,I.ok.Uh,I.ok.Yd,I.ok.Bu,I.ok.ŵ⟩,I.os,I.bare,I.base,I.loc,I.cell,I.free,I.tL,I.pin,I.hok,I.len⟩
def bH.of_in1{H:Hp}{s:Shared}(I:bH X.in1 Y σ H s):bH X Y σ H s :=
 ⟨⟨I.ok.mod,I.ok.kind,I.ok.glob,I.ok.blt,I.ok.above,I.ok.inj,I.ok.has,I.ok.cab,I.ok.hd,I.ok.frames,I.ok.stk,I.ok.exf,I.ok.bs,I.ok.Ŝ,I.ok.Uh,I.ok.Yd,I.ok.Bu,I.ok.ŵ⟩,I.os,I.bare,I.base,I.loc,I.cell,I.free,I.tL,I.pin,I.hok,I.len⟩
def oM(K:aJ)(H:Hp)(xs:List V)(bs:List Bool):Prop:=Paired (λx b=>Ï K x H b) xs bs
theorem oM.get{K:aJ}{H:Hp}:∀{xs:List V}{bs:List Bool}{i:Nat}{x:V},oM K H xs bs->xs[i]?=some x->∃b,bs[i]?=some b/\Ï K x H b
 |_,_,_,_,.nil,h=>by simp at h
 |_,_,0,_,.cons h r,e=>by
  simp at e;subst e
  exact⟨_,Z,h⟩
 |_,_,i+1,_,.cons h r,e=>by
  obtain⟨d,e1,q⟩:=oM.get (i:=i) r (by simpa using e)
  exact⟨d,by simpa using e1,q⟩
theorem oM.bls{K:aJ}{H:Hp}:∀bs:List Bool,oM K H (bs.map V.bl) bs
 | []=>.nil
 |b::bs=>.cons Z (oM.bls bs)
def â{H:Hp}{p:Addr}{ys:List V}{bs:List Bool}(hc:X.calm=true)(hq:bN X.K H p ys)(ht:oM X.K H ys bs)(f:Ge X Y H it) :
  ∀(k i:Nat) (s:Shared),ys.length-i=k->bH X Y σ H s->s.heap.IsListIter it p i->(∀s',bH X Y σ H s'->R (.ok (.ret (.bool ((bs.drop i).all id)))) s')->
  codeAny (model X.prog X.w) X.A (.builtin "all.loop" ⟨[.ref it],[]⟩) R s:=by
 obtain⟨f0,f1,f2,f3,f4,f5⟩:=f;intro k
 induction k with
 |zero =>
  intro i s hk I st hR;obtain⟨bV,rv,pl,hz⟩:=I.list hq;have hl:=rv.length;refine oG F.entry_all_loop ?_;rw[qg NQ _];show wpAny _ X.A.in1 (pyNext (.ref it) >>= _) _ _ s;refine M (wpAny_pyNext_list_end (I.ok.hd hc) st pl.isList (by simp;omega) λh' eb=>?_);refine M (kE (aq ?_));have q:=hR _ (I.turned (t':=s.toks) (λb o hb e=>eb b o hb e) f0 f1 f3 f4 f5);have hlb:bs.length=ys.length:=(aV ht).symm;rw[List.drop_of_length_le ()]at q;exact q
 |succ k ih =>
  intro i s hk I st hR;obtain⟨bV,rv,pl,hz⟩:=I.list hq;have hl:=rv.length;have hlt:i<ys.length:=()
  have hx:ys[i]?=some ys[i]:=by simp[hlt]
  obtain⟨u,hu,ru⟩:=rv.get hx;obtain⟨b,hb,tb⟩:=ht.get hx;refine oG F.entry_all_loop ?_;rw[qg NQ _];show wpAny _ X.A.in1 (pyNext (.ref it) >>= _) _ _ s;refine M (SJ st pl.isList (x:=u) () λh' st' sb=>?_);have I1:bH X Y σ H { s with heap:=h'}:=I.turned (t':=s.toks) (λb o hb e=>(sb.2 b hb).trans e) f0 f1 f3 f4 f5;have hdb:bs.drop i=b::bs.drop (i+1):=by
   obtain⟨hlb,eb⟩:=fL.mp hb;rw[Hy hlb,eb]
  rw[hdb]at hR;have I1p:bH X (Y++vV [it] h') σ H { s with heap:=h'}:=I1.pinned (fp:=[it]) (λc hcc=>by rw[bG.mp hcc];exact⟨f0,f1,f2,f3,f4,f5⟩) λc hcc=>by
   rw[bG.mp hcc];obtain⟨o,e,c',d⟩:=st';grind
  refine M (fG (iG (Um (X:=X.in1.nox) _ _ σ H ys[i] u (λc H'=>c=b/\H'=H) ((bH.in1 I1p).wish _) ru ⟨b,tb,Z,Z⟩) (λc s2 ⟨H',I2,e1,e2⟩=>?_) λ_ _ z=>False.elim z));rw[e2]at I2;subst e1;have I2':bH X (Y++vV [it] h') σ H s2:=bH.of_in1 I2.uL;have ã:bH X Y σ H s2:=I2'.xR;have st2:s2.heap.IsListIter it p (i+1):=st'.at λo e=>(I2'.pin (it,o) (gD _ (gD _ (tO (bG.mpr Z) e)))).1;refine M (xO ?_);cases c with
  |true =>
   simp only[if_true];exact aq ⟨rQ NQ _,ih (i+1) s2 () ã st2 λs' I'=>by simpa using hR s' I'⟩
  |false =>
   simp only[Bool.false_eq_true,if_false];refine M (kE (aq ?_));simpa using hR s2 ã
def Yu(hc:X.calm=true):jT X (.builtin "all") (λxs H Q=>∃p ys bs,xs=[.ref p]/\bN X.K H p ys/\oM X.K H ys bs/\Q (.bl (bs.all id)) H):=by
 intro Y s σ H xs us Q I r h;obtain⟨p,ys,bs,rfl,hq,ht,q⟩:=h;obtain⟨u,rfl,rx⟩:=vals1 r;cases rx;refine call_function_tree F.kind_all F.plain_all F.entry_all (F.args_all1 _) ?_;unfold Builtin.«all»;refine M (m:=oneArg "all" _) (aq ?_);obtain⟨bV,rv,pl,hz⟩:=I.list hq;refine M (vJ pl.isList ?_);have I1:bH X Y σ H { s with heap:=s.heap.push { cls:=.type "list_iterator",data:=.fields #[.ref p,.int 0 0]}}:=I.kept (t':=s.toks) λb o e=>bL _ e;refine aq ⟨rQ NQ _,â hc hq ht (I.Gf (aM _) (I.hok.fresh (aM _))) ys.length 0 _ (Af _) I1 ⟨_,bW _ Z,Z,Z⟩ λs' I'=>?_⟩;exact⟨.bl _,H,I',Z,by simpa using q⟩
def ä{H:Hp}{p:Addr}{ys:List V}{bs:List Bool}(hc:X.calm=true)(hq:bN X.K H p ys)(ht:oM X.K H ys bs)(f:Ge X Y H it) :
  ∀(k i:Nat) (s:Shared),ys.length-i=k->bH X Y σ H s->s.heap.IsListIter it p i->(∀s',bH X Y σ H s'->R (.ok (.ret (.bool ((bs.drop i).any id)))) s')->
  codeAny (model X.prog X.w) X.A (.builtin "any.loop" ⟨[.ref it],[]⟩) R s:=by
 obtain⟨f0,f1,f2,f3,f4,f5⟩:=f;intro k
 induction k with
 |zero =>
  intro i s hk I st hR;obtain⟨bV,rv,pl,hz⟩:=I.list hq;have hl:=rv.length;refine oG F.entry_any_loop ?_;rw[qg NT _];show wpAny _ X.A.in1 (pyNext (.ref it) >>= _) _ _ s;refine M (wpAny_pyNext_list_end (I.ok.hd hc) st pl.isList (by simp;omega) λh' eb=>?_);refine M (kE (aq ?_));have q:=hR _ (I.turned (t':=s.toks) (λb o hb e=>eb b o hb e) f0 f1 f3 f4 f5);have hlb:bs.length=ys.length:=(aV ht).symm;rw[List.drop_of_length_le ()]at q;exact q
 |succ k ih =>
  intro i s hk I st hR;obtain⟨bV,rv,pl,hz⟩:=I.list hq;have hl:=rv.length;have hlt:i<ys.length:=()
  have hx:ys[i]?=some ys[i]:=by simp[hlt]
  obtain⟨u,hu,ru⟩:=rv.get hx;obtain⟨b,hb,tb⟩:=ht.get hx;refine oG F.entry_any_loop ?_;rw[qg NT _];show wpAny _ X.A.in1 (pyNext (.ref it) >>= _) _ _ s;refine M (SJ st pl.isList (x:=u) () λh' st' sb=>?_);have I1:bH X Y σ H { s with heap:=h'}:=I.turned (t':=s.toks) (λb o hb e=>(sb.2 b hb).trans e) f0 f1 f3 f4 f5;have hdb:bs.drop i=b::bs.drop (i+1):=by
   obtain⟨hlb,eb⟩:=fL.mp hb;rw[Hy hlb,eb]
  rw[hdb]at hR;have I1p:bH X (Y++vV [it] h') σ H { s with heap:=h'}:=I1.pinned (fp:=[it]) (λc hcc=>by rw[bG.mp hcc];exact⟨f0,f1,f2,f3,f4,f5⟩) λc hcc=>by
   rw[bG.mp hcc];obtain⟨o,e,c',d⟩:=st';grind
  refine M (fG (iG (Um (X:=X.in1.nox) _ _ σ H ys[i] u (λc H'=>c=b/\H'=H) ((bH.in1 I1p).wish _) ru ⟨b,tb,Z,Z⟩) (λc s2 ⟨H',I2,e1,e2⟩=>?_) λ_ _ z=>False.elim z));rw[e2]at I2;subst e1;have I2':bH X (Y++vV [it] h') σ H s2:=bH.of_in1 I2.uL;have ã:bH X Y σ H s2:=I2'.xR;have st2:s2.heap.IsListIter it p (i+1):=st'.at λo e=>(I2'.pin (it,o) (gD _ (gD _ (tO (bG.mpr Z) e)))).1;refine M (xO ?_);cases c with
  |false =>
   simp only[Bool.false_eq_true,if_false];exact aq ⟨rQ NT _,ih (i+1) s2 () ã st2 λs' I'=>by simpa using hR s' I'⟩
  |true =>
   simp only[if_true];refine M (kE (aq ?_));simpa using hR s2 ã
def Yv(hc:X.calm=true):jT X (.builtin "any") (λxs H Q=>∃p ys bs,xs=[.ref p]/\bN X.K H p ys/\oM X.K H ys bs/\Q (.bl (bs.any id)) H):=by
 intro Y s σ H xs us Q I r h;obtain⟨p,ys,bs,rfl,hq,ht,q⟩:=h;obtain⟨u,rfl,rx⟩:=vals1 r;cases rx;refine call_function_tree F.kind_any F.plain_any F.entry_any (F.args_any1 _) ?_;unfold Builtin.«any»;refine M (m:=oneArg "any" _) (aq ?_);obtain⟨bV,rv,pl,hz⟩:=I.list hq;refine M (vJ pl.isList ?_);have I1:bH X Y σ H { s with heap:=s.heap.push { cls:=.type "list_iterator",data:=.fields #[.ref p,.int 0 0]}}:=I.kept (t':=s.toks) λb o e=>bL _ e;refine aq ⟨rQ NT _,ä hc hq ht (I.Gf (aM _) (I.hok.fresh (aM _))) ys.length 0 _ (Af _) I1 ⟨_,bW _ Z,Z,Z⟩ λs' I'=>?_⟩;exact⟨.bl _,H,I',Z,by simpa using q⟩
structure Dn(K:aJ)(mg:Str->Option Value)(x:Str)(st:Stmt)(ps:List Str) where
 f:Addr
 fd:FuncData
 F:Fun K x x st f fd
 b:Binds K fd ps []
 m:mg x=some (.ref f)
 bd:∀(s:Shared) (us:List Value),us.length=ps.length->BindsTo s fd ⟨us,[]⟩ (ps.zip us)
structure Bl(mg:Str->Option Value):Prop where
 get:∀x:Str,x∈(["len","range","list","isinstance","int","bool","str","all","any","sorted","set","min","max","tuple","enumerate","dict","ValueError"]:List Str)->mg x=none
def Bl.len{mg:Str->Option Value}(B:Bl mg):mg "len" = none:=B.get _ ()
def Bl.range{mg:Str->Option Value}(B:Bl mg):mg "range" = none:=B.get _ ()
def Bl.list{mg:Str->Option Value}(B:Bl mg):mg "list" = none:=B.get _ ()
def Bl.isinstance{mg:Str->Option Value}(B:Bl mg):mg "isinstance" = none:=B.get _ ()
def Bl.int{mg:Str->Option Value}(B:Bl mg):mg "int" = none:=B.get _ ()
def Bl.bool{mg:Str->Option Value}(B:Bl mg):mg "bool" = none:=B.get _ ()
def Bl.all{mg:Str->Option Value}(B:Bl mg):mg "all" = none:=B.get _ ()
def Bl.any{mg:Str->Option Value}(B:Bl mg):mg "any" = none:=B.get _ ()
def Bl.sorted{mg:Str->Option Value}(B:Bl mg):mg "sorted" = none:=B.get _ ()
def Bl.set{mg:Str->Option Value}(B:Bl mg):mg "set" = none:=B.get _ ()
def Bl.min{mg:Str->Option Value}(B:Bl mg):mg "min" = none:=B.get _ ()
def Bl.max{mg:Str->Option Value}(B:Bl mg):mg "max" = none:=B.get _ ()
def Bl.tuple{mg:Str->Option Value}(B:Bl mg):mg "tuple" = none:=B.get _ ()
def Bl.enumerate{mg:Str->Option Value}(B:Bl mg):mg "enumerate" = none:=B.get _ ()
def Bl.dict{mg:Str->Option Value}(B:Bl mg):mg "dict" = none:=B.get _ ()
def Fq{K:aJ}:PySem.W.kitOne K (.type "int") (.type "int")=some true:=by rfl
def Ca{K:aJ}:PySem.W.kitOne K (.type "int") (.type "bool")=some false:=by rfl
def QL{K:aJ}:PySem.W.kitOne K (.type "NoneType") (.type "int")=some false:=by rfl
def O3{K:aJ}:PySem.W.kitOne K (.type "NoneType") (.type "bool")=some false:=by rfl
section
variable{K:aJ}
def bI(e:X.K=K):IxR X (a4B K):=by subst e;exact Α
def aP(e:X.K=K):IxR X (a4C K):=by subst e;exact a2l
def Η(e:X.K=K)(hu:X.A.units+64<cLine):sX X (compareOp .Eq) (Ζ K false):=by subst e;exact a2u hu
def O4(e:X.K=K)(hu:X.A.units+64<cLine):sX X (compareOp .NotEq) (Ζ K true):=by subst e;exact a2v hu
def uy(e:X.K=K)(hu:X.A.units+65<cLine):sX X (compareOp .In) (U6 K false):=by subst e;exact a2w hu
def jN(e:X.K=K)(hu:X.A.units+65<cLine):sX X (compareOp .NotIn) (U6 K true):=by subst e;exact Yt hu
def Θ(e:X.K=K):sX X (compareOp .In) (rIn K false):=by subst e;exact Yn
def U7(e:X.K=K):sX X (compareOp .NotIn) (rIn K true):=by subst e;exact OD
def a6D(K:aJ):List V->Hp->VK->Prop:=λxs H Q=>∃p ys,xs=[.ref p]/\(bN K H p ys\/cQ K H p ys)/\Q (.int ys.length) H
def cP(e:X.K=K):jT X (.builtin "len") (a6D K):=by subst e;exact OJ
def Ι(K:aJ):List V->Hp->VK->Prop:=λxs H Q=>∃p ys,xs=[.ref p]/\(bN K H p ys\/cQ K H p ys)/\∀l,H l=none->Q (.ref l) (cN H l (.lst ys))
def U8(e:X.K=K):jT X (.type "list") (Ι K):=by subst e;exact O1
def a4K(K:aJ):List V->Hp->VK->Prop:=λxs H Q=>∃x c cv t b,xs=[x,c]/\a2x c=some cv/\tR K H x t/\PySem.W.kitOne K t cv=some b/\Q (.bl b) H
def iZ(e:X.K=K):jT X (.builtin "isinstance") (a4K K):=by subst e;exact QK
def a6E(K:aJ):List V->Hp->VK->Prop:=λxs H Q=>∃p ys bs,xs=[.ref p]/\bN K H p ys/\oM K H ys bs/\Q (.bl (bs.all id)) H
def a6F(K:aJ):List V->Hp->VK->Prop:=λxs H Q=>∃p ys bs,xs=[.ref p]/\bN K H p ys/\oM K H ys bs/\Q (.bl (bs.any id)) H
def Yw(e:X.K=K)(hc:X.calm=true):jT X (.builtin "all") (a6E K):=by subst e;exact Yu hc
def Yx(e:X.K=K)(hc:X.calm=true):jT X (.builtin "any") (a6F K):=by subst e;exact Yv hc
def gk{l:Expr}{tl:TE}(e:X.K=K)(hl:PE X l tl):PI X tg l (a1p K tl):=by subst e;exact ŷ hl
def Cd{l:Expr}{tl:TE}(e:X.K=K)(hl:PE X l tl):PI X tg l (a4m K tl):=by subst e;exact a2c hl
def a6G(K:aJ)(ta:TE):TT:=λσ H Q=>ta σ H λx H'=>∃k,Ï K x H' k/\Q k H'
def fW{a:Expr}{ta:TE}(e:X.K=K)(ha:PE X a ta)(he:∀whole,isTrue a X.env whole=(do let v <-whole;standAt a.pos;holding [v] (truthy v))):PT X a (a6G K ta):=by subst e;exact Ð ha he
def jO{t:É}(e:X.K=K)(hc:X.calm=true)(h:PGs X es t)
  (hn:@&((assignEach es X.env).length=n)) (hst:@&((assignEach es X.env).findIdx? (·.1)=none)):PG X (.Tuple es k pos) (a4l K n t):=by subst e;exact a1Z hc h hn hst
def sO{o:Expr}{to:TE}{name:Str}{apos cpos:Pos}{T id:String}(e:X.K=K)(pa:PlainAttrs T)(slot:Slot T name id)(hty:typeOf (.builtin id)=pure (.type "method_descriptor"))(hm:MtR X id r)(ho:PE X o to)
  (hbase:@&(attributeBase o name X.env (eval o X.env)=eval o X.env)) (hline:@&((apos.endLine==cpos.line)=true)):PE X (.Call (.Attribute o name apos) [] [] cpos) (a4E K T r to):=by subst e;exact a2o pa slot hty hm ho hbase hline
def mL{o e:Expr}{to:TE}{t:TA}{name:Str}{apos cpos:Pos}{T id:String}(e0:X.K=K)(pa:PlainAttrs T)(slot:Slot T name id)(hty:typeOf (.builtin id)=pure (.type "method_descriptor"))(hm:MtR X id r)(ho:PE X o to)(ha:PA X (e::es) t)
  (hbase:@&(attributeBase o name X.env (eval o X.env)=eval o X.env))
  (hfew:@&(((backTo cpos (starEach (e::es) X.env)).all (λx=>!x.1)&&(backToKw cpos (keywordEach [] X.env)).all (λx=>x.1.isSome)
   && decide ((e::es).length+([]:List Keyword).length+(if([]:List Keyword).isEmpty then 0 else 1)<30))=true))
  (hline:@&((apos.endLine==cpos.line)=true)) (hs:@&(starEach (e::es) X.env=(false,eval e X.env)::starEach es X.env)) (hplain:@&((backTo cpos (starEach es X.env)).any (·.1)=false)) :
  PE X (.Call (.Attribute o name apos) (e::es) [] cpos) (tBM K T r to t):=by subst e0;exact a4F pa slot hty hm ho ha hbase hfew hline hs hplain
end
inductive a4L(t u:TS)(D:Ends)(σ:St)(H:Hp):Prop
 |mk (Z97:St->Hp->Prop) (_:t { D with nx:=Z97} σ H) (_:∀σ' H',Z97 σ' H'->u D σ' H')
def lW{st:Stmt}{rest:List Stmt}{t u:TS}(h1:PS X st t)(h2:Qz X rest u):Qz X (st::rest) (a4L t u):=by
 intro Y s σ H D I h;obtain⟨Z97,q1,q2⟩:=h;refine Tw (jG (h1 Y s σ H { D with nx:=Z97} I q1) λf s1 q=>?_);cases f with
 |next =>
  obtain⟨σ',H',I',q⟩:=q;exact h2 Y s1 σ' H' D I' (q2 σ' H' q)
 |ret v=>exact q
 |brk=>exact q
 |cont=>exact q
structure iQ(H:Hp)(p:Addr)(o:HO)(H':Hp):Prop where
 fresh:H p=none
 here:H' p=some o
 rest:∀b,b≠p->H' b=H b
def iQ.pQ{H:Hp}{p:Addr}(h:H p=none):iQ H p o (cN H p o):=⟨h,dD,λ_ hb=>aW hb⟩
def iQ.same{H:Hp}{p:Addr}(n:iQ H p o H'):aL H H':=λb u e=>(n.rest b (eE e n.fresh)).trans e
def iQ.ne{H:Hp}{p b:Addr}{u:HO}(n:iQ H p o H')(h:H b=some u):b≠p:=eE h n.fresh
structure uZ(H:Hp)(l:Addr)(o:HO)(H':Hp):Prop where
 here:H' l=some o
 rest:∀b,b≠l->H' b=H b
def uZ.pQ{H:Hp}{l:Addr}:uZ H l o (cN H l o):=⟨dD,λ_ hb=>aW hb⟩
section
variable{K:aJ}{t:TA}
def a1s(t:TA):TE:=λσ H Q=>t σ H λxs H1=>xs.length<=1000/\∀p H',iQ H1 p (.tup xs) H'->Q (.ref p) H'
def a4M(t:TA):TE:=λσ H Q=>t σ H λxs H1=>xs.length<=1000/\∀p H',iQ H1 p (.lst xs) H'->Q (.ref p) H'
def bB{x1}(h:PA X es t):PE X (.Tuple es x1 pos) (a1s t):=by
 intro Y s σ H Q I hq;refine wpAny_Tuple_spliced (jG (h pos Y s σ H _ I hq) λus s1 ⟨xs,H1,I1,r,z,q⟩=>?_);have z':xs.length<=sizeLine:=eO (cO z);refine⟨by rw[<-r.length];exact z',?_⟩;have hf:H1 s1⁻¹=none:=I1.hok.fresh (aM _);exact⟨.ref s1⁻¹,cN H1 s1⁻¹ (.tup xs),I1.laid (t':=s1.toks) (λb u e=>bL _ e) (aM _) ⟨z',us,r,⟨_,bW _ Z,Z,_,Z⟩⟩,Z,q _ _ (iQ.pQ hf)⟩
def cG(h:PA X es t):PE X (.List es pos) (a4M t):=by
 intro Y s σ H Q I hq;refine wpAny_List_spliced (jG (h pos Y s σ H _ I hq) λus s1 ⟨xs,H1,I1,r,z,q⟩=>?_);have z':xs.length<=sizeLine:=eO (cO z);refine⟨by rw[<-r.length];exact z',?_⟩;have hf:H1 s1⁻¹=none:=I1.hok.fresh (aM _);exact⟨.ref s1⁻¹,cN H1 s1⁻¹ (.lst xs),I1.laid (t':=s1.toks) (λb u e=>bL _ e) (aM _) ⟨z',us,0,r,bW _ Z⟩,Z,q _ _ (iQ.pQ hf)⟩
def sX.weak{f:Value->Value->Sem Value}{r r':R2}(h:sX X f r)(m:∀x y H Q,r' x y H Q->r x y H Q):sX X f r':=λY s σ H x y v u Q I rx ry q=>h Y s σ H x y v u Q I rx ry (m x y H Q q)
def jT.weak{f:Value}{r r':List V->Hp->VK->Prop}(h:jT X f r)(m:∀xs H Q,r' xs H Q->r xs H Q):jT X f r':=λY s σ H xs us Q I rs q=>h Y s σ H xs us Q I rs (m xs H Q q)
inductive a4N(x:V)(y:V)(H:Hp)(Q:VK):Prop
 |mk (l b xs zs:_) (_:x=.ref l) (_:y=.ref b) (_:H l=some (.lst xs)) (_:H b=some (.lst zs)) (_:xs.length+zs.length<=1000) (_:∀p H',iQ H p (.lst (xs++zs)) H'->Q (.ref p) H')
def lX:sX X (binaryOp .Add) a4N:=a2r.weak λx y H Q ⟨l,b,xs,zs,e1,e2,h1,h2,z,q⟩=>⟨l,b,xs,zs,e1,e2,h1,h2,eO (cO z),λp hp=>q p _ (iQ.pQ hp)⟩
inductive a6H(K:aJ)(x:V)(lo:Option Int)(hi:Option Int)(H:Hp)(Q:VK):Prop
 |mk (a xs:_) (_:x=.ref a) (_:bN K H a xs) (_:∀p H',iQ H p (.lst (uM xs lo hi)) H'->Q (.ref p) H')
def xU(e:X.K=K):SlR X (a6H K):=by
 subst e;exact λY s σ H x v vl vu lo hi sl Q I rx hs pl pu ⟨a,xs,e,h,q⟩=>Β Y s σ H x v vl vu lo hi sl Q I rx hs pl pu ⟨a,xs,e,h,λp hp=>q p _ (iQ.pQ hp)⟩
inductive a2y(K:aJ)(xs:List V)(H:Hp)(Q:VK):Prop
 |mk (p ys:_) (_:xs=[.ref p]) (_:(bN K H p ys\/cQ K H p ys)) (_:∀l H',iQ H l (.lst ys) H'->Q (.ref l) H')
def wu(e:X.K=K):jT X (.type "list") (a2y K):=(U8 e).weak λxs H Q ⟨p,ys,e,h,q⟩=>⟨p,ys,e,h,λl hl=>q l _ (iQ.pQ hl)⟩
def UL.weak{id:String}{r':V->List V->Hp->VK->Prop}(h:UL X id r)(m:∀x xs H Q,r' x xs H Q->r x xs H Q):UL X id r':=λY s σ H x xs v us Q I rx rs q=>h Y s σ H x xs v us Q I rx rs (m x xs H Q q)
inductive a4O(x:V)(vs:List V)(H:Hp)(Q:VK):Prop
 |mk (l xs y:_) (_:x=.ref l) (_:vs=[y]) (_:H l=some (.lst xs)) (_:xs.length<1000) (_:∀H',uZ H l (.lst (xs++[y])) H'->Q .non H')
def iI:UL X "list.append" a4O:=Yp.weak λx vs H Q ⟨l,xs,y,e1,e2,h,z,q⟩=>⟨l,xs,y,e1,e2,h,cO (eO z),q _ uZ.pQ⟩
end
def O5{K:aJ}{xs:List V}(f:V->Option V)(hx:bN K H1 a xs)(hz:xs.length<=1000)
  (hs:∀x H (N:Option V->Hp->Prop),x∈xs->aL H1 H->(∀H',aL H1 H'->N (f x) H')->g x (qM ix σ) H λσ2 H2=>tt σ2 H2 λb H3=>if b=true then te σ2 H3 λv H4=>N (some v) H4 else N none H3)
  (hd:∀H p H',aL H1 H->iQ H p (.lst (xs.filterMap f)) H'->Q (.ref p) H'):nF ix g tt te σ H1 Q (ŝ K a) :=
 a4J f hx (eO (cO hz)) hs λH p s hp=>hd H p _ s (iQ.pQ hp)
def Κ{lo:Int}(f:Nat->Option V)(hz:n<=1000)
  (hs:∀i H (N:Option V->Hp->Prop),i<n->aL H1 H->(∀H',aL H1 H'->N (f i) H')->g (.int (lo+i)) (qM ix σ) H λσ2 H2=>tt σ2 H2 λb H3=>if b=true then te σ2 H3 λv H4=>N (some v) H4 else N none H3)
  (hd:∀H p H',aL H1 H->iQ H p (.lst ((List.range n).filterMap f)) H'->Q (.ref p) H'):nF ix g tt te σ H1 Q (Wq lo n) :=
 a2t f (eO (cO hz)) hs λH p s hp=>hd H p _ s (iQ.pQ hp)
end L2
namespace Lw
open L2
variable{H:Hp}{ns:List Int}{K:aJ}{a:Addr}
def qN{p:Addr}(h:H p=none)(o:HO):aL H (cN H p o):=λb u q=>by rw[aW (eE q h)];exact q
theorem Ce{α β:Type}{f:α->Option β}{g:α->β}:∀{l:List α},(∀x∈l,f x=some (g x))->l.filterMap f=l.map g
 | [],_=>rfl
 |x::r,h=>by
  rw[Nh (h x aU),cL,Ce λy hy=>h y (bC _ hy)]
theorem Ed{f:V->Option V}{p:Int->Bool}:∀{ns:List Int},(∀v∈ns,f (.int v)=if p v=true then some (.int v)else none)->(ns.map V.int).filterMap f=(ns.filter p).map V.int
 | [],_=>rfl
 |v::r,h=>by
  have ih:=Ed (f:=f) (p:=p) (ns:=r) λy hy=>h y (bC _ hy)
  grind
def WM{k:Int}(h0:0<=k)(h:k<(ns.length:Int)):R6 (ns.map V.int) k=some (.int (ns.getD k.toNat 0)):=by
 have hk:k.toNat<ns.length:=()
 have ek:k=((k.toNat:Nat):Int):=()
 have q:R6 (ns.map V.int) ((k.toNat:Nat):Int)=some (.int (ns.getD k.toNat 0)):=cu (by
  grind)
 grind
def Yy(K:aJ)(H:Hp)(a:Addr)(ns:List Int):Prop:=(∃o,H a=some (.jo o (.lst (ns.map V.int))))\/
 ∃(o:Obj) (bV:Array Value) (n:Nat),K.lookup a=some o/\o.cls=.type "list" /\o.dict=none/\o.data=.seq bV n/\bV.size<=sizeLine/\cM (ns.map V.int) bV.toList
def Yy.seq(h:Yy K H a ns):bN K H a (ns.map V.int):=by
 rcases h with⟨o,h⟩|h
 ·exact .inl (.inr ⟨o,h⟩)
 ·exact .inr h
def Yy.of(hO:Only H)(h:bN K H a (ns.map V.int)):Yy K H a ns:=by
 rcases h with(h|⟨o,h⟩)|h
 ·rcases hO a with z|⟨ob,xs,z⟩
  ·grind
  grind
 ·exact .inl ⟨o,h⟩
 ·exact .inr h
def Yy.same{H':Hp}(e:aL H H')(h:Yy K H a ns):Yy K H' a ns:=by
 rcases h with⟨o,h⟩|h
 ·exact .inl ⟨o,e _ _ h⟩
 ·exact .inr h
inductive a1t(K:aJ)(vs:List V)(H:Hp)(Q:VK)(u_3:XK):Prop
 |mk (a:Addr) (ns:List Int) (_:vs=[.ref a]) (_:Yy K H a ns) (_:ns.length<=63) (_:∀H',Q (.bl true) H')
end Lw
namespace L2
open PyProof.Rows
variable{K:aJ}{mg:Str->Option Value}{k:Nat}
def a4P{h:Heap}{x:Str}{st:Stmt}{ps:List Str}{f:Addr}{oc:Value}{od an:Option Addr}{osl:Array (Option Value)}{kV doc pm dZ ct:Value}(X:K.In h)(G:h.Ns mainGlobals mg)
  (a:PySem.W.nsIn K mainGlobals x=some (some (.ref f))) (l:K.lookup f=some ⟨oc,od,.func (PySem.W.fnOf x x (gY st) (gB st) (aH st) .none kV doc pm an dZ ct),osl⟩) (c:PySem.W.codeIn K dZ x=true) (k:PySem.W.keepIn K (.ref f)=true)
  (hb:∀(kV doc pm:Value) (an:Option Addr) (dZ ct:Value) (us:List Value),us.length=ps.length->bindArgs (PySem.W.fnOf x x (gY st) (gB st) (aH st) .none kV doc pm an dZ ct) ⟨us,[]⟩=pure (ps.zip us)) :
  Nonempty (Dn K mg x st ps) :=
 have F:=U4 (st:=st) l c k
 ⟨⟨f,_,F,F.binds hb,Ij X G a,λs us hl=>.of_eq (hb _ _ _ _ _ _ us hl)⟩⟩
def a4Q{h:Heap}(X:K.In h)(G:h.Ns mainGlobals mg)
  (z1:PySem.W.nsIn K mainGlobals "len" = some none) (z2:PySem.W.nsIn K mainGlobals "range" = some none) (z3:PySem.W.nsIn K mainGlobals "list" = some none) (z4:PySem.W.nsIn K mainGlobals "isinstance" = some none) (z5:PySem.W.nsIn K mainGlobals "int" = some none)
  (z6:PySem.W.nsIn K mainGlobals "bool" = some none) (z7:PySem.W.nsIn K mainGlobals "str" = some none) (z8:PySem.W.nsIn K mainGlobals "all" = some none) (z9:PySem.W.nsIn K mainGlobals "any" = some none) (z10:PySem.W.nsIn K mainGlobals "sorted" = some none)
  (z11:PySem.W.nsIn K mainGlobals "set" = some none) (z12:PySem.W.nsIn K mainGlobals "min" = some none) (z13:PySem.W.nsIn K mainGlobals "max" = some none) (z14:PySem.W.nsIn K mainGlobals "tuple" = some none) (z15:PySem.W.nsIn K mainGlobals "enumerate" = some none)
  (z16:PySem.W.nsIn K mainGlobals "dict" = some none) (z17:PySem.W.nsIn K mainGlobals "ValueError" = some none):Bl mg:=by
 refine⟨λx hx=>?_⟩;simp only[List.mem_cons,List.not_mem_nil,or_false]at hx;rcases hx with rfl|rfl|rfl|rfl|rfl|rfl|rfl|rfl|rfl|rfl|rfl|rfl|rfl|rfl|rfl|rfl|rfl
 ·exact lF X G z1
 ·exact lF X G z2
 ·exact lF X G z3
 ·exact lF X G z4
 ·exact lF X G z5
 ·exact lF X G z6
 ·exact lF X G z7
 ·exact lF X G z8
 ·exact lF X G z9
 ·exact lF X G z10
 ·exact lF X G z11
 ·exact lF X G z12
 ·exact lF X G z13
 ·exact lF X G z14
 ·exact lF X G z15
 ·exact lF X G z16
 ·exact lF X G z17
def a2z{P:Program}{w:World}{fa:Addr}{st:Stmt}{sp:Sp}{x:Str}(hfa:mg "law" = some (.ref fa))(d:Dn K mg "law" st [x])(F:∀base:Heap,bf P w K mg base fX k d.f d.fd [x] sp) :
  ∃fd:FuncData,(∀(s:Shared) (u:Value),BindsTo s fd ⟨[u],[]⟩ [(x,u)])/\∀base:Heap,K.In base->base.Ns mainGlobals mg->bf P w K mg base fX k fa fd [x] sp:=by
 have e:fa=d.f:=by
  have:=hfa.symm.trans d.m;have:=dB this;cases this;rfl
 subst e;exact⟨d.fd,λs u=>d.bd s [u] Z,λbase _ _=>F base⟩
def Ite(K:aJ)(a:Addr):It :=
 ⟨λi H=>∃xs x,bN K H a xs/\xs[i]?=some x,λi H x H'=>∃p y,x=.ref p/\iQ H p (.tup [.int i,y]) H'/\∀xs,bN K H a xs->xs[i]?=some y,λi H=>∃xs,bN K H a xs/\xs.length<=i⟩
def Yz{P:Program}{w:World}{elts:List Expr}{pos:Pos}(a it e:Addr)(hei:e≠it):Turn P w K (.Tuple elts k pos) (Ite K a) [e,it] e (λi h=>(∃old,IsEnum h e it i old)/\h.IsListIter it a i) where
 mem:=by simp
 obj:=λi h st b hb=>by
  obtain⟨⟨old,he⟩,hit⟩:=st
  rcases bZ.mp hb with rfl|hb
  ·grind
  ·rw[bG.mp hb]
   obtain⟨o,e1,c,d⟩:=hit
   grind
 keep:=λi h h' st kk=>by
  obtain⟨⟨old,he⟩,hit⟩:=st
  exact⟨⟨old,kk e (by simp) _ he⟩,hit.at λo q=>kk it (by simp) o q⟩
 item:=by
  intro X hP hw hK hc i Y s σ H E I hf st hg
  subst hP hw hK
  obtain⟨xs,x,hq,hx⟩:=hg
  obtain⟨bV,rv,pl,hz⟩:=I.list hq
  obtain⟨u,hu,ru⟩:=rv.get hx
  obtain⟨⟨old,he⟩,hit⟩:=st
  obtain⟨f0,f1,f2,f3,f4,f5⟩:=hf e (by simp)
  obtain⟨g0,g1,g2,g3,g4,g5⟩:=hf it (by simp)
  refine wpAny_pyNext_enum_item he hit pl.isList (x:=u) () hei λh' ho hit' hT hsz hk=>?_
  refine⟨_,Z,Z6 ho λh2 he2 hs2=>?_⟩
  have eT:s⁻¹≠e:=gG (aY he)
  have iT:s⁻¹≠it:=by
   obtain⟨o,e1,_⟩:=hit
   exact gG (aY e1)
  have hT2:h2.get? s⁻¹=some { cls:=.type "tuple",data:=.seq #[.int i s.toks,u]}:=(hs2.2 _ eT).trans hT
  have kp:∀b o,b≠e->b≠it->s.heap.get? b=some o->h2.get? b=some o:=λb o h1 h2' q=>(hs2.2 b h1).trans (hk b o h1 h2' q)
  have I1:bH X Y σ H { s with heap:=h2,toks:=s.toks+1}:=by
   refine I.step (g':=s.gens) (d':=s.drawn) (H':=H) (ch:=[e,it]) (λb hb=>?_) (λb o _ _ hc q _=>kp b o (λz=>hc (by simp[z])) (λz=>hc (by simp[z])) q) (λb o _ _ hc q _=>⟨o.slots,kp b o (λz=>hc (by simp[z])) (λz=>hc (by simp[z])) q⟩) (λ_ _ _ _ n=>n)
    (λb o hc q=>⟨o,kp b o (λz=>hc (by simp[z])) (λz=>hc (by simp[z])) q⟩) (λ_ _ q=>q) (λ_ _ _ q=>q) (λb ps q=>⟨#[],by rw[q];simp⟩) (λm hm=>?_) (λb o q=>?_) I.bare
   ·rcases bZ.mp hb with rfl|hb
    ·exact⟨f3,f1,f4,f5⟩
    ·rw[bG.mp hb];exact⟨g3,g1,g4,g5⟩
   ·obtain⟨o,es,ep,q,r⟩:=hm
    exact⟨o,es,ep,kp _ o (Ne.symm f1) (Ne.symm g1) q,r⟩
   ·have nb:∀c v,H c=some v->c≠e/\c≠it:=λc v q=>⟨eE q f0,eE q g0⟩
    refine(I.hok b o q).stay (λc v hcc r=>kp c v ?_ ?_ r) (λ_ q=>q) λ_ _ q=>q
    ·grind
    grind
  have hfree:H s⁻¹=none:=I.hok.fresh (aM _)
  have I2:bH X Y σ (cN H s⁻¹ (.tup [.int i,x])) { s with heap:=h2,toks:=s.toks+1}:=by
   refine bH.track I1 hfree I.sz (gG I.lt) (λy c q=>?_) (λp hp=>b7 (aY (I.pin p hp).1)) ?_
   ·obtain⟨v,oc,q1,_⟩:=I.cell y c q
    exact b7 (aY q1)
   ·exact⟨(by show 2<=sizeLine;decide),[.int i s.toks,u],.cons ⟨_,Z⟩ (.cons ru .nil),⟨_,hT2,Z,_,Z⟩⟩
  refine⟨.ref s⁻¹,_,I2,Z,⟨_,x,Z,iQ.pQ hfree,λys hy=>by rw[I.xP hy hq];exact hx⟩,⟨⟨u,?_⟩,hit'.at λo q=>(hs2.2 it (Ne.symm hei)).trans q⟩,λb hb=>?_⟩
  ·grind
  ·rcases bZ.mp hb with rfl|hb
   ·rw[aW (Ne.symm eT)];exact f0
   ·rw[bG.mp hb,aW (Ne.symm iT)];exact g0
 done:=by
  intro X hP hw hK hc i Y s σ H E I hf st hg
  subst hP hw hK
  obtain⟨xs,hq,hx⟩:=hg
  obtain⟨bV,rv,pl,hz⟩:=I.list hq
  obtain⟨⟨old,he⟩,hit⟩:=st
  obtain⟨g0,g1,g2,g3,g4,g5⟩:=hf it (by simp)
  have hl:=rv.length
  exact wpAny_pyNext_enum_end (I.ok.hd hc) he hit pl.isList (by simp;omega) λh' eb=>⟨Z,I.turned (t':=s.toks) (λb o hb q=>eb b o hb q) g0 g1 g3 g4 g5⟩
 self:=λ_ _ _ _ _ st h=>by
  obtain⟨⟨old,he⟩,_⟩:=st
  exact Nz he h
section
variable{X:Cx}
def a4R(K:aJ)(ta:TA):TI:=λσ H R=>ta σ H λvs H1=>∃a,vs=[.ref a]/\(∃xs,bN K H1 a xs)/\R (Ite K a) H1
def Λ{elts:List Expr}{tpos:Pos}{l:Expr}{ta:TA}{p pos:Pos}(e0:X.K=K)(hg:Gl X "enumerate")(hm:X.mg "enumerate" = none)(ha:PA X [l] ta)(hs:@&(starEach [l] X.env=[(false,eval l X.env)])) :
  PI X (.Tuple elts k tpos) (.Call (.Name "enumerate" p) [l] [] pos) (a4R K ta):=by
 subst e0;intro Y s σ H R I h;refine xq (vU I hg hm boot_enumerate (zQ (jG (ha pos Y s σ H _ I h) λus s1 ⟨vs,H1,I1,r1,q1⟩=>?_) hs (by rfl)));obtain⟨a,e,⟨xs,hq⟩,q⟩:=q1;subst e;obtain⟨u,rfl,ru⟩:=vals1 r1;cases ru;obtain⟨bV,rv,pl,hz⟩:=I1.list hq;refine call_enumerate_list pl.isList λh' he hit hsz hk=>Nz he ?_;have I2:bH X Y σ H1 { s1 with heap:=h'}:=I1.kept (t':=s1.toks) hk;refine⟨s1⁻¹+1,[s1⁻¹+1,s1⁻¹],_,_,H1,Z,I2,Yz a s1⁻¹ (s1⁻¹+1) (gG (xu _)),⟨⟨_,he⟩,hit⟩,λb hb=>?_,q⟩;have hb':s1⁻¹<=b:=by
  grind
 exact I1.Gf hb' (I1.hok.fresh hb')
end
def å{a:Addr}{xs:List V}{g:TG}{tb:TS}{D:Ends}{σ:St}{H:Hp}(Pv:Nat->St->Hp->Prop)(h0:Pv 0 σ H)(hl:∀i σ H,i<=xs.length->Pv i σ H->bN K H a xs)
  (hs:∀(i:Nat) x σ H p H',xs[i]?=some x->Pv i σ H->iQ H p (.tup [.int i,x]) H'->g (.ref p) σ H' λσ2 H2=>tb { D with nx:=Pv (i+1),ct:=Pv (i+1),bk:=D.nx} σ2 H2) (hd:∀σ H,Pv xs.length σ H->D.nx σ H) :
  ∃W:Nat->Nat->St->Hp->Prop,(∃m,W 0 m σ H)/\∀i m σ H,W i m σ H->
   ((Ite K a).stop i H/\D.nx σ H)\/((Ite K a).go i H/\∃N:St->Hp->Prop,(∀σ' H',N σ' H'->∃m',m'<m/\W (i+1) m' σ' H')/\∀x H',(Ite K a).ZQ i H x H'->g x σ H' λσ2 H2=>tb { D with nx:=N,ct:=N,bk:=D.nx} σ2 H2):=by
 refine⟨λi m σ H=>m=xs.length-i/\i<=xs.length/\Pv i σ H,⟨xs.length,by simp,dw _,h0⟩,?_⟩;rintro i m σ H ⟨rfl,hi,p⟩;have q:=hl i σ H hi p;by_cases hlt:i<xs.length
 ·refine .inr ⟨⟨xs,xs[i],q,by simp[hlt]⟩,Pv (i+1),λσ' H' p'=>⟨xs.length-(i+1),(),Z,hlt,p'⟩,λx H' y=>?_⟩;obtain⟨pp,y0,rfl,nw,ex⟩:=y;exact hs i y0 σ H pp H' (ex xs q) p nw
 ·have e:i=xs.length:=()
  subst e;exact .inl ⟨⟨xs,q,aM _⟩,hd σ H p⟩
def æ{a:Addr}{xs:List V}{ix:List (Option Nat)}{g:TG}{tt:TT}{te:TE}{σ:St}{H1:Hp}{Q:VK}(f:Nat->Option V)(hx:bN K H1 a xs)(hz:xs.length<=1000)
  (hs:∀(i:Nat) x H (N:Option V->Hp->Prop),xs[i]?=some x->aL H1 H->(∀H',aL H1 H'->N (f i) H')->g x (qM ix σ) H λσ2 H2=>tt σ2 H2 λb H3=>if b=true then te σ2 H3 λv H4=>N (some v) H4 else N none H3)
  (hd:∀H p H',aL H1 H->iQ H p (.lst ((List.range xs.length).filterMap f)) H'->Q (.ref p) H'):nF ix g tt te σ H1 Q (ŝ K a):=by
 refine wg (K:=K) (a:=a) (xs:=xs) (λi ys H=>ys=(List.range i).filterMap f/\aL H1 H) ⟨Z,aL.refl _⟩ (λi ys H hi ⟨e,s⟩=>⟨s.seq hx,?_⟩) (λi x ys H hi ⟨e,s⟩=>?_) λys H ⟨e,s⟩ p hp=>?_
 ·subst e;refine cV (Ss _ _) ?_;rw[rP];exact cV hi (eO (cO hz))
 ·refine hs i x H (λo H'=>match o with|some v=>(ys++[v]=(List.range (i+1)).filterMap f/\aL H1 H')|none=>(ys=(List.range (i+1)).filterMap f/\aL H1 H')) hi s λH' s'=>?_;cases ef:f i with
  |some v =>
   refine⟨?_,s'⟩;rw[e,vN,w6];simp[ef]
  |none =>
   refine⟨?_,s'⟩;rw[e,vN,w6];simp[ef]
 ·subst e;exact hd H p _ s (iQ.pQ hp)
end L2
namespace Bg
open L2 Lw
abbrev Bs:=Option Int×List Int
def oN(n:Int):Option Int->Bool
 |none=>false
 |some i=>decide (0<=i/\i<n)
def rowAt(rs:List Bs)(k:Nat):Bs:=rs.getD k (none,[])
inductive Flt where
 |ok|row (k:Nat)|place (v:Nat)|tie (a b:Int)|apart (v j k:Nat)
 deriving DecidableEq
variable{i:Nat}
def upV:Option Int->V
 |none=>.non
 |some i=>.int i
def Μ(K:aJ)(H:Hp)(v:V)(t:Int×Int):Prop:=∃p,v=.ref p/\cQ K H p [.int t.1,.int t.2]
inductive Ef(K:aJ)(H:Hp)(a:Addr)(ts:List bY):Prop
 |mk (xs:_) (_:bN K H a xs) (_:Paired (Μ K H) xs ts) (_:ts.length<=1000)
inductive uQ(K:aJ)(H:Hp)(v:V)(n:Int)(ts:List bY):Prop
 |mk (p a:_) (_:v=.ref p) (_:cQ K H p [.int n,.ref a]) (_:Ef K H a ts)
def Ef.same{K:aJ}{H H':Hp}{a:Addr}{ts:List bY}(e:aL H H')(h:Ef K H a ts):Ef K H' a ts:=by
 obtain⟨xs,h1,h2,h3⟩:=h;exact⟨xs,e.seq h1,Paired.cC h2 λ_ _ ⟨p,q1,q2⟩=>⟨p,q1,e.wj q2⟩,h3⟩
def uQ.same{K:aJ}{H H':Hp}{v:V}{n:Int}{ts:List bY}(e:aL H H')(h:uQ K H v n ts):uQ K H' v n ts:=by
 obtain⟨p,a,h1,h2,h3⟩:=h;exact⟨p,a,h1,e.wj h2,h3.same e⟩
def bM{α β:Type}{F:α->β->Prop}{xs:List α}{ys:List β}{x:α}(p:Paired F xs ys)(e:xs[i]?=some x):∃y,ys[i]?=some y/\F x y:=by
 induction p generalizing i with
 |nil=>cases e
 |cons h r ih =>
  cases i with
  |zero=>cases e;exact⟨_,Z,h⟩
  |succ i=>exact ih (i:=i) e
def cU{α β:Type}{F:α->β->Prop}{xs:List α}{ys:List β}{y:β}(p:Paired F xs ys)(e:ys[i]?=some y):∃x,xs[i]?=some x/\F x y:=by
 induction p generalizing i with
 |nil=>cases e
 |cons h r ih =>
  cases i with
  |zero=>cases e;exact⟨_,Z,h⟩
  |succ i=>exact ih (i:=i) e
def u6{rs:List Bs}(h:i<rs.length):rs[i]?=some (rowAt rs i):=by
 unfold rowAt;grind
def WN(ns:List Int)(v:Int):(ns.map PyData.int).any (λe=>PyData.eqv e (.int v))=decide (v∈ns):=by
 induction ns with
 |nil=>rfl
 |cons a r ih =>
  rw[cL,tH,ih,PyData.eqv];grind
def U9(ns:List Int):PyData.depthAll (ns.map PyData.int)=0:=by
 induction ns with
 |nil=>rfl
 |cons a r ih=>rw[cL,PyData.depthAll,ih];rfl
def ç(ns:List Int):PyData.canLayAll0 (ns.map PyData.int)=true:=by
 induction ns with
 |nil=>rfl
 |cons a r ih=>rw[cL,PyData.canLayAll0,ih];rfl
def shaped_ints(ns:List Int):SeqAt.shaped (.list (ns.map PyData.int))=true:=by
 unfold SeqAt.shaped;rw[PyData.canLay0,ç,PyData.depth,U9];decide
def Je(ns ms:List Int):PyData.eqv (.list (ns.map PyData.int)) (.list (ms.map PyData.int))=decide (ns=ms):=by
 rw[PyData.eqv];exact PySem.W.ked_eqvAll ns ms
def Aj{K:aJ}{H:Hp}{b:Addr}{ns:List Int}{v:Int}{Q:VK}(hS:bN K H b (ns.map V.int))(q:Q (.bl (decide (v∈ns))) H):U6 K false (.int v) (.ref b) H Q :=
 ⟨_,_,.int v,.lst hS (uP.ints ns),Z,shaped_ints ns,by rw[WN];exact q⟩
def yS{K:aJ}{H:Hp}{b:Addr}{ns:List Int}{v:Int}{Q:VK}(hS:bN K H b (ns.map V.int))(q:Q (.bl (!decide (v∈ns))) H):U6 K true (.int v) (.ref b) H Q :=
 ⟨_,_,.int v,.lst hS (uP.ints ns),Z,shaped_ints ns,by rw[WN];exact q⟩
end Bg
namespace L2
open PyProof.Rows
inductive a4S(o:V)(i:V)(v:V)(H:Hp)(Q:Hp->Prop):Prop
 |mk (p xs k j:_) (_:o=.ref p) (_:i=.int k) (_:H p=some (.lst xs)) (_:Ş xs.length k=some j) (_:∀H',uZ H p (.lst (xs.set j v)) H'->Q H')
def YB{X:Cx}:Ŷ X a4S:=λY s σ H o i v ov iv u Q I ro ri rv ⟨p,xs,k,j,e1,e2,h1,h2,q⟩=>set_list Y s σ H o i v ov iv u Q I ro ri rv ⟨p,xs,k,j,e1,e2,h1,h2,q _ uZ.pQ⟩
def Ν{n j:Nat}(h:j<n):Ş n (j:Int)=some j:=by
 unfold Ş;rw[aG (),aG ()];simp
def aL.chg{H H':Hp}{l:Addr}{o:HO}{H0:Hp}(s:aL H0 H)(h0:H0 l=none)(c:uZ H l o H'):aL H0 H':=λb u e=>(c.rest b (eE e h0)).trans (s b u e)
end L2
namespace Bg
open L2 Lw
variable{H H':Hp}
inductive pX(H:Hp)(v:V)(t:Int×Int):Prop
 |mk (p:_) (_:v=.ref p) (_:H p=some (.tup [.int t.1,.int t.2]))
inductive O6(l:Addr)(H:Hp)(v:V)(r:Bs):Prop
 |mk (p b:_) (_:v=.ref p) (_:H p=some (.tup [upV r.1,.ref b])) (_:H b=some (.lst (r.2.map V.int))) (_:b≠l) (_:r.2.length<=1000)
def pX.same{v:V}{t:Int×Int}(s:aL H H')(h:pX H v t):pX H' v t:=by
 obtain⟨p,e,q⟩:=h;exact⟨p,e,s _ _ q⟩
def pX.chg{l:Addr}{xs ys:List V}{v:V}{t:Int×Int}(hl:H l=some (.lst xs))(c:uZ H l (.lst ys) H')(h:pX H v t):pX H' v t:=by
 obtain⟨p,e,q⟩:=h;exact⟨p,e,(c.rest p (a1n q hl ())).trans q⟩
def O6.same{l:Addr}{v:V}{r:Bs}(s:aL H H')(h:O6 l H v r):O6 l H' v r:=by
 obtain⟨p,b,e,q1,q2,n,z⟩:=h;exact⟨p,b,e,s _ _ q1,s _ _ q2,n,z⟩
def dH{α β:Type}{F:α->β->Prop}{xs:List α}{ys:List β}{x:α}{y:β}(h:Paired F xs ys)(q:F x y):Paired F (xs++[x]) (ys++[y]):=by
 induction h with
 |nil=>exact .cons q .nil
 |cons h _ ih=>exact .cons h ih
def xV(t:Int×Int):PyData:=.tuple [.int t.1,.int t.2]
def Μ.isD{K:aJ}{v:V}{t:Int×Int}(h:Μ K H v t):KQ K H v (xV t):=by
 obtain⟨p,rfl,q1⟩:=h;exact .tup q1 (.cons (.int _) (.cons (.int _) .nil))
def O7{K:aJ}{α:Type}{F:V->α->Prop}{f:α->PyData}(hf:∀v x,F v x->KQ K H v (f x)){xs:List V}{ys:List α}(h:Paired F xs ys):uP K H xs (ys.map f):=by
 induction h with
 |nil=>exact .nil
 |cons h _ ih=>exact .cons (hf _ _ h) ih
def è(ts:List bY):PyData:=.list (ts.map xV)
def Ef.isD{K:aJ}{H:Hp}{a:Addr}{ts:List bY}(h:Ef K H a ts):KQ K H (.ref a) (è ts):=by
 obtain⟨xs,h1,h2,_⟩:=h;exact .lst h1 (O7 (λv x q=>q.isD) h2)
theorem GP{α:Type}{f:α->PyData}(h:∀x,(f x).canLay0=true):∀l:List α,PyData.canLayAll0 (l.map f)=true
 | []=>rfl
 |x::r=>by rw[cL,PyData.canLayAll0,h x,GP h r];rfl
theorem u9{α:Type}{f:α->PyData}{k:Nat}(h:∀x,(f x).depth<=k):∀l:List α,PyData.depthAll (l.map f)<=k
 | []=>dw _
 |x::r=>by
  rw[cL,PyData.depthAll]
  exact Nat.max_le.mpr ⟨h x,u9 h r⟩
def WQ(t:Int×Int):(xV t).canLay0=true:=rfl
def Ma(t:Int×Int):(xV t).depth<=1:=by
 unfold xV;simp[PyData.depth,PyData.depthAll]
def QS(ts:List bY):SeqAt.shaped (è ts)=true:=by
 unfold SeqAt.shaped è;rw[PyData.canLay0,GP WQ,PyData.depth,Ik];exact bA (by have:=u9 Ma ts;omega)
def QT{d:PyData}(h:SeqAt.shaped d=true):PyData.eqv d d=true:=SeqAt.eqv_refl d (zV h)
end Bg
namespace L2
inductive T1(f:Option V->St)(σ:St):Prop
 |mk (a:_) (h:σ=f a)
inductive T2(f:Option V->Option V->St)(σ:St):Prop
 |mk (a b:_) (h:σ=f a b)
inductive T3(f:Option V->Option V->Option V->St)(σ:St):Prop
 |mk (a b c:_) (h:σ=f a b c)
inductive T4(f:Option V->Option V->Option V->Option V->St)(σ:St):Prop
 |mk (a b c d:_) (h:σ=f a b c d)
inductive T5(f:Option V->Option V->Option V->Option V->Option V->St)(σ:St):Prop
 |mk (a b c d e:_) (h:σ=f a b c d e)
inductive P3{α:Type}(A B:Prop)(C:α->Prop):Prop
 |mk (a:A) (b:B) (x:α) (c:C x)
inductive P4{α:Type}(A B:Prop)(C D:α->Prop):Prop
 |mk (a:A) (b:B) (x:α) (c:C x) (d:D x)
def P3.s{α:Type}{A B:Prop}{C:α->Prop}(h:P3 A B C):B:=by cases h;assumption
def P4.s{α:Type}{A B:Prop}{C D:α->Prop}(h:P4 A B C D):B:=by cases h;assumption
end L2
namespace Pmt
open PyProof.Rows PySem.Calls PySem.W
variable{nrem n i:Nat}{h:Heap}{κ:SortKind}{Q:Option Nat->SortSt->Prop}
section
variable{prog:Program}{wo:World}{A:Around}{E:Value->Shared->Prop}{s:Shared}{a₀:Array Keyed}
def Ξ(prog:Program)(wo:World)(A:Around)(κ:SortKind)(s:Shared)(a₀:Array Keyed):Prop :=
 ∀x∈a₀,∀y∈a₀,∀(C:Bool->Shared->Prop),(∀b,C b s)->wpAny (model prog wo) A (keyLt' κ x.1 y.1) C (λ_ _=>False) s
structure PB(κ:SortKind)(a₀:Array Keyed)(P:Array (Nat×Nat×Nat))(st:SortSt):Prop where
 perm:(arrOf st).Perm a₀
 fail:failedOf st=none
 kind:kindOf st=κ
 pend:pendingOf st=P
def PB.size{P}{st:SortSt}(h:PB κ a₀ P st):(arrOf st).size=a₀.size:=h.perm.size_eq
def PB.mem{P}{st:SortSt}(h:PB κ a₀ P st){x}(hx:x∈arrOf st):x∈a₀:=h.perm.mem_iff.mp hx
def a2A{P}{st:SortSt}{x y:Keyed}{Q:Option Bool->SortSt->Prop}(hC:Ξ prog wo A κ s a₀)(hB:PB κ a₀ P st)(hx:x∈a₀)(hy:y∈a₀)
  (h:∀b,Q (some b) st):wpS (model prog wo) A E s (lt' x y) Q st:=by
 rw[lt'_eq];refine eU (Ea ?_);rw[hB.kind];refine eU (wpS_lift (tK (iG (hC x hx y hy (λb s'=>s'=s) λb=>rfl) (λb s' e=>?_) λ_ _ f=>f.elim)));subst e;exact⟨Z,jg (h b)⟩
def QV{arr:Array Keyed}{st:SortSt}{Q:Keyed->SortSt->Prop}(hi:i<arr.size)(h:Q arr[i] st):wpS (model prog wo) A E s (elem' arr i) Q st:=by
 rw[elem'_eq,w5 hi];exact jg h
def Cg{P}{st:SortSt}{j:Nat}{Q:Option Bool->SortSt->Prop}(hC:Ξ prog wo A κ s a₀)(hB:PB κ a₀ P st)(hi:i<a₀.size)(hj:j<a₀.size)
  (h:∀b,Q (some b) st):wpS (model prog wo) A E s (ltAt' i j) Q st:=by
 rw[ltAt'_eq];refine eU (Ea ?_);exact eU (QV (by rw[hB.size];exact hi) (eU (QV (by rw[hB.size];exact hj) (a2A hC hB (hB.mem (Array.getElem_mem _)) (hB.mem (Array.getElem_mem _)) h))))
def PB.setArr{P}{st:SortSt}(h:PB κ a₀ P st){xs:Array Keyed}(hp:xs.Perm (arrOf st)):PB κ a₀ P (setArr st xs):=⟨hp.trans h.perm,h.fail,h.kind,h.pend⟩
def GQ{P}{st:SortSt}{j:Nat}{Q:Unit->SortSt->Prop}(hB:PB κ a₀ P st)(h:∀st',PB κ a₀ P st'->Q ⟨⟩ st') :
  wpS (model prog wo) A E s (reverseSlice' i j) Q st:=by
 rw[reverseSlice'_eq];exact Oj (h _ (hB.setArr (mirror_perm _ _ _ _)))
def WR{P}{a:Nat}{st:SortSt}{Q:AscSt->SortSt->Prop}(hC:Ξ prog wo A κ s a₀)(hB:PB κ a₀ P st)(hn:nrem<=a₀.size)(h1:1<=a)(h2:a<=nrem)
  (h:∀m,1<=m->m<=nrem->Q (none,m) st):wpS (model prog wo) A E s (ascLoop a nrem) Q st:=by
 unfold ascLoop;refine DY (I:=λx c st'=>st'=st/\c=(none,x)) ?_ ?_ ⟨Z,Z⟩
 ·rintro x c st' x1 x2 ⟨rfl,rfl⟩;refine eU (Cg hC hB (by dsimp only;omega) (by dsimp only;omega) λb=>?_);cases b
  ·exact jg ⟨Z,Z⟩
  ·exact jg (h x () ())
 ·rintro c st' ⟨rfl,rfl⟩;exact h _ () ()
def ê{P}{st:SortSt}(hC:Ξ prog wo A κ s a₀)(hB:PB κ a₀ P st)(hn:nrem<=a₀.size)(h1:1<=n)(h2:n<=nrem)
  (h:∀m st',1<=m->m<=nrem->PB κ a₀ P st'->Q (some m) st'):wpS (model prog wo) A E s (tail3 n nrem) Q st :=
 eU (GQ hB λst2 hB=>eU (WR hC hB hn h1 h2 λm m1 m2=>jg (h m _ m1 m2 hB)))
def ë{P}{st:SortSt}(hC:Ξ prog wo A κ s a₀)(hB:PB κ a₀ P st)(hn:nrem<=a₀.size)(h2:n+1<=nrem)
  (h:∀m st',1<=m->m<=nrem->PB κ a₀ P st'->Q (some m) st'):wpS (model prog wo) A E s (descPart n nrem) Q st:=by
 unfold descPart descLoop;refine eU (wpS_lift (kE (And.intro Z (eU (Ip (DY (I:=λx c st'=>PB κ a₀ P st'/\∃q,c=(none,x,q)) (Q:=λc st'=>PB κ a₀ P st'/\∃m q,c=(none,m,q)/\1<=m/\m<=nrem) ?_ ?_ ⟨hB,_,Z⟩) ?_)))))
 ·rintro x c st' x1 x2 ⟨hB,q,rfl⟩;refine eU (Cg hC hB (by dsimp only;omega) (by dsimp only;omega) λb=>?_);cases b
  ·refine eU (Cg hC hB (by dsimp only;omega) (by dsimp only;omega) λb=>?_);cases b
   ·exact jg ⟨hB,_,Z⟩
   ·exact jg ⟨hB,_,_,Z,by dsimp only;omega,by dsimp only;omega⟩
  ·dsimp only;simp only[if_true];split
   ·exact eU (GQ hB λst2 hB=>jg ⟨hB,_,Z⟩)
   ·exact jg ⟨hB,_,Z⟩
 ·rintro c st' ⟨hB,q,rfl⟩;exact⟨hB,_,_,Z,(),()⟩
 ·rintro c st' ⟨hB,m,q,rfl,m1,m2⟩;dsimp only;split
  ·exact eU (GQ hB λst2 hB=>ê hC hB hn m1 m2 h)
  ·exact ê hC hB hn m1 m2 h
def Ο{P}{st:SortSt}(hC:Ξ prog wo A κ s a₀)(hB:PB κ a₀ P st)(hn:nrem<=a₀.size)(h1:1<=nrem)
  (h:∀m st',1<=m->m<=nrem->PB κ a₀ P st'->Q (some m) st'):wpS (model prog wo) A E s (countRun' 0 nrem) Q st:=by
 rw[countRun0_eq];refine eU (WR hC hB hn (aM 1) h1 λm m1 m2=>?_);dsimp only;split
 ·exact jg (h m _ m1 m2 hB)
 ·have m3:m+1<=nrem:=()
  split
  ·refine eU (Cg hC hB () () λb=>?_);cases b
   ·exact eU (GQ hB λst2 hB=>ë hC hB hn m3 h)
   ·exact jg (h m _ m1 m2 hB)
  ·exact ë hC hB hn m3 h
def Ρ{P}{lo ok:Nat}{st:SortSt}{Q:Bool->SortSt->Prop}(hC:Ξ prog wo A κ s a₀)(hB:PB κ a₀ P st)(hn:lo+n<=a₀.size)
  (h:∀st',PB κ a₀ P st'->Q true st'):wpS (model prog wo) A E s (binarySort' lo n ok) Q st:=by
 rw[binarySort'_eq];refine eU (Ip (DY (I:=λx c st'=>PB κ a₀ P st'/\c=(none,⟨⟩)) (Q:=λc st'=>PB κ a₀ P st'/\c=(none,⟨⟩)) ?_ ?_ ⟨hB,Z⟩) ?_)
 ·rintro k c st' hx1 hx2 ⟨WT,rfl⟩;dsimp only;refine eU (Ip (DY (I:=λx c st'=>PB κ a₀ P st'/\∃l r,c=(none,l,r)/\r<=k) (Q:=λc st'=>PB κ a₀ P st'/\∃l r,c=(none,l,r)) ?_ ?_ ⟨WT,_,_,Z,aM _⟩) ?_)
  ·rintro x c st' _ _ ⟨WT,l,r,rfl,hr⟩;dsimp only;split
   ·exact jg ⟨WT,_,_,Z⟩
   ·refine eU (Cg hC WT () () λb=>?_);cases b
    ·exact jg ⟨WT,_,_,Z,()⟩
    ·exact jg ⟨WT,_,_,Z,()⟩
  ·rintro c st' ⟨WT,l,r,rfl,hr⟩;exact⟨WT,_,_,Z⟩
  ·rintro c st' ⟨WT,l,r,rfl⟩;dsimp only;rw[moveDown'_eq];exact eU (Oj (jg ⟨WT.setArr (bubble_perm _ _ _),Z⟩))
 ·rintro c st' ⟨WT,rfl⟩;exact⟨WT,Z⟩
 ·rintro c st' ⟨WT,rfl⟩;exact jg (h _ WT)
def Τ{st:SortSt}{Q:Unit->SortSt->Prop}(hC:Ξ prog wo A κ s a₀)(hB:PB κ a₀ #[] st)(h2:2<=a₀.size)(h64:a₀.size<64)(h:∀st',(arrOf st').Perm a₀->failedOf st'=none->Q ⟨⟩ st'):wpS (model prog wo) A E s sortRuns' Q st:=by
 rw[sortRuns'_eq];refine eU (Ea ?_);have mr:minRun' a₀.size a₀.size 0=a₀.size:=by
  obtain⟨f,hf⟩:∃f,a₀.size=f+1:=⟨a₀.size-1,()⟩;rw[hf,minRun'_succ,aG ()];try rfl
 dsimp only;rw[hB.size,mr];refine eU (Ip (DY (I:=λx c st'=>∃P lo,PB κ a₀ P st'/\c=(none,lo)/\((lo=0/\P = #[])\/(lo=a₀.size/\P.size=1))) (Q:=λc st'=>∃P lo,PB κ a₀ P st'/\c=(none,lo)/\P.size<=1) ?_ ?_ ⟨_,_,hB,Z,.inl ⟨Z,Z⟩⟩) ?_)
 ·rintro x c st1 _ _ ⟨P,lo,hB,rfl,⟨rfl,rfl⟩|⟨rfl,e⟩⟩
  ·dsimp only;rw[aB ()];refine eU (Ο hC hB () () λm st2 m1 m2 hB=>?_);dsimp only;by_cases c:m<a₀.size
   ·rw[aG c];refine eU (wpS_lift (kE (And.intro Z (eU (Ρ hC hB () λst3 hB=>?_)))));simp only[if_false,Bool.not_true,Bool.false_eq_true];refine eU (Ea ?_);rw[hB.pend];exact eU (Oj (jg ⟨#[].push _,_,⟨hB.perm,hB.fail,hB.kind,by rw[<-hB.pend]⟩,Z,.inr ⟨by simp,Z⟩⟩))
   ·rw[aB c];refine eU (Ea ?_);rw[hB.pend];exact eU (Oj (jg ⟨#[].push _,_,⟨hB.perm,hB.fail,hB.kind,by rw[<-hB.pend]⟩,Z,.inr ⟨(),Z⟩⟩))
  ·dsimp only;rw[aG (aM _)];exact jg ⟨P,_,hB,Z,()⟩
 ·rintro c st1 ⟨P,lo,hB,rfl,⟨rfl,rfl⟩|⟨rfl,e⟩⟩
  ·exact⟨_,_,hB,Z,dw _⟩
  ·exact⟨_,_,hB,Z,()⟩
 ·rintro c st1 ⟨P,lo,hB,rfl,e⟩;dsimp only;refine eU (Ip (DY (I:=λ_ c st'=>st'=st1/\c=(none,⟨⟩)) (Q:=λc st'=>st'=st1/\c=(none,⟨⟩)) ?_ (λ_ _ z=>z) ⟨Z,Z⟩) ?_)
  ·rintro x c st2 _ _ ⟨rfl,rfl⟩;refine eU (Ea ?_);rw[hB.pend,aG e];exact jg ⟨Z,Z⟩
  ·rintro c st2 ⟨rfl,rfl⟩;exact jg (h _ hB.perm hB.fail)
end
section
variable{prog:Program}{wo:World}{A:Around}{E:Value->Shared->Prop}{s:Shared}
def Asks(prog:Program)(wo:World)(A:Around)(κ:SortKind)(zs:List Value)(s:Shared):Prop :=
 (∀(E:Value->Shared->Prop) (R:SortKind->Shared->Prop),R κ s->wpAny (model prog wo) A (keyKind' zs.toArray) R E s)/\Ξ prog wo A κ s (pairsOf zs)
def O8{a:Addr}{zs:List Value}{P:PySem.Fin->Shared->Prop}(oa:s.heap.get? a=some (seqObj "list" zs.toArray n))(hz:zs.length<64)
  (hk:2<=zs.length->∀h',(∀b o,b≠a->s.heap.get? b=some o->h'.get? b=some o)->Asks prog wo A κ zs { s with heap:=h'})
  (h:∀ys:List Value,ys.Perm zs->P (.done (.ret .none)) { s with heap:=sortedHeap s.heap a zs ys.toArray}) :
  wpAny (model prog wo) A (Builtin.«list.sort» ⟨[.ref a],[]⟩) P E s:=by
 rw[list_sort_plain];have la:a<s⁻¹:=aY oa;refine M (listItems_at oa Z ?_);refine M (Ub oa Z ?_ (by rw[gn,jC];omega) (dw _));obtain⟨ep,oa1⟩:∃ep,(s.heap.update a (Obj.mapSeq λ_=>#[])).get? a=some (seqObj "list" #[] ep):=⟨_,T6 oa λ_=>#[]⟩;refine M (seqEpoch_at oa1 Z ?_);refine M (Ih ?_ (by show zs.length<=_;rw[jC];omega));refine M (Uc (fG ?_) (dw _));have oa6:(((s.heap.update a (Obj.mapSeq λ_=>#[])).push (seqObj "tuple" zs.toArray 0)).push (seqObj "list" #[] 0)).get? a=some (seqObj "list" #[] ep):=by
  rw[NK _ _ _ (by rw[Ol,TJ];grind),NK _ _ _ (by rw[TJ];grind)];exact oa1
 show wpAny (model prog wo) A _ P E { s with heap:=((s.heap.update a (Obj.mapSeq λ_=>#[])).push (seqObj "tuple" zs.toArray 0)).push (seqObj "list" #[] 0)};dsimp only;have fin:∀(st':SortSt),(arrOf st').Perm (pairsOf zs)->failedOf st'=none->((arrOf st').map (·.2)).toList.Perm zs:=λst' hp _=>by
  have q:=(Array.perm_iff_toList_perm.mp hp).map (·.2);rw[pairsOf_toList]at q;rw[Array.toList_map];refine q.trans (List.Perm.of_eq ?_);rw[List.map_snd_zip (aM _)]
 by_cases g2:zs.toArray.size<2
 ·rw[aG g2,aG g2];refine M (aq ?_);rw[StateT.run_pure];refine M (aq ?_);dsimp only;refine M (seqEpoch_at oa6 Z (M (Ub oa6 Z ?_ (dw _) ())));simp only[if_false,Bool.false_eq_true,bne_self_eq_false];have q:=h zs (DP _);refine aq ?_;have e:(arrOf (SortSt.mk' general' (zs.toArray.zip zs.toArray) #[] 7 none)).map (·.2)=zs.toArray:=by
   grind
  rw[e];exact q
 ·rw[aB g2,aB g2];have h2':2<=zs.length:=by simp at g2;omega
  have ak:=hk h2' (((s.heap.update a (Obj.mapSeq λ_=>#[])).push (seqObj "tuple" zs.toArray 0)).push (seqObj "list" #[] 0)) λb o hb e=>bL _ (bL _ (by rw[Nu _ _ _ _ hb];exact e));refine M (ak.1 _ _ ?_);have rn:=Τ (E:=E) (st:=SortSt.mk' κ (zs.toArray.zip zs.toArray) #[] 7 none) (Q:=λ_ st'=>(arrOf st').Perm (pairsOf zs)/\failedOf st'=none) ak.2 ⟨Array.Perm.refl _,Z,Z,Z⟩ (by rw[pairsOf_size];exact h2') (by rw[pairsOf_size];exact hz) (λst' h1 h2=>⟨h1,h2⟩);refine M (iG rn ?_ λ_ _ e=>e);rintro⟨⟨⟩,st'⟩ s' ⟨rfl,hp,hf⟩;dsimp only at hp hf ⊢;have pp:=fin st' hp hf;have hso:((arrOf st').map (·.2)).size=zs.length:=by simpa using pp.length_eq
  refine M (seqEpoch_at oa6 Z ?_);refine M (Ub oa6 Z ?_ (dw _) (cV (Og hso) (by rw[jC];omega)));rw[hf];simp only[if_false,Bool.false_eq_true,bne_self_eq_false];exact aq (h _ pp)
def YC{l:Addr}{zs:List Value}{R:Value->Shared->Prop}(il:s.heap.IsList l zs.toArray)(hz:zs.length<64)
  (hk:2<=zs.length->∀(A':Around) (h':Heap),(∀b o,s.heap.get? b=some o->h'.get? b=some o)->Asks prog wo A' κ zs { s with heap:=h'})
  (h:∀ys:List Value,ys.Perm zs->R (.ref (s⁻¹+1)) { s with heap:=sortedAll s.heap zs ys.toArray}) :
  wpAny (model prog wo) A (call (.builtin "sorted") [.ref l]) R E s:=by
 apply Z7 kind_sorted plain_sorted entry_sorted (args_sorted1 _);unfold Builtin.«sorted»;refine M (m:=checkCount "sorted" 1 1 _) (aq ?_);refine M (collect_list il ?_ (by rw[jC];omega));refine M (Uc ?_ (by rw[jC];exact eO ()));have lz:((s.heap.push (seqObj "list" #[] 0)).update s⁻¹ (Obj.mapSeq (· ++ zs.toArray))).objs.size=s⁻¹+1:=by
  rw[TJ];exact Ol _ _
 have oL:(((s.heap.push (seqObj "list" #[] 0)).update s⁻¹ (Obj.mapSeq (· ++ zs.toArray))).push (seqObj "list" zs.toArray 0)).get? (s⁻¹+1)=some (seqObj "list" zs.toArray 0):=by
  rw[<-lz];exact bW _ rfl
 show wpAny _ _ _ _ _ { s with heap:=((s.heap.push (seqObj "list" #[] 0)).update s⁻¹ (Obj.mapSeq (· ++ zs.toArray))).push (seqObj "list" zs.toArray 0)};rw[lz];refine M (fG (gF slot_list_sort ⟨_,oL,Z⟩ entry_list_sort (O8 (κ:=κ) oL hz (λg2 h' kp=>hk g2 _ h' λb o e=>?_) λp a1=>⟨_,Z,?_⟩) (args_list_sort _)))
 ·have lb:b<s⁻¹:=aY e;refine kp b o (b7 (HX lb)) ?_;rw[NK _ _ _ (),Nu _ _ _ _ (b7 lb),NK _ _ _ (b7 lb)];exact e
 ·exact aq ⟨_,Z,h p a1⟩
structure a2B(h:Heap)(v:Value)(ns:List Int):Prop where
 at':∃a o xs n,v=.ref a/\h.get? a=some o/\o.cls=.type "tuple" /\o.data=.seq xs n/\IntsAre xs.toList ns
 ne:ns≠[]
inductive uz(h:Heap):List Value->List (List Int)->Prop
 |nil:uz h [] []
 |cons {v ns vs ls}:a2B h v ns->uz h vs ls->uz h (v::vs) (ns::ls)
def uz.keep{h':Heap}(k:∀b o,h.get? b=some o->h'.get? b=some o){vs ls}(t:uz h vs ls):uz h' vs ls:=by
 induction t with
 |nil=>exact .nil
 |cons x _ ih =>
  obtain⟨⟨a,o,xs,n,e,ho,r⟩,ne⟩:=x;exact .cons ⟨⟨a,o,xs,n,e,k _ _ ho,r⟩,ne⟩ ih
def uz.len{vs ls}(t:uz h vs ls):vs.length=ls.length:=by
 induction t with
 |nil=>rfl
 |cons _ _ ih=>rw[jJ,jJ,ih]
def uz.get{vs ls}(t:uz h vs ls){i}(hi:i<vs.length):a2B h (vs.getD i .none) (ls.getD i []):=by
 induction t generalizing i with
 |nil=>cases hi
 |cons a _ ih =>
  cases i with
  |zero=>exact a
  |succ i=>exact ih (SN hi)
def uz.kat{vs ls}(t:uz h vs ls):∃fs,KatTups h vs fs/\fs.length=vs.length/\∀v∈fs,∃n t,v=Value.int n t:=by
 induction t with
 |nil=>exact⟨[],KatTups.nil,Z,λv hv=>absurd hv dO⟩
 | @cons v ns vs ls x _ ih =>
  obtain⟨⟨a,o,xs,n,e,ho,hc,hd,hi⟩,ne⟩:=x;obtain⟨fs,k,l,q⟩:=ih;subst e;obtain⟨xl⟩:=xs;have hi:IntsAre xl ns:=hi;cases hi with
  |nil=>grind
  |cons m u r =>
   refine⟨.int m u::fs,KatTups.cons ho hc hd Z k,(),λv hv=>?_⟩;grind
def Υ{Q:Bool->Shared->Prop}(h:∀b,Q b s){xs ys:List Value}{ns ms:List Int}(i:Nat)(c:Bool)(p:IntsAre xs ns)(q:IntsAre ys ms):KatLex prog wo A true c Q (xs.zip ys) i s:=by
 induction p generalizing ys ms i with
 |nil=>exact kat_nil (h _)
 |cons n t x ih =>
  cases q with
  |nil=>exact kat_nil (h _)
  |cons m u y =>
  refine kat_cons (wpAny_eqBool_int ?_);cases n==m with
  |true=>exact kat_yes (ih (i+1) y)
  |false =>
   refine kat_no ?_;cases(true&&i==0)with
   |true=>exact oneLt_int (h _)
   |false=>exact kat_one _ _ (lt_int (h _))
def YD{vs:List Value}{ls:List (List Int)}(h:uz s.heap vs ls)(h2:2<=vs.length):Asks prog wo A (tuples' true) vs s:=by
 refine⟨λE Q q=>?_,λx hx y hy C hC=>?_⟩
 ·obtain⟨fs,k,l,ty⟩:=h.kat;refine kat_kind (T:=.type "int") k () (λv hv=>?_) Z q;obtain⟨n,t,rfl⟩:=ty v hv;exact Looks.of_pure rfl
 ·have ix:∀x∈pairsOf vs,∃ns,a2B s.heap x.1 ns:=λx hx=>by
   obtain⟨i,hi,rfl⟩:=Array.getElem_of_mem hx;have hi':i<vs.length:=by rwa [pairsOf_size]at hi
   have:=h.get hi';rw[show(pairsOf vs)[i].1=vs.getD i .none by simp[pairsOf,hi']];exact⟨_,this⟩
  obtain⟨_,⟨a,o,xs,n,e1,ho,hc,hd,hx⟩,_⟩:=ix x hx;obtain⟨_,⟨a',o',ys,n',e2,ho',hc',hd',hy⟩,_⟩:=ix y hy;rw[e1,e2];exact kat_lt ho hd ho' hd' (Υ hC 0 _ hx hy)
end
end Pmt
namespace L2
open PyProof.Rows Bg Pmt
def a2C(K:aJ)(H:Hp)(v:V)(ns:List Int):Prop:=∃p,v=.ref p/\cQ K H p (ns.map V.int)
def a2D(K:aJ):List V->Hp->VK->Prop:=λxs H Q=>∃l vs,∃ls:List (List Int),xs=[.ref l]/\bN K H l vs/\Paired (a2C K H) vs ls/\(∀ns∈ls,ns≠[])/\vs.length<64/\
 ∀(q:List Nat) p H',q.Perm (List.range vs.length)->True->iQ H p (.lst (q.map λi=>vs.getD i .non)) H'->Q (.ref p) H'
theorem ints_of:∀{ns:List Int}{us:List Value},cM (ns.map V.int) us->IntsAre us ns
 | [],_,.nil=>.nil
 |n::ns,_,.cons r t=>by
  obtain⟨k,rfl⟩:=r
  exact .cons n k (ints_of t)
section
variable{X:Cx}{K:aJ}
def Χ{Y:List (Addr×Obj)}{σ:St}{H:Hp}{s:Shared}(I:bH X Y σ H s){vs:List V}{us:List Value}{ls:List (List Int)}(v:cM vs us)(p:Paired (a2C X.K H) vs ls)(ne:∀ns∈ls,ns≠[]):uz s.heap us ls:=by
 induction v generalizing ls with
 |nil =>
  cases p;exact .nil
 |cons r t ih =>
  cases p with
  |cons a b =>
   obtain⟨pt,rfl,hT⟩:=a;obtain⟨bV,ri,⟨o,ho,hc,n,hd⟩,_⟩:=I.tuple hT;cases r;exact .cons ⟨⟨pt,o,bV.toArray,n,Z,ho,hc,hd,by simpa using ints_of ri⟩,ne _ aU⟩ (ih b λns h=>ne ns (bC _ h))
def YF{vs:List V}{us:List Value}(v:cM vs us)(i:Nat)(h:i<vs.length):cW (vs.getD i .non) (us.getD i .none):=by
 induction v generalizing i with
 |nil=>cases h
 |cons r _ ih =>
  cases i with
  |zero=>exact r
  |succ i=>exact ih i (SN h)
theorem QX{vs:List V}{us:List Value}(r:cM vs us):∀(q:List Nat),(∀i∈q,i<vs.length)->cM (q.map λi=>vs.getD i .non) (q.map λi=>us.getD i .none)
 | [],_=>.nil
 |i::q,h=>.cons (YF r i (h i aU)) (QX r q λj hj=>h j (bC _ hj))
def ì{α β:Type}{f:α->β}{ws vs:List β}(h:ws.Perm vs):∀{l:List α},vs=l.map f->∃q:List α,q.Perm l/\ws=q.map f:=by
 induction h with
 |nil =>
  intro l e;have:l=[]:=by simpa using e.symm
  subst this;exact⟨[],DP _,Z⟩
 |cons x _ ih =>
  intro l e;cases l with
  |nil=>cases e
  |cons a l =>
   obtain⟨q,p,e2⟩:=ih (DR e).2;exact⟨a::q,p.cons _,by rw[(DR e).1,e2];rfl⟩
 |swap x y m =>
  intro l e
  match l,e with
  |a::b::l,e=>exact⟨b::a::l,List.Perm.swap _ _ _,by simp at e;simp[e]⟩
 |trans _ _ ih1 ih2 =>
  intro l e;obtain⟨q,p,e2⟩:=ih2 e;obtain⟨q',p',e3⟩:=ih1 e2;exact⟨q',p'.trans p,e3⟩
def O9(e:X.K=K):jT X (.builtin "sorted") (a2D K):=by
 subst e;intro Y s σ H xs us Q I r h;obtain⟨l,vs,ls,rfl,hL,hP,ne,h64,q⟩:=h;obtain⟨u,rfl,rx⟩:=vals1 r;cases rx;obtain⟨bV,r',pl,hz⟩:=I.list hL;have hlen:=r'.length;have ht:=Χ I r' hP ne;refine Pmt.YC (κ:=tuples' true) pl.isList () (λh2 A' h' kp=>YD (ht.keep kp) h2) λys pm=>?_;have ei:bV=(List.range bV.length).map λi=>bV.getD i .none:=List.ext_getElem (by simp) λi h1 h2=>by simp[h1]
 obtain⟨qq,pq,eq⟩:=ì pm ei;obtain⟨c,hc⟩:=sortedAll_at s.heap bV ys.toArray;have pq':qq.Perm (List.range vs.length):=by rw[hlen];exact pq
 have mem:∀i∈qq,i<vs.length:=λi hi=>mK.mp (pq'.mem_iff.mp hi);refine⟨.ref (s⁻¹+1),_,I.laid (t':=s.toks) (o:=.lst (qq.map λi=>vs.getD i .non)) (λb o eo=>sortedAll_old eo) (vR _) ?_,Z,?_⟩
 ·exact⟨by have:=pm.length_eq;have:=pq.length_eq;rw[aK];simp at this;omega,_,c,by rw[eq];exact QX r' qq mem,hc⟩
 ·exact q qq _ _ pq' nD (iQ.pQ (I.hok.fresh (vR _)))
end
end L2
namespace Sm
variable{xs:Array Nat}{k j:Nat}
def WW(xs:Array Nat)(j k:Nat):Prop:=k<=xs.size/\∀i (h:i<xs.size),xs[i]<j↔i<k
def WX(h:xs.toList.Pairwise (· < ·)){i:Nat}(hi:i<xs.size)(hk:k<xs.size)(ik:i<k):xs[i]<xs[k]:=by
 have:=Z8.mp h i k (by simpa using hi) (by simpa using hk) ik;simpa using this
def QZ(h:xs.toList.Pairwise (· < ·)):∀(fuel lo hi:Nat),hi-lo<=fuel->lo<=hi->hi<=xs.size->
  (∀i (z:i<xs.size),i<lo->xs[i]<j)->(∀i (z:i<xs.size),hi<=i->j<=xs[i])->WW xs j (SetTable.below.go xs j fuel lo hi):=by
 intro fuel
 induction fuel with
 |zero =>
  intro lo hi a b c d e;unfold SetTable.below.go;have:lo=hi:=()
  subst this;exact⟨c,λi z=>⟨λq=>by
   rcases xM i lo with g|g
   ·exact g
   ·have:=e i z g;omega,λq=>d i z q⟩⟩
 |succ f ih =>
  intro lo hi a b c d e;unfold SetTable.below.go;by_cases q:lo<hi
  ·rw[aG q];dsimp only;have m1:lo<=(lo+hi)/2:=()
   have m2:(lo+hi)/2<hi:=()
   have m3:(lo+hi)/2<xs.size:=()
   have ge:xs.getD ((lo+hi)/2) j=xs[(lo+hi)/2]:=by simp[Array.getD,m3]
   rw[ge];by_cases r:xs[(lo+hi)/2]<j
   ·rw[aG r];refine ih _ _ () () c (λi z hi'=>?_) e;rcases xM i ((lo+hi)/2)with g|g
    ·have:=WX h z m3 g;omega
    ·have:i=(lo+hi)/2:=()
     subst this;exact r
   ·rw[aB r];refine ih _ _ () () () d (λi z hi'=>?_);rcases xM ((lo+hi)/2) i with g|g
    ·have:=WX h m3 z g;omega
    ·have:i=(lo+hi)/2:=()
     subst this;omega
  ·rw[aB q];have:lo=hi:=()
   subst this;exact⟨c,λi z=>⟨λq=>by
    rcases xM i lo with g|g
    ·exact g
    ·have:=e i z g;omega,λq=>d i z q⟩⟩
def Ci(h:xs.toList.Pairwise (· < ·))(j:Nat):WW xs j (SetTable.below xs j) :=
 QZ h _ _ _ () (dw _) (aM _) (λi z q=>absurd q (xG _)) (λi z q=>absurd z ())
def below_at(h:xs.toList.Pairwise (· < ·))(hk:k<xs.size):SetTable.below xs (xs[k])=k:=by
 obtain⟨a,b⟩:=Ci h xs[k];rcases Nat.lt_trichotomy (SetTable.below xs xs[k]) k with g|g|g
 ·have c:=(b (SetTable.below xs xs[k]) ()).mp (WX h () hk g);omega
 ·exact g
 ·have c:=(b k hk).mpr g;omega
def Va(h:xs.toList.Pairwise (· < ·)):SetTable.below xs 0=0:=by
 obtain⟨a,b⟩:=Ci h 0;rcases Nat.eq_zero_or_pos (SetTable.below xs 0)with g|g
 ·exact g
 grind
def Vb(h:xs.toList.Pairwise (· < ·))(hk:k<xs.size):SetTable.below xs (xs[k]+1)=k+1:=by
 obtain⟨a,b⟩:=Ci h (xs[k]+1);have c:=(b k hk).mp ();rcases xM (k+1) (SetTable.below xs (xs[k]+1))with g|g
 ·have e:=(b (k+1) ()).mpr g;have:=WX h hk (show k+1<xs.size by omega) (xu _);omega
 ·omega
def WY(j:Nat):SetTable.has #[] j=false:=by
 unfold SetTable.has;simp
def Ak{t:SetTable}(dm:t.dummies = #[])(h:j∉t.place.toList):t.slot j=.empty:=by
 unfold SetTable.slot;have e:(t.place[SetTable.below t.place j]?==some j)=false:=by
  rw[vH];intro c;exact h (by simpa using Array.mem_of_getElem? c)
 dsimp only;rw[e,dm,WY];rfl
def YG{t:SetTable}(up:t.place.toList.Pairwise (· < ·))(h:j∈t.place.toList):∃i,t.slot j=.live i:=by
 obtain⟨k,hk,e⟩:=rN h;have hk':k<t.place.size:=by simpa using hk
 have e':t.place[k]=j:=by simpa using e
 unfold SetTable.slot;have q:SetTable.below t.place j=k:=by rw[<-e'];exact below_at up hk'
 dsimp only;rw[q];have:(t.place[k]?==some j)=true:=by simp[hk',e']
 rw[this];grind
def adv(mask:Nat)(p:SetTable.Probe):SetTable.Probe :=
 if 0<p.more then{ p with more:=p.more-1,j:=p.j+1}else
 { p with j:=(SetTable.leap mask p.i p.perturb).1,more:=SetTable.runEnd mask (SetTable.leap mask p.i p.perturb).1-(SetTable.leap mask p.i p.perturb).1,i:=(SetTable.leap mask p.i p.perturb).1,perturb:=(SetTable.leap mask p.i p.perturb).2}
def a2E(t:SetTable)(p:SetTable.Probe):t.advance p=adv t.mask p:=by
 unfold SetTable.advance adv;rfl
def nth(mask:Nat)(p:SetTable.Probe):Nat->SetTable.Probe
 |0=>p
 |k+1=>nth mask (adv mask p) k
def YH(m:Nat)(p:SetTable.Probe):(adv m p).dummy=p.dummy:=by
 unfold adv;split<;>rfl
def í{t:SetTable}(dm:t.dummies = #[])(up:t.place.toList.Pairwise (· < ·))(h:Int):∀(k fuel:Nat) (p:SetTable.Probe),k<fuel->p.dummy=none->(nth t.mask p k).j∉t.place.toList->
  ∃j,j∉t.place.toList/\SetTable.probe.go t (λ_=>h+1) h fuel p=some (.empty j none):=by
 intro k
 induction k with
 |zero =>
  intro fuel p hf hd hn;obtain⟨f,rfl⟩:∃f,fuel=f+1:=⟨fuel-1,()⟩;unfold SetTable.probe.go;have hn':p.j∉t.place.toList:=hn;refine⟨p.j,hn',?_⟩;rw[Ak dm hn',hd]
 |succ k ih =>
  intro fuel p hf hd hn;obtain⟨f,rfl⟩:∃f,fuel=f+1:=⟨fuel-1,()⟩;unfold SetTable.probe.go;by_cases c:p.j∈t.place.toList
  ·obtain⟨i,e⟩:=YG up c;rw[e];dsimp only;have:(h+1==h)=false:=()
   rw[this];rw[a2E];exact ih f (adv t.mask p) () (by rw[YH];exact hd) hn
  ·rw[Ak dm c,hd];exact⟨p.j,c,Z⟩
def Vc(v:Nat):SetTable.Probe:={ j:=v%8,more:=0,i:=v%8,perturb:=v,dummy:=none}
def seven:∀v,v<16->∀j,j<8->∃k,k<16/\(nth 7 (Vc v) k).j=j:=by decide
def Pa{v:Nat}(h:v<16):SetTable.bits (v:Int)=v:=by
 unfold SetTable.bits;omega
def Ω{t:SetTable}(dm:t.dummies = #[])(up:t.place.toList.Pairwise (· < ·)){v:Nat}(hk:k<10*SetTable.turns t.mask)(hn:(nth t.mask (t.probeStart (v:Int)) k).j∉t.place.toList) :
  ∃j,j∉t.place.toList/\t.freeSlot (v:Int)=some (j,false):=by
 obtain⟨j,hj,e⟩:=í dm up (v:Int) k (10*SetTable.turns t.mask) (t.probeStart (v:Int)) hk Z hn;refine⟨j,hj,?_⟩;unfold SetTable.freeSlot SetTable.probe;rw[e];rfl
theorem Vd:∀(l m:List Nat),l.Nodup->(∀x∈l,x∈m)->l.length<=m.length
 | [],_,_,_=>dw _
 |a::r,m,nd,h=>by
  have am:a∈m:=h a aU
  obtain⟨n1,n2⟩:=jB.mp nd
  have q:=Vd r (m.erase a) n2 λx hx=>(List.mem_erase_of_ne (λe=>n1 ())).mpr (h x (bC _ hx))
  grind
def a2F{l:List Nat}(h:l.length<=4):∃j,j<8/\j∉l:=by
 apply Z9;intro c;have q:∀j,j<8->j∈l:=λj hj=>Z9 λd=>c ⟨j,hj,d⟩;have:=Vd (List.range 8) l List.nodup_range (λj hj=>q j (mK.mp hj));rw[rP]at this;omega
def î{t:SetTable}(dm:t.dummies = #[]){v:Nat}(hv:v<16)(hm:15<=t.mask)(hn:v∉t.place.toList):t.freeSlot (v:Int)=some (v,false):=by
 unfold SetTable.freeSlot SetTable.probe;have e:(t.probeStart (v:Int)).j=v:=by
  unfold SetTable.probeStart;dsimp only;rw[Pa hv];exact Nat.mod_eq_of_lt ()
 obtain⟨f,hf⟩:∃f,10*SetTable.turns t.mask=f+1:=⟨10*SetTable.turns t.mask-1,by unfold SetTable.turns;omega⟩;rw[hf];unfold SetTable.probe.go;rw[e,Ak dm hn];rfl
def Es(es:Array (Int×Value))(L:List Nat):Prop:=Paired (λe v=>e.1=((v:Nat):Int)/\∃tk,e.2=Value.int ((v:Nat):Int) tk) es.toList L
structure Tb(B:Bool)(t:SetTable)(L:List Nat):Prop where
 dm:t.dummies = #[]
 pl:t.plain=true
 led:t.led = !B
 up:t.place.toList.Pairwise (· < ·)
 sz:t.place.size=L.length
 nd:L.Nodup
 lt:∀v∈L,v<16
 sh:(t.mask=7/\L.length<=4)\/(15<=t.mask/\t.place.toList=L/\L.length*5<t.mask*3)
def a2G(up:xs.toList.Pairwise (· < ·))(h:j∉xs.toList):(SetTable.insertAt xs (SetTable.below xs j) j).toList.Pairwise (· < ·):=by
 obtain⟨a,b⟩:=Ci up j;rw[Hz];have z:∀i (hi:i<xs.toList.length),xs.toList[i]<j↔i<SetTable.below xs j:=λi hi=>by
  have:=b i (by simpa using hi);simpa using this
 rw[S9];refine⟨up.sublist (Ny _ _),?_,?_⟩
 ·rw[zY];refine⟨λy hy=>?_,up.sublist (List.drop_sublist _ _)⟩;obtain⟨i,hi,e⟩:=rN hy;grind
 ·intro x hx y hy;obtain⟨i,hi,e⟩:=rN hx;rw[List.getElem_take]at e;have hl:i<xs.toList.length:=()
  have hb:i<SetTable.below xs j:=()
  have x1:x<j:=()
  rcases bZ.mp hy with rfl|hy
  ·exact x1
  ·obtain⟨k,hk,e2⟩:=rN hy;grind
def Es.len{es:Array (Int×Value)}{L:List Nat}(h:Es es L):es.size=L.length:=by
 have:=aV h;grind
theorem Ft{α β:Type}{R:α->β->Prop}:∀{xs:List α}{ys:List β} (n:Nat),Paired R xs ys->Paired R (xs.take n) (ys.take n)
 |_,_,0,_=>.nil
 |_,_,_+1,.nil=>.nil
 |_,_,n+1,.cons r t=>.cons r (Ft n t)
theorem Fv{α β:Type}{R:α->β->Prop}:∀{xs:List α}{ys:List β} (n:Nat),Paired R xs ys->Paired R (xs.drop n) (ys.drop n)
 |_,_,0,r=>r
 |_,_,_+1,.nil=>.nil
 |_,_,n+1,.cons _ t=>Fv n t
def iJ{α β:Type}{R:α->β->Prop}{xs xs':List α}{ys ys':List β}(h:Paired R xs ys)(q:Paired R xs' ys'):Paired R (xs++xs') (ys++ys'):=by
 induction h with
 |nil=>exact q
 |cons a _ ih=>exact .cons a ih
def bM{α β:Type}{R:α->β->Prop}{xs:List α}{ys:List β}(p:Paired R xs ys)(i:Nat)(h:i<ys.length):∃x,xs[i]?=some x/\R x ys[i]:=by
 induction p generalizing i with
 |nil=>cases h
 |cons r _ ih =>
  cases i with
  |zero=>exact⟨_,Z,r⟩
  |succ i=>exact ih i (SN h)
def a2H{B:Bool}{t:SetTable}{L:List Nat}{es:Array (Int×Value)}{v:Nat}{x:Value}(T:Tb B t L)(hE:Es es L)(hv:v<16)(hn:v∉L)(hx:∃tk,x=Value.int ((v:Nat):Int) tk) :
  ∃t1 es1 p,layNew t es ((v:Nat):Int) x=(es1,t1,false,false)/\Es es1 (L.take p++v::L.drop p)/\t1.dummies = #[]/\t1.plain=true/\(t1.led = !B)/\t1.mask=t.mask/\t1.finger=t.finger/\t1.moves=t.moves/\
   t1.place.toList.Pairwise (· < ·)/\t1.place.size=L.length+1/\(15<=t.mask->t1.place.toList=L.take p++v::L.drop p):=by
 have main:∃j,j∉t.place.toList/\t.freeSlot ((v:Nat):Int)=some (j,false)/\(15<=t.mask->j=v):=by
  rcases T.sh with⟨m7,l4⟩|⟨W3,pe,fl⟩
  ·have lp:t.place.toList.length<=4:=by rw[vI,T.sz];exact l4
   obtain⟨j,hj,nj⟩:=a2F lp;obtain⟨k,hk,e⟩:=seven v hv j hj;have st:t.probeStart ((v:Nat):Int)=Vc v:=by
    unfold SetTable.probeStart Vc;rw[Pa hv,m7];unfold SetTable.runEnd;have:¬v%(7+1)+9<=7:=()
    simp only[if_neg this];simp
   obtain⟨j',hj',e'⟩:=Ω (v:=v) (k:=k) T.dm T.up (by unfold SetTable.turns;omega) (by rw[st,m7,e];exact nj);exact⟨j',hj',e',λc=>by omega⟩
  ·have nv:v∉t.place.toList:=by rw[pe];exact hn
   exact⟨v,nv,î T.dm hv W3 nv,λ_=>rfl⟩
 obtain⟨j,nj,ef,ej⟩:=main;have sz1:(SetTable.insertAt t.place (SetTable.below t.place j) j).size=L.length+1:=by
  have:=congrArg List.length (Hz t.place (SetTable.below t.place j) j);rw[vI]at this;rw[this,cB,jJ,gb,j9,vI,T.sz];omega
 have es1:(SetTable.insertAt es (SetTable.below t.place j) (((v:Nat):Int),x)).size=L.length+1:=by
  have:=congrArg List.length (Hz es (SetTable.below t.place j) (((v:Nat):Int),x));rw[vI]at this;rw[this,cB,jJ,gb,j9,vI,hE.len];omega
 have mk:L.length+1<=t.mask:=by
  rcases T.sh with⟨m7,l4⟩|⟨W3,pe,fl⟩<;>omega
 refine⟨{ t with place:=SetTable.insertAt t.place (SetTable.below t.place j) j},SetTable.insertAt es (SetTable.below t.place j) (((v:Nat):Int),x),SetTable.below t.place j,?_,?_,T.dm,T.pl,T.led,rfl,rfl,rfl,a2G T.up nj,sz1,?_⟩
 ·unfold layNew;rw[ef];dsimp only;unfold SetTable.put;have hd:SetTable.has t.dummies j=false:=by rw[T.dm];exact WY j
  dsimp only;rw[hd];have ft:SetTable.fits { t with place:=SetTable.insertAt t.place (SetTable.below t.place j) j} (SetTable.insertAt es (SetTable.below t.place j) (((v:Nat):Int),x)).size=true:=by
   unfold SetTable.fits SetTable.fill;dsimp only;rw[sz1,es1,T.dm];simp;omega
  unfold SetTable.orStandIn;simp only[if_false,Bool.false_eq_true];rw[aG ft,ft];rfl
 ·unfold Es;rw[Hz];exact iJ (Ft _ hE) (.cons ⟨Z,hx⟩ (Fv _ hE))
 ·intro hm;dsimp only;have:=ej hm;subst this;rcases T.sh with⟨m7,l4⟩|⟨W3,pe,fl⟩
  ·omega
  ·rw[Hz,pe]
end Sm
namespace Sm
variable{L:List Nat}{m f n:Nat}{es:Array (Int×Value)}
def ï(m:Nat)(owner:Array (Option Nat))(L:List Nat):Prop:=owner.size=m+1/\∀j,j<=m->owner.getD j none=if j∈L then some (L.idxOf j)else none
def ð{owner:Array (Option Nat)}(Z96:ï m owner L){v:Nat}(hv:v<=m)(hn:v∉L):SetTable.layClean.free m owner (f+1) v v=some v:=by
 unfold SetTable.layClean.free;obtain⟨k,hk⟩:∃k,SetTable.runEnd m v+1-v=k+1:=⟨SetTable.runEnd m v-v,by unfold SetTable.runEnd;split<;>omega⟩;rw[hk,List.range_succ_eq_map];have g:owner.getD (v+0) (some 0)=none:=by
  have a:=Z96.2 v hv;rw[aB hn]at a;have hs:v<owner.size:=by rw[Z96.1];omega
  simp[Array.getD,hs]at a ⊢;exact a
 rw[uI (by rw[g];rfl)];rfl
def ò(hm:15<=m):∀(R L:List Nat) (owner:Array (Option Nat)),ï m owner L->(L++R).Nodup->(∀v∈R,v<16)->
  ∃ó,ï m ó (L++R)/\(R.map λv=>((v:Nat):Int)).foldl (λ(acc:Option (Array (Option Nat)×Nat)) h=>do
   let(owner,k) <-acc
   let j <-SetTable.layClean.free m owner (SetTable.turns m) (SetTable.bits h%(m+1)) (SetTable.bits h)
   pure (owner.setIfInBounds j (some k),k+1)) (some (owner,L.length))=some (ó,(L++R).length):=by
 intro R
 induction R with
 |nil=>grind
 |cons v R ih =>
  intro L owner Z96 nd hlt;have hv:v<16:=hlt v aU;have hn:v∉L:=λc=>by
   grind
  have O':ï m (owner.setIfInBounds v (some L.length)) (L++[v]):=by
   refine⟨by rw[Array.size_setIfInBounds];exact Z96.1,λj hj=>?_⟩;have hs:v<owner.size:=by rw[Z96.1];omega
   have hs':j<owner.size:=by rw[Z96.1];omega
   have a:=Z96.2 j hj;by_cases e:j=v
   ·subst e;rw[aG (gD _ (bG.mpr Z)),List.idxOf_append,aB hn];simp[Array.getD,hs]
   ·have e1:(owner.setIfInBounds v (some L.length)).getD j none=owner.getD j none:=by
     simp only[Array.getD,Array.size_setIfInBounds,hs'];simp[Array.getElem_setIfInBounds,hs',Ne.symm e]
    grind
  obtain⟨o2,O2,e2⟩:=ih (L++[v]) _ O' () (λu hu=>hlt u (bC _ hu));refine⟨o2,(),?_⟩;rw[cL,List.foldl_cons];have st:(do
   let(owner,k) <-some (owner,L.length);let j <-SetTable.layClean.free m owner (SetTable.turns m) (SetTable.bits ((v:Nat):Int)%(m+1)) (SetTable.bits ((v:Nat):Int))
   pure (owner.setIfInBounds j (some k),k+1):Option (Array (Option Nat)×Nat))=some (owner.setIfInBounds v (some L.length),(L++[v]).length):=by
   rw[Pa hv,Nat.mod_eq_of_lt ()];have:SetTable.turns m=(m+14)+1:=rfl;rw[this];show(SetTable.layClean.free m owner (m+14+1) v v).bind _=_;rw[ð Z96 () hn];simp
  grind
def upTo(m:Nat)(L:List Nat):List Nat:=(List.range (m+1)).filter λj=>decide (j∈L)
def Pb(m:Nat)(L:List Nat):(upTo m L).Pairwise (· < ·):=HS _ List.pairwise_lt_range
def mem_upTo(h:∀v∈L,v<=m){j:Nat}:j∈upTo m L↔j∈L:=by
 unfold upTo;grind
def Fw(h:L.Pairwise (· < ·)):L.Nodup:=h.imp λh=>b7 h
def yU(h:∀v∈L,v<=m)(nd:L.Nodup):(upTo m L).Perm L :=
 (Hx (Fw (Pb m L)) nd).mpr λj=>mem_upTo h
def η(nd:L.Nodup):L.map (λv=>L.idxOf v)=List.range L.length:=by
 apply List.ext_getElem
 ·simp
 grind
theorem ô{α β:Type}(p:α->Bool)(f:α->β):∀l:List α,l.filterMap (λa=>if p a=true then some (f a)else none)=(l.filter p).map f
 | []=>rfl
 |a::r=>by
  rw[NZ]
  cases e:p a with
  |true=>rw[Nh (b:=f a) (by rw[e];rfl),ô p f r];simp
  |false=>rw[List.filterMap_cons_none (by rw[e];rfl),ô p f r];simp
theorem Q0{α β:Type}{f g:α->Option β}:∀{l:List α},(∀a∈l,f a=g a)->l.filterMap f=l.filterMap g
 | [],_=>rfl
 |a::r,h=>by
  have e:=h a aU
  have q:=Q0 (l:=r) λb hb=>h b (bC _ hb)
  grind
def Es.hashes(h:Es es L):(es.map (·.1)).toList=L.map λv=>((v:Nat):Int):=by
 rw[Array.toList_map];unfold Es at h;generalize es.toList=l at h
 induction h with
 |nil=>rfl
 |cons r _ ih=>grind
def Es.at{es:Array (Int×Value)}{L:List Nat}(h:Es es L){v:Nat}(hv:v∈L):∃e,es[L.idxOf v]?=some e/\e.1=((v:Nat):Int)/\∃tk,e.2=Value.int ((v:Nat):Int) tk:=by
 have hi:=Nf hv;obtain⟨x,e,q⟩:=bM h (L.idxOf v) hi;rw[List.getElem_idxOf hi]at q;exact⟨x,by simpa using e,q⟩
theorem a1u{es:Array (Int×Value)}{L:List Nat}(h:Es es L):∀S:List Nat,(∀v∈S,v∈L)->Paired (λe v=>e.1=((v:Nat):Int)/\∃tk,e.2=Value.int ((v:Nat):Int) tk) ((S.map λv=>L.idxOf v).filterMap λi=>es[i]?) S
 | [],_=>.nil
 |v::S,hs=>by
  obtain⟨e,a,b⟩:=h.at (hs v aU)
  rw[cL,Nh a]
  exact .cons b (a1u h S λu hu=>hs u (bC _ hu))
def Pg{mv:Nat}{led plain:Bool}(hm:15<=m)(hE:Es es L)(nd:L.Nodup)(hlt:∀v∈L,v<16) :
  ∃order:Array Nat,SetTable.laid m f mv led plain (es.map (·.1))=some ({ mask:=m,place:=(upTo m L).toArray,dummies:=#[],finger:=f,led:=led,moves:=mv,plain:=plain},order)/\
   Es (order.filterMap (es[·]?)) (upTo m L)/\coversAll order es.size=true:=by
 have hle:∀v∈L,v<=m:=λv hv=>by grind
 have O0:ï m (Array.replicate (m+1) none) []:=⟨by simp,λj hj=>by simp[Array.getD]⟩;obtain⟨ow,Z96,e⟩:=ò hm L [] _ O0 (by simpa using nd) hlt;rw[List.nil_append]at Z96 e;have ec:SetTable.layClean m (es.map (·.1))=some ow:=by
  unfold SetTable.layClean;rw[<-Array.foldl_toList,hE.hashes];grind
 have lv:(List.range (m+1)).filterMap (λj=>(ow.getD j none).map λk=>(j,k))=(upTo m L).map λj=>(j,L.idxOf j):=by
  unfold upTo;rw[<-ô];apply Q0;intro j hj;rw[Z96.2 j ()];grind
 refine⟨((upTo m L).map λj=>L.idxOf j).toArray,?_,?_,?_⟩
 ·unfold SetTable.laid;rw[ec];show some _=some _;have:(List.range (m+1)).filterMap (λj=>(ow.getD j none).map (j,·))=(upTo m L).map λj=>(j,L.idxOf j):=lv;rw[this,nC,nC];have i1:((λ(x:Nat×Nat)=>x.1)∘λj=>(j,L.idxOf j))=λj=>j:=rfl;have i2:((λ(x:Nat×Nat)=>x.2)∘λj=>(j,L.idxOf j))=λj=>L.idxOf j:=rfl;rw[i1,i2,List.map_id']
 ·unfold Es;rw[Array.toList_filterMap];exact a1u hE (upTo m L) λv hv=>(mem_upTo hle).mp hv
 ·unfold coversAll;rw[List.isPerm_iff,hE.len];have p:=(yU hle nd).map λv=>L.idxOf v;rw[η nd]at p;exact p
def Ve(h:∀v∈L,v<16)(hm:15<=m)(nd:L.Nodup):(upTo m L).length=L.length:=(yU (λv hv=>by have:=h v hv;omega) nd).length_eq
def Cj(h:n<2^40):n<SetTable.sizeAbove n:=by
 have go:∀fuel size,n<size*2^fuel->n<SetTable.sizeAbove.go n fuel size:=by
  intro fuel
  induction fuel with
  |zero=>intro size h;unfold SetTable.sizeAbove.go;simpa using h
  |succ f ih =>
   intro size h;unfold SetTable.sizeAbove.go;split
   ·exact ih _ (by rw[Nat.pow_succ]at h;rw[Nat.mul_assoc,Nat.mul_comm 2];exact h)
   ·omega
 exact go 64 8 ()
def Ck(h:8<=n):16<=SetTable.sizeAbove n:=by
 have go:∀fuel size,16<=size->16<=SetTable.sizeAbove.go n fuel size:=by
  intro fuel
  induction fuel with
  |zero=>intro size h;unfold SetTable.sizeAbove.go;exact h
  |succ f ih =>
   intro size h;unfold SetTable.sizeAbove.go;split
   ·exact ih _ ()
   ·exact h
 unfold SetTable.sizeAbove;unfold SetTable.sizeAbove.go;rw[aG h];exact go 63 _ ()
def Tb.fits{B:Bool}{t:SetTable}{L:List Nat}(T:Tb B t L):t.fits L.length=true:=by
 unfold SetTable.fits SetTable.fill;have:=T.sz;rw[T.dm];rcases T.sh with⟨a,b⟩|⟨a,b,c⟩<;>simp[this]<;>omega
def Ph{B:Bool}{mv:Nat}(hm:15<=m)(nd:L.Nodup)(hlt:∀v∈L,v<16)(hr:L.length*5<m*3) :
  Tb B { mask:=m,place:=(upTo m L).toArray,dummies:=#[],finger:=f,led:=!B,moves:=mv,plain:=true} (upTo m L) where
 dm:=rfl
 pl:=rfl
 led:=rfl
 up:=by simpa using Pb m L
 sz:=by simp
 nd:=Fw (Pb m L)
 lt:=λv hv=>hlt v ((mem_upTo (λv hv=>by grind)).mp hv)
 sh:=.inr ⟨hm,by simp,by rw[Ve hlt hm nd];exact hr⟩
def õ{B:Bool}{t:SetTable}(hp:t.plain=true)(hl:t.led = !B)(hE:Es es L)(nd:L.Nodup)(hlt:∀v∈L,v<16)(hn:8<=n)(h2:2*L.length<=n)(hb:n<2^40) :
  ∃es' t' L',relayAll t es n=(es',t',false)/\Es es' L'/\Tb B t' L'/\L'.Perm L:=by
 have a1:=Cj hb;have a2:=Ck hn;have hm:15<=SetTable.sizeAbove n-1:=()
 obtain⟨order,e,hE',hc⟩:=Pg (f:=t.finger) (mv:=t.movedTo (SetTable.sizeAbove n-1)) (led:=!B) (plain:=true) hm hE nd hlt;have T:=Ph (B:=B) (f:=t.finger) (mv:=t.movedTo (SetTable.sizeAbove n-1)) hm nd hlt ();refine⟨_,_,_,?_,hE',T,yU (λv hv=>by have:=hlt v hv;omega) nd⟩;unfold relayAll SetTable.relaid;rw[hp,hl,e];dsimp only;have z:=hE'.len;rw[hc,z,T.fits];rfl
end Sm
namespace Sm
variable{L:List Nat}{es:Array (Int×Value)}{h:Heap}{a:Addr}{B:Bool}{tk:Nat}
abbrev lY(es:Array (Int×Value))(ep:Nat)(t:SetTable):Obj:={ cls:=.type "set",dict:=none,data:=.set es ep t,slots:=#[]}
def jq(B:Bool)(h:Heap)(a:Addr)(L:List Nat):Prop:=∃es ep t,h.get? a=some (lY es ep t)/\Es es L/\Tb B t L
def qO(h:Heap)(a:Addr):Prop:=∃es ep t,h.get? a=some (lY es ep t)/\(t.mask=7\/5<=es.size)
def qO.keep{h':Heap}(S:qO h a)(k:∀o,h.get? a=some o->h'.get? a=some o):qO h' a :=
 let⟨es,ep,t,ho,r⟩:=S;⟨es,ep,t,k _ ho,r⟩
def jq.keep{h':Heap}(S:jq B h a L)(k:∀o,h.get? a=some o->h'.get? a=some o):jq B h' a L :=
 let⟨es,ep,t,ho,r⟩:=S;⟨es,ep,t,k _ ho,r⟩
def Tb.len{t:SetTable}(T:Tb B t L):L.length<=16:=by
 have:=Vd L (List.range 16) T.nd λx hx=>mK.mpr (T.lt x hx);simpa using this
def Vf:∀v:Nat,v<16->hashInt ((v:Nat):Int)=((v:Nat):Int):=by decide
def Es.elems{prog:Program}{w:World}(h:Es es L)(lt:∀v∈L,v<16):ElemsOf (intKind prog w) es.toList:=by
 unfold Es at h;generalize es.toList=l at h
 induction h with
 |nil=>intro e he;simp at he
 | @cons x y xs ys r _ ih =>
  intro e he;rcases bZ.mp he with rfl|he
  ·obtain⟨tk,e2⟩:=r.2;refine⟨⟨((y:Nat):Int),?_,?_⟩,?_⟩
   ·show Value.isInt _ _=true;rw[e2];simp[Value.isInt]
   ·rw[r.1];exact(Vf y (lt y aU)).symm
   ·rw[e2];rfl
  ·exact ih (λv hv=>lt v (bC _ hv)) e he
def Es.find(h:Es es L)(v:Nat):(es.toList.findIdx? λe=>Value.isInt ((v:Nat):Int) e.2).isSome=decide (v∈L):=by
 unfold Es at h;generalize es.toList=l at h
 induction h with
 |nil=>simp
 | @cons x y xs ys r _ ih =>
  obtain⟨tk,e2⟩:=r.2;rw[List.findIdx?_cons,e2];by_cases c:v=y
  ·subst c;simp[Value.isInt]
  ·have:Value.isInt ((v:Nat):Int) (.int ((y:Nat):Int) tk)=false:=by simp[Value.isInt];omega
   grind
section
variable{prog:Program}{w:World}{A:Around}{E:Value->Shared->Prop}{s:Shared}
def θ{ep:Nat}{t:SetTable}{v:Nat}{ad:Bool}{Q:ScanMet->Shared->Prop}(ho:s.heap.get? a=some (lY es ep t))(hE:Es es L)(T:Tb B t L)(hv:v<16)
  (h1:v∈L->∀j,Q (.found j) s) (h2:v∉L->Q .absent s):wpAny (model prog w) A (setScan a (.int ((v:Nat):Int) tk) ((v:Nat):Int) ad es) Q E s:=by
 have hf:t.fits es.size=true:=by rw[hE.len];exact T.fits
 have sc:=wpAny_setScan_of (prog:=prog) (w:=w) (A:=A) (E:=E) (s:=s) (knd:=intKind prog w) (k:=((v:Nat):Int)) (x:=.int ((v:Nat):Int) tk) (adding:=ad) (Q:=Q) (by simp[intKind,Value.isInt]) ho Z hf (hE.elems T.lt) (by
  have q:=hE.find v;have e:(λe:Int×Value=>(intKind prog w).is ((v:Nat):Int) e.2)=λe=>Value.isInt ((v:Nat):Int) e.2:=rfl;grind)
 have e:(intKind prog w).hash ((v:Nat):Int)=((v:Nat):Int):=Vf v hv;rw[e]at sc;exact sc
def yV{es':Array (Int×Value)}{ep:Nat}{t t':SetTable}(ho:h.get? a=some (lY es ep t)):(h.update a (Obj.putSet es' t')).get? a=some (lY es' (ep+1) t'):=by
 have:=zW (Obj.putSet es' t') ho (by rw[putSet_of es' t' rfl];rfl);rw[putSet_of es' t' rfl]at this;exact this
def ξ(prog:Program)(w:World){t:SetTable}{v:Nat}(hE:Es es L)(T:Tb B t L):byScan (.int ((v:Nat):Int) tk) es=true :=
 byScan_of (knd:=intKind prog w) Z (by rw[hE.len];have:=T.len;unfold scanBound;omega) (hE.elems T.lt)
def ö{v:Nat}{Q:Bool->Shared->Prop}(S:jq B s.heap a L)(hv:v<16)
  (h:∀b h' L',Heap.SameBut a s.heap h'->jq B h' a L'->(∀u,u∈L'↔u=v\/u∈L)->(qO s.heap a->qO h' a)->Q b { s with heap:=h'}) :
  wpAny (model prog w) A (setAddHashed a (.int ((v:Nat):Int) tk) ((v:Nat):Int)) Q E s:=by
 obtain⟨es,ep,t,ho,hE,T⟩:=S;have hf:t.fits es.size=true:=by rw[hE.len];exact T.fits
 unfold setAddHashed setAddHashedIn;refine fG (M (wpAny_setState_of ho Z hf ?_));dsimp only;rw[ξ prog w hE T];simp only[↓reduceIte];unfold setAddByScan;refine M (M (kE (M (θ ho hE T hv (λhm j=>?_) λhm=>?_))))
 ·dsimp only;refine aq (aq ?_);have q:=h false s.heap L (Tv a s.heap) ⟨es,ep,t,ho,hE,T⟩ (λu=>⟨.inr,λc=>c.elim (λe=>e▸hm) id⟩) id;exact q
 ·dsimp only;obtain⟨t1,es1,p,e1,hE1,dm,pl,ld,mk,_,_,up,sz,own⟩:=a2H (x:=.int ((v:Nat):Int) tk) T hE hv hm ⟨tk,Z⟩;rw[e1];dsimp only;refine M (aq ?_);rw[pl];refine M (aq ?_);simp only[↓reduceIte];have mem:∀u,u∈L.take p++v::L.drop p↔u=v\/u∈L:=λu=>by
   rw[cH,bZ];have e:u∈L↔u∈L.take p\/u∈L.drop p:=by rw[<-cH,xg]
   rw[e];constructor
   ·rintro(c|c|c)
    ·exact .inr (.inl c)
    ·exact .inl c
    ·exact .inr (.inr c)
   ·rintro(c|c|c)
    ·exact .inr (.inl c)
    ·exact .inl c
    ·exact .inr (.inr c)
  have nd1:(L.take p++v::L.drop p).Nodup:=by
   have pm:(L.take p++v::L.drop p).Perm (v::L):=by
    have:L.take p++L.drop p=L:=xg p L;exact List.perm_middle.trans (by rw[this])
   exact pm.nodup_iff.mpr (jB.mpr ⟨hm,T.nd⟩)
  have lt1:∀u∈L.take p++v::L.drop p,u<16:=λu hu=>((mem u).mp hu).elim (λe=>e▸hv) (T.lt u);have ln1:(L.take p++v::L.drop p).length=L.length+1:=by
   rw[cB,jJ,gb,j9];omega
  have fl:t1.fill=L.length+1:=by unfold SetTable.fill;rw[dm,sz];rfl
  have l16:=T.len;have z1:es1.size=L.length+1:=by rw[hE1.len,ln1]
  refine M (HY ho Z ?_ (by rw[z1,jC];omega));have ho1:=yV (es':=es1) (t':=t1) ho;cases tf:t1.tooFull with
  |false =>
   simp only[Bool.not_false,Bool.and_false,Bool.false_eq_true,if_false];refine aq (aq ?_);refine h true _ _ (rO ..) ⟨es1,ep+1,t1,ho1,hE1,⟨dm,pl,ld,up,by rw[ln1,sz],nd1,lt1,?_⟩⟩ mem (λ⟨es0,ep0,t0,ho0,d⟩=>⟨es1,ep+1,t1,ho1,by
    rw[ho]at ho0;cases ho0;rw[mk,z1];have:=hE.len;omega⟩)
   unfold SetTable.tooFull at tf;have tf':=Tp tf;rw[fl,mk]at tf';rw[ln1,mk];rcases T.sh with⟨m7,l4⟩|⟨W3,pe,_⟩
   ·refine .inl ⟨m7,()⟩
   ·exact .inr ⟨W3,own W3,()⟩
  |true =>
   simp only[Bool.not_false,Bool.and_self,if_true];unfold SetTable.tooFull at tf;have tf':=gV tf;rw[fl,mk]at tf';have five:5<=L.length+1:=by
    rcases T.sh with⟨m7,l4⟩|⟨W3,pe,_⟩<;>omega
   have gr:SetTable.grown es1.size=(L.length+1)*4:=by
    unfold SetTable.grown;rw[z1,aB ()]
   obtain⟨es2,t2,L2,e2,hE2,T2,pm⟩:=õ (t:=t1) (n:=SetTable.grown es1.size) pl ld hE1 nd1 lt1 (by rw[gr];omega) (by rw[gr,ln1];omega) (by rw[gr];omega);rw[e2];dsimp only;refine M (aq ?_);refine M (HY ho1 Z ?_ (by rw[hE2.len,pm.length_eq,ln1,jC];omega));refine aq (aq ?_);exact h true _ L2 ((rO ..).trans (rO ..)) ⟨es2,_,t2,yV ho1,hE2,T2⟩ (λu=>(pm.mem_iff).trans (mem u)) λ_=>⟨es2,_,t2,yV ho1,.inr (by rw[hE2.len,pm.length_eq,ln1];exact five)⟩
end
end Sm
namespace Sm
variable{es:Array (Int×Value)}{ep:Nat}
abbrev qd(w:World):Bool:=w.params.followText "set-order"
theorem Jf{α:Type}:∀(l:List α) (i:Nat) (h:i<l.length),(l[i]::l.eraseIdx i).Perm l
 |_::r,0,_=>.refl _
 |x::r,i+1,h=>by
  have q:=Jf r i (by simpa using h)
  rw[List.getElem_cons_succ,List.eraseIdx_cons_succ]
  exact(List.Perm.swap x (r[i]'(by simpa using h)) (r.eraseIdx i)).trans (q.cons x)
def ο{α:Type}(nx:Nat->Nat):∀(fuel k:Nat) (left:List α) (out:Array α),left.length<=fuel->(pickOrder.go nx fuel k left out).toList.Perm (out.toList++left):=by
 intro fuel
 induction fuel with
 |zero =>
  intro k left out h;have:left=[]:=Nj.mp ();subst this;unfold pickOrder.go;simp
 |succ f ih =>
  intro k left out h;unfold pickOrder.go;by_cases c:left=[]
  ·subst c;simp
  ·have pos:0<left.length:=List.length_pos_iff.mpr c;have lt:=Nat.mod_lt (nx k) pos;rw[bF lt];dsimp only;refine(ih (k+1) _ _ ()).trans ?_;rw[Array.toList_push,vK];exact List.Perm.append_left _ (Jf left _ lt)
def Mf{α:Type}(nx:Nat->Nat)(xs:Array α):(pickOrder nx xs).toList.Perm xs.toList:=by
 have:=ο nx xs.size 0 xs.toList #[] (by simp);unfold pickOrder;simpa using this
def W4(a:Addr):setWalk a=(do
 let(xs,c,tb) <-setState a
 if <-setsByText then
  let q <-ask
  return pickOrder (q.params.setOrder a c) xs
 if !tb.plain&&xs.size>1 then return (<-drawOrder xs.size xs.toList).toArray
 (do if !tb.led&&xs.size>1 then unsupported "set:maker-not-led" : Sem Unit)
 return xs):=rfl
def Es.perm{L:List Nat}(h:Es es L){es':List (Int×Value)}(p:es'.Perm es.toList):∃L',Paired (λe v=>e.1=((v:Nat):Int)/\∃tk,e.2=Value.int ((v:Nat):Int) tk) es' L'/\L'.Perm L:=by
 refine⟨es'.map λe=>e.1.toNat,?_,?_⟩
 ·have all:∀e∈es.toList,∃v:Nat,e.1=((v:Nat):Int)/\∃tk,e.2=Value.int ((v:Nat):Int) tk:=by
   unfold Es at h;generalize es.toList=l at h;clear p
   induction h with
   |nil=>intro e he;simp at he
   |cons r _ ih =>
    intro e he;rcases bZ.mp he with rfl|he
    ·exact⟨_,r⟩
    ·exact ih e he
  have all':∀e∈es',∃v:Nat,e.1=((v:Nat):Int)/\∃tk,e.2=Value.int ((v:Nat):Int) tk:=λe he=>all e (p.mem_iff.mp he);clear p
  induction es' with
  |nil=>exact .nil
  |cons e r ih =>
   obtain⟨v,e1,e2⟩:=all' e aU;rw[cL];refine .cons ?_ (ih λx hx=>all' x (bC _ hx));rw[e1];exact⟨Z,e2⟩
 ·refine(p.map λe=>e.1.toNat).trans ?_;unfold Es at h;generalize es.toList=l at h;have:l.map (λe=>e.1.toNat)=L:=by
   induction h with
   |nil=>rfl
   |cons r _ ih=>rw[cL,ih,r.1];rfl
  rw[this]
section
variable{prog:Program}{w:World}{A:Around}{E:Value->Shared->Prop}{s:Shared}{a:Addr}{L:List Nat}
def jF{t:SetTable}{B:Bool}{Q:(Array (Int×Value)×Nat×SetTable)->Shared->Prop}(ho:s.heap.get? a=some (lY es ep t))(hE:Es es L)(T:Tb B t L)(h:Q (es,ep,t) s) :
  wpAny (model prog w) A (setState a) Q E s:=wpAny_setState_of ho Z (by rw[hE.len];exact T.fits) h
def sY{Q:Bool->Shared->Prop}(h:Q (qd w) s):wpAny (model prog w) A setsByText Q E s:=by
 unfold setsByText;exact M (N5 (aq h))
def walk_at{t:SetTable}{Q:Array (Int×Value)->Shared->Prop}(ho:s.heap.get? a=some (lY es ep t))(hE:Es es L)(T:Tb (qd w) t L)
  (h:∀es',es'.toList.Perm es.toList->Q es' s):wpAny (model prog w) A (setWalk a) Q E s:=by
 rw[W4];refine M (jF ho hE T (M (sY ?_)));have pl:=T.pl;have ld:=T.led;cases c:qd w with
 |true =>
  simp only[if_true];exact M (N5 (aq (h _ (Mf _ _))))
 |false =>
  rw[c]at ld;simp only[pl,ld,Bool.not_true,Bool.not_false,Bool.false_and,Bool.false_eq_true,if_false];first|exact M (aq (aq (h _ .rfl)))|exact aq (h _ .rfl)
def YJ{t:SetTable}{others:List Addr}{f:Option Addr}{Q:Array (Int×Value)->Shared->Prop}(ho:s.heap.get? a=some (lY es ep t))(hE:Es es L)(T:Tb (qd w) t L)
  (h:∀es',es'.toList.Perm es.toList->Q es' s):wpAny (model prog w) A (setWalkUnseen a others f) Q E s:=by
 unfold setWalkUnseen;refine M (jF ho hE T (M (sY ?_)));have e:(qd w||(t.led&&t.plain)||decide (es.size<=1))=true:=by rw[T.led,T.pl];grind
 dsimp only;rw[aG e];exact walk_at ho hE T h
def W5(es:Array (Int×Value))(laid:Option (SetTable×Array Nat)):Sem (Array (Int×Value)×SetTable):=do
 let some (t,order):=laid
  |unsupported "internal:set-table-without-room"
 if(order.filterMap (es[·]?)).size != es.size then unsupported "internal:set-table-lost-an-element"
 pure (order.filterMap (es[·]?),t)
def ø(a:Addr)(n:Nat):setRelay a n=(do
 let(es,_,t) <-setState a
 if SetTable.sizeAbove n>sizeLine then unsupported "set:memory"
 let(es,t) <-W5 es (t.relaid (es.map (·.1)) n)
 storeSet a es t):=rfl
def Q5{t:SetTable}{order:Array Nat}{S:List Nat}{Q:Array (Int×Value)×SetTable->Shared->Prop}(hE':Es (order.filterMap (es[·]?)) S)(hz:es.size=S.length)(h:Q (order.filterMap (es[·]?),t) s) :
  wpAny (model prog w) A (W5 es (some (t,order))) Q E s:=by
 unfold W5;dsimp only;have e:((order.filterMap (es[·]?)).size != es.size)=false:=by rw[hE'.len,hz];simp
 simp only[e,Bool.false_eq_true,if_false];first|exact M (aq (aq h))|exact aq h
def ù{n:Nat}(h:n<=64):SetTable.sizeAbove n<=128:=by
 have:∀n,n<=64->SetTable.sizeAbove n<=128:=()
 grind
def ς{more:Nat}{Q:Unit->Shared->Prop}{B:Bool}(S:jq B s.heap a L)(hm:more<=16)
  (h:∀h' es ep t L',Heap.SameBut a s.heap h'->h'.get? a=some (lY es ep t)->Es es L'->Tb B t L'->L'.Perm L->(L.length+more)*5<t.mask*3->Q ⟨⟩ { s with heap:=h'}):wpAny (model prog w) A (setRoomFor a more) Q E s:=by
 obtain⟨es,ep,t,ho,hE,T⟩:=S;unfold setRoomFor;refine M (jF ho hE T ?_);have fl:t.fill=L.length:=by unfold SetTable.fill;rw[T.dm,T.sz];rfl
 have l16:=T.len;unfold SetTable.roomFor;dsimp only;rw[fl,T.sz];by_cases c:(L.length+more)*5>=t.mask*3
 ·rw[aG c];dsimp only;rw[ø];refine M (jF ho hE T ?_);have five:5<=L.length+more:=by
   rcases T.sh with⟨m7,_⟩|⟨W3,_,_⟩<;>omega
  have b1:=Cj (n:=(L.length+more)*2) ();have b2:=Ck (n:=(L.length+more)*2) ();have b3:=ù (n:=(L.length+more)*2) ();dsimp only;rw[aB (by rw[jC];omega)];have hm':15<=SetTable.sizeAbove ((L.length+more)*2)-1:=()
  obtain⟨order,e,hE',hc⟩:=Pg (f:=t.finger) (mv:=t.movedTo (SetTable.sizeAbove ((L.length+more)*2)-1)) (led:=t.led) (plain:=t.plain) hm' hE T.nd T.lt;unfold SetTable.relaid;rw[e];have lz:=Ve T.lt hm' T.nd;refine M (Q5 hE' (by rw[hE.len,lz]) ?_);refine HY ho Z ?_ (by rw[hE'.len,lz,jC];omega);have T':=Ph (B:=B) (f:=t.finger) (mv:=t.movedTo (SetTable.sizeAbove ((L.length+more)*2)-1)) hm' T.nd T.lt ();rw[<-T.led,<-T.pl]at T';exact h _ _ _ _ _ (rO ..) (yV ho) hE' T' (yU (λv hv=>by have:=T.lt v hv;omega) T.nd) (by show _<(SetTable.sizeAbove ((L.length+more)*2)-1)*3;omega)
 ·rw[aB c];exact aq (h s.heap es ep t L (Tv a s.heap) ho hE T .rfl ())
end
end Sm
namespace Sm
def ú(sA oA:Addr)(each:Sem Unit):setMerge sA oA each=(do
 if sA==oA then return
 let(eo,epoch,to) <-setState oA
 if eo.isEmpty then return
 setRoomFor sA eo.size
 let(_,_,ts) <-setState sA
 match ts.road to with
 |.slotForSlot =>
  storeSet sA eo { to with finger:=ts.finger,led:=ts.led&&to.led,moves:=ts.moves,plain:=ts.plain&&to.plain}
 |.clean =>
  let(es,t) <-W5 eo (SetTable.laid ts.mask ts.finger ts.moves (ts.led&&to.led) (ts.plain&&to.plain) (eo.map (·.1)))
  storeSet sA es t
 |.oneByOne =>
  for (h,x)in <-setWalkUnseen oA [sA] (some sA) do
   let _ <-holding [x] (setAddHashed sA x h)
   each
   if(<-setState oA).2.1 != epoch then unsupported "set.changed-during-merge"):=rfl
section
variable{prog:Program}{w:World}{A:Around}{E:Value->Shared->Prop}{s:Shared}{sA oA:Addr}{L1 L2:List Nat}
def Q6{each:Sem Unit}{Q:Unit->Shared->Prop}(ne:sA≠oA)(S1:jq (qd w) s.heap sA L1)(S2:jq (qd w) s.heap oA L2)(D:qO s.heap oA)
  (he:∀(s':Shared) (Q':Unit->Shared->Prop),(∀o,s.heap.get? oA=some o->s'.heap.get? oA=some o)->Q' ⟨⟩ s'->wpAny (model prog w) A each Q' E s')
  (h:∀h' L,Heap.SameBut sA s.heap h'->jq (qd w) h' sA L->(∀u,u∈L↔u∈L1\/u∈L2)->Q ⟨⟩ { s with heap:=h'}):wpAny (model prog w) A (setMerge sA oA each) Q E s:=by
 obtain⟨eo,ep,to,ho,hE,T⟩:=S2;rw[ú];have nb:(sA==oA)=false:=vH.mpr ne;rw[nb];simp only[Bool.false_eq_true,if_false];refine M (jF ho hE T ?_);dsimp only;have hz:=hE.len;have l16:=T.len;by_cases c:eo.isEmpty=true
 ·rw[aG c];have l0:L2.length=0:=by rw[<-hz];simpa using c
  have:L2=[]:=Nj.mp l0;subst this;exact aq (h s.heap L1 (Tv _ _) S1 λu=>by simp)
 rw[aB c];refine M (ς S1 () λh1 es1 ep1 t1 L1' Eg ho1 hE1 T1 pm hr=>?_);have ho':h1.get? oA=some (lY eo ep to):=by rw[Eg.2 oA (Ne.symm ne)];exact ho
 refine M (jF (s:={ s with heap:=h1}) ho1 hE1 T1 ?_);dsimp only;have fl:t1.fill=L1'.length:=by unfold SetTable.fill;rw[T1.dm,T1.sz];rfl
 unfold SetTable.road;rw[fl,pm.length_eq];have ld:(t1.led&&to.led) = !qd w:=by rw[T1.led,T.led];simp
 have pl:(t1.plain&&to.plain)=true:=by rw[T1.pl,T.pl];rfl
 by_cases e0:L1.length=0
 ·have n1:L1=[]:=Nj.mp e0;have nb:(L1.length != 0)=false:=by rw[e0];rfl
  rw[nb];simp only[Bool.false_eq_true,if_false];have dmt:to.dummies.isEmpty=true:=by rw[T.dm];rfl
  by_cases em:t1.mask=to.mask
  ·have:(t1.mask==to.mask&&to.dummies.isEmpty)=true:=()
   rw[this];simp only[if_true];refine HY (s:={ s with heap:=h1}) ho1 rfl ?_ (by rw[hz,jC];omega);refine h _ L2 (Eg.trans (rO ..)) ⟨eo,_,_,yV ho1,hE,⟨T.dm,pl,ld,T.up,T.sz,T.nd,T.lt,T.sh⟩⟩ λu=>by rw[n1];simp
  ·have:(t1.mask==to.mask&&to.dummies.isEmpty)=false:=()
   rw[this];simp only[Bool.false_eq_true,if_false];have W3:15<=t1.mask:=by
    obtain⟨es0,ep0,t0,ho0,d⟩:=D;rw[ho]at ho0;cases ho0;rcases T1.sh with⟨m7,_⟩|⟨W3,_⟩
    ·grind
    ·exact W3
   obtain⟨order,e,hE',hc⟩:=Pg (f:=t1.finger) (mv:=t1.moves) (led:=t1.led&&to.led) (plain:=t1.plain&&to.plain) W3 hE T.nd T.lt;rw[e];have lz:=Ve T.lt W3 T.nd;refine M (Q5 hE' (by rw[hz,lz]) ?_);refine HY (s:={ s with heap:=h1}) ho1 rfl ?_ (by rw[hE'.len,lz,jC];omega);have T':=Ph (B:=qd w) (f:=t1.finger) (mv:=t1.moves) W3 T.nd T.lt ();rw[<-ld,<-pl]at T';refine h _ _ (Eg.trans (rO ..)) ⟨_,_,_,yV ho1,hE',?_⟩ λu=>?_
   ·grind
   ·rw[n1,mem_upTo (λv hv=>by have:=T.lt v hv;omega)];simp
 ·have nb:(L1.length != 0)=true:=by simp[e0]
  rw[nb];simp only[if_true];refine M (YJ (s:={ s with heap:=h1}) ho' hE T λes' pe=>?_);obtain⟨R,hR,pR⟩:=hE.perm pe;refine M ?_;rw[<-Tq];refine wpAny_forIn_list _ (λrest _ s'=>∃h' L R,s'={ s with heap:=h'}/\Heap.SameBut sA s.heap h'/\jq (qd w) h' sA L/\Paired (λ(e:Int×Value) (v:Nat)=>e.1=((v:Nat):Int)/\∃tk,e.2=Value.int ((v:Nat):Int) tk) rest R/\
   (∀v∈R,v<16)/\∀u,(u∈L\/u∈R)↔(u∈L1\/u∈L2)) _ ?_ ?_ _ _ ⟨h1,L1',R,Z,Eg,⟨es1,ep1,t1,ho1,hE1,T1⟩,hR,λv hv=>T.lt v (pR.mem_iff.mp hv),λu=>by rw[pm.mem_iff,pR.mem_iff]⟩
  ·rintro⟨hh,x⟩ rest b s' ⟨h',L,R',rfl,sb,S,hP,lt,mem⟩;cases hP with
   | @cons _ v _ R'' r t =>
    obtain⟨e1,tk,e2⟩:=r;dsimp only at e1 e2;subst e1;subst e2;dsimp only;refine M (fG (ö (s:={ s with heap:=h'}) S (lt v aU) λb2 h2 L' Q7 S' mem' _=>?_));have YK:=sb.trans Q7;have oo:h2.get? oA=some (lY eo ep to):=by rw[YK.2 oA (Ne.symm ne)];exact ho
    refine M (he _ _ (λo q=>by grind) (M (jF (s:={ s with heap:=h2}) oo hE T ?_)));simp only[bne_self_eq_false,Bool.false_eq_true,if_false];refine aq ⟨h2,L',R'',Z,YK,S',t,λu hu=>lt u (bC _ hu),λu=>?_⟩;grind
  ·rintro b s' ⟨h',L,R',rfl,sb,S,hP,lt,mem⟩;cases hP;exact aq (h h' L sb S λu=>by rw[<-mem u];simp)
end
end Sm
namespace Sm
open PySem.Builtin.Frozenset
variable{Q:Value->Shared->Prop}{B:Bool}
def Vg:isSubtype (.type "set") (.type "set")=pure true:=by rw[T8];kernel_rfl
def û:entryFor table "set.__or__" = some Builtin.«frozenset.__or__» := T9 (id':="frozenset.__or__") (by kernel_rfl) Z () (by kernel_rfl)
def Vh:entryFor table "set.__iter__" = some Builtin.«frozenset.__iter__» := T9 (id':="frozenset.__iter__") (by kernel_rfl) Z () (by kernel_rfl)
def Pj(id:String)(l:Addr)(r:Value):Sem Value:=do
 let result <-copyOf l
 if r != .ref l then
  let q <-addrOf result
  holding [result] (updateFrom id q r)
 return result
def or_eq(x y:Value):Builtin.«frozenset.__or__» ⟨[x,y],[]⟩=(do
 let(self,bT) <-slot1 "__or__" ⟨[x,y],[]⟩
 if !(<-isAnySet self <&&> isAnySet bT)then
  rule s!"frozenset.{"__or__"}.declined"
  return <-ret .notImplemented
 ret (<-Pj s!"frozenset.{"__or__"}" (<-addrOf self) bT)):=rfl
section
variable{prog:Program}{w:World}{A:Around}{E:Value->Shared->Prop}{s:Shared}{a b:Addr}{L1 L2:List Nat}
def Q8(B:Bool):Tb B (.fresh 0 0 (!B)) []:=⟨Z,Z,Z,.nil,Z,.nil,λv h=>by simp at h,.inl ⟨Z,by simp⟩⟩
def a2I(h:Q (.ref s⁻¹) { s with heap:=s.heap.push (lY #[] 0 (.fresh 0 0 (!qd w)))}):wpAny (model prog w) A (newSet (.type "set")) Q E s:=by
 unfold newSet;refine M (sY ?_);dsimp only;simp only[newObj];exact M (wpAny_alloc (aq h))
def jq.type(S:jq B s.heap a L1):s.TypeIs (.ref a) "set" := let⟨_,_,_,ho,_⟩:=S;⟨_,ho,Z⟩
def Vi{Q:Bool->Shared->Prop}(S:jq B s.heap a L1)(h:Q true s):wpAny (model prog w) A (isAnySet (.ref a)) Q E s:=by
 unfold isAnySet orM;exact M (vM S.type Vg (aq h))
def υ(S:jq (qd w) s.heap a L1)(D:qO s.heap a)
  (h:∀h' L,(∀b o,s.heap.get? b=some o->h'.get? b=some o)->jq (qd w) h' s⁻¹ L->(∀u,u∈L↔u∈L1)->Q (.ref s⁻¹) { s with heap:=h'}):wpAny (model prog w) A (copyOf a) Q E s:=by
 unfold copyOf baseOf;refine M (M (vM S.type Vg (aq ?_)));simp only[if_true];refine M (a2I ?_);show wpAny _ _ (do setMerge s⁻¹ a;pure (Value.ref s⁻¹)) _ _ _;have lt:a<s⁻¹:=by
  obtain⟨_,_,_,ho,_⟩:=S;exact aY ho
 have k:∀b o,s.heap.get? b=some o->(s.heap.push (lY #[] 0 (.fresh 0 0 (!qd w)))).get? b=some o:=λb o e=>bL _ e;refine M (Q6 (s:={ s with heap:=s.heap.push (lY #[] 0 (.fresh 0 0 (!qd w)))}) (L1:=[]) (gG lt) ⟨#[],0,_,bW _ rfl,.nil,Q8 _⟩ (S.keep (k a)) (D.keep (k a)) (λs' Q' _ q=>aq q) λh' L sb S' mem=>?_);refine aq (h h' L (λb o e=>?_) S' λu=>by grind);have lb:=aY e;rw[sb.2 b (b7 lb)];exact k b o e
def Jg{es:Array (Int×Value)}{ep:Nat}{t:SetTable}{Q:Nat->Shared->Prop}(ho:s.heap.get? a=some (lY es ep t))(hE:Es es L1)(T:Tb B t L1)(h:Q ep s):wpAny (model prog w) A (setEpoch a) Q E s :=
 wpAny_setEpoch_of ho Z (by rw[hE.len];exact T.fits) h
def ý{id:String}(ne:a≠b)(S1:jq (qd w) s.heap a L1)(D1:qO s.heap a)(S2:jq (qd w) s.heap b L2)(D2:qO s.heap b)
  (h:∀h' L,(∀b o,s.heap.get? b=some o->h'.get? b=some o)->jq (qd w) h' s⁻¹ L->(∀u,u∈L↔u∈L1\/u∈L2)->Q (.ref s⁻¹) { s with heap:=h'}) :
  wpAny (model prog w) A (Pj id a (.ref b)) Q E s:=by
 unfold Pj;refine M (υ S1 D1 λh1 L k S mem=>?_);have nb:(Value.ref b != Value.ref a)=true:=()
 rw[nb];simp only[if_true];have S2':=S2.keep (k b);have D2':=D2.keep (k b);have lt:b<s⁻¹:=by
  obtain⟨_,_,_,ho,_⟩:=S2;exact aY ho
 have S2c:=S2';obtain⟨es,ep,t,ho,hE,T⟩:=S2c;show wpAny _ _ (holding [Value.ref s⁻¹] (updateFrom id s⁻¹ (.ref b)) >>= λ_=>pure (Value.ref s⁻¹)) _ _ _;refine M (fG ?_);unfold updateFrom;refine M (Vi (s:={ s with heap:=h1}) S2' ?_);simp only[if_true];show wpAny _ _ (merge id s⁻¹ b) _ _ _;unfold merge;refine M (Jg (s:={ s with heap:=h1}) ho hE T (Q6 (s:={ s with heap:=h1}) (gG lt) S S2' D2' (λs' Q' ks q=>?_) λh' L' sb S' mem'=>?_))
 ·unfold unchanged;refine M (Jg (s:=s') (ks _ ho) hE T ?_);simp only[bne_self_eq_false,Bool.false_eq_true,if_false];exact aq q
 ·refine aq (h h' L' (λc o e=>?_) S' λu=>by rw[mem' u,mem u]);rw[sb.2 c (b7 (aY e))];exact k c o e
def a4T(ne:a≠b)(S1:jq (qd w) s.heap a L1)(D1:qO s.heap a)(S2:jq (qd w) s.heap b L2)(D2:qO s.heap b)
  (h:∀h' L,(∀b o,s.heap.get? b=some o->h'.get? b=some o)->jq (qd w) h' s⁻¹ L->(∀u,u∈L↔u∈L1\/u∈L2)->Q (.ref s⁻¹) { s with heap:=h'}) :
  wpAny (model prog w) A (binaryOp .BitOr (.ref a) (.ref b)) Q E s:=by
 refine wpAny_binaryOp_same S1.type S2.type F.fills_set_or F.slot_set_or (gF F.slot_set_or S1.type û ?_ (F.args_set_or_2 _ _));rw[or_eq];refine M (m:=slot1 "__or__" _) (aq ?_);dsimp only;unfold andM;refine M (M (Vi S1 (Vi S2 ?_)));simp only[Bool.not_true,Bool.false_eq_true,if_false];show wpAny _ _ (Pj _ a (.ref b) >>= λv=>ret v) _ _ _;refine M (ý ne S1 D1 S2 D2 λh' L k S mem=>?_);exact aq ⟨_,Z,by simp,h h' L k S mem⟩
end
end Sm
namespace Sm
def lZ:Slot "set_iterator" "__next__" "set_iterator.__next__" := .of (owner:="set_iterator") (n:="__next__") (by rw[typeLookup_type,builtinLookup_eq_fast];kernel_rfl) () () () (by first|exact .inl ()|exact .inr ()) (by rw[T8];kernel_rfl)
def zF:entryFor table "set_iterator.__next__" = some Builtin.«set_iterator.__next__» := entryFor_of_fast (by kernel_rfl)
def Cm(a:Value):argsOk "set_iterator.__next__" ⟨[a],[]⟩:=by unfold argsOk;kernel_rfl
def Cp:Slot "set_iterator" "__iter__" "set_iterator.__iter__" := .of (owner:="set_iterator") (n:="__iter__") (by rw[typeLookup_type,builtinLookup_eq_fast];kernel_rfl) () () () (by first|exact .inl ()|exact .inr ()) (by rw[T8];kernel_rfl)
def Pk(a:Value):argsOk "set_iterator.__iter__" ⟨[a],[]⟩:=by unfold argsOk;kernel_rfl
end Sm
namespace Sm
variable{es:Array (Int×Value)}{ep:Nat}
def KZ:entryFor table "set_iterator.__iter__" = some Builtin.«dict_keyiterator.__iter__» := T9 (id':="dict_keyiterator.__iter__") (by kernel_rfl) Z () (by kernel_rfl)
def walked(w:World)(a:Addr)(ep:Nat)(es:Array (Int×Value)):Array (Int×Value):=if qd w=true then pickOrder (w.params.setOrder a ep) es else es
def Fx(w:World)(a:Addr)(ep:Nat)(es:Array (Int×Value)):(walked w a ep es).toList.Perm es.toList:=by
 unfold walked;split
 ·exact Mf _ _
 ·exact .rfl
def qP(w:World)(a:Addr)(ep:Nat)(es:Array (Int×Value)):(walked w a ep es).size=es.size:=by
 have:=(Fx w a ep es).length_eq;simpa using this
def χ(a:Addr)(slot given epochThen:Nat):setNext a slot given epochThen=(do
 let(xs,c,tb) <-setState a
 if <-setsByText then
  if c != epochThen then
   unsupported "set_iterator.__next__:elements-changed"
  let zs <-setWalk a
  return (zs[given]?).map λz=>(z.2,slot)
 if !tb.plain&&xs.size>1 then
  unsupported "set_iterator.__next__:the-table-is-plain-no-more"
 (do if !tb.led && !xs.isEmpty then unsupported "set:maker-not-led" : Sem Unit)
 return match xs[SetTable.below tb.place slot]?,tb.place[SetTable.below tb.place slot]? with
  |some (_,z),some m=>some (z,m+1)
  |_,_=>none):=rfl
def oO(B:Bool)(t:SetTable)(i:Nat):Nat:=if B=true then 0 else if i=0 then 0 else t.place.getD (i-1) 0+1
def Vj{B:Bool}{t:SetTable}{L:List Nat}(T:Tb B t L)(hB:B=false):∀i,i<=L.length->SetTable.below t.place (oO B t i)=i
 |0,_=>by
  unfold oO
  rw[hB]
  exact Va T.up
 |k+1,h=>by
  unfold oO
  rw[hB]
  have hk:k<t.place.size:=by rw[T.sz];omega
  simp only[Bool.false_eq_true,if_false,Nat.add_sub_cancel]
  rw[aB ()]
  have:t.place.getD k 0=t.place[k]:=by simp[Array.getD,hk]
  rw[this]
  exact Vb T.up hk
section
variable{prog:Program}{w:World}{A:Around}{E:Value->Shared->Prop}{s:Shared}{a:Addr}{L:List Nat}
def a0a{t:SetTable}{Q:Array (Int×Value)->Shared->Prop}(ho:s.heap.get? a=some (lY es ep t))(hE:Es es L)(T:Tb (qd w) t L)
  (h:Q (walked w a ep es) s):wpAny (model prog w) A (setWalk a) Q E s:=by
 rw[W4];refine M (jF ho hE T (M (sY ?_)));have pl:=T.pl;have ld:=T.led;unfold walked at h;cases c:qd w with
 |true =>
  rw[c]at h;simp only[if_true]at h ⊢;exact M (N5 (aq h))
 |false =>
  rw[c]at ld h;simp only[pl,ld,Bool.not_true,Bool.not_false,Bool.false_and,Bool.false_eq_true,if_false]at h ⊢;first|exact M (aq (aq h))|exact aq h
def Q9{i:Nat}{t:SetTable}{Q:Option (Value×Nat)->Shared->Prop}(ho:s.heap.get? a=some (lY es ep t))(hE:Es es L)(T:Tb (qd w) t L)(hi:i<=L.length)
  (h:Q (((walked w a ep es)[i]?).map λe=>(e.2,oO (qd w) t (i+1))) s):wpAny (model prog w) A (setNext a (oO (qd w) t i) i ep) Q E s:=by
 rw[χ];refine M (jF ho hE T (M (sY ?_)));have pl:=T.pl;have ld:=T.led;cases c:qd w with
 |true =>
  simp only[if_true,bne_self_eq_false,Bool.false_eq_true,if_false];refine M (a0a ho hE T (aq ?_));rw[c]at h;unfold oO at h ⊢;grind
 |false =>
  rw[c]at ld h;simp only[pl,ld,Bool.not_true,Bool.not_false,Bool.false_and,Bool.false_eq_true,if_false];have bs:=Vj T c i hi;rw[c]at bs;rw[bs];have wk:walked w a ep es=es:=by unfold walked;rw[c];rfl
  rw[wk]at h;have e:(match es[i]?,t.place[i]? with
   |some (_,z),some m=>some (z,m+1)
   |_,_=>none)=(es[i]?).map λe=>(e.2,oO false t (i+1)):=by
   by_cases q:i<L.length
   ·have h1:i<es.size:=by rw[hE.len];exact q
    have h2:i<t.place.size:=by rw[T.sz];exact q
    rw[w5 h1,w5 h2];unfold oO;simp[Array.getD,h2]
   ·have h1:es[i]?=none:=Np (by rw[hE.len];omega);rw[h1];rfl
  first
  |exact M (aq (aq (by rw[e];exact h)))
  |exact aq (by rw[e];exact h)
abbrev Š(sl i:Nat)(a:Addr)(n ep:Nat):Obj:={ cls:=.type "set_iterator",dict:=none,data:=.fields #[.int (sl:Nat) 0,.int (i:Nat) 0,.ref a,.int (n:Nat) 0,.int (ep:Nat) 0],slots:=#[]}
def item_at{I:Addr}{i:Nat}{t:SetTable}{e:Int×Value}{Q:Option Value->Shared->Prop}(ne:a≠I)(ho:s.heap.get? a=some (lY es ep t))(hE:Es es L)(T:Tb (qd w) t L)
  (hI:s.heap.get? I=some (Š (oO (qd w) t i) i a L.length ep)) (hw:(walked w a ep es)[i]?=some e)
  (h:∀h',h'.get? I=some (Š (oO (qd w) t (i+1)) (i+1) a L.length ep)->Heap.SameBut I s.heap h'->Q (some e.2) { s with heap:=h'}):wpAny (model prog w) A (pyNext (.ref I)) Q E s:=by
 have hi:i<L.length:=by
  rcases xM i (walked w a ep es).size with q|q
  ·rw[qP,hE.len]at q;exact q
  grind
 have hT:s.TypeIs (.ref I) "set_iterator" :=⟨_,hI,Z⟩;unfold pyNext;refine M (tK (oE (name:=Str.ofString "__next__") hT lZ (gF lZ hT zF ?_ (Cm _))));unfold Builtin.«set_iterator.__next__»;refine M (m:=slotArgs "__next__" 0 _) (aq ?_);dsimp only;refine M (DQ hI Z ?_);dsimp only;unfold setEntries;refine M (M (jF ho hE T (aq ?_)));have z:(((es.size:Nat):Int) !=((L.length:Nat):Int))=false:=by rw[hE.len];simp
 dsimp only;rw[z];simp only[Bool.false_eq_true,if_false,Int.toNat_natCast];refine M (Q9 ho hE T () ?_);rw[hw];dsimp only[Option.map];refine M (iR hI (by simp) λh1 hI1 Eg=>M (iR (s:={ s with heap:=h1}) hI1 (by simp) λh2 hI2 Q7=>aq ⟨_,Z,aq (h h2 ?_ (Eg.trans Q7))⟩));rw[hI2];simp[rawInt]
def Jh{I:Addr}{t:SetTable}{Q:Option Value->Shared->Prop}(hh:A.handled=none)(ne:a≠I)(ho:s.heap.get? a=some (lY es ep t))(hE:Es es L)(T:Tb (qd w) t L)
  (hI:s.heap.get? I=some (Š (oO (qd w) t L.length) L.length a L.length ep))
  (h:∀h',Heap.ExtBut I s.heap h'->Q none { s with heap:=h'}):wpAny (model prog w) A (pyNext (.ref I)) Q E s:=by
 have hT:s.TypeIs (.ref I) "set_iterator" :=⟨_,hI,Z⟩;unfold pyNext;refine M (tK (oE (name:=Str.ofString "__next__") hT lZ (gF lZ hT zF ?_ (Cm _))));unfold Builtin.«set_iterator.__next__»;refine M (m:=slotArgs "__next__" 0 _) (aq ?_);dsimp only;refine M (DQ hI Z ?_);dsimp only;unfold setEntries;refine M (M (jF ho hE T (aq ?_)));have z:(((es.size:Nat):Int) !=((L.length:Nat):Int))=false:=by rw[hE.len];simp
 dsimp only;rw[z];simp only[Bool.false_eq_true,if_false,Int.toNat_natCast];refine M (Q9 ho hE T () ?_);rw[Np (by rw[qP,hE.len];grind)];dsimp only[Option.map];refine M (iR hI (by simp) λh1 hI1 Eg=>M ?_);simp only[newExc,newTuple];refine M (j8 ?_ (by size_fits));refine M (m:=firstArgMember _ _) (Il (a:=Value.none) (by first|rfl|(simp only[firstArgMember];rfl)) ?_);refine j8 ?_ (by size_fits);simp only[raiseNew];refine M (Oe ?_);rw[show A.in1.handled=none from hh];refine M (aq (Oi ?_));exact M (vM (U:="StopIteration") (T:="StopIteration") (b:=true) ⟨_,bW _ Z,Z⟩ Ii (aq (h _ ((Eg.extBut.push _).push _))))
end
end Sm
namespace Sm
open PyProof.Rows
variable{a:Addr}{es:Array (Int×Value)}{ep:Nat}
section
variable{prog:Program}{w:World}{A:Around}{E:Value->Shared->Prop}{s:Shared}{L:List Nat}
def a2J{I:Addr}{t:SetTable}(hh:A.handled=none)(ne:a≠I)(hE:Es es L)(T:Tb (qd w) t L) :
  Walks prog w A I [I,a] [I] L.length (λi v=>∃e,(walked w a ep es)[i]?=some e/\v=e.2)
   (λi h=>h.get? I=some (Š (oO (qd w) t i) i a L.length ep)/\h.get? a=some (lY es ep t)) where
 sub:=λb hb=>by grind
 frame:=λ_ _ _ st hk=>⟨hk I (by simp) _ st.1,hk a (by simp) _ st.2⟩
 item:=λi s Q E hi st hQ=>by
  obtain⟨e,he⟩:∃e,(walked w a ep es)[i]?=some e:=⟨_,w5 (by rw[qP,hE.len];exact hi)⟩
  refine item_at ne st.2 hE T st.1 he λh' hI sb=>?_
  exact hQ _ h' s.toks ⟨e,he,Z⟩ ⟨hI,by rw[sb.2 a ne];exact st.2⟩ λb o hb q=>by rw[sb.2 b (λc=>hb (by simp[c]))];exact q
 done:=λs Q E st hQ=>Jh hh ne st.2 hE T st.1 λh' xb=>hQ h' s.toks λb o hb q=>xb b o (λc=>hb (by simp[c])) q
 self:=λi s Q E st hQ=>by
  have hT:s.TypeIs (.ref I) "set_iterator" :=⟨_,st.1,Z⟩
  refine Ia hT Cp (gF Cp hT KZ ?_ (Pk _))
  show wpAny _ _ (ret (Value.ref I)) _ _ s;exact aq ⟨_,Z,"set_iterator",_,hT,lZ.lookup,hQ⟩
def þ(a:Addr):setDrawn a=(do
 let(es,_,t) <-setState a
 let byText <-setsByText
 return !byText&&(!t.plain&&es.size>1)):=rfl
def Cq{t:SetTable}{Q:Value->Shared->Prop}(ho:s.heap.get? a=some (lY es ep t))(hE:Es es L)(T:Tb (qd w) t L)
  (h:Q (.ref s⁻¹) { s with heap:=s.heap.push (Š 0 0 a L.length ep)}):wpAny (model prog w) A (pyIter (.ref a)) Q E s:=by
 have hT:s.TypeIs (.ref a) "set" :=⟨_,ho,Z⟩;refine Ia hT F.slot_set_iter (gF F.slot_set_iter hT Vh ?_ (F.args_set_iter_1 _));unfold Builtin.«frozenset.__iter__»;refine M (m:=Builtin.Frozenset.slot0 _ _) (aq ?_);unfold Builtin.Frozenset.sizeOf setEntries;refine M (M (M (jF ho hE T (aq (aq ?_)))));rw[þ];refine M (M (jF ho hE T (M (sY (aq ?_)))));rw[T.pl];simp only[Bool.not_true,Bool.false_and,Bool.and_false,Bool.false_eq_true,if_false];refine M (aq (M (Jg ho hE T (M ?_))));unfold newFields;refine j8 (aq ⟨_,Z,"set_iterator",_,⟨_,bW _ Z,Z⟩,lZ.lookup,?_⟩);rw[hE.len];exact h
def a0b:(Value.type "set" == Value.type "list")=false:=by decide
def a2K:(Value.type "set" == Value.type "tuple")=false:=by decide
def ÿ:typeLookup (.type "set") "__len__" = pure (some (.builtin "set.__len__")):=F.slot_set_len.lookup
def split_len:splitId "set.__len__" = some ("set","__len__"):=by decide
def Ra{t:SetTable}{Q:List Value->Shared->Prop}(hh:A.handled=none)(ho:s.heap.get? a=some (lY es ep t))(hE:Es es L)(T:Tb (qd w) t L)
  (h:∀(h':Heap) (tk:Nat),(∀b o,s.heap.get? b=some o->h'.get? b=some o)->s⁻¹<h'.objs.size->Q ((walked w a ep es).toList.map (·.2)) { s with heap:=h',toks:=tk}):wpAny (model prog w) A (collect (.ref a)) Q E s:=by
 have lt:a<s⁻¹:=aY ho;unfold collect;refine M (wpAny_runValue (oG F.entry_proto_collect ?_));rw[qg F.plain_proto_collect _];show wpAny _ A.in1 (newList [] >>= λl=>again (.builtin "list.__iadd__" ⟨[l,.ref a],[]⟩)) _ _ s;refine M (j8 (aq ⟨rQ F.plain_list_iadd _,oG F.entry_list_iadd ?_⟩));rw[qg F.plain_list_iadd _];have S0:(s.heap.push { cls:=.type "list",data:=.seq ([]:List Value).toArray}).get? s⁻¹=some { cls:=.type "list",data:=.seq ([]:List Value).toArray}:=bW _ rfl;have ho1:(s.heap.push { cls:=.type "list",data:=.seq ([]:List Value).toArray}).get? a=some (lY es ep t):=bL _ ho;have hT1:Shared.TypeIs { s with heap:=s.heap.push { cls:=.type "list",data:=.seq ([]:List Value).toArray}} (.ref a) "set" :=⟨_,ho1,rfl⟩;show wpAny _ A.in1 (Builtin.List.listExtendWith (.ref s⁻¹) (.ref a) (.ref s⁻¹)) _ _ { s with heap:=s.heap.push { cls:=.type "list",data:=.seq ([]:List Value).toArray}};unfold Builtin.List.listExtendWith;refine M (vQ hT1 ?_);have n1:Builtin.List.listSameRef (.ref s⁻¹) (.ref a)=false:=by simp[Builtin.List.listSameRef,Nat.ne_of_gt lt]
 simp only[n1,a0b,a2K,Bool.or_false,Bool.false_eq_true,if_false];refine M (Cq ho1 hE T (M (fG ?_)));have ho2:((s.heap.push { cls:=.type "list",data:=.seq ([]:List Value).toArray}).push (Š 0 0 a L.length ep)).get? a=some (lY es ep t):=bL _ ho1;have hT2:Shared.TypeIs { s with heap:=(s.heap.push { cls:=.type "list",data:=.seq ([]:List Value).toArray}).push (Š 0 0 a L.length ep)} (.ref a) "set" :=⟨_,ho2,rfl⟩;unfold Builtin.List.listLengthHint;refine M (Ig hT2 ÿ ?_);dsimp only;rw[split_len];dsimp only;refine M (vM hT2 Vg ?_);rw[aB ()];rw[aG ()];refine M (vQ hT2 ?_);dsimp only;refine aq ?_;rw[aG ()];refine M (kE ?_);have lsz:(s.heap.push { cls:=.type "list",data:=.seq ([]:List Value).toArray}).objs.size=s⁻¹+1:=Ol _ _;have S1:((s.heap.push { cls:=.type "list",data:=.seq ([]:List Value).toArray}).push (Š 0 0 a L.length ep)).get? s⁻¹=some { cls:=.type "list",data:=.seq ([]:List Value).toArray}:=bL _ S0;refine M ?_;show wpAny _ A.in1 (updateSeq s⁻¹ (·.push .none) >>= λ_=>updateSeq s⁻¹ (·.pop)) _ _ _;refine M (Oa S1 Z ?_);have S2:=zW (Obj.mapSeq (·.push Value.none)) S1 rfl;refine Oa S2 Z ?_;have S3:=zW (Obj.mapSeq (·.pop)) S2 rfl;have oth:∀b o,b≠s⁻¹->((s.heap.push { cls:=.type "list",data:=.seq ([]:List Value).toArray}).push (Š 0 0 a L.length ep)).get? b=some o->
   ((((s.heap.push { cls:=.type "list",data:=.seq ([]:List Value).toArray}).push (Š 0 0 a L.length ep)).update s⁻¹ (Obj.mapSeq (·.push Value.none))).update s⁻¹ (Obj.mapSeq (·.pop))).get? b=some o :=
  λb o hb e=>(Nm _ _ (Ne.symm hb)).trans ((Nm _ _ (Ne.symm hb)).trans e)
 have neI:a≠(s.heap.push { cls:=.type "list",data:=.seq ([]:List Value).toArray}).objs.size:=()
 have W:=(a2J (prog:=prog) (w:=w) (A:=A.in1) (I:=(s.heap.push { cls:=.type "list",data:=.seq ([]:List Value).toArray}).objs.size) (ep:=ep) () neI hE T).toS;have l16:=T.len;have sl0:oO (qd w) t 0=0:=by unfold oO;split<;>rfl
 refine aq ⟨rQ F.plain_extend_loop _,codeAny_extend_loopS W (by rw[jC];omega) _ (by
   grind) _ _ 0 _ #[] _ Z (dw _) ⟨?_,?_⟩ S3 (ItemsOf.nil _) λs' acc' c' hm hS' hacc=>?_⟩
 ·refine oth _ _ () ?_;rw[sl0];exact bW _ rfl
 ·exact oth _ _ (b7 lt) ho2
 ·obtain⟨h',g',d',tk',os'⟩:=s';have eg:g'=s.gens:=hm.gens;have ed:d'=s.drawn:=hm.drawn;have eo:os'=s.os:=hm.os;subst eg;subst ed;subst eo;show wpAny _ A (load s⁻¹ >>= _) _ _ _;refine M (wpAny_load hS' ?_);dsimp only;have el:acc'.toList=(walked w a ep es).toList.map (·.2):=by
   apply List.ext_getElem?;intro i;rw[HJ,dU,HJ];rcases xM i acc'.size with q|q
   ·obtain⟨e,he,hv⟩:=hacc.2 i acc'[i] (w5 q);rw[w5 q,he,hv];rfl
   ·rw[Np q,Np (by rw[qP,hE.len,<-hacc.1];exact q)];rfl
  rw[el];refine aq (h h' tk' (λb o e=>?_) (aY hS'));have lb:b<s⁻¹:=aY e;refine hm.heap b o () (oth b o (b7 lb) (bL _ (bL _ e)))
def a2L{h:Heap}{b:Addr}{vs:List Value}{out:Array Value}{o:Obj}(lb:b<h.objs.size)(ne:b≠a)(e:h.get? b=some o):(sortedHeap h a vs out).get? b=some o:=by
 unfold sortedHeap;rw[Nu _ _ _ _ ne];exact bL _ (bL _ (by rw[Nu _ _ _ _ ne];exact e))
def a4U{h:Heap}{vs:List Value}{xs out:Array Value}{n:Nat}(e:h.get? a=some (seqObj "list" xs n)):∃n',(sortedHeap h a vs out).get? a=some (seqObj "list" out n'):=by
 unfold sortedHeap;exact⟨_,T6 (bL _ (bL _ (T6 e λ_=>#[]))) λ_=>out⟩
def Vk{Q:Value->Shared->Prop}(hh:A.handled=none)(S:jq (qd w) s.heap a L)
  (h:∀(h':Heap) (tk:Nat) (p:Addr) (vs:List Value) (n:Nat) (ns:List Int),(∀b o,s.heap.get? b=some o->h'.get? b=some o)->s⁻¹<=p->h'.get? p=some (seqObj "list" vs.toArray n)->IntsAre vs ns->
   ns.Perm (L.map λv=>((v:Nat):Int))->ns.Pairwise (· <= ·)->Q (.ref p) { s with heap:=h',toks:=tk}):wpAny (model prog w) A (call (.builtin "sorted") [.ref a]) Q E s:=by
 obtain⟨es,ep,t,ho,hE,T⟩:=S;have l16:=T.len;apply Z7 kind_sorted plain_sorted entry_sorted (args_sorted1 _);unfold Builtin.«sorted»;refine M (m:=checkCount "sorted" 1 1 _) (aq ?_);refine M (Ra (by simpa using hh) ho hE T λh1 tk k lz=>?_);obtain⟨L',hP,pm⟩:=hE.perm (Fx w a ep es);have hl:L'.length=L.length:=pm.length_eq;have hI:IntsAre ((walked w a ep es).toList.map (·.2)) (L'.map λv=>((v:Nat):Int)):=by
  generalize (walked w a ep es).toList=l at hP;clear pm hl
  induction hP with
  |nil=>exact .nil
  |cons r _ ih =>
   obtain⟨q,e⟩:=r.2;rw[cL,cL,e];exact .cons _ q ih
 have hn:((walked w a ep es).toList.map (·.2)).length=L.length:=by rw[aK,vI,qP,hE.len]
 refine M (Uc ?_ (by rw[hn,jC];omega));have o1:(h1.push (seqObj "list" ((walked w a ep es).toList.map (·.2)).toArray 0)).get? h1.objs.size=some (seqObj "list" ((walked w a ep es).toList.map (·.2)).toArray 0):=bW _ rfl;refine M (fG (gF slot_list_sort ⟨_,o1,Z⟩ entry_list_sort (list_sort_tree o1 hI (by rw[hn];omega) λout ns a1 a2 a3=>⟨_,Z,?_⟩) (args_list_sort _)));obtain⟨n',o2⟩:=a4U (vs:=(walked w a ep es).toList.map (·.2)) (out:=out) o1;refine aq ⟨_,Z,h _ _ _ out.toList n' ns (λb o e=>?_) (eO lz) (by simpa using o2) a1 (a2.trans (pm.map _)) a3⟩;have lb:b<h1.objs.size:=uK (aY e) lz;exact a2L (by rw[Ol];exact HX lb) (b7 lb) (bL _ (k b o e))
end
end Sm
namespace Sm
open PyProof.Rows
section
variable{prog:Program}{w:World}{A:Around}{R:Result->Shared->Prop}{I:Addr}{fp wr:List Addr}{G:Array GenState->Array GenState->Prop}{n:Nat}{P:Nat->Value->Prop}{St:Nat->Shared->Prop}
def a0c(W:WalksS prog w A.in1 I fp wr G n P St)(S:Addr)(nf:S∉fp)(val:Nat->Nat)(hv:∀i v,i<n->P i v->∃t,v=.int ((val i:Nat):Int) t)(lt:∀i,i<n->val i<16) :
  ∀(k i:Nat) (s:Shared) (L:List Nat),n-i=k->i<=n->St i s->jq (qd w) s.heap S L->qO s.heap S->(∀u,u∈L↔∃j,j<i/\val j=u)->
   (∀s' L',Moved (S::wr) G s s'->jq (qd w) s'.heap S L'->qO s'.heap S->(∀u,u∈L'↔∃j,j<n/\val j=u)->R (.ok (.ret .none)) s')->
   codeAny (model prog w) A (.builtin "set.update.loop" ⟨[.ref S,.ref I],[]⟩) R s:=by
 have nw:S∉wr:=λh=>nf (W.sub _ h);have up:∀b∈wr,b∈S::wr:=λb hb=>bC _ hb;intro k
 induction k with
 |zero =>
  intro i s L hk hi st hS hD mem hR;obtain rfl:i=n:=()
  refine oG F.entry_set_update_loop ?_;rw[qg Sv _];show wpAny _ A.in1 (pyNext (.ref I) >>= _) _ _ s;refine M (W.done s _ _ st λs' hm=>?_);exact aq (hR s' L (hm.mono up) (hS.keep λo e=>hm.heap S o nw e) (hD.keep λo e=>hm.heap S o nw e) mem)
 |succ k ih =>
  intro i s L hk hi st hS hD mem hR;have li:i<n:=()
  refine oG F.entry_set_update_loop ?_;rw[qg Sv _];show wpAny _ A.in1 (pyNext (.ref I) >>= _) _ _ s;refine M (W.item i s _ _ li st λv s' hP st' hm=>?_);obtain⟨t,rfl⟩:=hv i v li hP;have hS':=hS.keep λo e=>hm.heap S o nw e;have hD':=hD.keep λo e=>hm.heap S o nw e;show wpAny _ A.in1 (holding [Value.int ((val i:Nat):Int) t] (setAdd S (.int ((val i:Nat):Int) t)) >>= _) _ _ s';refine M (fG ?_);unfold setAdd;refine fG (M ((intKind prog w).pyHash (k:=((val i:Nat):Int)) (intKind_is _ _ _ _) ?_));have eh:(intKind prog w).hash ((val i:Nat):Int)=((val i:Nat):Int):=Vf _ (lt i li);rw[eh];refine ö (s:={ s' with toks:=s'.toks+1}) hS' (lt i li) λb h' L' sb S2 a7p dn=>aq ⟨rQ Sv _,ih (i+1) _ L' () li (W.frame _ s' _ _ st' (vR _) λc hc o e=>?_) S2 (dn hD') (λu=>?_) λs2 L2 hm2 h2 h3 h4=>hR s2 L2 (Moved.trans W.gtrans ((hm.mono up).then_heap (vR _) λc o hc e=>?_) hm2) h2 h3 h4⟩
  ·rw[sb.2 c (λq:c=S=>nf ())];exact e
  ·grind
  ·rw[sb.2 c (λq:c=S=>hc ())];exact e
end
section
variable{prog:Program}{w:World}{A:Around}{E:Value->Shared->Prop}{s:Shared}
def a0d(a:Value){Q:Value->Shared->Prop}(h:Q (.ref s⁻¹) { s with heap:=s.heap.push (lY #[] 0 (.fresh 0 0 (!qd w)))}) :
  codeAny (model prog w) A (.call (.builtin "set.__new__") ⟨[.type "set",a],[]⟩) (wants Q E) s:=by
 refine codeAny_of_tree ?_;show wpAny _ A.in1 (do checkBuiltinCall "set.__new__" ⟨[.type "set",a],[]⟩;again (.builtin "set.__new__" ⟨[.type "set",a],[]⟩)) _ _ s;refine M (Il (F.newCall_set_1 a) (aq ⟨rQ F.plain_set_new _,oG F.entry_set_new ?_⟩));rw[qg F.plain_set_new _];unfold Builtin.«set.__new__» Builtin.Frozenset.newClass;have hsub:=sub_set_self;obtain⟨hp,g,d,tk,os⟩:=s;dsimp only at h ⊢
 wp_walk
 refine N5 (aq ?_);dsimp only;simp only[newObj];exact M (wpAny_alloc (aq (aq h)))
def a2M{l:Addr}{items:Array Value}{vals:List Nat}{Q:Value->Shared->Prop}(hh:A.handled=none)(hl:s.heap.IsList l items)(hi:IntsAre items.toList (vals.map λv=>((v:Nat):Int)))(lt:∀v∈vals,v<16)
  (h:∀(h':Heap) (tk:Nat) (L:List Nat),jq (qd w) h' s⁻¹ L->qO h' s⁻¹->(∀u,u∈L↔u∈vals)->(∀b o,b<s⁻¹->s.heap.get? b=some o->h'.get? b=some o)->Q (.ref s⁻¹) { s with heap:=h',toks:=tk}) :
  wpAny (model prog w) A (call (.type "set") [.ref l]) Q E s:=by
 obtain⟨c,tl,hmro⟩:=F.called_set.mro;have hmade:=F.called_set.made;have hsub:=F.called_set.sub;have hlen:items.size=vals.length:=by
  have:=hi.length;simpa using this
 refine wpAny_call (codeAny_of_tree ?_);show wpAny _ _ (callAny (.type "set") _) _ _ _;refine aq ⟨Code.quiet_builtin _ (),oG F.entry_type_call ?_⟩;rw[Around.under_plain (weight_type_call_type "set" [.ref l] []) rfl];have h1:=F.called_set.notType;have h2:=F.called_set.canCreate;have hct:=F.typeCall_set_1 (.ref l);repeat (any_goals (first|assumption|wp_step))
 refine DW (a0d (.ref l) (E:=E) (Q:=λobj s₁=>obj=.ref s⁻¹/\s₁={ s with heap:=s.heap.push (lY #[] 0 (.fresh 0 0 (!qd w)))}) ⟨rfl,rfl⟩) λr s₁ hr=>?_;cases r with
 |error e=>exact hr
 |ok fl =>
  cases fl with
  |ret obj =>
   obtain⟨rfl,rfl⟩:=hr;have gS:(s.heap.push (lY #[] 0 (.fresh 0 0 (!qd w)))).get? s⁻¹=some (lY #[] 0 (.fresh 0 0 (!qd w))):=bW _ rfl;have hT:Shared.TypeIs { s with heap:=s.heap.push (lY #[] 0 (.fresh 0 0 (!qd w)))} (.ref s⁻¹) "set" :=⟨_,gS,rfl⟩;have hli:=F.called_set.init.lookup;have hbi:=F.called_set.init.bind (.ref s⁻¹);repeat (any_goals (first|assumption|wp_step))
   refine DW (codeAny_call_builtin (R:=wants (λr s₂=>r=.none/\∃h' tk L,s₂={ s with heap:=h',toks:=tk}/\jq (qd w) h' s⁻¹ L/\qO h' s⁻¹/\(∀u,u∈L↔u∈vals)/\
     (∀b o,b<s⁻¹->s.heap.get? b=some o->h'.get? b=some o)) E) F.called_set.init.plain F.entry_set_init (check_set_init_1 hT ?_)) λr₂ s₂ hr₂=>?_
   ·obtain⟨ol,hol,hcl,nl,hdl⟩:=hl;obtain⟨ocls,odict,odata,oslots⟩:=ol;simp only at hcl hdl;subst hcl;subst hdl;have hol':(s.heap.push (lY #[] 0 (.fresh 0 0 (!qd w)))).get? l=some { cls:=.type "list",dict:=odict,data:=.seq items nl,slots:=oslots}:=bL _ hol;have hsls:=F.sub_list_set;have hslf:=F.sub_list_frozenset;have hne:(Value.type "list" == Value.type "dict")=false:=()
    have hl1:(s.heap.push (lY #[] 0 (.fresh 0 0 (!qd w)))).IsList l items:=⟨_,hol',Z,nl,Z⟩;unfold Builtin.«set.__init__» noKeywords Builtin.Frozenset.updateFrom;generalize hPI:pyIter=PI
    wp_walk
    subst hPI;refine vJ hl1 (M (wpAny_runValue ?_));have ll:l<s⁻¹:=aY hol;have hh3:A.in1.in1.in1.handled=none:=by simp[hh]
    have ni:l≠(s.heap.push (lY #[] 0 (.fresh 0 0 (!qd w)))).objs.size:=by rw[kh];exact b7 (HX ll)
    have nf:s⁻¹∉[(s.heap.push (lY #[] 0 (.fresh 0 0 (!qd w)))).objs.size,l]:=by
     rw[kh];simp only[List.mem_cons,List.not_mem_nil,or_false,not_or];exact⟨b7 (xu _),gG ll⟩
    have hval:∀(i:Nat) (v:Value),i<items.size->items[i]?=some v->∃t,v=.int (((λi=>vals.getD i 0) i:Nat):Int) t:=λi v li hv=>by
     obtain⟨t,e⟩:=PyProof.Rows.IntsAre.int_at hi i v (by rw[HJ];exact hv);have lv:i<vals.length:=()
     refine⟨t,?_⟩;rw[e];simp[List.getD,lv]
    refine a0c ((Walks.list hh3 _ l ni items).toS) s⁻¹ nf (λi=>vals.getD i 0) hval (λi li=>?_) (items.size-0) 0 _ [] () (dw _) ⟨⟨_,bW _ Z,Z,Z⟩,(hl1.push _)⟩ ?hS0 ?hD0 (λu=>by simp) ?hR
    ·have lv:i<vals.length:=()
     refine lt _ ?_;simp[List.getD,lv]
    case hS0=>exact⟨#[],0,_,bL _ gS,.nil,Q8 _⟩
    case hD0=>exact⟨#[],0,_,bL _ gS,.inl Z⟩
    case hR =>
     intro s' L' hm hS' hD' mem;obtain⟨h',g',d',tk',os'⟩:=s';have eg:g'=s.gens:=hm.gens;have ed:d'=s.drawn:=hm.drawn;have eo:os'=s.os:=hm.os;subst eg;subst ed;subst eo;show wpAny _ _ _ _ _ _;refine aq ?_;show wpAny _ _ (ret Value.none) _ _ _;refine aq ⟨Z,h',tk',L',Z,hS',hD',λu=>?_,λb o hb e=>?_⟩
     ·rw[mem u];constructor
      ·rintro⟨j,hj,rfl⟩;have lv:j<vals.length:=()
       simp[List.getD,lv]
      ·intro hu;obtain⟨j,hj,e⟩:=rN hu;exact⟨j,(),by simp[List.getD,hj,e]⟩
     ·have b1:b≠s⁻¹:=b7 hb;have b2:b≠(s.heap.push (lY #[] 0 (.fresh 0 0 (!qd w)))).objs.size:=by rw[kh];exact b7 (HX hb)
      exact hm.heap b o (by simp only[List.mem_cons,List.not_mem_nil,or_false,not_or];exact⟨b1,b2⟩) (bL _ (bL _ e))
   ·cases r₂ with
    |error e=>exact hr₂
    |ok fl₂ =>
     cases fl₂ with
     |ret r =>
      obtain⟨rfl,h',tk,L,rfl,q1,q2,q3,q4⟩:=hr₂;repeat (any_goals (first|assumption|wp_step))
      exact h _ _ L q1 q2 q3 q4
     |_=>exact hr₂.elim
  |_=>exact hr.elim
end
end Sm
namespace L2
open PyProof.Rows Sm
def Rb(w:World)(a:Addr)(d:Bool)(L:List Nat):HO:=.ext λh=>jq (qd w) h a L/\(d=true->qO h a)
def Small(ns:List Int):Prop:=∀n∈ns,0<=n/\n<16
def Qv(p:Int->Bool):List Int:=((List.range 16).map λi=>((i:Nat):Int)).filter p
def a2N(p:Int->Bool):(Qv p).Pairwise (· < ·):=by
 unfold Qv;refine HS _ ?_;rw[Aa];exact List.pairwise_lt_range.imp λh=>by omega
def yW{p:Int->Bool}{v:Int}:v∈Qv p↔0<=v/\v<16/\p v=true:=by
 unfold Qv;rw[lG,fH];constructor
 ·grind
 ·rintro⟨h0,h1,h⟩;exact⟨⟨v.toNat,mK.mpr (),()⟩,h⟩
theorem up_eq:∀{xs ys:List Int},xs.Pairwise (· < ·)->ys.Pairwise (· < ·)->(∀v,v∈xs↔v∈ys)->xs=ys
 | [],[],_,_,_=>rfl
 | [],y::ys,_,_,h=>absurd ((h y).mpr aU) dO
 |x::xs,[],_,_,h=>absurd ((h x).mp aU) dO
 |x::xs,y::ys,hx,hy,h=>by
  obtain⟨x1,x2⟩:=zY.mp hx
  obtain⟨y1,y2⟩:=zY.mp hy
  have e:x=y:=by
   rcases bZ.mp ((h x).mp aU)with e|e
   ·exact e
   ·rcases bZ.mp ((h y).mpr aU)with f|f
    ·exact f.symm
    ·have a:=y1 x e
     have b:=x1 y f
     omega
  subst e
  congr 1
  refine up_eq x2 y2 λv=>?_
  constructor
  ·intro q
   rcases bZ.mp ((h v).mp (bC _ q))with e|e
   ·subst e;have:=x1 v q;omega
   ·exact e
  ·intro q
   rcases bZ.mp ((h v).mpr (bC _ q))with e|e
   ·subst e;have:=y1 v q;omega
   ·exact e
inductive a4V(w:World)(K:aJ)(xs:List V)(H:Hp)(Q:VK):Prop
 |mk (l ns:_) (_:xs=[.ref l]) (_:bN K H l (List.map V.int ns)) (_:Small ns) (_:∀p L H',iQ H p (Rb w p true L) H'->(∀u:Nat,u∈L↔(u:Int)∈ns)->Q (.ref p) H')
inductive a6I(w:World)(x:V)(y:V)(H:Hp)(Q:VK):Prop
 |mk (a b L1 L2:_) (_:x=.ref a) (_:y=.ref b) (_:a≠b) (_:H a=some (Rb w a true L1)) (_:H b=some (Rb w b true L2)) (_:∀p L H',iQ H p (Rb w p false L) H'->(∀u:Nat,u∈L↔u∈L1\/u∈L2)->Q (.ref p) H')
inductive a2O(w:World)(xs:List V)(H:Hp)(Q:VK):Prop
 |mk (a d L:_) (_:xs=[.ref a]) (_:H a=some (Rb w a d L)) (_:∀p H',iQ H p (.lst ((Qv λv=>decide (v.toNat∈L)).map V.int)) H'->Q (.ref p) H')
inductive a2P(K:aJ)(xs:List V)(H:Hp)(Q:VK):Prop
 |mk (l ns:_) (_:xs=[.ref l]) (_:bN K H l (List.map V.int ns)) (_:ns.length<64) (_:∀p H' zs,iQ H p (.lst (List.map V.int zs)) H'->zs.Perm ns->zs.Pairwise (· <= ·)->Q (.ref p) H')
def Eh:∀{vs:List Value}{ns:List Int},IntsAre vs ns->cM (ns.map V.int) vs
 |_,_,.nil=>.nil
 |_,_,.cons n t r=>.cons ⟨t,Z⟩ (Eh r)
def Ā{xs:List Int}{L:List Nat}(pm:xs.Perm (L.map λv=>((v:Nat):Int)))(nd:L.Nodup)(lt:∀v∈L,v<16)(le:xs.Pairwise (· <= ·)):xs=Qv λv=>decide (v.toNat∈L):=by
 have YL:xs.Nodup:=pm.nodup_iff.mpr (by
  unfold List.Nodup;rw[Aa];exact nd.imp λh e=>h ())
 have lt2:xs.Pairwise (· < ·):=by
  unfold List.Nodup at YL;exact(le.and YL).imp λh=>by omega
 refine up_eq lt2 (a2N _) λv=>?_;rw[pm.mem_iff,yW,fH];constructor
 ·rintro⟨u,hu,rfl⟩;have:=lt u hu;exact⟨(),(),bA (by rw[iU];exact hu)⟩
 ·rintro⟨h0,h1,h⟩;exact⟨v.toNat,gV h,()⟩
section
variable{X:Cx}{K:aJ}{w:World}
def W6{H:Hp}{h:Heap}{a:Addr}{d:Bool}{L:List Nat}{P:Program}{w':World}(S:jq (qd w) h a L)(D:d=true->qO h a):fY P w' H h a (Rb w a d L):=by
 refine⟨⟨S,D⟩,?_,?_⟩
 ·obtain⟨_,_,_,ho,_⟩:=S;grind
 ·rintro h1 h2 ⟨s1,d1⟩ k;exact⟨s1.keep k,λe=>(d1 e).keep k⟩
def Mg(ek:X.K=K)(ew:X.w=w)(cm:X.calm=true):jT X (.type "set") (a4V w K):=by
 subst ek;subst ew;intro Y s σ H xs us Q I r h;obtain⟨l,ns,rfl,hL,sm,q⟩:=h;obtain⟨u,rfl,rx⟩:=vals1 r;cases rx;obtain⟨bV,r',pl,hz⟩:=I.list hL;have hi:=ints_of r';have e:(ns.map Int.toNat).map (λv=>((v:Nat):Int))=ns:=by
  rw[nC];have:∀n∈ns,((λv=>((v:Nat):Int))∘Int.toNat) n=id n:=λn hn=>by
   have:=(sm n hn).1;show((n.toNat:Nat):Int)=n;omega
  rw[xj this,List.map_id]
 refine a2M (vals:=ns.map Int.toNat) (I.ok.hd cm) pl.isList () (λv hv=>?_) λh' tk L S D mem k=>?_
 ·obtain⟨n,hn,rfl⟩:=fH.mp hv;have:=sm n hn;omega
 ·have hf:H s⁻¹=none:=I.hok.fresh (aM _);refine⟨.ref s⁻¹,_,I.laid (t':=tk) (o:=Rb X.w s⁻¹ true L) (λb o eo=>k b o (aY eo) eo) (aM _) (W6 S λ_=>D),Z,q _ L _ (iQ.pQ hf) λu=>?_⟩;rw[mem u,fH];constructor
  ·rintro⟨n,hn,rfl⟩;have:=(sm n hn).1;have e2:((n.toNat:Nat):Int)=n:=()
   rw[e2];exact hn
  ·intro hn;exact⟨_,hn,()⟩
def a2Q(ew:X.w=w):sX X (binaryOp .BitOr) (a6I w):=by
 subst ew;intro Y s σ H x y v u Q I rx ry h;obtain⟨a,b,L1,L2,rfl,rfl,ne,hA,hB,q⟩:=h;cases rx;cases ry;obtain⟨⟨S1,D1⟩,_⟩:=I.hok a _ hA;obtain⟨⟨S2,D2⟩,_⟩:=I.hok b _ hB;refine a4T ne S1 (D1 Z) S2 (D2 Z) λh' L k S mem=>?_;have hf:H s⁻¹=none:=I.hok.fresh (aM _);exact⟨.ref s⁻¹,_,I.laid (t':=s.toks) (o:=Rb X.w s⁻¹ false L) (λb o eo=>k b o eo) (aM _) (W6 S λe=>by cases e),Z,q _ L _ (iQ.pQ hf) mem⟩
def Pn(ew:X.w=w)(cm:X.calm=true):jT X (.builtin "sorted") (a2O w):=by
 subst ew;intro Y s σ H xs us Q I r h;obtain⟨a,d,L,rfl,hA,q⟩:=h;obtain⟨u,rfl,rx⟩:=vals1 r;cases rx;obtain⟨⟨S,_⟩,_⟩:=I.hok a _ hA;obtain⟨_,_,t,_,_,T⟩:=id S;refine Vk (I.ok.hd cm) S λh' tk p vs n ns k hp ho hi pm le=>?_;have e:=Ā pm T.nd T.lt le;subst e;have l16:(Qv λv=>decide (v.toNat∈L)).length<=16:=by rw[pm.length_eq,aK];exact T.len
 have hf:H p=none:=I.hok.fresh hp;refine⟨.ref p,_,I.laid (t':=tk) (o:=.lst ((Qv λv=>decide (v.toNat∈L)).map V.int)) k hp ⟨?_,vs,n,Eh hi,ho⟩,Z,q p _ (iQ.pQ hf)⟩;rw[aK,jC];omega
def Cr(e:X.K=K):jT X (.builtin "sorted") (a2P K):=by
 subst e;intro Y s σ H xs us Q I r h;obtain⟨l,ns,rfl,hL,h64,q⟩:=h;obtain⟨u,rfl,rx⟩:=vals1 r;cases rx;obtain⟨bV,r',pl,hz⟩:=I.list hL;have hlen:=r'.length;rw[aK]at hlen;refine sorted_ints (ns:=ns) pl.isList (ints_of r') () λout zs hi pm le=>?_;obtain⟨c,hc⟩:=sortedAll_at s.heap bV out;refine⟨.ref (s⁻¹+1),_,I.laid (t':=s.toks) (o:=.lst (zs.map V.int)) (λb o eo=>sortedAll_old eo) (vR _) ⟨?_,out.toList,c,Eh hi,by simpa using hc⟩,Z,q _ _ zs (iQ.pQ (I.hok.fresh (vR _))) pm le⟩;rw[aK,pm.length_eq,jC];omega
end
end L2
namespace L2
open PyProof.Rows
section
variable{K:aJ}{a:Addr}{xs:List V}{ix:List (Option Nat)}{g:TG}{tt:TT}{te:TE}{σ:St}{H1:Hp}{Q:VK}
def a0e(f:V->Option V)(hx:cQ K H1 a xs)(hz:xs.length<=1000)
  (hs:∀x H (N:Option V->Hp->Prop),x∈xs->aL H1 H->(∀H',aL H1 H'->N (f x) H')->g x (qM ix σ) H λσ2 H2=>tt σ2 H2 λb H3=>if b=true then te σ2 H3 λv H4=>N (some v) H4 else N none H3)
  (hd:∀H p H',aL H1 H->iQ H p (.lst (xs.filterMap f)) H'->Q (.ref p) H'):nF ix g tt te σ H1 Q (Itt K a):=by
 refine⟨λi m ys H=>m=xs.length-i/\i<=xs.length/\ys=(xs.take i).filterMap f/\aL H1 H,⟨xs.length,by simp,dw _,Z,aL.refl _⟩,?_⟩;rintro i m ys H ⟨rfl,hi,e,s⟩;have q:=s.wj hx;have z:ys.length<=sizeLine:=by
  subst e;refine cV (Ss _ _) (cV ?_ (eO (cO hz)));rw[gb];exact TF _ _
 by_cases hlt:i<xs.length
 ·refine .inr ⟨⟨xs,xs[i],q,by simp[hlt]⟩,z,λys' H'=>ys'=(xs.take (i+1)).filterMap f/\aL H1 H',λys' H' p'=>⟨xs.length-(i+1),(),Z,hlt,p'⟩,λx H' y=>?_⟩;obtain⟨e',y⟩:=y;subst e';have hx':=y xs q;have hm:x∈xs:=jz hx';obtain⟨hil,hix⟩:=fL.mp hx';have et:xs.take (i+1)=xs.take i++[x]:=by rw[zP hil,hix]
  refine hs x _ (λo H'=>match o with|some v=>(ys++[v]=(xs.take (i+1)).filterMap f/\aL H1 H')|none=>(ys=(xs.take (i+1)).filterMap f/\aL H1 H')) hm s λH' s'=>?_;cases ef:f x with
  |some v=>exact⟨by rw[e,et,w6];simp[ef],s'⟩
  |none=>exact⟨by rw[e,et,w6];simp[ef],s'⟩
 ·have ei:i=xs.length:=()
  subst ei;refine .inl ⟨⟨xs,q,aM _⟩,z,λp hp=>?_⟩;subst e;rw[je];exact hd H p _ s (iQ.pQ hp)
end
section
variable{X:Cx}{K:aJ}
inductive a4W(K:aJ)(x:V)(lo:Option Int)(hi:Option Int)(H:Hp)(Q:VK):Prop
 |mk (a xs:_) (_:x=.ref a) (_:cQ K H a xs) (_:¬(HT.lK xs.length 0 lo=0/\HT.lK xs.length xs.length hi=xs.length)) (_:∀p H',iQ H p (.tup (uM xs lo hi)) H'->Q (.ref p) H')
def GR(e:X.K=K):SlR X (a4W K):=by
 subst e;exact λY s σ H x v vl vu lo hi sl Q I rx hs pl pu ⟨a,xs,e,h,hw,q⟩=>Õ Y s σ H x v vl vu lo hi sl Q I rx hs pl pu ⟨a,xs,e,h,hw,λp hp=>q p _ (iQ.pQ hp)⟩
end
end L2
namespace L2
open PyProof.Rows
variable{H H':Hp}{O:List (List Key×V)}{w:World}{y:V}{u:Value}{X:Cx}{P:Program}{a b:Addr}{pos:Pos}{o:Option V}{h:Heap}{Q:Value->Shared->Prop}
section
variable{κ:Type} [DecidableEq κ]
def ig(O:List (κ×V))(k:κ):Option V:=(O.find? λkv=>decide (kv.1=k)).map (·.2)
def putK(O:List (κ×V))(k:κ)(v:V):List (κ×V) :=
 if(O.any λkv=>decide (kv.1=k))=true then O.map (λkv=>if kv.1=k then(kv.1,v)else kv)else O++[(k,v)]
def Ji{p:κ×V}{r:List (κ×V)}{k:κ}(e:p.1=k):ig (p::r) k=some p.2:=by simp[ig,List.find?_cons,e]
def Jj{p:κ×V}{r:List (κ×V)}{k:κ}(e:¬p.1=k):ig (p::r) k=ig r k:=by simp[ig,List.find?_cons,e]
theorem Rc(k:κ):∀O:List (κ×V),(O.any λkv=>decide (kv.1=k))=(ig O k).isSome
 | []=>rfl
 |p::r=>by
  rw[tH]
  by_cases e:p.1=k
  ·simp only[Ji e,decide_eq_true e,Bool.true_or,Option.isSome_some]
  ·rw[Jj e,cJ e,Bool.false_or];exact Rc k r
def Fy(O:List (κ×V))(k:κ)(v:V):(putK O k v).length<=O.length+1:=by
 unfold putK;split
 ·rw[aK];omega
 ·rw[cB,jJ,List.length_nil];omega
def sH.Ei{u:Option Value}(r:sH o u):o.isSome=u.isSome:=by
 cases o with
 |none=>cases u with
  |none=>rfl
  |some _=>exact(show False from r).elim
 |some _=>cases u with
  |none=>exact(show False from r).elim
  |some _=>rfl
def sH.getD{o:Option V}{u:Option Value}{d:V}{d':Value}(r:sH o u)(rd:cW d d'):cW (o.getD d) (u.getD d'):=by
 cases o with
 |none=>cases u with
  |none=>exact rd
  |some _=>exact(show False from r).elim
 |some _=>cases u with
  |none=>exact(show False from r).elim
  |some _=>exact r
def KV.val{O:List (κ×V)}{vs:List (κ×Value)}(r:KV O vs)(k:κ):sH (ig O k) (valueAt vs k):=by
 unfold KV at r
 induction r with
 |nil=>exact nD
 | @cons p q ps qs h t ih =>
  obtain⟨h1,h2⟩:=h;by_cases e:p.1=k
  ·have e':q.1=k:=h1.symm.trans e;have b:valueAt (q::qs) k=some q.2:=by simp[valueAt,List.find?_cons,e']
   rw[Ji e,b];exact h2
  ·have e':¬q.1=k:=λz=>e (h1.trans z);have b:valueAt (q::qs) k=valueAt qs k:=by simp[valueAt,List.find?_cons,e']
   rw[Jj e,b];exact ih
def KV.any{O:List (κ×V)}{vs:List (κ×Value)}(r:KV O vs)(k:κ):(O.any λkv=>decide (kv.1=k))=vs.any λkv=>decide (kv.1=k):=by
 unfold KV at r
 induction r with
 |nil=>rfl
 |cons h t ih=>rw[tH,tH,ih,h.1]
def KV.repl{O:List (κ×V)}{vs:List (κ×Value)}(r:KV O vs)(k:κ)(ry:cW y u) :
  KV (O.map λkv=>if kv.1=k then(kv.1,y)else kv) (vs.map λkv=>if kv.1=k then(kv.1,u)else kv):=by
 unfold KV at r ⊢
 induction r with
 |nil=>exact .nil
 | @cons p q ps qs h t ih =>
  rw[cL,cL];refine .cons ?_ ih;obtain⟨h1,h2⟩:=h;by_cases e:p.1=k
  ·rw[aG e,aG (h1.symm.trans e)];exact⟨h1,ry⟩
  ·rw[aB e,aB (λz=>e (h1.trans z))];exact⟨h1,h2⟩
def KV.put{O:List (κ×V)}{vs:List (κ×Value)}(r:KV O vs)(k:κ)(ry:cW y u):KV (putK O k y) (stored vs k u):=by
 unfold putK stored;rw[r.any k];by_cases e:(vs.any λkv=>decide (kv.1=k))=true
 ·rw[aG e,aG e];exact r.repl k ry
 ·rw[aB e,aB e];exact Paired.snoc r ⟨Z,ry⟩
def KV.length{O:List (κ×V)}{vs:List (κ×Value)}(r:KV O vs):O.length=vs.length:=aV r
end
def Rf{k:Key}(r:cW (kV k) u):(fC P w).is k u=true:=by
 cases k with
 |inl i=>obtain⟨t,e⟩:=(show ∃t,u=Value.int i t from r);subst e;exact Qw P w i t
 |inr x=>obtain⟨t,e⟩:=(show ∃t,u=Value.str x t from r);subst e;exact gH P w x t
theorem Mh{P:Program}{w:World}:∀{ks:List Key}{us:List Value},cM (ks.map kV) us->ItemsAre (fC P w) ks us
 | [],_,r=>by rw[List.map_nil]at r;cases r;exact .nil
 |k::ks,_,r=>by
  rw[cL]at r
  cases r with
  |cons h t=>exact .cons (Rf h) (Mh t)
abbrev KT(H:Hp):List (List Key×V)->List (List Key×Addr×Value)->Prop:=Paired λp q=>p.1=q.1/\H q.2.1=some (.tup (p.1.map kV))/\cW p.2 q.2.2
def KT.val{xs:List (List Key×Addr×Value)}(r:KT H O xs)(k:List Key):sH (ig O k) ((atKey xs k).map (·.2)):=by
 induction r with
 |nil=>exact nD
 | @cons p q ps qs h t ih =>
  obtain⟨h1,_,h2⟩:=h;by_cases e:p.1=k
  ·have e':q.1=k:=h1.symm.trans e;have b:atKey (q::qs) k=some q.2:=by simp[atKey,List.find?_cons,e']
   rw[Ji e,b];exact h2
  ·have e':¬q.1=k:=λz=>e (h1.trans z);have b:atKey (q::qs) k=atKey qs k:=by simp[atKey,List.find?_cons,e']
   rw[Jj e,b];exact ih
def KT.repl{xs:List (List Key×Addr×Value)}(r:KT H O xs)(k:List Key)(ry:cW y u) :
  KT H (O.map λkv=>if kv.1=k then(kv.1,y)else kv) (xs.map (putAt k u)):=by
 induction r with
 |nil=>exact .nil
 | @cons p q ps qs h t ih =>
  rw[cL,cL];refine .cons ?_ ih;obtain⟨h1,h2,h3⟩:=h;unfold putAt;by_cases e:p.1=k
  ·rw[aG e,aG (h1.symm.trans e)];exact⟨h1,h2,ry⟩
  ·rw[aB e,aB (λz=>e (h1.trans z))];exact⟨h1,h2,h3⟩
def KT.put{xs:List (List Key×Addr×Value)}(r:KT H O xs)(k:List Key)(hb:H b=some (.tup (k.map kV)))(ry:cW y u) :
  KT H (putK O k y) (storedH xs k b u):=by
 have e:(O.any λkv=>decide (kv.1=k))=(atKey xs k).isSome:=by
  rw[Rc,(r.val k).Ei,Option.isSome_map]
 unfold putK storedH;rw[e];by_cases q:(atKey xs k).isSome=true
 ·rw[aG q,aG q];exact r.repl k ry
 ·rw[aB q,aB q];exact Paired.snoc r ⟨Z,hb,ry⟩
def KT.keeps{xs:List (List Key×Addr×Value)}(r:KT H O xs)(ht:∀b ys,H b=some (.tup ys)->H' b=some (.tup ys)):KT H' O xs :=
 Paired.cC r λ_ _ z=>⟨z.1,ht _ _ z.2.1,z.2.2⟩
def a1v{u:HO}(ok:zu P w H h)(e:Rd H a u):fY P w H h a u:=e.ok ok
def W7{O:List (Key×V)}(ok:zu P w H h)(e:Rd H a (.dK O)):O.length<=sizeLine/\(a==sysModules)=false/\∃vs,KV O vs/\h.DictOf (fC P w) a vs :=
 show fY P w H h a (.dK O)from a1v ok e
def a4X{O:List (Key×V)}(ok:zu P w H h)(e:H a=some (.dK O)):O.length<=sizeLine/\(a==sysModules)=false/\∃vs,KV O vs/\h.DictOf (fC P w) a vs:=W7 ok (.inl e)
def Ej{ks:List Key}(ok:zu P w H h)(e:H a=some (.tup (ks.map kV))):(tupleKind (fC P w)).is h ks a:=by
 obtain⟨_,bV,r,o,h1,h2,n,h3⟩:=(show fY P w H h a (.tup (ks.map kV))from ok a _ e);exact⟨o,bV.toArray,n,h1,h2,h3,by simpa using Mh r⟩
def W8(ok:zu P w H h)(e:Rd H a (.dT O)):O.length<=sizeLine/\(a==sysModules)=false/\
  ∃xs,KT H O xs/\h.DictOfH (tupleKind (fC P w)) a xs:=by
 obtain⟨z,y,xs,r,o,es,ep,h1,h2,h3,h4,h5⟩:=(show fY P w H h a (.dT O)from a1v ok e);refine⟨z,y,xs,r,o,es,ep,h1,h2,h3,h4,λx hx=>?_,h5⟩;have all:∀{l:List (List Key×V)}{m:List (List Key×Addr×Value)},KT H l m->∀x∈m,(tupleKind (fC P w)).is h x.1 x.2.1:=by
  intro l m q
  induction q with
  |nil=>intro x hx;exact nomatch hx
  | @cons p q ps qs hq t ih =>
   intro x hx;rcases bZ.mp hx with e|hx
   ·subst e;exact Ej ok (by rw[<-hq.1];exact hq.2.1)
   ·exact ih x hx
 exact all r x hx
def Jk(ok:zu P w H h)(e:H a=some (.dT O)):O.length<=sizeLine/\(a==sysModules)=false/\
  ∃xs,KT H O xs/\h.DictOfH (tupleKind (fC P w)) a xs:=W8 ok (.inl e)
def Jl(H:Hp)(a:Addr)(y:V)(r:Option V):Prop :=
 (∃O k,Rd H a (.dK O)/\y=kV k/\r=ig O k)\/∃O k b,Rd H a (.dT O)/\y=.ref b/\H b=some (.tup (k.map kV))/\r=ig O k
def a0f(H:Hp)(a:Addr)(y v:V)(H':Hp):Prop :=
 (∃O k,H a=some (.dK O)/\y=kV k/\O.length<sizeLine/\H'=cN H a (.dK (putK O k v)))\/
 ∃O k b,H a=some (.dT O)/\y=.ref b/\H b=some (.tup (k.map kV))/\O.length<sizeLine/\H'=cN H a (.dT (putK O k v))
def Jl.t{k:List Key}(e:H a=some (.dT O))(eb:H b=some (.tup (k.map kV))):Jl H a (.ref b) (ig O k):=.inr ⟨O,k,b,.inl e,Z,eb,Z⟩
def a0f.t{k:List Key}{v:V}(e:H a=some (.dT O))(eb:H b=some (.tup (k.map kV)))(hl:O.length<sizeLine) :
  a0f H a (.ref b) v (cN H a (.dT (putK O k v))):=.inr ⟨O,k,b,e,Z,eb,hl,Z⟩
section
variable{Y:List (Addr×Obj)}{σ:St}{s:Shared}{v:V}{r:Value}{A:Around}{E:Value->Shared->Prop}
def bH.big(I:bH X Y σ H s):sysModules<s⁻¹:=by
 have h:mainGlobals<s⁻¹:=(I.mod.glob.keeps I.bk).lt;exact uK () h
def YM(hu:A.units+1<cLine)(I:bH X Y σ H s)(g:Jl H a y (some v))(ry:cW y u)(h:∀w' s',bH X Y σ H s'->cW v w'->Q w' s') :
  wpAny (model X.prog X.w) A (getItem (.ref a) u) Q E s:=by
 rcases g with⟨O,k,e,ey,l⟩|⟨O,k,b,e,ey,eb,l⟩
 ·subst ey;obtain⟨z,hd,vs,rel,dd⟩:=W7 I.hok e;obtain⟨w',hw,Ym⟩:=sH.some_of (v:=v) (o:=valueAt vs k) (by rw[l];exact rel.val k);exact wpAny_getItem_of (Rf ry) dd.mapOf hw (h w' _ (I.tok _) Ym)
 ·subst ey;cases(show u=Value.ref b from ry);obtain⟨z,hd,xs,rel,dd⟩:=W8 I.hok e;obtain⟨w',hw,Ym⟩:=sH.some_of (v:=v) (o:=(atKey xs k).map (·.2)) (by rw[l];exact rel.val k);obtain⟨p,hp,hp2⟩:=oF.mp hw;refine wpAny_getItem_heap (zZ hu) (Ej I.hok eb) dd hp ?_;rw[hp2];exact h w' _ (I.tok _) Ym
def a6J(hu:A.units+1<cLine)(I:bH X Y σ H s)(g:Jl H a y o)(ry:cW y u)(h:∀s',bH X Y σ H s'->Q (.bool o.isSome) s') :
  wpAny (model X.prog X.w) A (compareOp .In u (.ref a)) Q E s:=by
 rcases g with⟨O,k,e,ey,l⟩|⟨O,k,b,e,ey,eb,l⟩
 ·subst ey;obtain⟨z,hd,vs,rel,dd⟩:=W7 I.hok e;refine wpAny_in_of (Rf ry) hd dd.mapOf ?_;rw[<-(rel.val k).Ei,<-l];exact h _ (I.tok _)
 ·subst ey;cases(show u=Value.ref b from ry);obtain⟨z,hd,xs,rel,dd⟩:=W8 I.hok e;refine wpAny_in_heap (zZ hu) (Ej I.hok eb) hd dd ?_;have q:=(rel.val k).Ei;rw[Option.isSome_map]at q;rw[<-q,<-l];exact h _ (I.tok _)
def Pq{h':Heap}{t':Nat}{ob:HO}(I:bH X Y σ H s)(mu:Mut (H a))(hs:Heap.SameBut a s.heap h')(he:∃q,h'.get? a=some q)(new:fY X.prog X.w (cN H a ob) h' a ob) :
  bH X Y σ (cN H a ob) { s with heap:=h',toks:=t'} :=
 I.write (x:=a) (e:=a) mu (.inl Z) (λb q hb z=>(hs.2 b hb).trans z) he new
def a2R{h':Heap}{O:List (Key×V)}{vs:List (Key×Value)}(z:O.length<=sizeLine)(hd:(a==sysModules)=false)(rel:KV O vs)(dd:h'.DictOf (fC P w) a vs) :
  fY P w H' h' a (.dK O):=⟨z,hd,vs,rel,dd⟩
def YQ{Q:Unit->Shared->Prop}(hu:A.units+1<cLine)(I:bH X Y σ H s)(g:a0f H a y v H')(ry:cW y u)(rv:cW v r)(h:∀s',bH X Y σ H' s'->Q ⟨⟩ s') :
  wpAny (model X.prog X.w) A (setItem (.ref a) u r) Q E s:=by
 rcases g with⟨O,k,e,ey,l,eH⟩|⟨O,k,b,e,ey,eb,l,eH⟩
 ·subst ey eH;obtain⟨z,hd,vs,rel,dd⟩:=a4X I.hok e;have hz:vs.length<=sizeLine:=by rw[<-rel.length];exact z
  have hl:(putK O k v).length<=sizeLine:=by have:=Fy O k v;omega
  refine wpAny_setItem_pairs (hsz:=hz) (Rf ry) dd λh' dd' hs=>h _ ?_;have he:∃q,h'.get? a=some q:=let⟨q,_,_,hq,_⟩:=dd';⟨q,hq⟩
  exact Pq I (by rw[e];exact nD) hs he (a2R hl hd (rel.put k rv) dd')
 ·subst ey eH;cases(show u=Value.ref b from ry);obtain⟨z,hd,xs,rel,dd⟩:=Jk I.hok e;have hz:xs.length<=sizeLine:=by rw[<-aV rel];exact z
  have hl:(putK O k v).length<=sizeLine:=by have:=Fy O k v;omega
  refine wpAny_setItem_heap (hsz:=hz) (zZ hu) (Ej I.hok eb) dd λh' dd' hs=>h _ ?_;obtain⟨q,es,ep,hq,h2,h3,h4,_,h5⟩:=dd';refine Pq I (by rw[e];exact nD) hs ⟨q,hq⟩ ⟨hl,hd,_,(rel.put k eb rv).keeps λc ys ec=>?_,q,es,ep,hq,h2,h3,h4,h5⟩;rw[aW (a1n ec e λz=>nomatch z)];exact ec
end
def a2S(i:Expr):Prop:=∀ov iv,subscripted i false ov iv=operate [ov,iv] (getItem ov iv)
def W9{prog:Program}{A:Around}{E:Value->Shared->Prop}{s:Shared}{env:Env}{value slice:Expr}{T id:String}
  (hl:typeLookup (.type T) "__getitem__" = pure (some (.builtin id))) (hs:a2S slice)
  (h:wpAny (model prog w) A (eval value env) (λo s₁=>wpAny (model prog w) A (eval slice env) (λi s₂=>s₂.TypeIs o T/\wpAny (model prog w) A (getItem o i) Q E s₂) E s₁) E s) :
  wpAny (model prog w) A (eval (.Subscript value slice pos) env) Q E s:=by
 refine Subscript_ (iG h (λo s₁ h₁=>iG h₁ (λi s₂ h₂=>?_) λ_ _ x=>x) λ_ _ x=>x);obtain⟨hT,h₂⟩:=h₂;unfold subscriptTail;refine M ?_;rw[getitemInPython_of_ne hT.not_modules];refine M (Ig hT hl ?_);have fin:wpAny (model prog w) A (subscripted slice false o i) (λr s₃=>wpAny (model prog w) A (letTemporaryGo value o r >>= λ_=>pure r) Q E s₃) E s₂:=by
  rw[hs o i];exact wpAny_operating (iG h₂ (λr s₃ h₃=>M (wpAny_letTemporaryGo (aq h₃))) λ_ _ x=>x)
 first
  |exact aq (M fin)
  |exact M (aq (M fin))
  |exact M fin
def Rg{Y:List (Addr×Obj)}{σ:St}{s:Shared}(I:bH X Y σ H s)(g:Jl H a y o):s.TypeIs (.ref a) "dict" := by
 rcases g with⟨O,k,e,_,_⟩|⟨O,k,b,e,_,_,_⟩
 ·obtain⟨_,_,vs,_,dd⟩:=W7 I.hok e;exact dd.typeIs
 ·obtain⟨_,_,xs,_,dd⟩:=W8 I.hok e;exact dd.typeIs
def a4Y(td ty:TE):TE:=λσ H Q=>td σ H λx H1=>ty σ H1 λy H2=>∃a v,x=.ref a/\Jl H2 a y (some v)/\Q v H2
section
variable{o i e value:Expr}{pos' tpos:Pos}{td ty tv:TE}
def GX(hu:X.A.units+1<cLine)(ho:PE X o td)(hi:PE X i ty)(hs:a2S i):PE X (.Subscript o i pos) (a4Y td ty):=by
 intro Y s σ H Q I h;refine W9 PySem.F.slot_dict_getitem.lookup hs (jG (ho Y s σ H _ I h) λu s1 ⟨x,H1,I1,rx,q1⟩=>jG (hi Y s1 σ H1 _ I1 q1) λiv s2 ⟨y,H2,I2,ry,a,v,ex,g,q2⟩=>?_);subst ex;obtain rfl:u=Value.ref a:=rx;exact⟨Rg I2 g,YM hu I2 g ry λw' s3 I3 Ym=>⟨v,H2,I3,Ym,q2⟩⟩
end
def ā(h:Heap)(hb:sysModules<h.objs.size):fY P w H (h.push { cls:=.type "dict",data:=.dict #[]}) h.objs.size (.dT []) :=
 ⟨dw _,vH.mpr (Ne.symm (b7 hb)),[],.nil,_,#[],0,bW _ Z,⟨Z,Z,Z⟩,Z,Z,Ad⟩
def a2T:TE:=λ_ H Q=>∀p,H p=none->Q (.ref p) (cN H p (.dT []))
def Jm:PE X (.Dict [] [] pos) a2T:=λY s σ H Q I h =>
 wpAny_Dict_empty ⟨.ref s⁻¹,_,I.laid (a:=s⁻¹) (o:=.dT []) (t':=s.toks) (λ_ _ q=>bL _ q) (aM _) (ā s.heap I.big),Z,h _ (I.hok.fresh (aM _))⟩
inductive a4Z(x:V)(vs:List V)(H:Hp)(Q:VK):Prop
 |mk (l xs y:_) (_:x=.ref l) (_:vs=[]) (_:H l=some (.lst (xs++[y]))) (_:∀H',uZ H l (.lst xs) H'->Q y H')
def GZ:UL X "list.pop" a4Z:=a2q.weak λx vs H Q ⟨l,xs,y,e1,e2,h,q⟩=>⟨l,xs++[y],y,e1,e2,h,(by simp),(by
 have:=q _ (uZ.pQ (H:=H) (l:=l) (o:=.lst xs));grind)⟩
def Fz:List (Key×V):=[(.inr "leaf",.int 0),(.inr "in",.int 1),(.inr "tie",.int 1),(.inr "out",.int 1),(.inr "join",.int 2)]
set_option genInjectivity false in
structure Used(w:World)(K:aJ)(mg:Str->Option Value) where
 d:Addr
 m:mg "USED" = some (.ref d)
 es:Array DictEntry
 ep:Nat
 l:K.lookup d=some ⟨.type "dict",none,.dict es ep,#[]⟩
 ks:∃t0 t1 t2 t3 t4 t5 t6 t7 t8 t9:Tok,es = #[⟨PyData.keyHash w.params "leaf",.str "leaf" t0,.int 0 t1⟩,⟨PyData.keyHash w.params "in",.str "in" t2,.int 1 t3⟩,⟨PyData.keyHash w.params "tie",.str "tie" t4,.int 1 t5⟩,⟨PyData.keyHash w.params "out",.str "out" t6,.int 1 t7⟩,⟨PyData.keyHash w.params "join",.str "join" t8,.int 2 t9⟩]
def a0g{K:aJ}{mg:Str->Option Value}{d:Addr}{es:Array DictEntry}{ep:Nat}(X:K.In h)(G:h.Ns mainGlobals mg)
  (a:PySem.W.nsIn K mainGlobals "USED" = some (some (.ref d))) (l:K.lookup d=some ⟨.type "dict",none,.dict es ep,#[]⟩)
  (ks:∃t0 t1 t2 t3 t4 t5 t6 t7 t8 t9:Tok,es = #[⟨PyData.keyHash w.params "leaf",.str "leaf" t0,.int 0 t1⟩,⟨PyData.keyHash w.params "in",.str "in" t2,.int 1 t3⟩,⟨PyData.keyHash w.params "tie",.str "tie" t4,.int 1 t5⟩,⟨PyData.keyHash w.params "out",.str "out" t6,.int 1 t7⟩,⟨PyData.keyHash w.params "join",.str "join" t8,.int 2 t9⟩]):Nonempty (Used w K mg) :=
 ⟨⟨d,Ij X G a,es,ep,l,ks⟩⟩
def Used.dict{K:aJ}{mg:Str->Option Value}(U:Used w K mg)(X:K.In h):∃vs,KV Fz vs/\h.DictOf (fC P w) U.d vs:=by
 obtain⟨t0,t1,t2,t3,t4,t5,t6,t7,t8,t9,e⟩:=U.ks;refine⟨[(.inr "leaf",.int 0 t1),(.inr "in",.int 1 t3),(.inr "tie",.int 1 t5),(.inr "out",.int 1 t7),(.inr "join",.int 2 t9)],?_,_,U.es,U.ep,X _ _ U.l,⟨Z,Z,Z⟩,Z,?_,?_,?_⟩
 ·exact .cons ⟨Z,t1,Z⟩ (.cons ⟨Z,t3,Z⟩ (.cons ⟨Z,t5,Z⟩ (.cons ⟨Z,t7,Z⟩ (.cons ⟨Z,t9,Z⟩ .nil))))
 ·rw[e];intro x hx;simp only[Array.mem_def,List.mem_cons,List.not_mem_nil,or_false]at hx;rcases hx with rfl|rfl|rfl|rfl|rfl
  ·exact⟨.inr "leaf",gH P w _ _,Z⟩
  ·exact⟨.inr "in",gH P w _ _,Z⟩
  ·exact⟨.inr "tie",gH P w _ _,Z⟩
  ·exact⟨.inr "out",gH P w _ _,Z⟩
  ·exact⟨.inr "join",gH P w _ _,Z⟩
 ·rw[e];exact .cons (gH P w _ _) Z (.cons (gH P w _ _) Z (.cons (gH P w _ _) Z (.cons (gH P w _ _) Z (.cons (gH P w _ _) Z .nil))))
 ·show([.inr "leaf",.inr "in",.inr "tie",.inr "out",.inr "join"]:List Key).Nodup;decide
def a5a(ty:TE):TE:=λσ H Q=>ty σ H λy H1=>∃k v,y=kV k/\ig Fz k=some v/\Q v H1
section
variable{i:Expr}{np:Pos}{ty:TE}
def a0h(U:Used X.w X.K X.mg)(hg:Gl X "USED")(hi:PE X i ty)(hs:a2S i):PE X (.Subscript (.Name "USED" np) i pos) (a5a ty):=by
 intro Y s σ H Q I h;refine W9 PySem.F.slot_dict_getitem.lookup hs (Bw I hg U.m (jG (hi Y s σ H _ I h) λiv s2 ⟨y,H2,I2,ry,k,v,ey,hv,q2⟩=>?_));subst ey;obtain⟨vs,rel,dd⟩:=U.dict (P:=X.prog) I2.Dl;obtain⟨w',hw,Ym⟩:=sH.some_of (v:=v) (o:=valueAt vs k) (by rw[<-hv];exact rel.val k);exact⟨dd.typeIs,wpAny_getItem_of (Rf ry) dd.mapOf hw ⟨v,H2,I2.tok _,Ym,q2⟩⟩
end
end L2
namespace L2
open PyProof.Rows Bg
def Vl(K:aJ)(H:Hp)(v:V)(ns:List Int):Prop:=∃p,v=.ref p/\bN K H p (ns.map V.int)
end L2
namespace L2
open PyProof.Rows
structure Dm(K:aJ)(C:Addr)(m qual:Str)(st:Stmt)(ps:List Str) where
 f:Addr
 fd:FuncData
 F:Fun K m qual st f fd
 b:Binds K fd ps []
 mt:Meth K C m f
def a5b{K:aJ}{C:Addr}{m qual:Str}{st:Stmt}{ps:List Str}{f:Addr}{oc:Value}{od an:Option Addr}{osl:Array (Option Value)}{kV doc pm dZ ct:Value}
  (a:PySem.W.findIn K (.ref C) m=some (some (.ref f))) (i:PySem.W.isFn K (.ref f)=true)
  (l:K.lookup f=some ⟨oc,od,.func (PySem.W.fnOf m qual (gY st) (gB st) (aH st) .none kV doc pm an dZ ct),osl⟩) (c:PySem.W.codeIn K dZ qual=true) (k:PySem.W.keepIn K (.ref f)=true)
  (h:∀(kV doc pm:Value) (an:Option Addr) (dZ ct:Value) (us:List Value),us.length=ps.length->bindArgs (PySem.W.fnOf m qual (gY st) (gB st) (aH st) .none kV doc pm an dZ ct) ⟨us,[]⟩=pure (ps.zip us)):Dm K C m qual st ps :=
 { f:=f,fd:=_,F:=U4 (st:=st) l c k,b:=(U4 (st:=st) l c k).binds h,mt:=⟨a,i,k⟩}
end L2
namespace L2
open PyProof.Rows
structure a5c(K:aJ)(C:Addr)(m:Str)(f:Addr):Prop where
 ga:PySem.W.specialIn K (.ref C) "__getattribute__" = some (some (.builtin "type.__getattribute__"))
 rd:∃mc,PySem.W.readsIn K C mc=true/\PySem.W.findCls K (.ref C) mc m=some (.val (.ref f))
 kp:PySem.W.keepIn K (.ref f)=true
section
variable{X:Cx}{CX:R5}{k:Nat}{f C:Addr}{fd:FuncData}{ps:List Str}{sp:Sp}{KN:List V}{ds:List Value}{E:XK}{x m:Str}{p pos apos:Pos}{e:Expr}{es:List Expr}{t:TA}
def Pr{pl:Sem Bool}(hg:Gl X x)(hm:X.mg x=some (.ref C))(c:a5c X.K C m f)(F:bf X.prog X.w X.K X.mg X.base CX k f fd ps sp)(hr:sJ k X.A)(hb:Binds X.K fd ps ds)(hd:cM KN ds)(hx:Ai CX X E)(ha:PA X (e::es) t)
  (hdb:@&((x==("__debug__" : Str))=false)) (hst:@&(starEach (e::es) X.env=(false,eval e X.env)::starEach es X.env)) (hpl:@&((backTo pos (starEach es X.env)).any (·.1)=false))
  (ht:@&(eval (.Call (.Attribute (.Name x p) m apos) (e::es) [] pos) X.env=(do
   let ov <-eval (.Name x p) X.env
   standAt apos.atName
   let(f,first) <-holding [ov] (getMethod ov m pl)
   callWith pos f first (backTo pos (starEach (e::es) X.env)) (backToKw pos (keywordEach [] X.env))))) :
  PE X (.Call (.Attribute (.Name x p) m apos) (e::es) [] pos) (a1q sp KN E t):=by
 intro Y s σ H Q I h;refine PySem.W.methodCall_KW (pl:=pl) (Bw I hg hm ?_ hdb) ht;obtain⟨mc,hrd,hf⟩:=c.rd;refine PySem.W.method_cls I.Dl c.ga (PySem.W.cls_value I.Dl hrd hf Z ?_);have I1:bH X Y σ H { s with toks:=s.toks+1}:=I.tok _;exact Nx (first:=[]) (h₀:=X.base) I.ok.mod.kin c.kp (jG (ha pos Y _ σ H _ I1 h) λus s2 ⟨vs,H2,I2,r,q2⟩=>⟨I2.Dl,Uw F hr hb hd hx I2 r q2⟩) hst hpl
end
end L2
namespace Dy
open PyProof.Rows
variable{prog:Program}{w:World}{A:Around}
def Jo:entryFor table "dict.update.loop" = some Builtin.«dict.update.loop» := entryFor_of_tree (by kernel_rfl)
def wz:plainId "dict.update.loop" = true:=by decide
def YS:typeLookup (.type "list") "keys" = pure none:=am_miss_of_fast (by kernel_rfl)
section
variable{E:Value->Shared->Prop}{s:Shared}
def YT{a:Addr}{o:Obj}{xs:Array Value}{k:Nat}{Q:Option Value->Shared->Prop}(hx:s.heap.get? a=some o)(hc:o.cls=.type "list")(hdat:o.data=.seq xs k)(hd:o.dict=none)(hA:A.handled=none)
  (h:∀h' tk,(∀b o,s.heap.get? b=some o->h'.get? b=some o)->Q none { s with heap:=h',toks:=tk}):wpAny (model prog w) A (getAttr? (.ref a) "keys") Q E s:=by
 obtain⟨c,dct,dat,sl⟩:=o;simp only at hc hdat hd;subst hc hdat hd;obtain⟨hp,g,d,tk,os⟩:=s;have hT:∀tk',(⟨hp,g,d,tk',os⟩:Shared).TypeIs (.ref a) "list" := λ_=>⟨_,hx,Z⟩;have f1:=sub_AttributeError;have f3:=F.slot_list_getattribute.lookup;have f4:=F.slot_list_getattribute.bind (.ref a);have f5:=am_list_getattr_none;unfold getAttr? getAttrBy? getAttrBy;repeat (any_goals (first|assumption|exact hT _|((with_reducible show wpAny _ _ (call (Value.builtin "list.__getattribute__") _ _) _ _ _);refine Io F.slot_list_getattribute (hT _) am_entry_list_getattribute (F.args_list_getattribute_2 _ _) (meets_getattribute_miss_list a xs k sl "keys" _ YS ()) ⟨hx,hA,λh' tk' e hx'=>?_⟩)|wp_step))
 obtain⟨t',u',he⟩:=hx'.there;show wpAny _ _ (getattributeRaised _ _ _ _ _ _ _) _ _ _;unfold getattributeRaised;repeat (any_goals (first|assumption|wp_step))
 exact h _ _ hx'.of.keeps
end
section
variable{R:Result->Shared->Prop}{I:Addr}{fp wr:List Addr}{G:Array GenState->Array GenState->Prop}{n:Nat}{P:Nat->Value->Prop}{St:Nat->Shared->Prop}{κ:Type} [DecidableEq κ] {knd:HeapKind prog w κ}
def Vm{L:List (κ×Addr×Value)}(nd:(L.map (·.1)).Nodup){i:Nat}{x:κ×Addr×Value}(hx:L[i]?=some x):atKey (L.take i) x.1=none:=by
 unfold atKey;have:(L.take i).find? (λy=>decide (y.1=x.1))=none:=by
  rw[Dz];intro y hy;simp only[decide_eq_true_eq];intro e;obtain⟨j,hj⟩:=List.mem_iff_getElem?.mp hy;rw[List.getElem?_take]at hj;by_cases q:j<i
  ·rw[aG q]at hj;have:=idxH_unique (xs:=L) nd (i:=j) (j:=i) (k:=x.1) (p:=y.2) (q:=x.2) () (by rw[hx]);omega
  ·rw[aB q]at hj;exact nomatch hj
 rw[this];rfl
def fill(W:WalksS prog w A.in1 I fp wr G n P St)(d:Addr)(nf:d∉fp)(L:List (κ×Addr×Value))(hn:L.length=n)(nd:(L.map (·.1)).Nodup)(bs:Nat->Addr)(hv:∀i v,i<n->P i v->v=.ref (bs i))
  (Kp:Heap->Prop) (kpS:∀h h',Kp h->Heap.SameBut d h h'->Kp h') (kpM:∀s s':Shared,Kp s.heap->Moved wr G s s'->Kp s'.heap)
  (hT:∀h i x,Kp h->L[i]?=some x->knd.is h x.1 x.2.1/\IsTup h (bs i) #[.ref x.2.1,x.2.2]) (hu:knd.room A.in1) (hz:n<=sizeLine) :
  ∀(k i:Nat) (s:Shared) (j:Int) (t:Tok),n-i=k->i<=n->St i s->s.heap.DictOfH knd d (L.take i)->Kp s.heap->
   (∀s',Moved (d::wr) G s s'->s'.heap.DictOfH knd d L->Kp s'.heap->R (.ok (.ret .none)) s')->
   codeAny (model prog w) A (.builtin "dict.update.loop" ⟨[.ref d,.ref I,.int j t,.none],[]⟩) R s:=by
 have nw:d∉wr:=λh=>nf (W.sub _ h);have up:∀b∈wr,b∈d::wr:=λb hb=>bC _ hb;have a1w:∀(s s':Shared) (i:Nat),Moved wr G s s'->Kp s'.heap->s.heap.DictOfH knd d (L.take i)->s'.heap.DictOfH knd d (L.take i):=λs s' i hm kp z=>by
  obtain⟨o,es,ep,ho,hc,hd,he,his,hnn⟩:=z;exact⟨o,es,ep,hm.heap d o nw ho,hc,hd,he,λx hx=>by
   obtain⟨j,hj⟩:=List.mem_iff_getElem?.mp (lE hx);exact(hT _ j x kp hj).1,hnn⟩
 intro k
 induction k with
 |zero =>
  intro i s j t hk hi st hD kp hR;obtain rfl:i=n:=()
  refine oG Jo ?_;rw[qg wz _];show wpAny _ A.in1 (pyNext (.ref I) >>= _) _ _ s;refine M (W.done s _ _ st λs' hm=>?_);have kp':=kpM _ _ kp hm;have hD':=a1w _ _ _ hm kp' hD;rw[<-hn,je]at hD';show wpAny _ _ (Builtin.Dict.addKeywords d [] >>= _) _ _ _;exact M (aq (aq (hR s' (hm.mono up) hD' kp')))
 |succ k ih =>
  intro i s j t hk hi st hD kp hR;have li:i<n:=()
  obtain⟨x,hx⟩:∃x,L[i]?=some x:=⟨L[i]'(),bF _⟩;refine oG Jo ?_;rw[qg wz _];show wpAny _ A.in1 (pyNext (.ref I) >>= _) _ _ s;refine M (W.item i s _ _ li st λv s' hP st' hm=>?_);obtain rfl:=hv i v li hP;have kp':=kpM _ _ kp hm;have hD':=a1w _ _ _ hm kp' hD;obtain⟨hk1,hk2⟩:=hT _ i x kp' hx;obtain⟨ob,hb,hcl,m,hdat⟩:=id hk2;have hTy:s'.TypeIs (.ref (bs i)) "tuple" :=⟨_,hb,hcl⟩;refine M (fG (M (wpAny_tryCatch ?_)));unfold Builtin.Dict.pairItems;refine M (vQ hTy ?_);have e1:((Value.type "tuple" == Value.type "list")||(Value.type "tuple" == Value.type "tuple"))=true:=()
  rw[aG e1];refine M (oJ hb hdat (aq ?_));show wpAny _ _ (holding [Value.ref x.2.1,x.2.2] (dictSet d (.ref x.2.1) x.2.2)) _ _ _;refine fG (wpAny_dictSet_heap (hsz:=by rw[gb];omega) hu hk1 hD' λh' hD2 sb=>?_);have hD3:h'.DictOfH knd d (L.take (i+1)):=by
   rw[storedH_new (Vm nd hx)]at hD2;rw[List.take_add_one,hx];exact hD2
  refine aq ⟨rQ wz _,ih (i+1) _ _ _ () li (W.frame _ s' _ _ st' (TQ _ _) λc hc o e=>?_) hD3 (kpS _ _ kp' sb) λs2 hm2 h2 h3=>hR s2 (Moved.trans W.gtrans ((hm.mono up).then_heap (TQ _ _) λc o hc e=>?_) hm2) h2 h3⟩
  ·rw[sb.2 c (λq:c=d=>nf ())];exact e
  ·rw[sb.2 c (λq:c=d=>hc ())];exact e
end
section
variable{E:Value->Shared->Prop}{s:Shared}{κ:Type} [DecidableEq κ] {knd:HeapKind prog w κ}
def YW(h:Heap):(h.push { cls:=.type "dict",data:=.dict #[]}).DictOfH knd h.objs.size [] :=
 ⟨_,#[],_,bW _ Z,⟨Z,Z,Z⟩,Z,Z,λx hx=>absurd hx (by simp),Ad⟩
def a0i{l:Addr}{o:Obj}{items:Array Value}{m:Nat}{L:List (κ×Addr×Value)}{bs:Nat->Addr}{Q:Value->Shared->Prop}(hh:A.handled=none)(hu:knd.room A.in1.in1)
  (hx:s.heap.get? l=some o) (hc:o.cls=.type "list") (hdat:o.data=.seq items m) (hd:o.dict=none) (hn:L.length=items.size) (nd:(L.map (·.1)).Nodup) (hz:items.size<=sizeLine)
  (hv:∀(i:Nat) (v:Value),items[i]?=some v->v=.ref (bs i))
  (hT:∀(h:Heap) (i:Nat) (x:κ×Addr×Value),(∀b ob,s.heap.get? b=some ob->h.get? b=some ob)->L[i]?=some x->knd.is h x.1 x.2.1/\IsTup h (bs i) #[.ref x.2.1,x.2.2])
  (h:∀(h':Heap) (tk:Nat),h'.DictOfH knd s⁻¹ L->(∀b ob,s.heap.get? b=some ob->h'.get? b=some ob)->Q (.ref s⁻¹) { s with heap:=h',toks:=tk}) :
  wpAny (model prog w) A (call (.type "dict") [.ref l]) Q E s:=by
 refine callType_codes (Q₁:=λobj s₁=>obj=.ref s⁻¹/\s₁={ s with heap:=s.heap.push { cls:=.type "dict",data:=.dict #[]}}) PySem.F.kt_called_dict (PySem.F.kt_typeCall_dict_1 _) PySem.F.entry_dict_init (kt_code_dict_new _ ⟨rfl,rfl⟩) ?_;rintro obj s₁ ⟨rfl,rfl⟩;have hnew:(s.heap.push { cls:=.type "dict",data:=.dict #[]}).DictOfH knd s⁻¹ []:=YW s.heap;have hTd:Shared.TypeIs { s with heap:=s.heap.push { cls:=.type "dict",data:=.dict #[]}} (.ref s⁻¹) "dict" :=⟨_,bW _ rfl,rfl⟩;have hx1:(s.heap.push { cls:=.type "dict",data:=.dict #[]}).get? l=some o:=bL _ hx;have hTl:Shared.TypeIs { s with heap:=s.heap.push { cls:=.type "dict",data:=.dict #[]}} (.ref l) "list" :=⟨_,hx1,hc⟩;refine⟨hTd,PySem.F.args_dict_init_2 _ _,?_⟩;unfold Builtin.«dict.__init__»;refine M ?_;unfold Builtin.Dict.selfAndRest;refine M (HN hTd ?_);show wpAny _ _ (pure (s⁻¹,[Value.ref l])) _ _ _;refine aq ?_;show wpAny _ _ (Builtin.Dict.updateFrom "dict.__init__" s⁻¹ (.ref l) [] .none) _ _ _;unfold Builtin.Dict.updateFrom;refine M (vQ hTl ?_);rw[aG ()];refine M (YT hx1 hc hdat hd (by simp[hh]) λh1 tk1 k1=>?_);simp only[Option.isNone_none,if_true];refine M (kE ?_);have ll:l<s⁻¹:=aY hx;have g1:h1.get? s⁻¹=some { cls:=.type "dict",data:=.dict #[]}:=k1 _ _ (bW _ Z);have g2:h1.get? l=some o:=k1 _ _ hx1;have dl:s⁻¹<h1.objs.size:=aY g1;have hl1:h1.IsList l items:=⟨_,g2,hc,m,hdat⟩;refine M (vJ (s:={ s with heap:=h1,toks:=tk1}) hl1 ?_);have hh3:A.in1.in1.handled=none:=by simp[hh]
 have ni:l≠h1.objs.size:=b7 (uK ll dl);have nf:s⁻¹∉[h1.objs.size,l]:=by
  simp only[List.mem_cons,List.not_mem_nil,or_false,not_or];exact⟨b7 dl,gG ll⟩
 refine aq ⟨rQ wz _,?_⟩;refine fill (knd:=knd) (n:=items.size) ((Walks.list hh3 _ l ni items).toS) s⁻¹ nf L hn nd bs (λi v _ hp=>hv i v hp)
  (λh2=>∀b ob,s.heap.get? b=some ob->h2.get? b=some ob) (λh2 h3 kp sb b ob e=>?_) (λs2 s3 kp hm b ob e=>?_) (λh2 i x kp e=>hT h2 i x kp e) hu hz items.size 0 _ _ _ () (dw _)
  ⟨⟨_,bW _ Z,Z,Z⟩,(hl1.push _)⟩ ?_ ?_ ?_
 ·rw[sb.2 b (b7 (aY e))];exact kp b ob e
 ·refine hm.heap b ob ?_ (kp b ob e);simp only[List.mem_cons,List.not_mem_nil,or_false];exact λq=>absurd q (b7 (uK (aY e) dl))
 ·exact⟨_,#[],_,bL _ g1,⟨Z,Z,Z⟩,Z,by rw[List.take_zero];rfl,λx hx=>absurd hx (by simp),by rw[List.take_zero];exact Ad⟩
 ·exact λb ob e=>bL _ (k1 b ob (bL _ e))
 ·intro s' hm hD kp;obtain⟨h',g',d',tk',os'⟩:=s';have eg:g'=s.gens:=hm.gens;have ed:d'=s.drawn:=hm.drawn;have eo:os'=s.os:=hm.os;subst eg;subst ed;subst eo;exact⟨Z,h h' tk' hD kp⟩
end
end Dy
namespace L2
open PyProof.Rows
def a5d{c:Prop} [Decidable c] {a b:Prop} (hc:c) (h:a):if c then a else b:=by grind
def xW{c:Prop} [Decidable c] {a b:Prop} (hc:¬c) (h:b):if c then a else b:=by grind
def Ek{prog:Program}{w:World}{A:Around}{E:Value->Shared->Prop}{s:Shared}{l:Addr}{items:Array Value}{Q:List Value->Shared->Prop}(hd:A.handled=none)(hl:s.heap.IsList l items)
  (h:∀h',(∀b o,b≠s⁻¹->s.heap.get? b=some o->h'.get? b=some o)->Q items.toList { s with heap:=h'}):wpAny (model prog w) A (unpackItems (.ref l) items.size none) Q E s:=by
 have hl0:=hl;obtain⟨o,e,c,d⟩:=hl;unfold unpackItems notIterableAtAll;refine M (M (Ig (T:="list") ⟨_,e,c⟩ F.slot_list_iter.lookup (jK (a5d Z (aq (jK (xW dh (M (fG (vJ hl0 ?_))))))))));dsimp only;refine M (fG ?_);have hn:l≠s⁻¹:=λz=>by
  have hlt:=aY e;exact absurd z (b7 hlt)
 have e1:∀(h':Heap),(∀b o,b≠s⁻¹->s.heap.get? b=some o->h'.get? b=some o)->h'.IsList l items:=λh' k=>⟨o,k _ _ hn e,c,d⟩;refine PySem.W.kun_draw hn items.size 0 _ _ ⟨_,bW _ Z,Z,Z⟩ (e1 _ λb o _ z=>bL _ z) () λh' st sb=>?_;have k1:∀b o,b≠s⁻¹->s.heap.get? b=some o->h'.get? b=some o:=λb o hb z=>(sb.2 b hb).trans (bL _ z);have et:List.take items.size (List.drop 0 items.toList)=items.toList:=by rw[Ua];exact HF (by simp)
 rw[et];exact jK (xW (by simp) (M (fG (wpAny_pyNext_list_end hd st (e1 _ k1) (by simp) λh2 eb=>jK (xW (by simp) (aq (h h2 λb o hb z=>eb b o hb (k1 b o hb z))))))))
section
variable{X:Cx}{pos:Pos}
inductive a1x(K:aJ)(n:Nat)(t:É)(v:V)(σ:St)(H:Hp)(Q:St->Hp->Prop):Prop
 |mk (a xs:_) (_:v=.ref a) (_:bN K H a xs) (_:xs.length=n) (_:t xs σ H Q)
def a0j{es:List Expr}{k:Nat}{t:É}{n:Nat}(hc:X.calm=true)(h:PGs X es t)
  (hn:@&((assignEach es X.env).length=n)) (hst:@&((assignEach es X.env).findIdx? (·.1)=none)):PG X (.Tuple es k pos) (a1x X.K n t):=by
 intro Y s σ H v u Q I r hw;obtain⟨a,xs,e1,hq,hl,hw⟩:=hw;subst e1;cases r;obtain⟨bV,rv,p,hz⟩:=I.list hq;rw[assign_Tuple];refine M (Oc ?_);unfold unpack;refine M (fG ?_);have e2:(assignEach es X.env).length=bV.toArray.size:=by simp[hn,<-hl,rv.length]
 rw[hst,e2];refine Ek (I.ok.hd hc) p.isList λh' k=>?_;have hi:=I.Gf (aM s⁻¹) (I.hok.fresh (aM _));obtain⟨f0,f1,f2,f3,f4,f5⟩:=hi;have I1:bH X Y σ H { s with heap:=h'}:=I.turned (t':=s.toks) k f0 f1 f3 f4 f5;exact h Y _ σ H xs _ Q I1 (by simpa using rv) hw
def Ă{K:aJ}{es:List Expr}{k:Nat}{t:É}{n:Nat}(e:X.K=K)(hc:X.calm=true)(h:PGs X es t)
  (hn:@&((assignEach es X.env).length=n)) (hst:@&((assignEach es X.env).findIdx? (·.1)=none)):PG X (.Tuple es k pos) (a1x K n t):=by subst e;exact a0j hc h hn hst
end
end L2
namespace Dq
open PyProof.Rows
variable{I:Addr}{o:Obj}{es:Array DictEntry}{ep:Nat}
variable{prog:Program}{w:World}{A:Around}{E:Value->Shared->Prop}{s:Shared}
abbrev kO(d:Addr)(i n ep:Nat):Obj:={ cls:=.type "dict_keyiterator",data:=.fields #[.ref d,.int (i:Nat) 0,.int (n:Nat) 0,.int (ep:Nat) 0]}
def args_next(a:Value):argsOk "dict_keyiterator.__next__" ⟨[a],[]⟩:=by unfold argsOk;kernel_rfl
def Xa:∃l,mroOf (.type "dict_keyiterator")=pure l/\(["dict_reversekeyiterator","dict_reversevalueiterator","dict_reverseitemiterator"].any λt=>l.contains (Value.type t))=false/\(["dict_keyiterator","dict_reversekeyiterator"].any λt=>l.contains (Value.type t))=true:=⟨_,Z,(),()⟩
def ă{Q:Bool->Shared->Prop}(hT:s.TypeIs (.ref I) "dict_keyiterator")(h:Q false s):wpAny (model prog w) A (Builtin.Dict_items.isOneOf (.ref I) ["dict_reversekeyiterator","dict_reversevalueiterator","dict_reverseitemiterator"]) Q E s:=by
 obtain⟨l,e,n,_⟩:=Xa;unfold Builtin.Dict_items.isOneOf;refine M (vQ hT ?_);rw[e];refine M (aq (aq ?_));rw[n];exact h
def YX{Q:Bool->Shared->Prop}(hT:s.TypeIs (.ref I) "dict_keyiterator")(h:Q true s):wpAny (model prog w) A (Builtin.Dict_items.isOneOf (.ref I) ["dict_keyiterator","dict_reversekeyiterator"]) Q E s:=by
 obtain⟨l,e,_,n⟩:=Xa;unfold Builtin.Dict_items.isOneOf;refine M (vQ hT ?_);rw[e];refine M (aq (aq ?_));rw[n];exact h
def item_at{d:Addr}{i:Nat}{e:DictEntry}{Q:Option Value->Shared->Prop}(ne:d≠I)(ho:s.heap.get? d=some o)(hd:o.data=.dict es ep)(hI:s.heap.get? I=some (kO d i es.size ep))(hx:es[i]?=some e)
  (h:∀h',h'.get? I=some (kO d (i+1) es.size ep)->Heap.SameBut I s.heap h'->Q (some e.key) { s with heap:=h'}):wpAny (model prog w) A (pyNext (.ref I)) Q E s:=by
 have hT:s.TypeIs (.ref I) "dict_keyiterator" :=⟨_,hI,Z⟩;unfold pyNext;refine M (tK (oE (name:=Str.ofString "__next__") hT Nb (gF Nb hT Z4 ?_ (args_next _))));unfold Builtin.«dict_keyiterator.__next__»;refine M (m:=Builtin.Dict_items.slot0 "__next__" _) (aq ?_);dsimp only;refine M (M (M (m:=typeNameOfWhole _) (M8 hT ?_)));rw[show(if Builtin.Dict_items.ownsTuple "dict_keyiterator" = true then 2 else 0)=0 from rfl];refine aq (M (DQ hI Z ?_));show wpAny _ _ (if(Value.ref d==Value.none)=true then _ else _) _ _ _;refine jK (L2.xW (by simp) (M (m:=Builtin.Dict_items.addrOf _) (aq (M (tD ho hd (jK (L2.xW (by simp) (M (m:=Builtin.Dict_items.addrOf _) (aq (M (xH ho hd (jK (L2.xW (by simp) (aq ?_))))))))))))));dsimp only;have e1:(if(i:Int)<0 then none else es[(i:Int).toNat]?)=some e:=by
  rw[aB (),iU];exact hx
 rw[e1];dsimp only;refine M (M (m:=typeNameOfWhole _) (M8 hT ?_));rw[show(if Builtin.Dict_items.ownsTuple "dict_keyiterator" = true then 2 else 0)=0 from rfl];refine aq (M (ă hT (M (iR hI (by simp) λh1 hI1 Eg=>?_))));have hT1:Shared.TypeIs { s with heap:=h1} (.ref I) "dict_keyiterator" :=⟨_,hI1,rfl⟩;refine M (fG (M (YX hT1 (jK (L2.a5d Z (aq (aq ⟨_,Z,aq (h h1 ?_ Eg)⟩)))))));rw[hI1];simp[rawInt]
def Jh{d:Addr}{Q:Option Value->Shared->Prop}(hh:A.handled=none)(ne:d≠I)(ho:s.heap.get? d=some o)(hd:o.data=.dict es ep)(hI:s.heap.get? I=some (kO d es.size es.size ep))
  (h:∀h',Heap.ExtBut I s.heap h'->Q none { s with heap:=h'}):wpAny (model prog w) A (pyNext (.ref I)) Q E s:=by
 have hT:s.TypeIs (.ref I) "dict_keyiterator" :=⟨_,hI,Z⟩;unfold pyNext;refine M (tK (oE (name:=Str.ofString "__next__") hT Nb (gF Nb hT Z4 ?_ (args_next _))));unfold Builtin.«dict_keyiterator.__next__»;refine M (m:=Builtin.Dict_items.slot0 "__next__" _) (aq ?_);dsimp only;refine M (M (M (m:=typeNameOfWhole _) (M8 hT ?_)));rw[show(if Builtin.Dict_items.ownsTuple "dict_keyiterator" = true then 2 else 0)=0 from rfl];refine aq (M (DQ hI Z ?_));show wpAny _ _ (if(Value.ref d==Value.none)=true then _ else _) _ _ _;refine jK (L2.xW (by simp) (M (m:=Builtin.Dict_items.addrOf _) (aq (M (tD ho hd (jK (L2.xW (by simp) (M (m:=Builtin.Dict_items.addrOf _) (aq (M (xH ho hd (jK (L2.xW (by simp) (aq ?_))))))))))))));dsimp only;have e1:(if(es.size:Int)<0 then none else es[(es.size:Int).toNat]?)=none:=by
  rw[aB (),iU];simp
 rw[e1];dsimp only;refine M (M (m:=typeNameOfWhole _) (M8 hT ?_));rw[show(if Builtin.Dict_items.ownsTuple "dict_keyiterator" = true then 2 else 0)=0 from rfl];refine aq (M (iR hI (by simp) λh1 hI1 Eg=>M ?_));simp only[newExc,newTuple];refine M (j8 ?_ (by size_fits));refine M (m:=firstArgMember _ _) (Il (a:=Value.none) (by first|rfl|(simp only[firstArgMember];rfl)) ?_);refine j8 ?_ (by size_fits);simp only[raiseNew];refine M (Oe ?_);rw[show A.in1.handled=none from hh];refine M (aq (Oi ?_));exact M (vM (U:="StopIteration") (T:="StopIteration") (b:=true) ⟨_,bW _ Z,Z⟩ Ii (aq (h _ ((Eg.extBut.push _).push _))))
def Cq{d:Addr}{Q:Value->Shared->Prop}(hs:(d==sysModules)=false)(ho:s.heap.get? d=some o)(hx:o.ExactDict)(hd:o.data=.dict es ep)
  (h:Q (.ref s⁻¹) { s with heap:=s.heap.push (kO d 0 es.size ep)}):wpAny (model prog w) A (pyIter (.ref d)) Q E s:=by
 have hT:s.TypeIs (.ref d) "dict" :=⟨_,ho,hx.1⟩;refine Ia hT F.slot_dict_iter (gF F.slot_dict_iter hT F.entry_dict_iter ?_ (F.args_dict_iter_1 _));unfold Builtin.«dict.__iter__»;refine M ?_;unfold Builtin.Dict.dictSlotNone;refine M (HN hT (M (m:=slotArgs "__iter__" 0 _) (aq (aq (M (m:=Builtin.Dict.addrOf _) (aq (M ?_)))))));unfold Builtin.Dict.showsAll;refine jK (L2.xW () (aq (M (tD ho hd (M (xH ho hd (M ?_)))))));unfold newFields;exact j8 (aq ⟨_,Z,"dict_keyiterator",_,⟨_,bW _ Z,Z⟩,F.slot_dict_keyiterator_next.lookup,h⟩)
end Dq
namespace L2
open PyProof.Rows
section
variable{X:Cx}{Y:List (Addr×Obj)}{σ:St}{H:Hp}{s:Shared}{d:Addr}{O:List (Key×V)}
def bH.Vn{o o':HO}(I:bH X Y σ H s)(e:H d=some o)(nt:∀xs,o≠.tup xs)(no:∀y,o≠.own y)(nb:∀ps,o≠.tbl ps)(nf:∀b u,X.H₀ d≠some (.jo b u))(q:fY X.prog X.w H s.heap d o'):bH X Y σ (cN H d o') s:=by
 have ne:∀b,H b=none->b≠d:=λb n z=>by rw[z,e]at n;cases n
 have nn:∀b,H b=none->cN H d o' b=none:=λb n=>by rw[aW (ne b n)];exact n
 have ho:∀b c,H b=some (.own c)->cN H d o' b=some (.own c):=λb c r=>by
  rw[aW]
  ·exact r
  ·intro z;rw[z,e]at r;exact no c (dB r)
 have ht:∀b xs,H b=some (.tup xs)->cN H d o' b=some (.tup xs):=λb xs r=>by
  rw[aW]
  ·exact r
  ·intro z;rw[z,e]at r;exact nt xs (dB r)
 refine⟨I.ok,I.os,I.bare,⟨I.base.keep,I.base.slot,λb ob q1 q2 q3=>nn b (I.base.free b ob q1 q2 q3),I.base.there,λb xs r=>ht b xs (I.base.tups b xs r),λb ob u r=>?_,λb ps r=>?_⟩,I.loc,I.cell,nn _ I.free,λx c r=>nn c (I.tL x c r),λp hp=>?_,λb u r=>?_,I.len⟩
 ·rw[aW]
  ·exact I.base.Iu b ob u r
  ·intro z;rw[z]at r;exact nf ob u r
 ·obtain⟨m,r1⟩:=I.base.Om b ps r;refine⟨m,?_⟩;rw[aW]
  ·exact r1
  ·intro z;rw[z,e]at r1;exact nb _ (dB r1)
 ·obtain⟨p1,p2,p3⟩:=I.pin p hp;exact⟨p1,nn _ p2,p3⟩
 ·by_cases c:b=d
  ·subst c;rw[dD]at r;cases r;exact q.stay (λ_ _ _ z=>z) (λc r=>ho c b r) ht
  ·rw[aW c]at r;exact(I.hok b u r).stay (λ_ _ _ z=>z) (λc r=>ho c b r) ht
def bH.Xb{o:HO}(I:bH X Y σ H s)(e:H d=some o)(nf:∀b u,o≠.jo b u):∀b u,X.H₀ d≠some (.jo b u):=λb u z=>by
 have:=I.base.Iu d b u z;grind
def bH.Pu{o:Obj}{u:HO}(I:bH X Y σ H s)(nf:∀b u,X.H₀ d≠some (.jo b u))(e:H d=some (.jo o u)):bH X Y σ (cN H d u) s:=by
 obtain⟨_,q⟩:=I.hok d _ e;exact I.Vn e (λ_ z=>by cases z) (λ_ z=>by cases z) (λ_ z=>by cases z) nf q
end
end L2
namespace L2
open PyProof.Rows Bg
def Itp(o:Obj)(d:Addr)(u:HO)(as:List Addr):It :=
 ⟨λi H=>H d=some (.jo o u)/\i<as.length,λi H x H'=>H'=H/\(as.map V.ref)[i]?=some x,λi H=>H d=some (.jo o u)/\i=as.length⟩
def Vo{P:Program}{w:World}{K:aJ}{tg:Expr}{o:Obj}{u:HO}(d it:Addr){as:List Addr}{es:Array DictEntry}{ep:Nat}(hd:o.data=.dict es ep)(ek:es.toList.map (·.key)=as.map Value.ref) :
  Turn P w K tg (Itp o d u as) [it] it (λi h=>h.get? it=some (Dq.kO d i es.size ep)) where
 mem:=by simp
 obj:=λi h st b hb=>by
  grind
 keep:=λi h h' st k=>k it (by simp) _ st
 item:=by
  intro X hP hw hK hc i Y s σ H E I hf st hg
  subst hP hw hK
  obtain⟨hq,hi⟩:=hg
  obtain⟨hd1,_⟩:=I.hok d _ hq
  obtain⟨f0,f1,f2,f3,f4,f5⟩:=hf it (by simp)
  have ne:d≠it:=λz=>by grind
  have lz:es.size=as.length:=by have:=congrArg List.length ek;grind
  have he:es[i]?=some (es[i]'()):=w5 ()
  have a2U:(es[i]'()).key=Value.ref as[i]:=by
   have:=congrArg (λl=>l[i]?) ek
   try dsimp only at this
   rw[dU,dU,HJ,he,bF hi]at this
   exact dB this
  refine Dq.item_at ne hd1 hd st he λh' hI sb=>?_
  have I1:bH X Y σ H { s with heap:=h'}:=I.turned (t':=s.toks) (λb o hb e=>(sb.2 b hb).trans e) f0 f1 f3 f4 f5
  exact⟨_,Z,Wo (s:={ s with heap:=h'}) hI rfl rfl () ⟨.ref as[i],H,I1,a2U,⟨rfl,by rw[dU,bF hi];rfl⟩,hI,λb hb=>(hf b hb).1⟩⟩
 done:=by
  intro X hP hw hK hc i Y s σ H E I hf st hg
  subst hP hw hK
  obtain⟨hq,hx⟩:=hg
  obtain⟨hd1,_⟩:=I.hok d _ hq
  obtain⟨f0,f1,f2,f3,f4,f5⟩:=hf it (by simp)
  have ne:d≠it:=λz=>by grind
  have lz:es.size=as.length:=by have:=congrArg List.length ek;grind
  rw[hx,<-lz]at st
  exact Dq.Jh (I.ok.hd hc) ne hd1 hd st λh' eb=>⟨Z,I.turned (t':=s.toks) (λb o hb e=>eb b o hb e) f0 f1 f3 f4 f5⟩
 self:=λ_ _ _ _ _ st h=>wpAny_pyIter_keyiter ⟨_,st,Z,Z⟩ h
end L2
namespace L2
open PyProof.Rows Bg
section
variable{X:Cx}
inductive a6K(x:V)(y:V)(H:Hp)(Q:VK):Prop
 |mk (b a:Addr) (k:List Key) (O:List (List Key×V)) (_:x=.ref b) (_:y=.ref a) (_:H b=some (.tup (k.map kV))) (_:H a=some (.dT O)) (_:Q (.bl (ig O k).isSome) H)
def Ą(hu:X.A.units+1<cLine):sX X (compareOp .In) a6K:=by
 intro Y s σ H x y v u Q I rx ry h;obtain⟨b,a,t,ts,rfl,rfl,hb,e,q⟩:=h;obtain rfl:u=Value.ref a:=ry;exact a6J hu I (Jl.t e hb) rx λs3 I3=>⟨.bl _,H,I3,Z,q⟩
inductive a5e(o:V)(i:V)(v:V)(H:Hp)(Q:Hp->Prop):Prop
 |mk (a b:Addr) (k:List Key) (O:List (List Key×V)) (_:o=.ref a) (_:i=.ref b) (_:H b=some (.tup (k.map kV))) (_:H a=some (.dT O)) (_:O.length<=5000) (_:∀H',uZ H a (.dT (putK O k v)) H'->Q H')
def El(hu:X.A.units+1<cLine):Ŷ X a5e:=by
 intro Y s σ H o i v ov iv u Q I ro ri rv h;obtain⟨a,b,t,ts,rfl,rfl,hb,e,z,q⟩:=h;obtain rfl:ov=Value.ref a:=ro;exact YQ hu I (a0f.t e hb (Tn z ())) ri rv λs' I'=>⟨_,I',q _ uZ.pQ⟩
def a2V{P:Program}{w:World}{H':Hp}{h':Heap}{a:Addr}{O:List (List Key×V)}{xs:List (List Key×Addr×Value)}(z:O.length<=sizeLine)(hd:(a==sysModules)=false)(rel:KT H' O xs)(dd:h'.DictOfH (tupleKind (fC P w)) a xs) :
  fY P w H' h' a (.dT O):=by
 obtain⟨o,es,ep,h1,h2,h3,h4,_,h5⟩:=dd;exact⟨z,hd,xs,rel,o,es,ep,h1,h2,h3,h4,h5⟩
end
section
variable{X:Cx}{tg:Expr}
def a2W(t:TE):TE:=λσ H Q=>t σ H λv H1=>∃d o O kvs',H d=some (.dT kvs')/\H1 d=some (.jo o (.dT O))/\Q v (cN H1 d (.dT O))
def ą{e:Expr}{t:TE}(h:PE X e t):PE X e (a2W t):=by
 intro Y s σ H Q I q;refine jG (h Y s σ H _ I q) λv s1 z=>?_;obtain⟨x,H1,I1,r1,d,o,ts,ts',e0,e1,q1⟩:=z;exact⟨x,_,I1.Pu (I.Xb e0 λ_ _ z=>by cases z) e1,r1,q1⟩
def a0k(t:TS):TS:=λD σ H=>t { D with nx:=λσ1 H1=>∃d o O kvs',H d=some (.dT kvs')/\H1 d=some (.jo o (.dT O))/\D.nx σ1 (cN H1 d (.dT O))} σ H
def xX{st:Stmt}{t:TS}(h:PS X st t):PS X st (a0k t):=by
 intro Y s σ H D I q;refine jG (h Y s σ H _ I q) λf s1 z=>?_;cases f with
 |next =>
  obtain⟨σ1,H1,I1,d,o,O,kvs',e0,e1,q1⟩:=z;exact⟨σ1,_,I1.Pu (I.Xb e0 λ_ _ z=>by cases z) e1,q1⟩
 |ret u=>exact z
 |brk=>exact z
 |cont=>exact z
inductive PrL(H:Hp)(v:V)(kv:List Key×V):Prop
 |mk (p kp:_) (_:v=.ref p) (_:H p=some (.tup [.ref kp,kv.2])) (_:H kp=some (.tup (kv.1.map kV)))
inductive a2X(K:aJ)(xs:List V)(H:Hp)(Q:VK):Prop
 |mk (l:Addr) (vs:List V) (O:List (List Key×V)) (_:xs=[.ref l]) (_:H l=some (.lst vs)) (_:Paired (PrL H) vs O) (_:(O.map (·.1)).Nodup) (_:∀p H',iQ H p (.dT O) H'->Q (.ref p) H')
def a2Y{P:Program}{w:World}{H:Hp}{h:Heap}(hok:zu P w H h):∀{vs:List V}{O:List (List Key×V)}{bV:List Value},Paired (PrL H) vs O->cM vs bV->
  ∃(L:List (List Key×Addr×Value)) (bs:List Addr),bV=bs.map Value.ref/\KT H O L/\Paired (λ(b:Addr) (x:List Key×Addr×Value)=>IsTup h b #[.ref x.2.1,x.2.2]) bs L:=by
 intro vs O bV hp
 induction hp generalizing bV with
 |nil=>intro hv;cases hv;exact⟨[],[],Z,.nil,.nil⟩
 | @cons v kv vs O a t ih =>
  intro hv;cases hv with
  | @cons _ u _ us ru rus =>
   obtain⟨L,bs,e,kt,pt⟩:=ih rus;obtain⟨p,kp,rfl,hp,hk⟩:=a;obtain rfl:u=Value.ref p:=ru;obtain⟨_,its2,r2,tp⟩:=(show fY P w H h p (.tup [.ref kp,kv.2])from hok p _ hp);cases r2 with
   | @cons _ u1 _ us1 q1 q2 =>
    obtain rfl:u1=Value.ref kp:=q1;cases q2 with
    | @cons _ u2 _ us2 q3 q4 =>
     cases q4;exact⟨(kv.1,kp,u2)::L,p::bs,by rw[e];rfl,.cons ⟨Z,hk,q3⟩ kt,.cons tp pt⟩
def Vp{K:aJ}(ek:X.K=K)(cm:X.calm=true)(hu:X.A.units+2<cLine):jT X (.type "dict") (a2X K):=by
 subst ek;intro Y s σ H xs us Q I r h;obtain⟨l,vs,O,rfl,hL,pr,nd,q⟩:=h;obtain⟨u,rfl,rx⟩:=vals1 r;cases rx;obtain⟨z,bV,n,rv,ol⟩:=(show fY X.prog X.w H s.heap l (.lst vs)from I.hok l _ hL);obtain⟨L,bs,rfl,kt,pt⟩:=a2Y I.hok pr rv;have ln:L.length=bs.length:=(aV pt).symm;have lv:vs.length=bs.length:=by have:=rv.length;grind
 have lk:O.length=vs.length:=(aV pr).symm;have ek:O.map (·.1)=L.map (·.1):=by
  clear nd pr pt ln lk q
  induction kt with
  |nil=>rfl
  |cons a b ih=>grind
 have hr:(tupleKind (fC X.prog X.w)).room X.A.in1.in1:=by
  show X.A.in1.in1.units<cLine;show X.A.units+1+1<cLine;exact hu
 refine Dy.a0i (knd:=tupleKind (fC X.prog X.w)) (L:=L) (bs:=λi=>bs.getD i 0) (I.ok.hd cm) hr ol Z Z Z (by rw[gn,aK];exact ln) (by rw[<-ek];exact nd) (by rw[gn,aK];omega) (λi v hv=>?_) (λh i x kp hx=>?_) λh' tk dd kp=>?_
 ·rw[List.getElem?_toArray,dU]at hv;cases c:bs[i]? with
  |none=>rw[c]at hv;exact nomatch hv
  |some b =>
   rw[c]at hv;rw[fM,c];exact(dB hv).symm
 ·constructor
  ·obtain⟨kv,hkv,a1,a2,a3⟩:=cU kt hx;obtain⟨o,bV,n,h1,h2,h3,h4⟩:=Ej I.hok a2;rw[<-a1];exact⟨o,bV,n,kp _ _ h1,h2,h3,h4⟩
  ·obtain⟨b,hb,o,h1,h2⟩:=cU pt hx;rw[fM,hb];exact⟨o,kp _ _ h1,h2⟩
 ·have hf:H s⁻¹=none:=I.hok.fresh (aM _);have hs:(s⁻¹==sysModules)=false:=vH.mpr (Ne.symm (b7 I.big));refine⟨.ref s⁻¹,_,I.laid (t':=tk) (o:=.dT O) (λb o e=>kp b o e) (aM _) (a2V () hs (kt.keeps λc ys ec=>?_) dd),Z,q _ _ (iQ.pQ hf)⟩;rw[aW (eE ec hf)];exact ec
end
end L2
namespace L2
open PyProof.Rows
def yX{X:Cx}{Y:List (Addr×Obj)}{σ:St}{H:Hp}{s:Shared}(I:bH X Y σ H s){h2:Heap}(ch:List Addr)(fk:∀b∈ch,Ge X Y H b)
  (kp:∀b o,b∉ch->s.heap.get? b=some o->h2.get? b=some o):bH X Y σ H { s with heap:=h2}:=by
 refine I.step (t':=s.toks) (g':=s.gens) (d':=s.drawn) (H':=H) (ch:=ch) (λb hb=>?_) (λb o _ _ hc q _=>kp b o hc q) (λb o _ _ hc q _=>⟨o.slots,kp b o hc q⟩) (λ_ _ _ _ n=>n)
  (λb o hc q=>⟨o,kp b o hc q⟩) (λ_ _ q=>q) (λ_ _ _ q=>q) (λb ps q=>⟨#[],by rw[q];simp⟩) (λm hm=>?_) (λb o q=>?_) I.bare
 ·obtain⟨f0,f1,f2,f3,f4,f5⟩:=fk b hb;exact⟨f3,f1,f4,f5⟩
 ·obtain⟨o,es,ep,q,r⟩:=hm;exact⟨o,es,ep,kp _ o (λz=>(fk _ z).2.1 Z) q,r⟩
 ·have nb:∀c v,H c=some v->c∉ch:=λc v q z=>eE q (fk c z).1 rfl;refine(I.hok b o q).stay (λc v hcc r=>kp c v ?_ r) (λ_ q=>q) λ_ _ q=>q;grind
section
variable{X:Cx}{K:aJ}
def boot_zip:bootBuiltins "zip" = some (.type "zip"):=by decide
end
end L2
namespace L2
open PySem.Calls PyProof.Rows
structure a2Z(K:aJ)(x qual:Str)(st:Stmt)(f:Addr)(fd:FuncData):Prop where
 ex:∃(oc:Value) (od:Option Addr) (dV kV doc pm:Value) (an:Option Addr) (dZ ct:Value) (osl:Array (Option Value)),
  fd=PySem.W.fnOf x qual (gY st) (gB st) (aH st) dV kV doc pm an dZ ct/\K.lookup f=some ⟨oc,od,.func fd,osl⟩/\PySem.W.codeIn K dZ qual=true
 kp:PySem.W.keepIn K (.ref f)=true
section
variable{P:Program}{w:World}{K:aJ}{mg:Str->Option Value}{base:Heap}{x qual:Str}{st:Stmt}{f:Addr}{fd:FuncData}{N ps:List Str}{k:Nat}{sp:Sp}
def a2Z.ok(F:a2Z K x qual st f fd)(S:bD N ps (aH st))(len:∀vs H Q E,sp vs H Q E->vs.length=ps.length)
  (hb:∀(dZ:Value) (A:Around) (outer:List Env) (s:Shared) (H:Hp) (vs:List V) (Q:VK) (E:XK),sJ k (A.deeper (envOfC qual (aH st) s⁻¹ f dZ))->sp vs H Q E->
   ∃t,Qz (Ux fX P w K mg base N qual (aH st) f dZ A outer s H E).nox (gB st) t/\t { nx:=λ_ H'=>Q .non H',rt:=Q} (start N vs) H):bf P w K mg base fX (k+1) f fd ps sp:=by
 obtain⟨_,_,_,_,_,_,_,dZ,_,_,rfl,lk,hcd⟩:=F.ex;exact a1r lk hcd S len λA outer s H vs Q E hr hsp=>(hb dZ A outer s H vs Q E hr hsp).imp λt h=>⟨h.1.nox,h.2⟩
end
structure DmD(K:aJ)(C:Addr)(m qual:Str)(st:Stmt)(ps:List Str) where
 f:Addr
 fd:FuncData
 F:a2Z K m qual st f fd
 b:Binds K fd ps []
 b1:Binds K fd ps [.none]
 mt:Meth K C m f
def a3a{K:aJ}{C:Addr}{m qual:Str}{st:Stmt}{ps:List Str}{f T:Addr}{oc oT:Value}{od an dT:Option Addr}{osl sT:Array (Option Value)}{kV doc pm dZ ct:Value}{nT:Nat}
  (a:PySem.W.findIn K (.ref C) m=some (some (.ref f))) (i:PySem.W.isFn K (.ref f)=true)
  (l:K.lookup f=some ⟨oc,od,.func (PySem.W.fnOf m qual (gY st) (gB st) (aH st) (.ref T) kV doc pm an dZ ct),osl⟩) (c:PySem.W.codeIn K dZ qual=true) (k:PySem.W.keepIn K (.ref f)=true)
  (lT:K.lookup T=some ⟨oT,dT,.seq #[.none] nT,sT⟩)
  (h:∀(kV doc pm:Value) (an:Option Addr) (dZ ct:Value) (us:List Value),us.length=ps.length->∃g,bindArgs (PySem.W.fnOf m qual (gY st) (gB st) (aH st) (.ref T) kV doc pm an dZ ct) ⟨us,[]⟩=seqItems? (.ref T) >>= g/\g (some #[.none])=pure (ps.zip us))
  (h1:∀(kV doc pm:Value) (an:Option Addr) (dZ ct:Value) (us:List Value),us.length+1=ps.length->∃g,bindArgs (PySem.W.fnOf m qual (gY st) (gB st) (aH st) (.ref T) kV doc pm an dZ ct) ⟨us,[]⟩=seqItems? (.ref T) >>= g/\g (some #[.none])=pure (ps.zip (us++[.none]))):DmD K C m qual st ps :=
 {
  f:=f,fd:=_,F:=⟨⟨_,_,_,_,_,_,_,_,_,_,Z,l,c⟩,k⟩,
  b:=λs us X hl=>by
   rw[lH]at hl ⊢
   obtain⟨g,e1,e2⟩:=h kV doc pm an dZ ct us hl
   exact BindsTo.of_defaults Z (X _ _ lT) Z e1 e2,
  b1:=λs us X hl=>by
   obtain⟨g,e1,e2⟩:=h1 kV doc pm an dZ ct us (by rw[cB]at hl;exact hl)
   exact BindsTo.of_defaults Z (X _ _ lT) Z e1 e2,
  mt:=⟨a,i,k⟩}
end L2
namespace Dy
open PyProof.Rows
section
variable{prog:Program}{w:World}{A:Around}{E:Value->Shared->Prop}{s:Shared}{κ:Type} [DecidableEq κ] {knd:HeapKind prog w κ}
def Rh{d a:Addr}{xs:List (κ×Addr×Value)}{k:κ}{v:Value}{Q:Value->Shared->Prop}(hu:knd.room A)(hkey:knd.is s.heap k a)(hm:s.heap.DictOfH knd d xs)(hz:xs.length<=sizeLine)
  (old:∀p tk,atKey xs k=some p->Q p.2 { s with toks:=tk}) (new:∀h' tk,atKey xs k=none->h'.DictOfH knd d (xs++[(k,a,v)])->Heap.SameBut d s.heap h'->Q v { s with heap:=h',toks:=tk}) :
  wpAny (model prog w) A (dictSetDefault d (.ref a) v) Q E s:=by
 obtain⟨o,es,ep,ho,hc,hd,he,his,hn⟩:=hm;have hes:es.size<=sizeLine:=by have e:=T7 he;omega
 unfold dictSetDefault;try with_reducible refine fG ?_
 refine M (knd.pyHash hu hkey ?_);refine M (wpAny_dictFind_heap (s:={ s with toks:=s.toks+knd.draws k}) hu hkey ho hd he his hn ?_ ?_)
 ·intro hno;have none_:=atKey_none_of_get hno;have hnot:k∉xs.map (·.1):=not_mem_keys_of_get hno;refine M (kE (M (wpAny_updateDictKeys (hz:=hes) (s:={ s with toks:=s.toks+knd.draws k}) ho hd (aq (new _ _ none_ ⟨_,_,ep+1,zW _ ho (Obj.isFreed_of_dict (Obj.data_mapDictKeys hd _)),hc.mapDictKeys _,Obj.data_mapDictKeys hd _,?_,?_,?_⟩ (rO ..))))))
  ·simp[he,entryOfKey]
  ·intro x hx;rcases cH.mp hx with hx|hx
   ·exact knd.keeps (his x hx) ho hd (rO ..)
   ·rw[bG.mp hx];exact knd.keeps hkey ho hd (rO ..)
  ·rw[dW];exact vL.mpr ⟨hn,zT _ _,λx hx y hy e=>hnot (by rw[<-show y=k from bG.mp hy,<-e];exact hx)⟩
 ·intro j q hj;have hej:es[j]?=some (entryOfKey knd (k,q)):=by rw[entry_at he j,hj];rfl
  refine M (tD (s:={ s with toks:=s.toks+knd.draws k}) ho hd ?_);rw[hej];exact M (kE (aq (old q _ (atKey_of_get hn hj))))
def Em{d a:Addr}{k:κ}{v:Value}(hs:(d==sysModules)=false):MeetsIn prog w (Builtin.«dict.setdefault» ⟨[.ref d,.ref a,v],[]⟩) (λA R s=>knd.room A.in1/\∃xs,knd.is s.heap k a/\s.heap.DictOfH knd d xs/\xs.length<=sizeLine/\
   (∀p tk,atKey xs k=some p->R (.ok (.ret p.2)) { s with toks:=tk})/\∀h' tk,atKey xs k=none->h'.DictOfH knd d (xs++[(k,a,v)])->Heap.SameBut d s.heap h'->R (.ok (.ret v)) { s with heap:=h',toks:=tk}) :=
 .of_wp λA R s h=>by
  obtain⟨hu,xs,hkey,hm,hz,old,new⟩:=h;obtain⟨o,es,ep,ho,hc,hd,he,his,hn⟩:=id hm;have hT:s.TypeIs (.ref d) "dict" :=⟨_,ho,hc.1⟩;unfold Builtin.«dict.setdefault»;refine M ?_;unfold Builtin.Dict.keyAndDefault;refine M (HN hT ?_);show wpAny _ _ (pure (d,Value.ref a,some v)) _ _ s;refine aq ?_;dsimp only;rw[hs];simp only[Bool.false_eq_true,if_false];exact M (Rh hu hkey hm hz (λp tk e=>aq ⟨_,Z,old p tk e⟩) λh' tk e hD sb=>aq ⟨_,Z,new h' tk e hD sb⟩)
end
end Dy
namespace L2
open PyProof.Rows Bg
section
variable{X:Cx}
inductive a5f(x:V)(vs:List V)(H:Hp)(Q:VK):Prop
 |mk (a b:Addr) (k:List Key) (O:List (List Key×V)) (v:V) (_:x=.ref a) (_:vs=[.ref b,v]) (_:H b=some (.tup (k.map kV))) (_:H a=some (.dT O)) (_:Q ((ig O k).getD v) H)
def a0l(hu:X.A.units+1<cLine):UL X "dict.get" a5f:=by
 intro Y s σ H x xs v us Q I rx rs h;obtain⟨a,b,k,O,y,rfl,rfl,hb,e,q⟩:=h;obtain rfl:v=Value.ref a:=rx;obtain⟨u,u2,rfl,ru,š⟩:=vals2 rs;obtain rfl:u=Value.ref b:=ru;obtain⟨z,hd,xs,rel,dd⟩:=Jk I.hok e;exact call_meetsIn Nq dd.typeIs PySem.F.entry_dict_get (PySem.F.args_dict_get_3 _ _ _) (meetsH_dict_get_default (tupleKind (fC X.prog X.w)) a b hd u2) ⟨zZ hu,k,xs,Ej I.hok hb,dd,⟨_,H,I.tok _,(rel.val k).getD š,q⟩⟩
end
end L2
namespace Dk
open PyProof.Rows
variable{b:Bool}
def a5g(b:Bool)(v:Value):Bool:=match v with
 |.bool c=>c==b
 |_=>false
def qp{v:Value}(h:a5g b v=true):v=.bool b:=by
 cases v with
 |bool c=>exact congrArg Value.bool (eq_of_beq h)
 |_=>cases h
section
variable{prog:Program}{w:World}{A:Around}{E:Value->Shared->Prop}{s:Shared}
def YZ{Q : Int → Shared → Prop}(h : Q (if b then 1 else 0) { s with toks := s.toks + 1 }) : wpAny (model prog w) A (pyHash (.bool b)) Q E s := by
  unfold pyHash;have hv : [Value.bool b].any Value.onHeap = false := rfl;refine M ?_;rw [cRoomFor, aB ()]; refine aq ?_;refine M (Ig (DK s b) F.slot_bool_hash.lookup ?_);show wpAny _ _ (if (some (Value.builtin "int.__hash__") == some Value.none) = true then _ else _) Q E s;rw [aB ()];refine M (Ig (DK s b) F.slot_bool_hash.lookup ?_);show wpAny _ _ (callSpecialIfBoundUnlessNone? (.bool b) "__hash__" _ >>= _) Q E s;cases b
  · refine M (ZW (DK s false) N6
      (gF N6 (DK s false) entry_int_hash
        (show wpAny _ _ (do ret (← mkInt 0)) _ _ s from wpAny_ret_mkInt ?_) (args_int_hash _)))
    exact aq h
  · refine M (ZW (DK s true) N6
      (gF N6 (DK s true) entry_int_hash
        (show wpAny _ _ (do ret (← mkInt 1)) _ _ s from wpAny_ret_mkInt ?_) (args_int_hash _)))
    exact aq h
def Ć{a:Bool}{Q:Bool->Shared->Prop}(h:Q (decide (a=b)) s):wpAny (model prog w) A (eqBool (.bool a) (.bool b)) Q E s:=by
 unfold eqBool;show wpAny _ _ (if(Value.bool a==Value.bool b)=true then _ else _) Q E s;by_cases hab:(Value.bool a==Value.bool b)=true
 ·rw[aG hab];have e:a=b:=()
  subst e;exact M (kE (aq (by simpa using h)))
 ·rw[aB hab];refine M (eq_bool (DG ?_));grind
end
def Jp(prog:Program)(w:World):KeyKind prog w Bool where
 is:=a5g
 hash:=λb=>if b then 1 else 0
 inj:=λv a b h h'=>by
  have e:=qp h
  have e':=qp h'
  rw[e]at e'
  injection e'
 byValue:=λk v h=>by rw[qp h];rfl
 pyHash:=λhv h=>by rw[qp hv];exact YZ h
 eqBool:=λhu hv h=>by rw[qp hu,qp hv];exact Ć h
 «strs» := λk x t v h=>by cases h
end Dk
namespace L2
open PyProof.Rows Bg
section
variable{P:Program}{w:World}{κ:Type} [DecidableEq κ]
inductive Y0(knd:KeyKind P w κ)(H:Hp)(b:Addr)(k:List κ):Prop
 |mk (vs:_) (_:H b=some (.tup vs)) (_:Paired (λv x=>∀u,cW v u->knd.is x u=true) vs k)
def Y0.same{knd:KeyKind P w κ}{H H':Hp}{b:Addr}{k:List κ}(e:∀c ys,H c=some (.tup ys)->H' c=some (.tup ys))(h:Y0 knd H b k):Y0 knd H' b k:=by
 obtain⟨vs,h1,h2⟩:=h;exact⟨vs,e _ _ h1,h2⟩
def a3b{knd:KeyKind P w κ}{vs:List V}{k:List κ}{us:List Value}(p:Paired (λv x=>∀u,cW v u->knd.is x u=true) vs k)(q:cM vs us):ItemsAre knd k us:=by
 induction p generalizing us with
 |nil=>cases q;exact .nil
 |cons h _ ih =>
  cases q with
  |cons r s=>exact .cons (h _ r) (ih s)
def Px{knd:KeyKind P w κ}{H:Hp}{h:Heap}{b:Addr}{k:List κ}(ok:zu P w H h)(e:Y0 knd H b k):(tupleKind knd).is h k b:=by
 obtain⟨vs,e1,e2⟩:=e;obtain⟨_,bV,r,o,h1,h2,n,h3⟩:=(show fY P w H h b (.tup vs)from ok b _ e1);exact⟨o,bV.toArray,n,h1,h2,h3,by simpa using a3b e2 r⟩
def ć(knd:KeyKind P w κ)(a:Addr)(xs:List (List κ×Addr×Value)):Heap->Prop:=λh=>(a==sysModules)=false/\∃o es ep,h.get? a=some o/\o.ExactDict/\o.data=.dict es ep/\es.toList=xs.map (entryOfKey (tupleKind knd))/\(xs.map (·.1)).Nodup
def DX(knd:KeyKind P w κ)(H:Hp)(a:Addr)(O:List (List κ×V)):Prop:=O.length<=5000/\((O=[]/\H a=some (.dT []))\/∃xs:List (List κ×Addr×Value),H a=some (.ext (ć knd a xs))/\Paired (λp q=>p.1=q.1/\Y0 knd H q.2.1 p.1/\cW p.2 q.2.2) O xs)
def DX.same{knd:KeyKind P w κ}{H H':Hp}{a:Addr}{O:List (List κ×V)}(e:aL H H')(h:DX knd H a O):DX knd H' a O:=by
 obtain⟨z,h|⟨xs,h1,h2⟩⟩:=h
 ·exact⟨z,.inl ⟨h.1,e _ _ h.2⟩⟩
 ·exact⟨z,.inr ⟨xs,e _ _ h1,Paired.cC h2 λ_ _ ⟨a,b,c⟩=>⟨a,b.same λ_ _ q=>e _ _ q,c⟩⟩⟩
def DX.a1R{knd:KeyKind P w κ}{H:Hp}{a:Addr}{O:List (List κ×V)}(h:DX knd H a O){ys:List V}:H a≠some (.tup ys):=λe=>by
 obtain⟨z,h|⟨xs,h1,h2⟩⟩:=h
 ·grind
 grind
def DX.new{knd:KeyKind P w κ}{H:Hp}{a:Addr}(h:H a=some (.dT [])):DX knd H a []:=⟨dw _,.inl ⟨Z,h⟩⟩
def Ĉ{knd:KeyKind P w κ}{H:Hp}{h:Heap}{a:Addr}{O:List (List κ×V)}(ok:zu P w H h)(d:DX knd H a O):(a==sysModules)=false/\∃xs,Paired (λp q=>p.1=q.1/\Y0 knd H q.2.1 p.1/\cW p.2 q.2.2) O xs/\h.DictOfH (tupleKind knd) a xs:=by
 obtain⟨z,⟨rfl,h1⟩|⟨xs,h1,h2⟩⟩:=d
 ·obtain⟨_,hs,xs,r,o,es,ep,e1,e2,e3,e4,e5⟩:=(show fY P w H h a (.dT [])from ok a _ h1);cases r;exact⟨hs,[],.nil,o,es,ep,e1,e2,e3,e4,(λx hx=>absurd hx dO),Ad⟩
 ·obtain⟨⟨hs,o,es,ep,e1,e2,e3,e4,e5⟩,_⟩:=(show fY P w H h a (.ext (ć knd a xs))from ok a _ h1);refine⟨hs,xs,h2,o,es,ep,e1,e2,e3,e4,?_,e5⟩;have all:∀{l:List (List κ×V)}{m:List (List κ×Addr×Value)},Paired (λp q=>p.1=q.1/\Y0 knd H q.2.1 p.1/\cW p.2 q.2.2) l m->∀x∈m,(tupleKind knd).is h x.1 x.2.1:=by
   intro l m q
   induction q with
   |nil=>grind
   |cons z _ ih =>
    intro x hx;rcases bZ.mp hx with rfl|hx
    ·rw[<-z.1];exact Px ok z.2.1
    ·exact ih x hx
  exact all h2
def a0m{knd:KeyKind P w κ}{H':Hp}{h':Heap}{a:Addr}{xs:List (List κ×Addr×Value)}(hs:(a==sysModules)=false)(dd:h'.DictOfH (tupleKind knd) a xs):fY P w H' h' a (.ext (ć knd a xs)):=by
 obtain⟨o,es,ep,h1,h2,h3,h4,_,h5⟩:=dd;refine⟨⟨hs,o,es,ep,h1,h2,h3,h4,h5⟩,⟨o,h1⟩,λg1 g2 q k=>?_⟩;obtain⟨hs,o,es,ep,h1,h2,h3,h4,h5⟩:=q;exact⟨hs,o,es,ep,k _ h1,h2,h3,h4,h5⟩
def a5h{knd:KeyKind P w κ}{H:Hp}(k:List κ){O:List (List κ×V)}{xs:List (List κ×Addr×Value)}(h:Paired (λp q=>p.1=q.1/\Y0 knd H q.2.1 p.1/\cW p.2 q.2.2) O xs):sH (ig O k) ((atKey xs k).map (·.2)):=by
 induction h with
 |nil=>exact nD
 | @cons p q O xs h t ih =>
  obtain⟨k1,v1⟩:=p;obtain⟨k2,a2,u2⟩:=q;obtain⟨e,_,r⟩:=h;have e:k1=k2:=e;subst e;unfold ig atKey at ih ⊢;by_cases c:k1=k
  ·rw[uI (),uI ()];exact r
  ·rw[uJ (by simpa using c),uJ (by simpa using c)];exact ih
end
section
variable{X:Cx}{κ:Type} [DecidableEq κ]
inductive ĉ{P:Program}{w:World}(knd:KeyKind P w κ)(x:V)(vs:List V)(H:Hp)(Q:VK):Prop
 |mk (a b:Addr) (k:List κ) (O:List (List κ×V)) (v:V) (_:x=.ref a) (_:vs=[.ref b,v]) (_:Y0 knd H b k) (_:DX knd H a O) (_:O.length<=4000) (_:(∀y,ig O k=some y->Q y H)) (_:(ig O k=none->∀H',(∀c,c≠a->H' c=H c)->DX knd H' a (O++[(k,v)])->Q v H'))
def Jq(knd:KeyKind X.prog X.w κ)(hu:X.A.units+1<cLine):UL X "dict.setdefault" (ĉ knd):=by
 intro Y s σ H x xs v us Q I rx rs h;obtain⟨a,b,k,O,y,rfl,rfl,hb,e,l5,old,new⟩:=h;obtain rfl:v=Value.ref a:=rx;obtain⟨u,u2,rfl,ru,š⟩:=vals2 rs;obtain rfl:u=Value.ref b:=ru;obtain⟨hd,xs,rel,dd⟩:=Ĉ I.hok e;have lx:xs.length=O.length:=(aV rel).symm;have rv:=a5h k rel;have hr:(tupleKind knd).room X.A.in1:=zZ hu;refine call_meetsIn PySem.F.slot_dict_setdefault dd.typeIs PySem.F.entry_dict_setdefault (PySem.F.args_dict_setdefault_3 _ _ _) (Dy.Em (knd:=tupleKind knd) (k:=k) hd) ⟨hr,xs,Px I.hok hb,dd,by rw[jC];omega,λp tk ep=>?_,λh' tk en dd' hs=>?_⟩
 ·have ev:(atKey xs k).map (·.2)=some p.2:=by rw[ep];rfl
  cases c:ig O k with
  |none =>
   rw[c]at rv;have:=sH.none_of rv;grind
  |some y0 =>
   rw[c]at rv;obtain⟨w',hw,Ym⟩:=sH.some_of rv;rw[ev]at hw;cases hw;exact⟨y0,H,I.tok tk,Ym,old y0 c⟩
 ·have he:∃q,h'.get? a=some q:=by
   obtain⟨q,_,_,hq,_⟩:=dd';exact⟨q,hq⟩
  have cn:ig O k=none:=by
   cases c:ig O k with
   |none=>rfl
   |some y0 =>
    rw[c]at rv;obtain⟨w',hw,_⟩:=sH.some_of rv;grind
  have mu:Mut (H a):=by
   obtain⟨_,h|⟨xs,h1,_⟩⟩:=e
   ·rw[h.2];exact nD
   ·rw[h1];exact nD
  have nt:=λys=>e.a1R (ys:=ys);have keep:∀c ys,H c=some (.tup ys)->cN H a (.ext (ć knd a (xs++[(k,b,u2)]))) c=some (.tup ys):=λc ys hc=>by
   rw[aW (λz=>nt ys ())];exact hc
  refine⟨y,_,Pq I mu hs he (a0m hd dd'),š,new cn _ (λc hc=>aW hc) ⟨(),.inr ⟨_,dD,?_⟩⟩⟩;have go:∀{ks:List (List κ×V)}{ys:List (List κ×Addr×Value)},Paired (λp q=>p.1=q.1/\Y0 knd H q.2.1 p.1/\cW p.2 q.2.2) ks ys->Paired (λp q=>p.1=q.1/\Y0 knd (cN H a (.ext (ć knd a (xs++[(k,b,u2)])))) q.2.1 p.1/\cW p.2 q.2.2) (ks++[(k,y)]) (ys++[(k,b,u2)]):=λ{ks ys} r=>by
   induction r with
   |nil=>exact .cons ⟨Z,hb.same keep,š⟩ .nil
   |cons a _ ih=>exact .cons ⟨a.1,a.2.1.same keep,a.2.2⟩ ih
  exact go rel
inductive a5i{P:Program}{w:World}(knd:KeyKind P w κ)(x:V)(vs:List V)(H:Hp)(Q:VK):Prop
 |mk (a b:Addr) (k:List κ) (O:List (List κ×V)) (v:V) (_:x=.ref a) (_:vs=[.ref b,v]) (_:Y0 knd H b k) (_:DX knd H a O) (_:Q ((ig O k).getD v) H)
def a0n(knd:KeyKind X.prog X.w κ)(hu:X.A.units+1<cLine):UL X "dict.get" (a5i knd):=by
 intro Y s σ H x xs v us Q I rx rs h;obtain⟨a,b,k,O,y,rfl,rfl,hb,e,q⟩:=h;obtain rfl:v=Value.ref a:=rx;obtain⟨u,u2,rfl,ru,š⟩:=vals2 rs;obtain rfl:u=Value.ref b:=ru;obtain⟨hd,xs,rel,dd⟩:=Ĉ I.hok e;exact call_meetsIn Nq dd.typeIs PySem.F.entry_dict_get (PySem.F.args_dict_get_3 _ _ _) (meetsH_dict_get_default (tupleKind knd) a b hd u2) ⟨zZ hu,k,xs,Px I.hok hb,dd,⟨_,H,I.tok _,(a5h k rel).getD š,q⟩⟩
def tBX{P:Program}{w:World}(knd:KeyKind P w κ)(r:V->List V->Hp->VK->Prop)(to:TE)(t:TA):TE:=λσ H Q=>to σ H λx H1=>(∃a O,x=.ref a/\DX knd H1 a O)/\t σ H1 λxs H2=>r x xs H2 Q
def Ċ{o e:Expr}{es:List Expr}{to:TE}{t:TA}{name:Str}{apos cpos:Pos}{id:String}{r:V->List V->Hp->VK->Prop}(knd:KeyKind X.prog X.w κ)(pa:PlainAttrs "dict")(slot:Slot "dict" name id)(hty:typeOf (.builtin id)=pure (.type "method_descriptor"))(hm:UL X id r)(ho:PE X o to)(ha:PA X (e::es) t)
  (hbase:@&(attributeBase o name X.env (eval o X.env)=eval o X.env))
  (hfew:@&(((backTo cpos (starEach (e::es) X.env)).all (λx=>!x.1)&&(backToKw cpos (keywordEach [] X.env)).all (λx=>x.1.isSome)
   && decide ((e::es).length+([]:List Keyword).length+(if([]:List Keyword).isEmpty then 0 else 1)<30))=true))
  (hline:@&((apos.endLine==cpos.line)=true)) (hs:@&(starEach (e::es) X.env=(false,eval e X.env)::starEach es X.env)) (hplain:@&((backTo cpos (starEach es X.env)).any (·.1)=false)) :
  PE X (.Call (.Attribute o name apos) (e::es) [] cpos) (tBX knd r to t):=by
 intro Y s σ H Q I h;refine wpAny_Call_method_late hbase hfew hline Z (jG (ho Y s σ H _ I h) λv s1 ⟨x,H1,I1,r1,⟨a,O,ex,dx⟩,q1⟩=>?_);subst ex;obtain rfl:v=Value.ref a:=r1;obtain⟨_,xs,_,dd⟩:=Ĉ I1.hok dx;refine⟨"dict",id,pa,slot,hty,dd.typeIs,λb eb=>?_,?_⟩
 ·injection eb with eb
  subst eb;obtain⟨o,_,_,h1,h2,_⟩:=dd;exact⟨o,h1,h2.2.1⟩
 have hA:=ha cpos Y s1 σ H1 _ I1 q1;rw[hs]at hA ⊢;refine SM (by show(false||(backTo cpos (starEach es X.env)).any (·.1))=false;rw[hplain]<;>rfl) (Calls.evalArgs_plain ?_);exact jG hA λus s2 ⟨vs,H2,I2,r2,q2⟩=>hm Y s2 σ H2 (.ref a) vs _ us Q I2 Z r2 q2
end
end L2
namespace Di
open PyProof.Rows
variable{o:Obj}{es:Array DictEntry}{ep:Nat}
variable{prog:Program}{w:World}{A:Around}{E:Value->Shared->Prop}{s:Shared}
abbrev vO(d:Addr):Obj:={ cls:=.type "dict_items",data:=.fields #[.ref d]}
def ċ{d:Addr}{Q:Value->Shared->Prop}(hs:(d==sysModules)=false)(ho:s.heap.get? d=some o)(hx:o.ExactDict)
  (h:Q (.ref s⁻¹) { s with heap:=s.heap.push (vO d)}):wpAny (model prog w) A (call (.builtin "dict.items") [.ref d]) Q E s:=by
 have hT:s.TypeIs (.ref d) "dict" :=⟨_,ho,hx.1⟩;refine gF F.slot_dict_items hT F.entry_dict_items ?_ (F.args_dict_items_1 _);unfold Builtin.«dict.items»;refine M ?_;unfold Builtin.Dict.noArgs;refine M (HN hT (aq ?_));refine M ?_;unfold Builtin.Dict.showsAll;refine jK (L2.xW () (aq ?_));exact M (j8 (aq ⟨_,Z,h⟩))
def Cq{v d:Addr}{Q:Value->Shared->Prop}(hv:s.heap.get? v=some (vO d))(ho:s.heap.get? d=some o)(hd:o.data=.dict es ep)
  (h:∀h',IsItemIter h' s⁻¹ d 0 es.size ep .none .none->(∀b ob,s.heap.get? b=some ob->h'.get? b=some ob)->Q (.ref s⁻¹) { s with heap:=h'}):wpAny (model prog w) A (pyIter (.ref v)) Q E s:=by
 have hT:s.TypeIs (.ref v) "dict_items" :=⟨_,hv,Z⟩;refine Ia hT F.slot_dict_items_iter (gF F.slot_dict_items_iter hT F.entry_dict_items_iter ?_ (F.args_dict_items_iter_1 _));unfold Builtin.«dict_items.__iter__»;refine M (aq ?_);refine M ?_;unfold Builtin.Dict_items.dictOf;refine M (gq hv Z (x:=.ref d) Z (aq ?_));refine M ?_;unfold Builtin.Dict_items.newIterator;refine M (tD ho hd ?_);refine M (xH ho hd ?_);have own:Builtin.Dict_items.ownsTuple "dict_itemiterator" = true:=()
 simp only[own,if_true];refine j8 ?_ (by simp only[sizeOk,sizeLine_eq,Builtin.Dict_items.ownedTupleFields,List.size_toArray,List.length_append,List.length_cons,List.length_nil];omega);exact aq ⟨_,Z,"dict_itemiterator",_,⟨_,bW _ Z,Z⟩,F.slot_dict_itemiterator_next.lookup,h _ (bW _ Z) λb ob e=>bL _ e⟩
def item_at{it d:Addr}{i:Nat}{e:DictEntry}{ok ov:Value}{Q:Option Value->Shared->Prop}(ho:s.heap.get? d=some o)(hd:o.data=.dict es ep)(hit:IsItemIter s.heap it d i es.size ep ok ov)(hx:es[i]?=some e)
  (h:∀h',IsItemIterOut h' it d (i+1) es.size ep e.key e.val s⁻¹->h'.get? s⁻¹=some { cls:=.type "tuple",data:=.seq #[e.key,e.val]}->h'.objs.size=s⁻¹+1->
   (∀b ob,b≠it->s.heap.get? b=some ob->h'.get? b=some ob)->Q (some (.ref s⁻¹)) { s with heap:=h'}):wpAny (model prog w) A (pyNext (.ref it)) Q E s:=by
 have hT:s.TypeIs (.ref it) "dict_itemiterator" :=⟨_,hit,Z⟩;have own:Builtin.Dict_items.ownsTuple "dict_itemiterator" = true:=()
 unfold pyNext;refine M (tK (oE (name:=Str.ofString "__next__") hT M9 (gF M9 hT Z2 ?_ (Z1 _))));refine M (aq ?_);refine M ?_;refine M ?_;refine M (m:=typeNameOfWhole _) (M7 hT (aq ?_));refine M (DQ hit Z ?_);rw[aG own];show wpAny _ _ (if(Value.ref d==Value.none)=true then _ else _) _ _ _;refine jK (L2.xW (by simp) ?_);refine M (m:=Builtin.Dict_items.addrOf _) (aq ?_);refine M (tD ho hd ?_);refine jK (L2.xW (by simp) ?_);refine M (m:=Builtin.Dict_items.addrOf _) (aq ?_);refine M (xH ho hd ?_);refine jK (L2.xW (by simp) (aq ?_));dsimp only;have e1:(if(i:Int)<0 then none else es[(i:Int).toNat]?)=some e:=by
  rw[aB (),iU];exact hx
 rw[e1];dsimp only;refine M (M (m:=typeNameOfWhole _) (M7 hT (aq (M (SQ hT ?_)))));show wpAny _ _ (setField (.ref it) 3 (rawInt ((i:Int)+1)) >>= _) _ _ _;refine M (iR hit (by simp) λh1 he1 Eg=>?_);have q1:((i+1:Nat):Int)=(i:Int)+1:=()
 have a5j:IsItemIter h1 it d (i+1) es.size ep ok ov:=by unfold IsItemIter;rw[q1];simpa [rawInt]using he1
 have hT1:Shared.TypeIs { s with heap:=h1} (.ref it) "dict_itemiterator" :=⟨_,a5j,rfl⟩;have z1:h1.objs.size=s⁻¹:=Eg.1;have il:it<s⁻¹:=aY hit;refine M (fG (M (SQ hT1 (M (SQ hT1 ?_)))));show wpAny _ _ (Builtin.Dict_items.pairFromOwner (.ref it) 6 e.key e.val) _ _ { s with heap:=h1};unfold Builtin.Dict_items.pairFromOwner;refine M (Ih ?_);have he2:IsItemIter (h1.push { cls:=.type "tuple",data:=.seq #[e.key,e.val]}) it d (i+1) es.size ep ok ov:=bL _ a5j;have t2:(h1.push { cls:=.type "tuple",data:=.seq #[e.key,e.val]}).get? s⁻¹=some { cls:=.type "tuple",data:=.seq #[e.key,e.val]}:=by rw[<-z1];exact bW _ rfl
 have z2:(h1.push { cls:=.type "tuple",data:=.seq #[e.key,e.val]}).objs.size=s⁻¹+1:=by rw[kh,z1]
 have k2:∀b ob,b≠it->s.heap.get? b=some ob->(h1.push { cls:=.type "tuple",data:=.seq #[e.key,e.val]}).get? b=some ob:=λb ob hb q=>bL _ (Eg.extBut b ob hb q);rw[z1];generalize h1.push { cls:=.type "tuple",data:=.seq #[e.key,e.val]}=h2 at he2 t2 z2 k2;refine M ?_;unfold Builtin.Dict_items.ownedTupleIsFree;refine M (gq he2 Z (x:=.none) Z (aq ?_));simp only[if_true];refine M (gq he2 Z (x:=ok) Z (M (gq he2 Z (x:=ov) Z ?_)));refine M (iR he2 (by simp) λh3 he3 s3=>?_);have he3:IsItemIter h3 it d (i+1) es.size ep e.key ov:=he3;refine M (iR he3 (by simp) λh4 he4 s4=>?_);have he4:IsItemIter h4 it d (i+1) es.size ep e.key e.val:=he4;refine M (iR he4 (by simp) λh5 he5 s5=>?_);have he5:IsItemIterOut h5 it d (i+1) es.size ep e.key e.val s⁻¹:=he5;refine M (iR he5 (by simp) λh6 he6 s6=>?_);have he6:IsItemIterOut h6 it d (i+1) es.size ep e.key e.val s⁻¹:=he6;have up:∀b ob,b≠it->h2.get? b=some ob->h6.get? b=some ob:=λb ob hb q=>s6.extBut b ob hb (s5.extBut b ob hb (s4.extBut b ob hb (s3.extBut b ob hb q)));refine M (xO (aq (aq ⟨_,Z,aq (h h6 he6 (up _ _ (gG il) t2) ?_ λb ob hb q=>up b ob hb (k2 b ob hb q))⟩)));show h6.objs.size=_;rw[s6.1,s5.1,s4.1,s3.1];exact z2
def Jh{it d:Addr}{ok ov:Value}{Q:Option Value->Shared->Prop}(hh:A.handled=none)(ho:s.heap.get? d=some o)(hd:o.data=.dict es ep)(hit:IsItemIter s.heap it d es.size es.size ep ok ov)
  (h:∀h',Heap.ExtBut it s.heap h'->Q none { s with heap:=h'}):wpAny (model prog w) A (pyNext (.ref it)) Q E s:=by
 have hT:s.TypeIs (.ref it) "dict_itemiterator" :=⟨_,hit,Z⟩;have own:Builtin.Dict_items.ownsTuple "dict_itemiterator" = true:=()
 unfold pyNext;refine M (tK (oE (name:=Str.ofString "__next__") hT M9 (gF M9 hT Z2 ?_ (Z1 _))));refine M (aq ?_);refine M ?_;refine M ?_;refine M (m:=typeNameOfWhole _) (M7 hT (aq ?_));refine M (DQ hit Z ?_);rw[aG own];show wpAny _ _ (if(Value.ref d==Value.none)=true then _ else _) _ _ _;refine jK (L2.xW (by simp) ?_);refine M (m:=Builtin.Dict_items.addrOf _) (aq ?_);refine M (tD ho hd ?_);refine jK (L2.xW (by simp) ?_);refine M (m:=Builtin.Dict_items.addrOf _) (aq ?_);refine M (xH ho hd ?_);refine jK (L2.xW (by simp) (aq ?_));dsimp only;have e1:(if(es.size:Int)<0 then none else es[(es.size:Int).toNat]?)=none:=by rw[aB (),iU];simp
 rw[e1];dsimp only;refine M (M (m:=typeNameOfWhole _) (M7 hT (aq ?_)));show wpAny _ _ (setField (.ref it) 2 .none >>= _) _ _ _;refine M (iR hit (by simp) λh1 hI1 Eg=>?_);refine M ?_;simp only[newExc,newTuple];refine M (j8 ?_ (by size_fits));refine M (m:=firstArgMember _ _) (Il (a:=Value.none) (by first|rfl|(simp only[firstArgMember];rfl)) ?_);refine j8 ?_ (by size_fits);simp only[raiseNew];refine M (Oe ?_);rw[show A.in1.handled=none from hh];refine M (aq (Oi ?_));exact M (vM (U:="StopIteration") (T:="StopIteration") (b:=true) ⟨_,bW _ Z,Z⟩ Ii (aq (h _ ((Eg.extBut.push _).push _))))
end Di
namespace L2
open PyProof.Rows Bg
variable{o:Obj}{u:HO}{as:List Addr}
def Xc(p d:Addr):HO:=.ext (λh=>h.get? p=some (Di.vO d))
def Iti(o:Obj)(d:Addr)(u:HO)(as:List Addr)(vs:List V):It :=
 ⟨λi H=>H d=some (.jo o u)/\i<as.length,λi H x H'=>∃p a v,x=.ref p/\as[i]?=some a/\vs[i]?=some v/\iQ H p (.tup [.ref a,v]) H',λi H=>H d=some (.jo o u)/\i=as.length⟩
def Vq{P:Program}{w:World}{K:aJ}{elts:List Expr}{k:Nat}{pos:Pos}(d it:Addr){vs:List V}{es:Array DictEntry}{ep:Nat}(hd:o.data=.dict es ep)(ek:es.toList.map (·.key)=as.map Value.ref)(ev:cM vs (es.toList.map (·.val))) :
  Turn P w K (.Tuple elts k pos) (Iti o d u as vs) [it] it (λi h=>∃ok ov,IsItemIter h it d i es.size ep ok ov) where
 mem:=by simp
 obj:=λi h st b hb=>by
  grind
 keep:=λi h h' ⟨ok,ov,st⟩ k=>⟨ok,ov,k it (by simp) _ st⟩
 item:=by
  intro X hP hw hK hc i Y s σ H E I hf st hg
  subst hP hw hK
  obtain⟨ok,ov,st⟩:=st
  obtain⟨hq,hi⟩:=hg
  obtain⟨hd1,_⟩:=I.hok d _ hq
  obtain⟨f0,f1,f2,f3,f4,f5⟩:=hf it (by simp)
  have ne:d≠it:=λz=>by grind
  have lz:es.size=as.length:=by have:=congrArg List.length ek;grind
  have he:es[i]?=some (es[i]'()):=w5 ()
  have a2U:(es[i]'()).key=Value.ref as[i]:=by
   have:=congrArg (λl=>l[i]?) ek
   grind
  have lv:vs.length=as.length:=by
   have:=ev.length
   grind
  obtain⟨v,hv⟩:∃v,vs[i]?=some v:=⟨vs[i]'(),bF _⟩
  obtain⟨u1,hu1,ru1⟩:=ev.get hv
  have a7o:(es[i]'()).val=u1:=by
   grind
  refine Di.item_at hd1 hd st he λh' hI ht hz kp=>⟨_,Z,wpAny_letOwnedTupleGo_items hI λh3 hI3 YK=>?_⟩
  have nit:s⁻¹≠it:=gG (aY st)
  have kp3:∀c oc,c∉[it]->s.heap.get? c=some oc->h3.get? c=some oc:=λc oc hc q=>by
   have hc':c≠it:=()
   exact(YK.2 c hc').trans (kp c oc hc' q)
  have I1:bH X Y σ H { s with heap:=h3}:=yX I [it] (λc hc=>hf c hc) kp3
  have hfree:H s⁻¹=none:=I.hok.fresh (aM _)
  have ht3:h3.get? s⁻¹=some { cls:=.type "tuple",data:=.seq #[(es[i]'()).key,(es[i]'()).val]}:=(YK.2 _ nit).trans ht
  have I2:bH X Y σ (cN H s⁻¹ (.tup [.ref as[i],v])) { s with heap:=h3}:=by
   refine bH.track I1 hfree I.sz (gG I.lt) (λy c q=>?_) (λp hp=>b7 (aY (I.pin p hp).1)) ?_
   ·obtain⟨v,oc,q1,_⟩:=I.cell y c q
    grind
   ·exact⟨(by show 2<=sizeLine;decide),[(es[i]'()).key,(es[i]'()).val],.cons a2U (.cons () .nil),⟨_,ht3,Z,_,Z⟩⟩
  refine⟨.ref s⁻¹,_,I2,Z,⟨_,as[i],v,Z,bF hi,hv,iQ.pQ hfree⟩,⟨_,_,hI3⟩,λc hc=>?_⟩
  have e:c=it:=()
  subst e
  rw[aW (Ne.symm nit)]
  exact f0
 done:=by
  intro X hP hw hK hc i Y s σ H E I hf st hg
  subst hP hw hK
  obtain⟨ok,ov,st⟩:=st
  obtain⟨hq,hx⟩:=hg
  obtain⟨hd1,_⟩:=I.hok d _ hq
  obtain⟨f0,f1,f2,f3,f4,f5⟩:=hf it (by simp)
  have lz:es.size=as.length:=by have:=congrArg List.length ek;grind
  rw[hx,<-lz]at st
  exact Di.Jh (I.ok.hd hc) hd1 hd st λh' eb=>⟨Z,I.turned (t':=s.toks) (λb o hb e=>eb b o hb e) f0 f1 f3 f4 f5⟩
 self:=λ_ _ _ _ _ ⟨ok,ov,st⟩ h=>PySem.W.kcp_self st h
section
variable{X:Cx}
inductive a0o(x:V)(vs:List V)(H:Hp)(Q:VK):Prop
 |mk (d:Addr) (O:List (List Key×V)) (_:x=.ref d) (_:vs=[]) (_:H d=some (.dT O)) (_:∀p H',iQ H p (Xc p d) H'->Q (.ref p) H')
def vd:UL X "dict.items" a0o:=by
 intro Y s σ H x xs v us Q I rx rs h;obtain⟨d,O,rfl,rfl,e,q⟩:=h;obtain rfl:v=Value.ref d:=rx;cases rs;obtain⟨_,hs,xs,rel,o,es,ep,ho,hx,hdt,hes,_,_⟩:=Jk I.hok e;refine Di.ċ hs ho hx ?_;have g:(s.heap.push (Di.vO d)).get? s⁻¹=some (Di.vO d):=bW _ rfl;refine⟨.ref s⁻¹,_,I.laid (t':=s.toks) (o:=Xc s⁻¹ d) (λb ob eb=>bL _ eb) (aM _) ⟨g,⟨_,g⟩,λh1 h2 e1 k=>k _ e1⟩,Z,q _ _ (iQ.pQ (I.hok.fresh (aM _)))⟩
def a0p(tl:TE):TI:=λσ H R=>tl σ H λx H1=>∃p d O,x=.ref p/\H1 p=some (Xc p d)/\H1 d=some (.dT O)/\
 ∀o as,Paired (λa (kv:List Key×V)=>(cN H1 d (.jo o (.dT O))) a=some (.tup (kv.1.map kV))) as O->R (Iti o d (.dT O) as (O.map (·.2))) (cN H1 d (.jo o (.dT O)))
def vf{elts:List Expr}{k:Nat}{tpos:Pos}{l:Expr}{tl:TE}(hl:PE X l tl):PI X (.Tuple elts k tpos) l (a0p tl):=by
 intro Y s σ H R I h;refine jG (hl Y s σ H _ I h) λv s1 ⟨x,H1,I1,r1,q1⟩=>?_;obtain⟨p,d,O,e,hp,hd,q⟩:=q1;subst e;cases r1;obtain⟨_,hs,xs,rel,o,es,ep,ho,hx,hdt,hes,_,_⟩:=Jk I1.hok hd;have hv:s1.heap.get? p=some (Di.vO d):=(show fY X.prog X.w H1 s1.heap p (Xc p d)from I1.hok p _ hp).1;have I2:bH X Y σ (cN H1 d (.jo o (.dT O))) s1:=I1.Vn hd (λ_ z=>by cases z) (λ_ z=>by cases z) (λ_ z=>by cases z) (I1.Xb hd λ_ _ z=>by cases z) ⟨ho,I1.hok d _ hd⟩;have ek:es.toList.map (·.key)=(xs.map λx=>x.2.1).map Value.ref:=by rw[hes,nC,nC];rfl
 have ev:cM (O.map (·.2)) (es.toList.map (·.val)):=by
  rw[hes,nC];have go:∀{ks:List (List Key×V)}{ys:List (List Key×Addr×Value)},KT H1 ks ys->cM (ks.map (·.2)) (ys.map λx=>x.2.2):=λ{ks ys} r=>by
   induction r with
   |nil=>exact .nil
   |cons a _ ih=>exact .cons a.2.2 ih
  exact go rel
 have pk:Paired (λa (kv:List Key×V)=>(cN H1 d (.jo o (.dT O))) a=some (.tup (kv.1.map kV))) (xs.map λx=>x.2.1) O:=by
  have go:∀{ks:List (List Key×V)}{ys:List (List Key×Addr×Value)},KT H1 ks ys->Paired (λa (kv:List Key×V)=>(cN H1 d (.jo o (.dT O))) a=some (.tup (kv.1.map kV))) (ys.map λx=>x.2.1) ks:=λ{ks ys} r=>by
   induction r with
   |nil=>exact .nil
   | @cons kv y _ _ a _ ih =>
    refine .cons ?_ ih;have nb:y.2.1≠d:=λz=>by grind
    rw[aW nb];exact a.2.1
  exact go rel
 refine Di.Cq hv ho hdt λh' hI kp=>⟨s1⁻¹,[s1⁻¹],_,_,_,Z,I2.kept (t':=s1.toks) (λb ob e=>kp b ob e),Vq d _ hdt ek ev,⟨_,_,hI⟩,λb hb=>?_,q o _ pk⟩;have e:b=s1⁻¹:=()
 subst e;exact I2.Gf (aM _) (I2.hok.fresh (aM _))
end
def wA{d:Addr}{vs:List V}{g:TG}{tb:TS}{D:Ends}{σ:St}{H:Hp}(Pv:Nat->St->Hp->Prop)(h0:Pv 0 σ H)(hl:∀i σ H,i<=as.length->Pv i σ H->H d=some (.jo o u))
  (hs:∀(i:Nat) a v σ H p H',as[i]?=some a->vs[i]?=some v->Pv i σ H->iQ H p (.tup [.ref a,v]) H'->g (.ref p) σ H' λσ2 H2=>tb { D with nx:=Pv (i+1),ct:=Pv (i+1),bk:=D.nx} σ2 H2) (hd:∀σ H,Pv as.length σ H->D.nx σ H) :
  ∃W:Nat->Nat->St->Hp->Prop,(∃m,W 0 m σ H)/\∀i m σ H,W i m σ H->
   ((Iti o d u as vs).stop i H/\D.nx σ H)\/((Iti o d u as vs).go i H/\∃N:St->Hp->Prop,(∀σ' H',N σ' H'->∃m',m'<m/\W (i+1) m' σ' H')/\∀x H',(Iti o d u as vs).ZQ i H x H'->g x σ H' λσ2 H2=>tb { D with nx:=N,ct:=N,bk:=D.nx} σ2 H2):=by
 refine⟨λi m σ H=>m=as.length-i/\i<=as.length/\Pv i σ H,⟨as.length,by simp,dw _,h0⟩,?_⟩;rintro i m σ H ⟨rfl,hi,p⟩;have q1:=hl i σ H hi p;by_cases hlt:i<as.length
 ·refine .inr ⟨⟨q1,hlt⟩,Pv (i+1),λσ' H' p'=>⟨as.length-(i+1),(),Z,hlt,p'⟩,λx H' y=>?_⟩;obtain⟨pp,a,v,rfl,ea,ev,nw⟩:=y;exact hs i a v σ H pp H' ea ev p nw
 ·have e:i=as.length:=()
  subst e;exact .inl ⟨⟨q1,Z⟩,hd σ H p⟩
def Y4{d:Addr}{vs:List V}{ix:List (Option Nat)}{g:TG}{tt:TT}{te:TE}{σ:St}{H1:Hp}{Q:VK}(Pv:Nat->List V->Hp->Prop)(h0:Pv 0 [] H1)(hl:∀i ys H,i<=as.length->Pv i ys H->H d=some (.jo o u)/\ys.length<=5000)
  (hs:∀i ys H a v p H',as[i]?=some a->vs[i]?=some v->Pv i ys H->iQ H p (.tup [.ref a,v]) H'->g (.ref p) (qM ix σ) H' λσ2 H2=>tt σ2 H2 λb H3=>if b=true then te σ2 H3 λv H4=>Pv (i+1) (ys++[v]) H4 else Pv (i+1) ys H3)
  (hd:∀ys H p,Pv as.length ys H->H p=none->Q (.ref p) (cN H p (.lst ys))):nF ix g tt te σ H1 Q (Iti o d u as vs):=by
 refine⟨λi m ys H=>m=as.length-i/\i<=as.length/\Pv i ys H,⟨as.length,by simp,dw _,h0⟩,?_⟩;rintro i m ys H ⟨rfl,hi,pp⟩;obtain⟨hx,z⟩:=hl i ys H hi pp;have z':ys.length<=sizeLine:=by rw[jC];omega
 by_cases hlt:i<as.length
 ·refine .inr ⟨⟨hx,hlt⟩,z',λys' H'=>Pv (i+1) ys' H',λys' H' p'=>⟨as.length-(i+1),(),Z,hlt,p'⟩,λx H' y=>?_⟩;obtain⟨p,a,v,rfl,ea,ev,nw⟩:=y;exact hs i ys H a v p H' ea ev pp nw
 ·have ei:i=as.length:=()
  subst ei;exact .inl ⟨⟨hx,Z⟩,z',λp hp=>hd ys H p pp hp⟩
end L2
namespace Z3
open PyProof.Rows
variable{a b c x:Value}{k n l1 l2 l3:Nat}{xs ys zs:Array Value}
abbrev K3(h:Heap)(T:Addr)(a b c:Value):Prop:=h.get? T=some { cls:=.type "tuple",data:=.seq #[a,b,c]}
section
variable{prog:Program}{w:World}{A:Around}{E:Value->Shared->Prop}{s:Shared}
def put{T:Addr}{Q:Unit->Shared->Prop}(hT:K3 s.heap T a b c)
  (h:∀h',h'.get? T=some { cls:=.type "tuple",data:=.seq ((#[a,b,c]:Array Value).setIfInBounds k x)}->Heap.SameBut T s.heap h'->Q ⟨⟩ { s with heap:=h'}):wpAny (model prog w) A (updateSeq T (·.setIfInBounds k x)) Q E s:=by
 refine Oa hT Z (h _ ?_ (rO ..));rw[zW _ hT rfl];simp[Obj.mapSeq]
def next_item{y v:Value}{Q:Value->Shared->Prop}(q1:l1<n)(q2:l2<n)(q3:l3<n)
  (hz:IsZip s.heap (n+5) (n+3) (n+4) .none) (hTI:K3 s.heap (n+3) (.ref n) (.ref (n+1)) (.ref (n+2))) (hTO:K3 s.heap (n+4) a b c)
  (h1:s.heap.IsListIter n l1 k) (h2:s.heap.IsListIter (n+1) l2 k) (h3:s.heap.IsListIter (n+2) l3 k) (hl1:s.heap.IsList l1 xs) (hl2:s.heap.IsList l2 ys) (hl3:s.heap.IsList l3 zs) (hx:xs[k]?=some x) (hy:ys[k]?=some y) (hv:zs[k]?=some v)
  (hQ:∀h',IsZip h' (n+5) (n+3) (n+4) (rawInt s⁻¹)->K3 h' (n+4) x y v->h'.IsListIter n l1 (k+1)->h'.IsListIter (n+1) l2 (k+1)->h'.IsListIter (n+2) l3 (k+1)->K3 h' s⁻¹ x y v->
   (∀e o,e≠n->e≠n+1->e≠n+2->e≠n+4->e≠n+5->s.heap.get? e=some o->h'.get? e=some o)->Q (.ref s⁻¹) { s with heap:=h'}) :
  wpAny (model prog w) A (Builtin.«zip.__next__» ⟨[.ref (n+5)],[]⟩) (λfin s'=>∃v,fin=.done (.ret v)/\Q v s') E s:=by
 have d41:((n+4):Nat)≠(n+1):=()
 have d42:((n+4):Nat)≠(n+2):=()
 have d54:((n+5):Nat)≠(n+4):=()
 have d52:((n+5):Nat)≠(n+2):=()
 have d51:((n+5):Nat)≠(n+1):=()
 have d50:((n+5):Nat)≠n:=()
 have d04:(n:Nat)≠(n+4):=()
 have d02:(n:Nat)≠(n+2):=()
 have d01:(n:Nat)≠(n+1):=()
 have d14:((n+1):Nat)≠(n+4):=()
 have d12:((n+1):Nat)≠(n+2):=()
 have d24:((n+2):Nat)≠(n+4):=()
 show wpAny _ _ (field (.ref (n+5)) 2 >>= _) _ _ _;refine M (gq hz Z (x:=.bool false) Z ?_);show wpAny _ _ (field (.ref (n+5)) 3 >>= _) _ _ _;refine M (gq hz Z (x:=.ref (n+3)) Z (M (oJ hTI Z ?_)));show wpAny _ _ (Builtin.SmallTypes.ownedTupleIsFree (.ref (n+5)) >>= _) _ _ _;refine M ?_;unfold Builtin.SmallTypes.ownedTupleIsFree;refine M (gq hz Z (x:=.none) Z (aq ?_));simp only[if_true];refine M (kE (M (gq hz Z (x:=.ref (n+4)) Z ?_)));refine M (iR hz (by simp) λg1 z1 s1=>?_);have z1:IsZip g1 (n+5) (n+3) (n+4) .ellipsis:=z1;refine M ?_;simp only[List.zipIdx_cons,List.zipIdx_nil,List.forIn_cons,List.forIn_nil];have k1:∀e o,e≠n+5->s.heap.get? e=some o->g1.get? e=some o:=λe o he q=>s1.extBut e o he q;refine M (M (Ae ?_));show wpAny _ _ (Builtin.SmallTypes.nextOf (.ref n) >>= _) _ _ _;refine M (SX (h1.at λo q=>k1 _ o () q) (hl1.at λo q=>k1 _ o () q) hx λg2 i2 s2=>aq ?_);have k2:∀e o,e≠n+5->e≠n->s.heap.get? e=some o->g2.get? e=some o:=λe o he h0 q=>s2.extBut e o h0 (k1 e o he q);have t2:K3 g2 (n+4) a b c:=k2 _ _ () () hTO;refine M (oJ t2 Z (M (put t2 λg3 t3 s3=>?_)));have t3:K3 g3 (n+4) x b c:=t3;refine M (xO (aq ?_));have k3:∀e o,e≠n+5->e≠n->e≠n+4->s.heap.get? e=some o->g3.get? e=some o:=λe o he h0 h4 q=>s3.extBut e o h4 (k2 e o he h0 q);refine M (M (Ae ?_));show wpAny _ _ (Builtin.SmallTypes.nextOf (.ref (n+1)) >>= _) _ _ _;refine M (SX (h2.at λo q=>k3 _ o () () () q) (hl2.at λo q=>k3 _ o () () () q) hy λg4 i4 s4=>aq ?_);have k4:∀e o,e≠n+5->e≠n->e≠n+4->e≠n+1->s.heap.get? e=some o->g4.get? e=some o:=λe o he h0 h4 h5 q=>s4.extBut e o h5 (k3 e o he h0 h4 q);have t4:K3 g4 (n+4) x b c:=s4.extBut (n+4) _ d41 t3;refine M (oJ t4 Z (M (put t4 λg5 t5 s5=>?_)));have t5:K3 g5 (n+4) x y c:=t5;refine M (xO (aq ?_));have k5:∀e o,e≠n+5->e≠n->e≠n+4->e≠n+1->s.heap.get? e=some o->g5.get? e=some o:=λe o he h0 h4 h5 q=>s5.extBut e o h4 (k4 e o he h0 h4 h5 q);refine M (M (Ae ?_));show wpAny _ _ (Builtin.SmallTypes.nextOf (.ref (n+2)) >>= _) _ _ _;refine M (SX (h3.at λo q=>k5 _ o () () () () q) (hl3.at λo q=>k5 _ o () () () () q) hv λg6 i6 s6=>aq ?_);have t6:K3 g6 (n+4) x y c:=s6.extBut (n+4) _ d42 t5;refine M (oJ t6 Z (M (put t6 λg7 t7 s7=>?_)));have t7:K3 g7 (n+4) x y v:=t7;refine M (xO (aq (aq ?_)));have k7:∀e o,e≠n->e≠n+1->e≠n+2->e≠n+4->e≠n+5->s.heap.get? e=some o->g7.get? e=some o:=λe o a0 a1 a2 a4 a5 q=>s7.extBut e o a4 (s6.extBut e o a2 (k5 e o a5 a0 a4 a1 q));refine M (oJ t7 Z (M (Ih ?_)));have sz:g7.objs.size=s⁻¹:=by rw[s7.1,s6.1,s5.1,s4.1,s3.1,s2.1,s1.1]
 have z7:IsZip g7 (n+5) (n+3) (n+4) .ellipsis:=s7.extBut (n+5) _ d54 (s6.extBut (n+5) _ d52 (s5.extBut (n+5) _ d54 (s4.extBut (n+5) _ d51 (s3.extBut (n+5) _ d54 (s2.extBut (n+5) _ d50 z1)))));have i2':g7.IsListIter n l1 (k+1):=i2.at λo q=>s7.extBut n _ d04 (s6.extBut n _ d02 (s5.extBut n _ d04 (s4.extBut n _ d01 (s3.extBut n _ d04 q))));have i4':g7.IsListIter (n+1) l2 (k+1):=i4.at λo q=>s7.extBut (n+1) _ d14 (s6.extBut (n+1) _ d12 (s5.extBut (n+1) _ d14 q));have i6':g7.IsListIter (n+2) l3 (k+1):=i6.at λo q=>s7.extBut (n+2) _ d24 q;have nl:n+5<g7.objs.size:=aY z7;show wpAny _ _ (Builtin.SmallTypes.ownedTupleHandOut (.ref (n+5)) (.ref g7.objs.size) >>= _) _ _ _;refine M ?_;unfold Builtin.SmallTypes.ownedTupleHandOut;have z8:IsZip (g7.push { cls:=.type "tuple",data:=.seq #[x,y,v]}) (n+5) (n+3) (n+4) .ellipsis:=bL _ z7;refine M (iR z8 (by simp) λg9 z9 s9=>?_);have z9:IsZip g9 (n+5) (n+3) (n+4) (rawInt g7.objs.size):=z9;refine iR z9 (by simp) λg10 z10 s10=>?_;have z10:IsZip g10 (n+5) (n+3) (n+4) (rawInt g7.objs.size):=z10;have up:∀e o,e≠n+5->g7.get? e=some o->g10.get? e=some o:=λe o he q=>s10.extBut _ _ he (s9.extBut _ _ he (bL _ q));have ng:g7.objs.size≠n+5:=gG nl;have t10:K3 g10 g7.objs.size x y v:=s10.extBut g7.objs.size _ ng (s9.extBut g7.objs.size _ ng (bW _ Z));rw[sz]at z10 t10;refine aq ⟨_,Z,?_⟩;show Q (.ref g7.objs.size) _;rw[sz];exact hQ g10 z10 (up _ _ () t7) (i2'.at λo q=>up _ o () q) (i4'.at λo q=>up _ o () q) (i6'.at λo q=>up _ o () q) t10 λe o a0 a1 a2 a4 a5 q=>up e o a5 (k7 e o a0 a1 a2 a4 a5 q)
def Ri{y v:Value}{Q:Option Value->Shared->Prop}(q1:l1<n)(q2:l2<n)(q3:l3<n)
  (hz:IsZip s.heap (n+5) (n+3) (n+4) .none) (hTI:K3 s.heap (n+3) (.ref n) (.ref (n+1)) (.ref (n+2))) (hTO:K3 s.heap (n+4) a b c)
  (h1:s.heap.IsListIter n l1 k) (h2:s.heap.IsListIter (n+1) l2 k) (h3:s.heap.IsListIter (n+2) l3 k) (hl1:s.heap.IsList l1 xs) (hl2:s.heap.IsList l2 ys) (hl3:s.heap.IsList l3 zs) (hx:xs[k]?=some x) (hy:ys[k]?=some y) (hv:zs[k]?=some v)
  (hQ:∀h',IsZip h' (n+5) (n+3) (n+4) (rawInt s⁻¹)->K3 h' (n+4) x y v->h'.IsListIter n l1 (k+1)->h'.IsListIter (n+1) l2 (k+1)->h'.IsListIter (n+2) l3 (k+1)->K3 h' s⁻¹ x y v->
   (∀e o,e≠n->e≠n+1->e≠n+2->e≠n+4->e≠n+5->s.heap.get? e=some o->h'.get? e=some o)->Q (some (.ref s⁻¹)) { s with heap:=h'}) :
  wpAny (model prog w) A (pyNext (.ref (n+5))) Q E s:=by
 have hT:s.TypeIs (.ref (n+5)) "zip" :=⟨_,hz,Z⟩;unfold pyNext;exact M (tK (oE (name:=Str.ofString "__next__") hT Ob (gF Ob hT F.entry_zip_next (next_item q1 q2 q3 hz hTI hTO h1 h2 h3 hl1 hl2 hl3 hx hy hv λh' a1 a2 a3 a4 a5 a6 a7=>aq (hQ h' a1 a2 a3 a4 a5 a6 a7)) (F.args_zip_next_1 _))))
def Vr{l2 l3:Nat}{a b c:Value}{Q:Option Value->Shared->Prop}(hh:A.handled=none)(q1:l1<n)
  (hz:IsZip s.heap (n+5) (n+3) (n+4) .none) (hTI:K3 s.heap (n+3) (.ref n) (.ref (n+1)) (.ref (n+2))) (h1:s.heap.IsListIter n l1 k) (hl1:s.heap.IsList l1 xs) (hx:xs[k]?=none)
  (hQ:∀h',(∀e o,e≠n->e≠n+5->s.heap.get? e=some o->h'.get? e=some o)->Q none { s with heap:=h'}) :
  wpAny (model prog w) A (pyNext (.ref (n+5))) Q E s:=by
 have hT:s.TypeIs (.ref (n+5)) "zip" :=⟨_,hz,Z⟩;have d50:(n+5:Nat)≠n:=()
 unfold pyNext;refine M (tK (oE (name:=Str.ofString "__next__") hT Ob (gF Ob hT F.entry_zip_next ?_ (F.args_zip_next_1 _))));show wpAny _ _ (field (.ref (n+5)) 2 >>= _) _ _ _;refine M (gq hz Z (x:=.bool false) Z ?_);show wpAny _ _ (field (.ref (n+5)) 3 >>= _) _ _ _;refine M (gq hz Z (x:=.ref (n+3)) Z (M (oJ hTI Z ?_)));show wpAny _ _ (Builtin.SmallTypes.ownedTupleIsFree (.ref (n+5)) >>= _) _ _ _;refine M ?_;unfold Builtin.SmallTypes.ownedTupleIsFree;refine M (gq hz Z (x:=.none) Z (aq ?_));simp only[if_true];refine M (kE (M (gq hz Z (x:=.ref (n+4)) Z ?_)));refine M (iR hz (by simp) λg1 z1 s1=>?_);have z1:IsZip g1 (n+5) (n+3) (n+4) .ellipsis:=z1;refine M ?_;simp only[List.zipIdx_cons,List.zipIdx_nil,List.forIn_cons,List.forIn_nil];have k1:∀e o,e≠n+5->s.heap.get? e=some o->g1.get? e=some o:=λe o he q=>s1.extBut e o he q;refine M (M (Ae ?_));show wpAny _ _ (Builtin.SmallTypes.nextOf (.ref n) >>= _) _ _ _;refine M (wpAny_nextOf_list_end () (h1.at λo q=>k1 _ o () q) (hl1.at λo q=>k1 _ o () q) hx λg2 e s2 he=>?_);obtain⟨oe,hoe,hce⟩:=he;have z2:IsZip g2 (n+5) (n+3) (n+4) .ellipsis:=s2 (n+5) _ d50 z1;have ne:e≠n+5:=λz=>by grind
 exact iR z2 (by simp) λg3 _ s3=>M (vM (U:="StopIteration") (T:="StopIteration") (b:=true) ⟨oe,s3.extBut e _ ne hoe,hce⟩ Ii (aq (hQ _ λc o c0 c5 q=>s3.extBut c o c5 (s2 c o c0 (k1 c o c5 q)))))
end
def Y5(a b c:Value):checkTypeCall "zip" ⟨[a,b,c],[]⟩=pure ⟨⟩:=by kernel_rfl
def Č(a b c:Value):checkBuiltinCall "zip.__new__" ⟨[.type "zip",a,b,c],[]⟩=pure ⟨⟩:=by kernel_rfl
def Vs(a b c d:Value):argsOk "object.__init__" ⟨[a,b,c,d],[]⟩:=by unfold argsOk;rw[signature?_of (id:="object.__init__") (n:=['_','_','t','i','n','i','_','_']) (o:=['t','c','e','j','b','o']) (by kernel_rfl) F.owner_object];kernel_rfl
abbrev p1(h:Heap)(l1:Addr):Heap:=h.push { cls:=.type "list_iterator",data:=.fields #[.ref l1,.int 0 0]}
abbrev p2(h:Heap)(l1 l2:Addr):Heap:=p1 (p1 h l1) l2
abbrev p3(h:Heap)(l1 l2 l3:Addr):Heap:=p1 (p2 h l1 l2) l3
abbrev p4(h:Heap)(l1 l2 l3:Addr):Heap:=(p3 h l1 l2 l3).push { cls:=.type "tuple",data:=.seq #[.ref h.objs.size,.ref (p1 h l1).objs.size,.ref (p2 h l1 l2).objs.size]}
abbrev p5(h:Heap)(l1 l2 l3:Addr):Heap:=(p4 h l1 l2 l3).push { cls:=.type "tuple",data:=.seq #[.none,.none,.none]}
abbrev p6(h:Heap)(l1 l2 l3:Addr):Heap:=(p5 h l1 l2 l3).push { cls:=.type "zip",data:=.fields #[.none,.bool false,.bool false,.ref (p3 h l1 l2 l3).objs.size,.ref (p4 h l1 l2 l3).objs.size]}
def Y6(l1 l2 l3:Addr)(xs ys zs:Array Value) :
  Meets (Builtin.«zip.__new__» ⟨[.type "zip",.ref l1,.ref l2,.ref l3],[]⟩) (λ_ R s=>s.heap.IsList l1 xs/\s.heap.IsList l2 ys/\s.heap.IsList l3 zs/\R (.ok (.ret (.ref (p5 s.heap l1 l2 l3).objs.size))) { s with heap:=p6 s.heap l1 l2 l3}) :=
 .of_wp λprog w A R s h=>by
  obtain⟨hp,g,d,tk,os⟩:=s;obtain⟨hl1,hl2,hl3,h⟩:=h;have hsub:=sub_zip;have a1:Heap.IsList (Shared.heap ⟨hp,g,d,tk,os⟩) l1 xs:=hl1;have a2:Heap.IsList (Shared.heap ⟨p1 hp l1,g,d,tk,os⟩) l2 ys:=TV hl2 _;have a3:Heap.IsList (Shared.heap ⟨p2 hp l1 l2,g,d,tk,os⟩) l3 zs:=TV (TV hl3 _) _
  wp_walk using vJ a1,vJ a2,vJ a3
  exact⟨_,Z,h⟩
section
variable{prog:Program}{w:World}{A:Around}{E:Value->Shared->Prop}{s:Shared}
def a5k{l1 l2 l3:Addr}{Q:Value->Shared->Prop}(hl1:s.heap.IsList l1 xs)(hl2:s.heap.IsList l2 ys)(hl3:s.heap.IsList l3 zs)
  (h:∀h',IsZip h' (s⁻¹+5) (s⁻¹+3) (s⁻¹+4) .none->K3 h' (s⁻¹+3) (.ref s⁻¹) (.ref (s⁻¹+1)) (.ref (s⁻¹+2))->
   K3 h' (s⁻¹+4) .none .none .none->h'.IsListIter s⁻¹ l1 0->h'.IsListIter (s⁻¹+1) l2 0->h'.IsListIter (s⁻¹+2) l3 0->
   (∀c o,s.heap.get? c=some o->h'.get? c=some o)->Q (.ref (s⁻¹+5)) { s with heap:=h'}) :
  wpAny (model prog w) A (call (.type "zip") [.ref l1,.ref l2,.ref l3]) Q E s:=by
 refine callType_new F.called_zip () (Y5 _ _ _) (Č _ _ _) (λobj=>Vs obj _ _ _) F.entry_zip_new (Y6 l1 l2 l3 xs ys zs) ⟨hl1,hl2,hl3,?_⟩;generalize hn:s⁻¹=n at h;have z1:(p1 s.heap l1).objs.size=n+1:=by rw[kh,hn]
 have z2:(p2 s.heap l1 l2).objs.size=n+2:=by rw[kh,z1]
 have z3:(p3 s.heap l1 l2 l3).objs.size=n+3:=by rw[kh,z2]
 have z4:(p4 s.heap l1 l2 l3).objs.size=n+4:=by rw[kh,z3]
 have z5:(p5 s.heap l1 l2 l3).objs.size=n+5:=by rw[kh,z4]
 have up:∀{h0:Heap}{c:Addr}{o ob:Obj},h0.get? c=some o->(h0.push ob).get? c=some o:=λe=>bL _ e;have g6:(p6 s.heap l1 l2 l3).get? (p5 s.heap l1 l2 l3).objs.size=some _:=bW _ rfl;have g5:(p6 s.heap l1 l2 l3).get? (p4 s.heap l1 l2 l3).objs.size=some _:=up (bW _ Z);have g4:(p6 s.heap l1 l2 l3).get? (p3 s.heap l1 l2 l3).objs.size=some _:=up (up (bW _ Z));have g3:(p6 s.heap l1 l2 l3).get? (p2 s.heap l1 l2).objs.size=some _:=up (up (up (bW _ Z)));have g2:(p6 s.heap l1 l2 l3).get? (p1 s.heap l1).objs.size=some _:=up (up (up (up (bW _ Z))));have g1:(p6 s.heap l1 l2 l3).get? s⁻¹=some _:=up (up (up (up (up (bW _ Z)))));show _/\_;rw[z3,z4,z5]at g6;rw[z4]at g5;rw[hn,z1,z2,z3]at g4;rw[z2]at g3;rw[z1]at g2;rw[hn]at g1;rw[z5];exact⟨⟨_,g6,Z⟩,h _ g6 g4 g5 ⟨_,g1,Z,Z⟩ ⟨_,g2,Z,Z⟩ ⟨_,g3,Z,Z⟩ λc o q=>up (up (up (up (up (up q)))))⟩
end
end Z3
namespace L2
open PyProof.Rows
variable{K:aJ}{pos:Pos}
def č(K:aJ)(a b c:Addr):It :=
 ⟨λi H=>∃xs ys zs x y z,bN K H a xs/\bN K H b ys/\bN K H c zs/\xs[i]?=some x/\ys[i]?=some y/\zs[i]?=some z,
 λi H v H'=>∃p x y z,v=.ref p/\iQ H p (.tup [x,y,z]) H'/\(∀xs,bN K H a xs->xs[i]?=some x)/\(∀ys,bN K H b ys->ys[i]?=some y)/\∀zs,bN K H c zs->zs[i]?=some z,
 λi H=>∃xs,bN K H a xs/\xs.length<=i⟩
def Y7{P:Program}{w:World}{elts:List Expr}{k:Nat}(a b c n:Nat)(an:a<n)(bn:b<n)(cn:c<n) :
  Turn P w K (.Tuple elts k pos) (č K a b c) [n,n+1,n+2,n+3,n+4,n+5] (n+5) (λi h=>IsZip h (n+5) (n+3) (n+4) .none/\Z3.K3 h (n+3) (.ref n) (.ref (n+1)) (.ref (n+2))/\(∃x y z,Z3.K3 h (n+4) x y z)/\h.IsListIter n a i/\h.IsListIter (n+1) b i/\h.IsListIter (n+2) c i) where
 mem:=by simp
 obj:=λi h st e he=>by
  obtain⟨hz,hTI,⟨x,y,z,hTO⟩,⟨o1,e1,c1,d1⟩,⟨o2,e2,c2,d2⟩,⟨o3,e3,c3,d3⟩⟩:=st
  grind
 keep:=λi h h' st kk=>by
  obtain⟨hz,hTI,⟨x,y,z,hTO⟩,h1,h2,h3⟩:=st
  exact⟨kk (n+5) (by simp) _ hz,kk (n+3) (by simp) _ hTI,⟨x,y,z,kk (n+4) (by simp) _ hTO⟩,h1.at λo q=>kk n (by simp) o q,h2.at λo q=>kk (n+1) (by simp) o q,h3.at λo q=>kk (n+2) (by simp) o q⟩
 item:=by
  intro X hP hw hK hc i Y s σ H E I hf st hg
  subst hP hw hK
  obtain⟨xs,ys,zs,x,y,z,hq1,hq2,hq3,hx,hy,hz0⟩:=hg
  obtain⟨Rj,rv1,Y8,hz1⟩:=I.list hq1
  obtain⟨its2,rv2,pl2,hz2⟩:=I.list hq2
  obtain⟨a6L,rv3,pl3,hz3⟩:=I.list hq3
  obtain⟨u1,hu1,ru1⟩:=rv1.get hx
  obtain⟨u2,hu2,š⟩:=rv2.get hy
  obtain⟨u3,hu3,ru3⟩:=rv3.get hz0
  obtain⟨hz,hTI,⟨x0,y0,z0,hTO⟩,h1,h2,h3⟩:=st
  have nl:n+5<s⁻¹:=aY hz
  refine Z3.Ri an bn cn hz hTI hTO h1 h2 h3 Y8.isList pl2.isList pl3.isList (x:=u1) (y:=u2) (v:=u3) () () () λh' a1 a2 a3 a4 a5 a6 hk=>?_
  refine⟨_,Z,wpAny_letOwnedTupleGo_zip a1 λg3 hg3 hs3=>?_⟩
  have n5:s⁻¹≠n+5:=gG nl
  have hT3:g3.get? s⁻¹=some { cls:=.type "tuple",data:=.seq #[u1,u2,u3]}:=(hs3.2 _ n5).trans a6
  have kp:∀e o,e∉[n,n+1,n+2,n+3,n+4,n+5]->s.heap.get? e=some o->g3.get? e=some o:=λe o he q=>by
   simp only[List.mem_cons,List.not_mem_nil,or_false,not_or]at he
   exact(hs3.2 e he.2.2.2.2.2).trans (hk e o he.1 he.2.1 he.2.2.1 he.2.2.2.2.1 he.2.2.2.2.2 q)
  have I1:bH X Y σ H { s with heap:=g3}:=yX I [n,n+1,n+2,n+3,n+4,n+5] (λe he=>hf e he) kp
  have hfree:H s⁻¹=none:=I.hok.fresh (aM _)
  have I2:bH X Y σ (cN H s⁻¹ (.tup [x,y,z])) { s with heap:=g3}:=by
   refine bH.track I1 hfree I.sz (gG I.lt) (λy c q=>?_) (λp hp=>b7 (aY (I.pin p hp).1)) ?_
   ·obtain⟨v,oc,q1,_⟩:=I.cell y c q
    exact b7 (aY q1)
   ·exact⟨(by show 3<=sizeLine;decide),[u1,u2,u3],.cons ru1 (.cons š (.cons ru3 .nil)),⟨_,hT3,Z,_,Z⟩⟩
  have d35:(n+3:Nat)≠n+5:=()
  have d45:(n+4:Nat)≠n+5:=()
  have d05:(n:Nat)≠n+5:=()
  have d15:(n+1:Nat)≠n+5:=()
  have d25:(n+2:Nat)≠n+5:=()
  have t3:h'.get? (n+3)=_:=hk (n+3) _ () () () () () hTI
  refine⟨.ref s⁻¹,_,I2,Z,⟨_,x,y,z,Z,iQ.pQ hfree,λxs' hy'=>by rw[I.xP hy' hq1];exact hx,λys' hy'=>by rw[I.xP hy' hq2];exact hy,λzs' hy'=>by rw[I.xP hy' hq3];exact hz0⟩,
   ⟨hg3,(hs3.2 (n+3) d35).trans t3,⟨_,_,_,(hs3.2 (n+4) d45).trans a2⟩,a3.at λo q=>(hs3.2 n d05).trans q,a4.at λo q=>(hs3.2 (n+1) d15).trans q,a5.at λo q=>(hs3.2 (n+2) d25).trans q⟩,λe he=>?_⟩
  have f0:=(hf e he).1
  rw[aW ?_]
  ·exact f0
  grind
 done:=by
  intro X hP hw hK hc i Y s σ H E I hf st hg
  subst hP hw hK
  obtain⟨xs,hq1,hl⟩:=hg
  obtain⟨Rj,rv1,Y8,hz1⟩:=I.list hq1
  have l1:=rv1.length
  obtain⟨hz,hTI,⟨x0,y0,z0,hTO⟩,h1,h2,h3⟩:=st
  refine Z3.Vr (a:=x0) (b:=y0) (c:=z0) (l2:=b) (l3:=c) (I.ok.hd hc) an hz hTI h1 Y8.isList (by simp;omega) λh' hk=>⟨Z,yX I [n,n+1,n+2,n+3,n+4,n+5] (λe he=>hf e he) λe o he q=>?_⟩
  grind
 self:=λ_ _ _ _ _ st h=>wpAny_pyIter_zip st.1 h
section
variable{X:Cx}
def vals3{a b c:V}{us:List Value}(h:cM [a,b,c] us):∃u v w,us=[u,v,w]/\cW a u/\cW b v/\cW c w:=by
 cases h with
 |cons h1 t =>
  obtain⟨u2,u3,rfl,r2,r3⟩:=vals2 t;exact⟨_,_,_,Z,h1,r2,r3⟩
def a5l(K:aJ)(ta:TA):TI:=λσ H R=>ta σ H λvs H1=>∃a b c,vs=[.ref a,.ref b,.ref c]/\(∃xs,bN K H1 a xs)/\(∃ys,bN K H1 b ys)/\(∃zs,bN K H1 c zs)/\R (č K a b c) H1
def a0q{elts:List Expr}{k:Nat}{tpos:Pos}{l m r:Expr}{ta:TA}{p:Pos}(e0:X.K=K)(hg:Gl X "zip")(hm:X.mg "zip" = none)(ha:PA X [l,m,r] ta)(hs:@&(starEach [l,m,r] X.env=[(false,eval l X.env),(false,eval m X.env),(false,eval r X.env)]))(hs2:@&(starEach [m,r] X.env=[(false,eval m X.env),(false,eval r X.env)])) :
  PI X (.Tuple elts k tpos) (.Call (.Name "zip" p) [l,m,r] [] pos) (a5l K ta):=by
 subst e0;intro Y s σ H R I h;refine xq (vU I hg hm boot_zip ?_);refine zQ (jG (ha pos Y s σ H _ I h) λus s1 ⟨vs,H1,I1,r1,q1⟩=>?_) (by rw[hs,hs2]) (by rw[hs2];rfl);obtain⟨a,b,c,e,⟨xs,hq1⟩,⟨ys,hq2⟩,⟨zs,hq3⟩,q⟩:=q1;subst e;obtain⟨u1,u2,u3,rfl,r1,r2,r3⟩:=vals3 r1;cases r1;cases r2;cases r3;obtain⟨Rj,rv1,Y8,hz1⟩:=I1.list hq1;obtain⟨its2,rv2,pl2,hz2⟩:=I1.list hq2;obtain⟨a6L,rv3,pl3,hz3⟩:=I1.list hq3;refine Z3.a5k Y8.isList pl2.isList pl3.isList λh' hz hTI hTO h1 h2 h3 hk=>wpAny_pyIter_zip hz ?_;have I2:bH X Y σ H1 { s1 with heap:=h'}:=I1.kept (t':=s1.toks) hk;have la:a<s1⁻¹:=by obtain⟨o,e,_⟩:=Y8.isList;exact aY e
 have lb:b<s1⁻¹:=by obtain⟨o,e,_⟩:=pl2.isList;exact aY e
 have lc:c<s1⁻¹:=by obtain⟨o,e,_⟩:=pl3.isList;exact aY e
 refine⟨s1⁻¹+5,_,_,_,H1,Z,I2,Y7 a b c s1⁻¹ la lb lc,⟨hz,hTI,⟨_,_,_,hTO⟩,h1,h2,h3⟩,λe he=>?_,q⟩;have hb':s1⁻¹<=e:=by
  grind
 exact I1.Gf hb' (I1.hok.fresh hb')
end
def Ď{a b c:Addr}{xs ys zs:List V}{g:TG}{tb:TS}{D:Ends}{σ:St}{H:Hp}(el:xs.length=ys.length)(el2:xs.length=zs.length)(Pv:Nat->St->Hp->Prop)(h0:Pv 0 σ H)(hl:∀i σ H,i<=xs.length->Pv i σ H->bN K H a xs/\bN K H b ys/\bN K H c zs)
  (hs:∀(i:Nat) x y z σ H p H',xs[i]?=some x->ys[i]?=some y->zs[i]?=some z->Pv i σ H->iQ H p (.tup [x,y,z]) H'->g (.ref p) σ H' λσ2 H2=>tb { D with nx:=Pv (i+1),ct:=Pv (i+1),bk:=D.nx} σ2 H2) (hd:∀σ H,Pv xs.length σ H->D.nx σ H) :
  ∃W:Nat->Nat->St->Hp->Prop,(∃m,W 0 m σ H)/\∀i m σ H,W i m σ H->
   ((č K a b c).stop i H/\D.nx σ H)\/((č K a b c).go i H/\∃N:St->Hp->Prop,(∀σ' H',N σ' H'->∃m',m'<m/\W (i+1) m' σ' H')/\∀x H',(č K a b c).ZQ i H x H'->g x σ H' λσ2 H2=>tb { D with nx:=N,ct:=N,bk:=D.nx} σ2 H2):=by
 refine⟨λi m σ H=>m=xs.length-i/\i<=xs.length/\Pv i σ H,⟨xs.length,by simp,dw _,h0⟩,?_⟩;rintro i m σ H ⟨rfl,hi,p⟩;obtain⟨q1,q2,q3⟩:=hl i σ H hi p;by_cases hlt:i<xs.length
 ·refine .inr ⟨⟨xs,ys,zs,xs[i],ys[i],zs[i],q1,q2,q3,by simp[hlt],by simp[el▸hlt],by simp[el2▸hlt]⟩,Pv (i+1),λσ' H' p'=>⟨xs.length-(i+1),(),Z,hlt,p'⟩,λx H' y=>?_⟩;obtain⟨pp,x0,y0,z0,rfl,nw,ex,ey,ez⟩:=y;exact hs i x0 y0 z0 σ H pp H' (ex xs q1) (ey ys q2) (ez zs q3) p nw
 ·have e:i=xs.length:=()
  subst e;exact .inl ⟨⟨xs,q1,aM _⟩,hd σ H p⟩
section
variable{X:Cx}{e:Expr}{f:Str}{ta:TE}
def yZ(e0:X.K=K)(he:PE X e ta)(hb:attributeBase e f X.env (eval e X.env)=eval e X.env):PE X (.Attribute e f pos) (a4v K ta f):=by subst e0;exact a2g he hb
end
end L2
namespace K
open L2 Lw Bg
abbrev iB:List Str:=["self","state","spot","v"]
abbrev jU:List Str:=["one","other"]
abbrev kW:List Str:=["self","one","other"]
abbrev mR:List Str:=["graph","steps"]
abbrev rZ:List Str:=["self","state","one","other","tie"]
abbrev tV:List Str:=["n","thing"]
abbrev wH:List Str:=["self","state"]
abbrev wI:List Str:=["state","spot","number"]
abbrev wJ:List Str:=["state","spot"]
abbrev Cu:List Str:=["question","table","state","row"]
abbrev Cv:List Str:=["graph","done","step","used"]
abbrev Cw:List Str:=["_law_ties_here","_law_rows_here","_law_k","_law_early"]
abbrev FJ:List Str:=["question","old","step","bag"]
abbrev FN:List Str:=["graph","steps","tops","pile"]
abbrev FP:List Str:=["self","graph","weights"]
abbrev FQ:List Str:=["many","weights"]
abbrev Jr:List Str:=["is_better","shared","joined","put_in","tied","taken_out","thing"]
abbrev Js:List Str:=["question","table","source","step","bag"]
abbrev Jt:List Str:=["question","table","source","another"]
abbrev Ju:List Str:=["steps","question","tops","feeds"]
abbrev Jv:List Str:=["_law_script","_law_k"]
abbrev Mi:List Str:=["steps","question"]
abbrev Rk:List Str:=["_law_found","_law_size"]
abbrev Rm:List Str:=["_law_kind","_law_table","_law_at_here","_law_weight"]
abbrev Xd:List Str:=["self","graph","leaf","whole"]
abbrev Xe:List Str:=["self","graph","many","weights"]
abbrev Xf:List Str:=["number","state","spot"]
abbrev Xg:List Str:=["_law_script","_law_n","_law_most"]
abbrev Xh:List Str:=["_law_script","_law_rows_here","_law_n"]
abbrev Xi:List Str:=["_law_kind","_law_told","_law_steps","_law_weights_here"]
abbrev Xj:List Str:=["_law_script","_law_n"]
abbrev ď:List Str:=["_law_a","_law_b","_law_bag","_law_above"]
def top(i:Nat):Stmt:=PySem.Challenge.pw_bagwood_k62_places_out.main.body.getD i (.Pass ⟨0,0,0,0⟩)
abbrev dX:=List Int
structure gJ where
 m:Int
 b:Int
 src:List dX
variable{R:V->gJ->Prop}
abbrev cI:=List (dX×gJ)
def Al(T:cI)(s:dX):Option gJ:=(T.find? λx=>decide (x.1=s)).map (·.2)
def qQ(T:cI)(s:dX)(r:gJ):cI:=if(T.any λx=>decide (x.1=s))=true then T.map (λx=>if x.1=s then(x.1,r)else x)else T++[(s,r)]
def wK(bt:Int->Int->Bool)(r o:gJ):gJ:=if bt r.b o.b=true then r else o
def nU(bt:Int->Int->Bool)(T:cI)(s:dX)(r:gJ):cI:=match Al T s with
 |none=>qQ T s r
 |some o=>qQ T s ⟨o.m+r.m,(wK bt r o).b,(wK bt r o).src⟩
def su(s:dX):List Key:=s.map Sum.inl
def a1y(s:dX):(su s).map kV=s.map V.int:=by
 unfold su;rw[nC];rfl
def G9{s t:dX}(h:su s=su t):s=t:=by
 induction s generalizing t with
 |nil=>cases t with
  |nil=>rfl
  |cons a t=>cases h
 |cons a s ih=>cases t with
  |nil=>cases h
  |cons b t =>
   have h1:(Sum.inl a:Key)=Sum.inl b:=(DR h).1;have h2:su s=su t:=(DR h).2;grind
def um(H:Hp)(a:Addr)(s:dX):Prop:=H a=some (.tup (s.map V.int))
def um.key{H:Hp}{a:Addr}{s:dX}(h:um H a s):H a=some (.tup ((su s).map kV)):=by rw[a1y];exact h
def um.Mj{H:Hp}{a:Addr}{s:dX}(h:H a=some (.tup ((su s).map kV))):um H a s:=by rw[a1y]at h;exact h
inductive K5(H:Hp)(v:V)(r:gJ):Prop
 |mk (p q as:_) (_:v=.ref p) (_:H p=some (.tup [.int r.m,.int r.b,.ref q])) (_:H q=some (.tup (as.map V.ref))) (_:Paired (um H) as r.src)
def qt(H:Hp):List (List Key×V)->cI->Prop:=Paired λkv tr=>kv.1=su tr.1/\K5 H kv.2 tr.2
def pY(H H':Hp):Prop:=∀c ys,H c=some (.tup ys)->H' c=some (.tup ys)
def pY.trans{H H' R7:Hp}(a:pY H H')(b:pY H' R7):pY H R7:=λc ys h=>b c ys (a c ys h)
def pY.of{H H':Hp}(a:aL H H'):pY H H':=λc ys h=>a c _ h
def um.keep{H H':Hp}{a:Addr}{s:dX}(k:pY H H')(h:um H a s):um H' a s:=k _ _ h
def K5.keep{H H':Hp}{v:V}{r:gJ}(k:pY H H')(h:K5 H v r):K5 H' v r:=by
 obtain⟨p,q,as,e,h1,h2,h3⟩:=h;exact⟨p,q,as,e,k _ _ h1,k _ _ h2,Paired.cC h3 λ_ _ z=>z.keep k⟩
def qt.keep{H H':Hp}{O:List (List Key×V)}{T:cI}(k:pY H H')(h:qt H O T):qt H' O T:=Paired.cC h λ_ _ z=>⟨z.1,z.2.keep k⟩
def Sd(t:Addr)(H H':Hp):Prop:=∀c o,c≠t->H c=some o->H' c=some o
def Sd.refl{t:Addr}{H:Hp}:Sd t H H:=λ_ _ _ h=>h
def Sd.trans{t:Addr}{H H' R7:Hp}(a:Sd t H H')(b:Sd t H' R7):Sd t H R7:=λc o n h=>b c o n (a c o n h)
def Sd.of{t:Addr}{H H':Hp}(a:aL H H'):Sd t H H':=λc o _ h=>a c o h
def Sd.tups{t:Addr}{H H':Hp}{O:List (List Key×V)}(a:Sd t H H')(h:H t=some (.dT O)):pY H H':=λc ys e=>a c _ (λz=>by grind) e
def Sd.Đ{t:Addr}{H H':Hp}{o:HO}(c:uZ H t o H'):Sd t H H':=λb u n h=>by rw[c.rest b n];exact h
def Hf(s:dX){O:List (List Key×V)}{T:cI}(h:Paired (λ(kv:List Key×V) (tr:dX×gJ)=>kv.1=su tr.1/\R kv.2 tr.2) O T):(ig O (su s)=none/\Al T s=none)\/∃v r,ig O (su s)=some v/\Al T s=some r/\R v r:=by
 induction h with
 |nil=>exact .inl ⟨Z,Z⟩
 | @cons p q O T h t ih =>
  obtain⟨k,v⟩:=p;obtain⟨s',r⟩:=q;obtain⟨e,hr⟩:=h;have e:k=su s':=e;subst e;unfold ig Al at ih ⊢;by_cases c:s'=s
  ·rw[uI (by exact bA (congrArg su c)),uI (by exact bA c)];exact .inr ⟨v,r,Z,Z,hr⟩
  ·rw[uJ (by exact λz=>c (G9 (gV z))),uJ (by exact λz=>c (gV z))];exact ih
def a0r(s:dX){O:List (List Key×V)}{T:cI}(h:Paired (λ(kv:List Key×V) (tr:dX×gJ)=>kv.1=su tr.1/\R kv.2 tr.2) O T):(O.any λkv=>decide (kv.1=su s))=(T.any λx=>decide (x.1=s)):=by
 induction h with
 |nil=>rfl
 | @cons p q O T h t ih =>
  obtain⟨k,v⟩:=p;obtain⟨s',r⟩:=q;have e:k=su s':=h.1;subst e;rw[tH,tH,ih];congr 1;exact N7.mpr ⟨λz=>G9 z,λz=>congrArg su z⟩
def Xk{O:List (List Key×V)}{T:cI}{s:dX}{v:V}{r:gJ}(h:Paired (λ(kv:List Key×V) (tr:dX×gJ)=>kv.1=su tr.1/\R kv.2 tr.2) O T)(hr:R v r):Paired (λ(kv:List Key×V) (tr:dX×gJ)=>kv.1=su tr.1/\R kv.2 tr.2) (putK O (su s) v) (qQ T s r):=by
 unfold putK qQ;rw[a0r s h];by_cases c:(T.any λx=>decide (x.1=s))=true
 ·rw[aG c,aG c];clear c
  induction h with
  |nil=>exact .nil
  | @cons kv tr _ _ a _ ih =>
   refine .cons ?_ ih;obtain⟨k,v0⟩:=kv;obtain⟨s',r0⟩:=tr;obtain⟨e,h0⟩:=a;have e:k=su s':=e;subst e;dsimp only;by_cases c:s'=s
   ·rw[aG (by rw[c]),aG c];exact⟨Z,hr⟩
   ·rw[aB (λz=>c (G9 z)),aB c];exact⟨Z,h0⟩
 ·rw[aB c,aB c];exact Paired.snoc h ⟨Z,hr⟩
def đ(T:cI)(s:dX)(r:gJ):(qQ T s r).length<=T.length+1:=by
 unfold qQ;split
 ·rw[aK];omega
 ·rw[cB];exact aM _
structure PQ(κ:Type) where
 leaf:dX
 whole:dX
 bt:Int->Int->Bool
 sh:dX->List κ
 jn:dX->dX->List dX
 inn:dX->Nat->Nat->List (dX×Int)
 tie:dX->Nat->Nat->Int×Int->List (dX×Int)
 out:dX->Nat->Nat->List (dX×Int)
 Ok:Nat->dX->Prop
inductive Ţ(H:Hp)(v:V)(x:dX×Int):Prop
 |mk (p a:_) (_:v=.ref p) (_:H p=some (.tup [.ref a,.int x.2])) (_:um H a x.1)
def Ţ.keep{H H':Hp}{v:V}{x:dX×Int}(k:pY H H')(h:Ţ H v x):Ţ H' v x:=by
 obtain⟨p,a,e,h1,h2⟩:=h;exact⟨p,a,e,k _ _ h1,h2.keep k⟩
def SvL(H:Hp)(v:V)(x:dX):Prop:=∃a,v=.ref a/\um H a x
section
variable{P:Program}{w:World}{κ:Type} [DecidableEq κ]
inductive Jw(pq:PQ κ)(At:Hp->Addr->Prop)(vs:List V)(H:Hp)(Q:VK)(u_3:XK):Prop
 |mk (d:Addr) (a b:Int) (_:vs=[.ref d,.int a,.int b]) (_:At H d) (_:Q (.bl (pq.bt a b)) H)
inductive Jx(knd:KeyKind P w κ)(pq:PQ κ)(At:Hp->Addr->Prop)(vs:List V)(H:Hp)(Q:VK)(u_3:XK):Prop
 |mk (d a:Addr) (m:Nat) (s:dX) (_:vs=[.ref d,.ref a]) (_:At H d) (_:um H a s) (_:pq.Ok m s) (_:m<=5) (_:∀b H',aL H H'->Y0 knd H' b (pq.sh s)->Q (.ref b) H')
inductive Jy(pq:PQ κ)(At:Hp->Addr->Prop)(vs:List V)(H:Hp)(Q:VK)(u_3:XK):Prop
 |mk (d a b:Addr) (m:Nat) (s t:dX) (_:vs=[.ref d,.ref a,.ref b]) (_:At H d) (_:um H a s) (_:um H b t) (_:pq.Ok m s) (_:pq.Ok m t) (_:m<=5) (_:pq.sh s=pq.sh t) (_:∀r xs H',aL H H'->H' r=some (.lst xs)->Paired (SvL H') xs (pq.jn s t)->Q (.ref r) H')
inductive Xl(pq:PQ κ)(At:Hp->Addr->Prop)(vs:List V)(H:Hp)(Q:VK)(u_3:XK):Prop
 |mk (d a:Addr) (m spot v:Nat) (s:dX) (_:vs=[.ref d,.ref a,.int spot,.int v]) (_:At H d) (_:um H a s) (_:pq.Ok m s) (_:m<=4) (_:spot<=m) (_:∀r xs H',aL H H'->H' r=some (.lst xs)->Paired (Ţ H') xs (pq.inn s spot v)->Q (.ref r) H')
inductive Xm(pq:PQ κ)(At:Hp->Addr->Prop)(Pl:Nat->Prop)(vs:List V)(H:Hp)(Q:VK)(u_3:XK):Prop
 |mk (d a:Addr) (m spot v:Nat) (s:dX) (_:vs=[.ref d,.ref a,.int spot,.int v]) (_:At H d) (_:um H a s) (_:pq.Ok m s) (_:m<=5) (_:spot<m) (_:Pl v) (_:∀r xs H',aL H H'->H' r=some (.lst xs)->Paired (Ţ H') xs (pq.out s spot v)->Q (.ref r) H')
inductive Xn(pq:PQ κ)(At:Hp->Addr->Prop)(Ti:Int×Int->Prop)(vs:List V)(H:Hp)(Q:VK)(u_3:XK):Prop
 |mk (d a p:Addr) (m gh bT:Nat) (t:Int×Int) (s:dX) (_:vs=[.ref d,.ref a,.int gh,.int bT,.ref p]) (_:At H d) (_:um H a s) (_:pq.Ok m s) (_:m<=5) (_:gh<m) (_:bT<m) (_:gh≠bT) (_:Ti t) (_:H p=some (.tup [.int t.1,.int t.2])) (_:∀r xs H',aL H H'->H' r=some (.lst xs)->Paired (Ţ H') xs (pq.tie s gh bT t)->Q (.ref r) H')
structure QM(P:Program)(w:World)(K:aJ)(mg:Str->Option Value)(base:Heap)(C:Addr)(m:Str)(ps:List Str)(k:Nat)(sp:Sp) where
 f:Addr
 fd:FuncData
 mt:Meth K C m f
 b:Binds K fd ps []
 ok:bf P w K mg base fX k f fd ps sp
set_option genInjectivity false in
structure Hg(P:Program)(w:World)(K:aJ)(mg:Str->Option Value)(base:Heap)(κ:Type) [DecidableEq κ] where
 C:Addr
 cl:Cls K C
 knd:KeyKind P w κ
 pq:PQ κ
 At:Hp->Addr->Prop
 Pl:Nat->Prop
 Ti:Int×Int->Prop
 n:Nat
 ts:List bY
 keep:∀{H H':Hp}{d:Addr},(∀c o,(∀O,o≠.dT O)->(∀φ,o≠.ext φ)->H c=some o->H' c=some o)->At H d->At H' d
 ins:∀{H:Hp}{d:Addr},At H d->∃dx fs,H d=some (.ins C dx fs)/\(∀m,m∈(Jr:List Str)->fs.lookup m=none)/\
  (∃a,fs.lookup ("leaf" : Str)=some (.ref a)/\um H a pq.leaf)/\(∃a,fs.lookup ("whole" : Str)=some (.ref a)/\um H a pq.whole)/\∃g,fs.lookup ("graph" : Str)=some g/\uQ K H g n ts
 iw:eX K C "leaf"
 fO:eX K C "whole"
 fD:eX K C "graph"
 nY:QM P w K mg base C "is_better" kW 8 (Jw pq At)
 qR:QM P w K mg base C "shared" wH 8 (Jx knd pq At)
 vg:QM P w K mg base C "joined" kW 8 (Jy pq At)
 vh:QM P w K mg base C "put_in" iB 8 (Xl pq At)
 nZ:QM P w K mg base C "taken_out" iB 8 (Xm pq At Pl)
 En:QM P w K mg base C "tied" rZ 8 (Xn pq At Ti)
end
abbrev uR:Stmt:=top 27
def Hh:bD ["question","table","state","row","old","better"] Cu (aH uR):={}
section
variable{P:Program}{w:World}{K:aJ}{mg:Str->Option Value}{base:Heap}{κ:Type} [DecidableEq κ]
inductive a3c(Qn:Hg P w K mg base κ)(vs:List V)(H:Hp)(Q:VK)(u_3:XK):Prop
 |mk (d t a:Addr) (v:V) (O:List (List Key×V)) (T:cI) (s:dX) (r:gJ) (_:vs=[.ref d,.ref t,.ref a,v]) (_:Qn.At H d) (_:H t=some (.dT O)) (_:qt H O T) (_:T.length<=4000) (_:um H a s) (_:K5 H v r) (_:∀kvs' H',Sd t H H'->H' t=some (.dT kvs')->qt H' kvs' (nU Qn.pq.bt T s r)->Q .non H')
def Xo(Qn:Hg P w K mg base κ)(qu:Dn K mg "note" uR Cu):bf P w K mg base fX 9 qu.f qu.fd Cu (a3c Qn):=by
 have K6:bf P w K mg base fX 8 _ _ _ _:=Qn.nY.ok;refine qu.F.ok Hh λdZ A outer s H vs Q E hr h=>?_;obtain⟨d,t,a,v,O,T,st,r,rfl,hD,ht,hT,lT,ha,hv,q⟩:=h;have hw1:(A.deeper (PyProof.Rows.envOfC "note" (aH uR) s⁻¹ qu.f dZ)).units+1<cLine:=by have:=hr.un;omega
 refine⟨_,(lW (dF (aN (Ą hw1) (pv 2) (pv 1) (by with_unfolding_all rfl))
   (aF (bx 4 Hh.nd (GX hw1 (pv 1) (pv 2) λ_ _=>rfl))
   (aF (bx 5 Hh.nd (oK (fW (K:=K) Z (vY (pv 0) Qn.cl Qn.nY.mt K6 hr Qn.nY.b .nil cA (J (aQ (aP (K:=K) Z) (pv 3) aA) (J (aQ (aP (K:=K) Z) (pv 4) aA) aj))) λ_=>rfl) (pv 3) (pv 4)))
   (aD (bx 3 Hh.nd (bB (J (aZ fj (aQ (aP (K:=K) Z) (pv 4) aA) (aQ (aP (K:=K) Z) (pv 3) aA)) (J (aQ (aP (K:=K) Z) (pv 5) aA) (J (aQ (aP (K:=K) Z) (pv 5) aA) aj))))))))
   bQ)
   (aD (xQ (pv 3) (Ot (pv 1) (pv 2) (El hw1))))),?_⟩
 refine⟨λσ' G=>∃v' r' o4 o5,σ'=[some (.ref d),some (.ref t),some (.ref a),some v',o4,o5]/\aL H G/\K5 G v' r'/\nU Qn.pq.bt T st r=qQ T st r',?_,?_⟩
 ·refine⟨_,Z,_,Z,a,t,su st,O,Z,Z,ha.key,ht,_,Z,?_⟩;rcases Hf st hT with⟨e1,e2⟩|⟨v0,r0,e1,e2,h0⟩
  ·rw[e1];refine cY ⟨v,r,none,none,Z,aL.refl _,hv,?_⟩;unfold nU;rw[e2]
  ·rw[e1];obtain⟨p,qs,as,rfl,hp,hq,hs⟩:=hv;obtain⟨p0,q0,as0,rfl,hp0,hq0,hs0⟩:=h0;refine gZ ⟨_,Z,_,Z,t,.ref p0,Z,by rw[<-e1];exact Jl.t ht ha.key,?_⟩;obtain⟨dx,fs,hd,nom,_⟩:=Qn.ins hD;refine⟨_,Z,d,dx,fs,Z,hd,nom _ (),⟨_,Z,p,_,_,.int r.b,Z,Z,cQ.of hp,Z,_,Z,p0,_,_,.int r0.b,Z,Z,cQ.of hp0,Z,⟨d,r.b,r0.b,Z,hD,_,Z,?_⟩⟩⟩;have fin:∀(pb:Addr) (rb:gJ) (qb:Addr) (asb:List Addr),H pb=some (.tup [.int rb.m,.int rb.b,.ref qb])->H qb=some (.tup (asb.map V.ref))->Paired (um H) asb rb.src->rb=wK Qn.pq.bt r r0->∀p' H',iQ H p' (.tup [.int (r0.m+r.m),.int rb.b,.ref qb]) H'->∃v' r' o4 o5,[some (V.ref d),some (.ref t),some (.ref a),some (.ref p'),some (.ref p0),some (.ref pb)]=[some (.ref d),some (.ref t),some (.ref a),some v',o4,o5]/\aL H H'/\K5 H' v' r'/\nU Qn.pq.bt T st r=qQ T st r':=λpb rb qb asb h1 h2 h3 e p' H' nw=>by
    refine⟨_,⟨r0.m+r.m,rb.b,rb.src⟩,_,_,Z,nw.same,⟨p',qb,asb,Z,nw.here,nw.same _ _ h2,Paired.cC h3 λ_ _ z=>z.keep (.of nw.same)⟩,?_⟩;unfold nU;rw[e2,e]
   cases cb:Qn.pq.bt r.b r0.b with
   |true =>
    refine gZ ⟨_,Z,?_⟩;refine⟨_,Z,p0,_,_,.int r0.m,Z,Z,cQ.of hp0,Z,_,Z,p,_,_,.int r.m,Z,Z,cQ.of hp,Z,_,_,Z,Z,_,Z,p,_,_,.int r.b,Z,Z,cQ.of hp,Z,_,Z,p,_,_,.ref qs,Z,Z,cQ.of hp,Z,(),λp' H' nw=>?_⟩;exact fin p r qs as hp hq hs (by unfold wK;rw[cb];rfl) p' H' nw
   |false =>
    refine cY ⟨_,Z,?_⟩;refine⟨_,Z,p0,_,_,.int r0.m,Z,Z,cQ.of hp0,Z,_,Z,p,_,_,.int r.m,Z,Z,cQ.of hp,Z,_,_,Z,Z,_,Z,p0,_,_,.int r0.b,Z,Z,cQ.of hp0,Z,_,Z,p0,_,_,.ref q0,Z,Z,cQ.of hp0,Z,(),λp' H' nw=>?_⟩;exact fin p0 r0 q0 as0 hp0 hq0 hs0 (by unfold wK;rw[cb];rfl) p' H' nw
 rintro σ' G ⟨v',r',o4,o5,rfl,sG,hr',e⟩;have lk:=aV hT;refine⟨_,Z,_,Z,_,Z,t,a,su st,O,Z,Z,(ha.keep (.of sG)).key,sG _ _ ht,(),λG' c=>?_⟩;have ts:pY G G':=λc' ys hc=>by
  rw[c.rest c' (λz=>by rw[z,sG _ _ ht]at hc;cases hc)];exact hc
 refine q _ G' (Sd.trans (.of sG) (.Đ c)) c.here ?_;rw[e];exact qt.keep ts (Xk (hT.keep (.of sG)) hr')
end
end K
namespace L2
open PySem.Calls PyProof.Rows
section
variable{X:Cx}
inductive a5m(x:V)(vs:List V)(H:Hp)(Q:VK):Prop
 |mk (l:Addr) (ns:List Int) (v:Int) (j:Nat) (_:x=.ref l) (_:vs=[.int v]) (_:H l=some (.lst (List.map V.int ns))) (_:ns[j]?=some v) (_:(∀m:Nat,m<j->ns[m]?≠some v)) (_:ns.length<=1000) (_:Q (.int (j:Int)) H)
def isV(v:Int):Value->Bool
 |.int a _=>a==v
 |_=>false
def Eo:UL X "list.index" a5m:=by
 intro Y s σ H x vs w us Q I rx rv h;obtain⟨l,ns,v,j,rfl,rfl,hH,hj,hno,hz,q⟩:=h;cases rx;obtain⟨u,rfl,ru⟩:=vals1 rv;obtain⟨t,rfl⟩:=(show ∃t,u=Value.int v t from ru);obtain⟨z,bV,n,r,hl,e⟩:=I.Yo hH;have hi:=ints_of r;have len:=hi.length;have at_:∀m (hm:m<bV.length),∃k tk,bV[m]=Value.int k tk/\ns[m]?=some k:=λm hm=>by
  have hm2:m<ns.length:=()
  obtain⟨tk,e⟩:=hi.get m ns[m] (bF hm2);rw[bF hm]at e;injection e with e
  exact⟨ns[m],tk,e,bF hm2⟩
 have jl:j<bV.length:=by have:=(fL.mp hj).1;omega
 refine Io F.slot_list_index ⟨_,e,Z⟩ F.entry_list_index (F.args_list_index_2 _ _) (MeetsSeq.list_index l bV.toArray n (.int v t) (isV v) (λy hy=>?_) j (by simpa using jl) () ?_ λm hm hmj=>?_) ⟨e,?_⟩
 ·obtain⟨m,hm,em⟩:=rN (show y∈bV by simpa using hy);obtain⟨k,tk,e1,_⟩:=at_ m hm;rw[<-em,e1];exact MeetsSeq.EqGives.int k v tk t
 ·obtain⟨k,tk,e1,e2⟩:=at_ j jl;rw[hj]at e2;injection e2 with e2
  simp only[List.getElem_toArray];rw[e1,<-e2];exact Ie v
 ·have hm':m<bV.length:=by simpa using hm
  obtain⟨k,tk,e1,e2⟩:=at_ m hm';simp only[List.getElem_toArray];rw[e1];show(k==v)=false;have:k≠v:=λz=>hno m hmj (by rw[e2,z]);simpa using this
 ·exact⟨.int j,H,I.tok _,⟨_,Z⟩,q⟩
end
end L2
namespace K
open L2 Lw Bg
inductive bU where
 |leaf
 |inn (v:Int)
 |tie (a b:Int)
 |out (v:Int)
 |join
deriving DecidableEq
variable{H:Hp}{K:aJ}
def bU.vs:bU->List V
 |.leaf=>[.str "leaf"]
 |.inn v=>[.str "in",.int v]
 |.tie a b=>[.str "tie",.int a,.int b]
 |.out v=>[.str "out",.int v]
 |.join=>[.str "join"]
def bU.d:bU->PyData
 |.leaf=>.tuple [.str "leaf"]
 |.inn v=>.tuple [.str "in",.int v]
 |.tie a b=>.tuple [.str "tie",.int a,.int b]
 |.out v=>.tuple [.str "out",.int v]
 |.join=>.tuple [.str "join"]
def bU.word:bU->Str
 |.leaf=>"leaf"
 |.inn _=>"in"
 |.tie _ _=>"tie"
 |.out _=>"out"
 |.join=>"join"
def bU.need:bU->Nat
 |.leaf=>0
 |.join=>2
 |_=>1
def uT(K:aJ)(H:Hp)(v:V)(s:bU):Prop:=∃p,v=.ref p/\cQ K H p s.vs
def uT.same{H':Hp}{v:V}{s:bU}(e:aL H H')(h:uT K H v s):uT K H' v s:=by
 obtain⟨p,rfl,h⟩:=h;exact⟨p,Z,e.wj h⟩
def uT.isD{v:V}{s:bU}(h:uT K H v s):KQ K H v s.d:=by
 obtain⟨p,rfl,h⟩:=h;cases s with
 |leaf=>exact .tup h (.cons (.str _) .nil)
 |inn v=>exact .tup h (.cons (.str _) (.cons (.int _) .nil))
 |tie a b=>exact .tup h (.cons (.str _) (.cons (.int _) (.cons (.int _) .nil)))
 |out v=>exact .tup h (.cons (.str _) (.cons (.int _) .nil))
 |join=>exact .tup h (.cons (.str _) .nil)
def Y9:ig Fz (.inr "leaf")=some (.int 0):=by decide
def a0s:ig Fz (.inr "in")=some (.int 1):=by decide
def Ē:ig Fz (.inr "tie")=some (.int 1):=by decide
def ē:ig Fz (.inr "out")=some (.int 1):=by decide
def Za:ig Fz (.inr "join")=some (.int 2):=by decide
def a0t(s:bU):ig Fz (.inr s.word)=some (.int (s.need:Int)):=by
 cases s with
 |leaf=>exact Y9
 |inn v=>exact a0s
 |tie a b=>exact Ē
 |out v=>exact ē
 |join=>exact Za
def zc(s:bU):R6 s.vs ((0:Nat):Int)=some (.str s.word):=by cases s<;>rfl
def a3d:∀x∈["leaf","in","tie","out","join"],PyData.strOk (Str.ofString x)=true:=by decide
def Xp(s:bU):s.d.canLay0=true:=by
 have h:=a3d;cases s with
 |leaf=>simp[bU.d,PyData.canLay0,PyData.canLayAll0,h]
 |inn v=>simp[bU.d,PyData.canLay0,PyData.canLayAll0,h]
 |tie a b=>simp[bU.d,PyData.canLay0,PyData.canLayAll0,h]
 |out v=>simp[bU.d,PyData.canLay0,PyData.canLayAll0,h]
 |join=>simp[bU.d,PyData.canLay0,PyData.canLayAll0,h]
def Ml(s:bU):s.d.depth<=1:=by cases s<;>simp[bU.d,PyData.depth,PyData.depthAll]
def Vt(s:bU):SeqAt.shaped s.d=true:=by
 unfold SeqAt.shaped;rw[Xp,Ik];exact bA (by have:=Ml s;omega)
def Rn(ss:List bU):SeqAt.shaped (.list (ss.map bU.d))=true:=by
 unfold SeqAt.shaped;rw[PyData.canLay0,GP Xp,PyData.depth,Ik];exact bA (by have:=u9 Ml ss;omega)
def bU.tag:bU->Nat
 |.leaf=>0
 |.inn _=>1
 |.tie _ _=>2
 |.out _=>3
 |.join=>4
def bU.args:bU->List Int
 |.leaf=>[]
 |.inn v=>[v]
 |.tie a b=>[a,b]
 |.out v=>[v]
 |.join=>[]
def FT(i:Nat):Str:=Str.ofString (["leaf","in","tie","out","join"].getD i "")
def Jz:∀i,i<5->∀j,j<5->(FT i==FT j)=decide (i=j):=by decide
def JB(s:bU):s.word=FT s.tag:=by cases s<;>rfl
def Vu(s:bU):s.tag<5:=by cases s<;>simp[bU.tag]
def a1z(s:bU):s.d=.tuple (.str s.word::s.args.map PyData.int):=by cases s<;>rfl
def a3e{s t:bU}(h:s.tag=t.tag)(a:s.args=t.args):s=t:=by
 cases s<;>cases t<;>simp_all[bU.tag,bU.args]
theorem FW:∀xs ys:List Int,PyData.eqvAll (xs.map PyData.int) (ys.map PyData.int)=decide (xs=ys)
 | [],[]=>by simp[PyData.eqvAll]
 | [],_::_=>by simp[PyData.eqvAll]
 |_::_,[]=>by simp[PyData.eqvAll]
 |x::xs,y::ys=>by
  rw[cL,cL,PyData.eqvAll,FW xs ys,PyData.eqv,tE]
  simp
def Xq(s t:bU):PyData.eqv s.d t.d=decide (s=t):=by
 rw[a1z,a1z,PyData.eqv,PyData.eqvAll,FW,PyData.eqv,JB,JB,Jz _ (Vu s) _ (Vu t),tE,qj,d7,d7,d7];exact⟨λh=>a3e h.1 h.2,λh=>by grind⟩
def a0u(ss:List bU)(t:bU):(ss.map bU.d).any (λe=>PyData.eqv e t.d)=decide (t∈ss):=by
 rw[List.any_map,tE,List.any_eq_true,d7];constructor
 ·rintro⟨x,hx,e⟩;have:PyData.eqv x.d t.d=true:=e;rw[Xq]at this;grind
 ·exact λh=>⟨t,h,by show PyData.eqv t.d t.d=true;rw[Xq];grind⟩
abbrev fZ:Stmt:=top 25
def vo:bD ["question","old","step","bag","spot"] FJ (aH fZ):={}
section
variable{P:Program}{w:World}{mg:Str->Option Value}{base:Heap}{κ:Type} [DecidableEq κ]
def Vv(pq:PQ κ)(s:dX)(jZ:bU)(B:List Int):List (dX×Int):=match jZ with
 |.inn v=>pq.inn s (B.idxOf v) v.toNat
 |.out v=>pq.out s (B.idxOf v) v.toNat
 |.tie a b=>pq.tie s (B.idxOf a) (B.idxOf b) (a,b)
 |_=>[]
def Hi(Qn:Hg P w K mg base κ)(jZ:bU)(B:List Int)(m:Nat):Prop:=match jZ with
 |.inn v=>(∃n:Nat,v=(n:Int))/\v∈B/\B.length=m+1/\m<=4
 |.out v=>(∃n:Nat,v=(n:Int)/\Qn.Pl n)/\v∈B/\B.length=m/\m<=5
 |.tie a b=>a∈B/\b∈B/\a≠b/\B.length=m/\m<=5/\Qn.Ti (a,b)
 |_=>False
def Am{B:List Int}{v:Int}(h:v∈B):B[B.idxOf v]?=some v/\∀m:Nat,m<B.idxOf v->B[m]?≠some v:=by
 induction B with
 |nil=>cases h
 |cons x B ih =>
  rw[List.idxOf_cons];by_cases c:x=v
  ·subst c;rw[Ie];exact⟨Z,λm hm=>absurd hm (xG m)⟩
  ·rw[vH.mpr c];obtain⟨h1,h2⟩:=ih ((bZ.mp h).resolve_left λz=>c z.symm);refine⟨h1,λm hm=>?_⟩;cases m with
   |zero=>exact λz=>c (dB z)
   |succ m=>exact h2 m (by simpa using hm)
def Ao{B:List Int}{v:Int}(h:v∈B):B.idxOf v<B.length:=Nf h
def a3f{B:List Int}{a b:Int}(h:a∈B)(h':b∈B)(n:a≠b):B.idxOf a≠B.idxOf b:=λe=>by
 have h1:=(Am h).1;have h2:=(Am h').1;rw[e,h2]at h1;exact n (dB h1).symm
inductive Ĕ(Qn:Hg P w K mg base κ)(vs:List V)(H:Hp)(Q:VK)(u_3:XK):Prop
 |mk (d a ps pb:Addr) (s:dX) (jZ:bU) (B:List Int) (m:Nat) (_:vs=[.ref d,.ref a,.ref ps,.ref pb]) (_:Qn.At H d) (_:um H a s) (_:Qn.pq.Ok m s) (_:cQ K H ps jZ.vs) (_:H pb=some (.lst (B.map V.int))) (_:Hi Qn jZ B m) (_:∀r xs H',aL H H'->H' r=some (.lst xs)->Paired (Ţ H') xs (Vv Qn.pq s jZ B)->Q (.ref r) H')
def Ep(Qn:Hg P w K mg base κ)(vp:Dn K mg "states_behind" fZ FJ):bf P w K mg base fX 9 vp.f vp.fd FJ (Ĕ Qn):=by
 have Vw:bf P w K mg base fX 8 _ _ _ _:=Qn.vh.ok;have K7:bf P w K mg base fX 8 _ _ _ _:=Qn.nZ.ok;have ĕ:bf P w K mg base fX 8 _ _ _ _:=Qn.En.ok;refine vp.F.ok vo λdZ A outer s H vs Q E hr h=>?_;obtain⟨d,a,ps,pb,st,jZ,B,m,rfl,hD,ha,ok,hs,hb,fit,q⟩:=h;obtain⟨dx,fs,hd,nom,_⟩:=Qn.ins hD;refine⟨_,(aF (bx 4 vo.nd (mL (K:=K) Z j7 Sw Sx Eo (pv 3) (J (aQ (aP (K:=K) Z) (pv 2) aA) aj)))
   (aF (dF (aN jE (aQ (aP (K:=K) Z) (pv 2) aA) gw)
   (aD (bJ (vY (pv 0) Qn.cl Qn.vh.mt Vw hr Qn.vh.b .nil cA (J (pv 1) (J (pv 4) (J (aQ (aP (K:=K) Z) (pv 2) aA) aj))))))
   bQ)
   (aF (dF (aN jE (aQ (aP (K:=K) Z) (pv 2) aA) gw)
   (aD (bJ (vY (pv 0) Qn.cl Qn.nZ.mt K7 hr Qn.nZ.b .nil cA (J (pv 1) (J (pv 4) (J (aQ (aP (K:=K) Z) (pv 2) aA) aj))))))
   bQ)
   (aD (bJ (vY (pv 0) Qn.cl Qn.En.mt ĕ hr Qn.En.b .nil cA (J (pv 1) (J (pv 4) (J (mL (K:=K) Z j7 Sw Sx Eo (pv 3) (J (aQ (aP (K:=K) Z) (pv 2) aA) aj)) (J (iH (GR (K:=K) Z) (pv 2) (jM aA) jL) aj)))))))))),?_⟩
 have lB:B.length<=1000:=by
  cases jZ<;>first|exact fit.elim|skip
  ·obtain⟨_,_,e,l⟩:=fit;omega
  ·obtain⟨_,_,_,e,l,_⟩:=fit;omega
  ·obtain⟨_,_,e,l⟩:=fit;omega
 have fld:∀(mth:Str),mth∈(Jr:List Str)->fs.lookup mth=none:=nom;cases jZ with
 |leaf=>exact fit.elim
 |join=>exact fit.elim
 |inn v =>
  obtain⟨⟨n,rfl⟩,hv,el,m4⟩:=fit;have ix:=Am hv;refine⟨_,Z,.inl ⟨Z,_,bN.of hb⟩,_,Z,ps,_,_,_,Z,Z,hs,Z,pb,B,_,_,Z,Z,hb,ix.1,ix.2,lB,⟨_,Z,ps,_,_,_,Z,Z,hs,Z,Z,_,Z,gZ ⟨_,Z,d,dx,fs,Z,hd,fld _ (),_,Z,_,Z,_,Z,ps,_,_,_,Z,Z,hs,Z,⟨d,a,m,_,n,st,Z,hD,ha,ok,m4,?_,λr xs H' s' h1 h2=>q r xs H' s' h1 h2⟩⟩⟩⟩;grind
 |out v =>
  obtain⟨⟨n,rfl,pn⟩,hv,el,m5⟩:=fit;have ix:=Am hv;refine⟨_,Z,.inl ⟨Z,_,bN.of hb⟩,_,Z,ps,_,_,_,Z,Z,hs,Z,pb,B,_,_,Z,Z,hb,ix.1,ix.2,lB,⟨_,Z,ps,_,_,_,Z,Z,hs,Z,Z,_,Z,cY ⟨_,Z,ps,_,_,_,Z,Z,hs,Z,Z,_,Z,gZ ⟨_,Z,d,dx,fs,Z,hd,fld _ (),_,Z,_,Z,_,Z,ps,_,_,_,Z,Z,hs,Z,⟨d,a,m,_,n,st,Z,hD,ha,ok,m5,?_,pn,λr xs H' s' h1 h2=>q r xs H' s' h1 h2⟩⟩⟩⟩⟩;grind
 |tie x y =>
  obtain⟨hx,hy,ne,el,m5,ti⟩:=fit;have ix:=Am hx;have iy:=Am hy;refine⟨_,Z,.inl ⟨Z,_,bN.of hb⟩,_,Z,ps,_,_,_,Z,Z,hs,Z,pb,B,_,_,Z,Z,hb,ix.1,ix.2,lB,⟨_,Z,ps,_,_,_,Z,Z,hs,Z,Z,_,Z,cY ⟨_,Z,ps,_,_,_,Z,Z,hs,Z,Z,_,Z,cY ⟨_,Z,d,dx,fs,Z,hd,fld _ (),_,Z,_,Z,_,Z,.inl ⟨Z,_,bN.of hb⟩,_,Z,ps,_,_,_,Z,Z,hs,Z,pb,B,_,_,Z,Z,hb,iy.1,iy.2,lB,_,Z,?_⟩⟩⟩⟩;refine⟨_,Z,ps,_,Z,hs,(λz=>absurd z.1 (show ¬(1:Nat)=0 by decide)),λpt H1 n1=>?_⟩;have s1:=n1.same;refine⟨d,a,pt,m,_,_,(x,y),st,Z,Qn.keep (λc o _ _ e=>s1 c o e) hD,ha.keep (.of s1),ok,m5,?_,?_,a3f hx hy ne,ti,n1.here,λr xs H' s' h1 h2=>q r xs H' (s1.trans s') h1 h2⟩
  ·grind
  grind
end
abbrev jP:Stmt:=top 24
def mU:bD ["question","table","source","step","bag","old","row","state","amount"] Js (aH jP):={}
section
variable{P:Program}{w:World}{mg:Str->Option Value}{base:Heap}{κ:Type} [DecidableEq κ]
def Nd(H H':Hp):Prop:=∀c o,(∀O,o≠.dT O)->(∀φ,o≠.ext φ)->H c=some o->H' c=some o
def Nd.trans{H' R7:Hp}(a:Nd H H')(b:Nd H' R7):Nd H R7:=λc o n m h=>b c o n m (a c o n m h)
def Nd.of{H':Hp}(a:aL H H'):Nd H H':=λc o _ _ h=>a c o h
def Nd.sd{t:Addr}{H':Hp}{O:List (List Key×V)}(a:Sd t H H')(h:H t=some (.dT O)):Nd H H':=λc o n _ e=>a c o (λz=>by grind) e
def Nd.jo{t:Addr}{O:List (List Key×V)}{u:HO}(h:H t=some (.dT O)):Nd H (cN H t u):=λc o n _ e=>by
 rw[aW (λz=>by grind)];exact e
def Nd.Pu{t:Addr}{ob:Obj}{O:List (List Key×V)}{u:HO}(h:H t=some (.jo ob (.dT O)))(c:Addr)(ys:List V)(e:H c=some (.tup ys)):cN H t u c=some (.tup ys):=by
 rw[aW (λz=>by grind)];exact e
def Nd.tups{H':Hp}(a:Nd H H'):pY H H':=λc ys e=>a c _ (λ_ z=>by cases z) (λ_ z=>by cases z) e
def Nd.lst{H H':Hp}(a:Nd H H'){c:Addr}{ys:List V}(e:H c=some (.lst ys)):H' c=some (.lst ys):=a c _ (λ_ z=>by cases z) (λ_ z=>by cases z) e
def Nd.sqt{H':Hp}(a:Nd H H'){c:Addr}{ys:List V}(e:cQ K H c ys):cQ K H' c ys:=by
 rcases e with(e|⟨o,e⟩)|e
 ·exact .inl (.inl (a c _ (λ_ z=>by cases z) (λ_ z=>by cases z) e))
 ·exact .inl (.inr ⟨o,a c _ (λ_ z=>by cases z) (λ_ z=>by cases z) e⟩)
 ·exact .inr e
def Nd.at(Qn:Hg P w K mg base κ){H':Hp}{d:Addr}(a:Nd H H')(h:Qn.At H d):Qn.At H' d:=Qn.keep a h
def oR(bt:Int->Int->Bool)(old:dX)(row:gJ):List (dX×Int)->cI->cI
 | [],T=>T
 |x::l,T=>oR bt old row l (nU bt T x.1 ⟨row.m,row.b+x.2,[old]⟩)
def nH(pq:PQ κ)(jZ:bU)(B:List Int):cI->cI->cI
 | [],T=>T
 |x::S,T=>nH pq jZ B S (oR pq.bt x.1 x.2 (Vv pq x.1 jZ B) T)
theorem Cy(bt:Int->Int->Bool)(old:dX)(row:gJ)(x:dX×Int):∀(l:List (dX×Int)) (T:cI),oR bt old row (l++[x]) T=nU bt (oR bt old row l T) x.1 ⟨row.m,row.b+x.2,[old]⟩
 | [],_=>rfl
 |_::l,T=>Cy bt old row x l _
theorem JC(pq:PQ κ)(jZ:bU)(B:List Int)(x:dX×gJ):∀(S T:cI),nH pq jZ B (S++[x]) T=oR pq.bt x.1 x.2 (Vv pq x.1 jZ B) (nH pq jZ B S T)
 | [],_=>rfl
 |_::S,T=>JC pq jZ B x S _
def a3g(pq:PQ κ)(jZ:bU)(B:List Int)(S T:cI):Prop:=∀i,i<=S.length->∀x,S[i]?=some x->∀j,j<=(Vv pq x.1 jZ B).length->(oR pq.bt x.1 x.2 ((Vv pq x.1 jZ B).take j) (nH pq jZ B (S.take i) T)).length<=4000
inductive Ė(Qn:Hg P w K mg base κ)(vs:List V)(H:Hp)(Q:VK)(u_3:XK):Prop
 |mk (d t sc ps pb:Addr) (O nJ:List (List Key×V)) (T S:cI) (jZ:bU) (B:List Int) (m:Nat) (_:vs=[.ref d,.ref t,.ref sc,.ref ps,.ref pb]) (_:Qn.At H d) (_:H t=some (.dT O)) (_:qt H O T) (_:H sc=some (.dT nJ)) (_:qt H nJ S) (_:t≠sc) (_:(∀x∈S,Qn.pq.Ok m x.1)) (_:cQ K H ps jZ.vs) (_:H pb=some (.lst (B.map V.int))) (_:Hi Qn jZ B m) (_:S.length<=4000) (_:a3g Qn.pq jZ B S T) (_:∀kvs' H',Sd t H H'->H' t=some (.dT kvs')->qt H' kvs' (nH Qn.pq jZ B S T)->Q .non H')
def opq{P:Nat->St->Hp->Prop}{R:Prop}(h:∀Z97:Nat->St->Hp->Prop,(∀i σ H,P i σ H->Z97 i σ H)->(∀i σ H,Z97 i σ H->P i σ H)->R):R:=h P (λ_ _ _ z=>z) (λ_ _ _ z=>z)
def K8(Qn:Hg P w K mg base κ)(vp:Dn K mg "states_behind" fZ FJ)(qu:Dn K mg "note" uR Cu)(wO:Dn K mg "fill_along" jP Js):bf P w K mg base fX 10 wO.f wO.fd Js (Ė Qn):=by
 have a6M:bf P w K mg base fX 9 _ _ _ _:=Ep Qn vp;have a3h:bf P w K mg base fX 9 _ _ _ _:=Xo Qn qu;refine wO.F.ok mU λdZ A outer s H vs Q E hr h=>?_;obtain⟨d,t,sc,ps,pb,O,nJ,T,S,jZ,B,m,rfl,hD,ht,hT,hsc,hS,nts,sy,hs,hb,fit,lS,lim,q⟩:=h;refine⟨_,(aD (xX (jD jf Z (vf (sO (K:=K) Z zU HB HD vd (pv 2))) (jO (K:=K) (n:=2) Z Z (b8 (aO 5 mU.nd) (b8 (aO 6 mU.nd) jw)))
   (aD (jD jf Z (gk (K:=K) Z (bw a6M hr Z vp.m vp.F.kp vp.b .nil cA (J (pv 0) (J (pv 5) (J (pv 3) (J (pv 4) aj)))))) (jO (K:=K) (n:=2) Z Z (b8 (aO 7 mU.nd) (b8 (aO 8 mU.nd) jw)))
   (aD (gA (bw a3h hr Z qu.m qu.F.kp qu.b .nil cA (J (pv 0) (J (pv 1) (J (pv 7) (J (bB (J (aQ (aP (K:=K) Z) (pv 6) aA) (J (aZ fj (aQ (aP (K:=K) Z) (pv 6) aA) (pv 8)) (J (bB (J (pv 5) aj)) aj)))) aj)))))))))))),?_⟩
 refine⟨_,Z,.inr (.inr (.inl ⟨Z,.inr ⟨_,hsc⟩⟩)),sc,nJ,Z,Z,hsc,λpv H1 n1=>⟨pv,sc,nJ,Z,n1.here,n1.same _ _ hsc,λo as pk=>?_⟩⟩;have h1s:=n1.same _ _ hsc;have Vx:Nd H (cN H1 sc (.jo o (.dT nJ))):=(Nd.of n1.same).trans (Nd.jo h1s);have g0s:cN H1 sc (.jo o (.dT nJ)) sc=some (.jo o (.dT nJ)):=dD;have R8:cN H1 sc (.jo o (.dT nJ)) t=some (.dT O):=by rw[aW nts];exact n1.same _ _ ht
 have Xr:∀c,c≠sc->cN H1 sc (.jo o (.dT nJ)) c=H1 c:=λc hc=>aW hc;generalize cN H1 sc (.jo o (.dT nJ))=G0 at pk Vx g0s R8 Xr ⊢;have lk:=aV hS;have la:=aV pk;refine opq (P:=λi σ G=>P4 (T4 (λo5 o6 o7 o8=>[some (.ref d),some (.ref t),some (.ref sc),some (.ref ps),some (.ref pb),o5,o6,o7,o8]) σ) (Sd t G0 G) (λkt=>G t=some (.dT kt)) λkt=>qt G kt (nH Qn.pq jZ B (S.take i) T)) λZ97 ji ij=>wA Z97 (ji _ _ _ ⟨⟨_,_,_,_,Z⟩,.refl,O,R8,hT.keep Vx.tups⟩) (λi σ G _ h=>(ij _ _ _ h).s _ _ (Ne.symm nts) g0s) ?_ ?_
 ·intro i a0 v0 σ G p G1 ha0 hv0 h nw;obtain⟨⟨o5,o6,o7,o8,rfl⟩,sG,kt,hkt,Vy⟩:=ij _ _ _ h;obtain⟨kv,hkv,hak⟩:=bM pk ha0;obtain⟨⟨old,row⟩,hsx,ek,hrow⟩:=bM hS hkv;have ek:kv.1=su old:=ek;have hv0':v0=kv.2:=by
   rw[dU,hkv]at hv0;exact(dB hv0).symm
  subst hv0';rw[ek]at hak;have nG:Nd G0 G:=.sd sG R8;have ė:aL G G1:=nw.same;have ţ:Nd G0 G1:=nG.trans (.of ė);have nH1:Nd H G1:=Vx.trans ţ;have hold:um G1 a0 old:=um.Mj (ţ.tups _ _ hak);have zG:K5 G1 kv.2 row:=hrow.keep nH1.tups;have mem:(old,row)∈S:=jz hsx;refine⟨p,_,Z,cQ.of nw.here,Z,_,_,Z,_,_,Z,Z,⟨_,Z,_,Z,_,Z,_,Z,d,a0,ps,pb,old,jZ,B,m,Z,nH1.at Qn hD,hold,sy _ mem,nH1.sqt hs,nH1.lst hb,fit,λr xs G2 s2 hr2 pm=>⟨r,Z,⟨_,bN.of hr2⟩,?_⟩⟩⟩;have hT2:qt G2 kt (nH Qn.pq jZ B (S.take i) T):=Vy.keep (pY.of (ė.trans s2));have ht2:G2 t=some (.dT kt):=(ė.trans s2) _ _ hkt;have lpm:=aV pm;have a6N:=lim i (eO (fL.mp hsx).1) _ hsx;have hTi:S.take (i+1)=S.take i++[(old,row)]:=by rw[nA,hsx];rfl
  refine opq (P:=λj σ G'=>P4 (T2 (λo7 o8=>[some (.ref d),some (.ref t),some (.ref sc),some (.ref ps),some (.ref pb),some (.ref a0),some kv.2,o7,o8]) σ) (Sd t G2 G') (λVz=>G' t=some (.dT Vz)) λVz=>qt G' Vz (oR Qn.pq.bt old row ((Vv Qn.pq old jZ B).take j) (nH Qn.pq jZ B (S.take i) T))) λJ2 ji2 ij2=>BJ (K:=K) (a:=r) (xs:=xs) J2 (ji2 _ _ _ ⟨⟨_,_,Z⟩,.refl,kt,ht2,hT2⟩) (λj σ G' _ h=>bN.of ((Nd.sd (ij2 _ _ _ h).s ht2).lst hr2)) ?_ ?_
  ·intro j x σ G' hx h2;obtain⟨⟨o7,o8,rfl⟩,Ť,Vz,VB,hT'⟩:=ij2 _ _ _ h2;obtain⟨⟨st',am⟩,hmx,pp,aa,rfl,Dp,haa⟩:=bM pm hx;have n2':Nd G2 G':=.sd Ť ht2;have nHG:Nd H G':=nH1.trans ((Nd.of s2).trans n2');obtain⟨pr,qr,asr,VD,hpr,hqr,hsr⟩:=zG.keep ((pY.of s2).trans n2'.tups);refine⟨pp,_,Z,cQ.of (n2'.tups _ _ Dp),Z,_,_,Z,_,_,Z,Z,?_⟩;rw[VD];refine⟨_,Z,_,Z,_,Z,_,Z,pr,_,_,.int row.m,Z,Z,cQ.of hpr,Z,_,Z,pr,_,_,.int row.b,Z,Z,cQ.of hpr,Z,_,Z,_,_,Z,Z,_,Z,(),λq1 G3 m3=>⟨(),λq2 G4 m4=>?_⟩⟩;have ZR:=m3.same.trans m4.same;have a5n:um G4 a0 old:=hold.keep ((pY.of s2).trans (n2'.tups.trans (.of ZR)));refine⟨d,t,aa,.ref q2,Vz,_,st',⟨row.m,row.b+am,[old]⟩,Z,(nHG.trans (.of ZR)).at Qn hD,ZR _ _ VB,hT'.keep (.of ZR),?_,haa.keep (n2'.tups.trans (.of ZR)),⟨q2,q1,[a0],Z,m4.here,m4.same _ _ m3.here,.cons a5n .nil⟩,λZb G5 s5 h5 hT5=>?_⟩
   ·exact a6N j (eO (fL.mp hmx).1)
   ·refine ji2 _ _ _ ⟨⟨some (.ref aa),some (.int am),by rw[VD];rfl⟩,Ť.trans ((Sd.of ZR).trans s5),Zb,h5,?_⟩;rw[nA,hmx];show qt G5 Zb (oR Qn.pq.bt old row ((Vv Qn.pq old jZ B).take j++[(st',am)]) _);rw[Cy];exact hT5
  ·intro σ G' h2;obtain⟨⟨o7,o8,rfl⟩,Ť,Vz,VB,hT'⟩:=ij2 _ _ _ h2;refine ji _ _ _ ⟨⟨_,_,_,_,Z⟩,sG.trans ((Sd.of (ė.trans s2)).trans Ť),Vz,VB,?_⟩;rw[hTi,JC];rw[lpm,je]at hT';exact hT'
 ·intro σ G h;obtain⟨⟨o5,o6,o7,o8,rfl⟩,sG,kt,hkt,Vy⟩:=ij _ _ _ h;have gs:=sG _ _ (Ne.symm nts) g0s;refine⟨sc,o,nJ,nJ,hsc,gs,?_⟩;refine q kt _ (λc u hc e=>?_) (by rw[aW nts];exact hkt) ?_
  ·by_cases z:c=sc
   ·rw[z]at e ⊢;rw[dD,<-e,hsc]
   ·rw[aW z];refine sG c u hc ?_;rw[Xr c z];exact n1.same _ _ e
  ·rw[show S.take as.length=S by rw[la,lk,je]]at Vy;exact Vy.keep (Nd.Pu gs)
end
end K
namespace L2
open PyProof.Rows Bg
section
variable{X:Cx}{tg:Expr}
def a3i(td:TE):TI:=λσ H R=>td σ H λx H1=>∃d O,x=.ref d/\H1 d=some (.dT O)/\
 ∀o as,Paired (λa (kv:List Key×V)=>(cN H1 d (.jo o (.dT O))) a=some (.tup (kv.1.map kV))) as O->R (Itp o d (.dT O) as) (cN H1 d (.jo o (.dT O)))
def Ę{l:Expr}{td:TE}(hl:PE X l td):PI X tg l (a3i td):=by
 intro Y s σ H R I h;refine jG (hl Y s σ H _ I h) λv s1 ⟨x,H1,I1,r1,q1⟩=>?_;obtain⟨d,O,e,hd,q⟩:=q1;subst e;cases r1;obtain⟨_,hs,xs,rel,o,es,ep,ho,hx,hdt,hes,_,_⟩:=Jk I1.hok hd;have I2:bH X Y σ (cN H1 d (.jo o (.dT O))) s1:=I1.Vn hd (λ_ z=>by cases z) (λ_ z=>by cases z) (λ_ z=>by cases z) (I1.Xb hd λ_ _ z=>by cases z) ⟨ho,I1.hok d _ hd⟩;have ek:es.toList.map (·.key)=(xs.map λx=>x.2.1).map Value.ref:=by rw[hes,nC,nC];rfl
 have pk:Paired (λa (kv:List Key×V)=>(cN H1 d (.jo o (.dT O))) a=some (.tup (kv.1.map kV))) (xs.map λx=>x.2.1) O:=by
  have go:∀{ks:List (List Key×V)}{ys:List (List Key×Addr×Value)},KT H1 ks ys->Paired (λa (kv:List Key×V)=>(cN H1 d (.jo o (.dT O))) a=some (.tup (kv.1.map kV))) (ys.map λx=>x.2.1) ks:=λ{ks ys} r=>by
   induction r with
   |nil=>exact .nil
   | @cons kv y _ _ a _ ih =>
    refine .cons ?_ ih;have nb:y.2.1≠d:=λz=>by grind
    rw[aW nb];exact a.2.1
  exact go rel
 refine Dq.Cq hs ho hx hdt ⟨s1⁻¹,[s1⁻¹],_,_,_,Z,I2.kept (t':=s1.toks) λb o e=>bL _ e,Vo d _ hdt ek,bW _ Z,λb hb=>?_,q o _ pk⟩;have e:b=s1⁻¹:=()
 subst e;exact I2.Gf (aM _) (I2.hok.fresh (aM _))
end
def Zc{o:Obj}{d:Addr}{u:HO}{as:List Addr}{g:TG}{tb:TS}{D:Ends}{σ:St}{H:Hp}(Pv:Nat->St->Hp->Prop)(h0:Pv 0 σ H)(hl:∀i σ H,i<=as.length->Pv i σ H->H d=some (.jo o u))
  (hs:∀(i:Nat) a σ H,as[i]?=some a->Pv i σ H->g (.ref a) σ H λσ2 H2=>tb { D with nx:=Pv (i+1),ct:=Pv (i+1),bk:=D.nx} σ2 H2) (hd:∀σ H,Pv as.length σ H->D.nx σ H) :
  ∃W:Nat->Nat->St->Hp->Prop,(∃m,W 0 m σ H)/\∀i m σ H,W i m σ H->
   ((Itp o d u as).stop i H/\D.nx σ H)\/((Itp o d u as).go i H/\∃N:St->Hp->Prop,(∀σ' H',N σ' H'->∃m',m'<m/\W (i+1) m' σ' H')/\∀x H',(Itp o d u as).ZQ i H x H'->g x σ H' λσ2 H2=>tb { D with nx:=N,ct:=N,bk:=D.nx} σ2 H2):=by
 refine⟨λi m σ H=>m=as.length-i/\i<=as.length/\Pv i σ H,⟨as.length,by simp,dw _,h0⟩,?_⟩;rintro i m σ H ⟨rfl,hi,p⟩;have q1:=hl i σ H hi p;by_cases hlt:i<as.length
 ·refine .inr ⟨⟨q1,hlt⟩,Pv (i+1),λσ' H' p'=>⟨as.length-(i+1),(),Z,hlt,p'⟩,λx H' y=>?_⟩;obtain⟨eH,ex⟩:=y;subst eH;rw[dU,bF hlt]at ex;cases ex;exact hs i as[i] σ H' (bF hlt) p
 ·have e:i=as.length:=()
  subst e;exact .inl ⟨⟨q1,Z⟩,hd σ H p⟩
section
variable{X:Cx}
def ę(i j:Int):Prop:=i.natAbs<2^4000/\j.natAbs<2^4000
def Mp{k:Int}(h:k.natAbs<2^4000):Builtin.Int.intBits k<=4000:=by
 unfold Builtin.Int.intBits;split
 ·grind
 ·have:k.natAbs.log2<4000:=by
   rcases Nat.eq_zero_or_pos k.natAbs with h0|hp
   ·rw[h0];decide
   ·exact(Nat.log2_lt (gG hp)).mpr h
  omega
def ę.ok{i j:Int}(h:ę i j):IntMulOk i j:=by
 have h1:=Mp h.1;have h2:=Mp h.2;have:Builtin.Int.intTooBig ((Builtin.Int.intBits i:Int)+(Builtin.Int.intBits j:Int))=false:=by
  unfold Builtin.Int.intTooBig;refine cJ ?_;have e:((bitsLine:Nat):Int)=134217728:=()
  grind
 unfold IntMulOk;rw[this,Bool.and_false];exact dh
def a0v:sX X (binaryOp .Mult) (rI ę λi j=>.int (i*j)):=opI λ_ _ _ _ _ _ _ hc q=>mul_int q hc.ok
end
end L2
namespace K
open L2 Lw Bg
variable{P:Program}{w:World}{mg:Str->Option Value}{base:Heap}{ex:List Addr}{F:Hp}{pa:Addr}
section
variable{κ:Type} [DecidableEq κ]
def zH(bt:Int->Int->Bool)(gh bT:dX)(row more:gJ):List dX->cI->cI
 | [],T=>T
 |x::l,T=>zH bt gh bT row more l (nU bt T x ⟨row.m*more.m,row.b+more.b,[gh,bT]⟩)
def zJ(pq:PQ κ)(gh:dX)(row:gJ):cI->cI->cI
 | [],T=>T
 |x::A,T=>zJ pq gh row A (zH pq.bt gh x.1 row x.2 (pq.jn gh x.1) T)
def qw(pq:PQ κ)(gh:dX)(A:cI):cI:=A.filter λx=>decide (pq.sh x.1=pq.sh gh)
def wL(pq:PQ κ)(A:cI):cI->cI->cI
 | [],T=>T
 |x::S,T=>wL pq A S (zJ pq x.1 x.2 (qw pq x.1 A) T)
theorem JD(bt:Int->Int->Bool)(gh bT:dX)(row more:gJ)(x:dX):∀(l:List dX) (T:cI),zH bt gh bT row more (l++[x]) T=nU bt (zH bt gh bT row more l T) x ⟨row.m*more.m,row.b+more.b,[gh,bT]⟩
 | [],_=>rfl
 |_::l,T=>JD bt gh bT row more x l _
theorem JF(pq:PQ κ)(gh:dX)(row:gJ)(x:dX×gJ):∀(A T:cI),zJ pq gh row (A++[x]) T=zH pq.bt gh x.1 row x.2 (pq.jn gh x.1) (zJ pq gh row A T)
 | [],_=>rfl
 |_::A,T=>JF pq gh row x A _
theorem join_snoc(pq:PQ κ)(A:cI)(x:dX×gJ):∀(S T:cI),wL pq A (S++[x]) T=zJ pq x.1 x.2 (qw pq x.1 A) (wL pq A S T)
 | [],_=>rfl
 |_::S,T=>join_snoc pq A x S _
def a3j(pq:PQ κ)(A S T:cI):Prop:=∀i x,S[i]?=some x->∀j y,(qw pq x.1 A)[j]?=some y->∀l,l<=(pq.jn x.1 y.1).length->(zH pq.bt x.1 y.1 x.2 y.2 ((pq.jn x.1 y.1).take l) (zJ pq x.1 x.2 ((qw pq x.1 A).take j) (wL pq A (S.take i) T))).length<=4000
def tW(pq:PQ κ)(L:List (Addr×dX))(k:List κ):List Addr:=(L.filter λx=>decide (pq.sh x.2=k)).map (·.1)
def Mq(pq:PQ κ)(L:List (Addr×dX))(x:Addr×dX)(k:List κ):tW pq (L++[x]) k=if pq.sh x.2=k then tW pq L k++[x.1]else tW pq L k:=by
 unfold tW;grind
def Er{O:List (List κ×V)}{k0:List κ}{v:V}(h:ig O k0=none)(k:List κ):ig (O++[(k0,v)]) k=if k0=k then some v else ig O k:=by
 unfold ig at h ⊢;rw[List.find?_append];by_cases c:k0=k
 ·subst c;rw[aG rfl];cases e:O.find? λkv=>decide (kv.1=k0)with
  |none=>rw[Option.none_or,uI (by exact bA Z)];rfl
  |some y=>rw[e]at h;cases h
 ·rw[aB c,uJ (by exact λz=>c (gV z))];simp
end
section
variable{κ:Type} [DecidableEq κ]
structure Cz(knd:KeyKind P w κ)(pq:PQ κ)(F G:Hp)(pa:Addr)(L:List (Addr×dX))(O:List (List κ×V)):Prop where
 dx:DX knd G pa O
 len:O.length<=L.length
 val:∀k,(ig O k=none/\tW pq L k=[])\/∃l,ig O k=some (.ref l)/\G l=some (.lst ((tW pq L k).map V.ref))
 inj:∀k k' l,ig O k=some (.ref l)->ig O k'=some (.ref l)->k=k'
 fr:∀k l,ig O k=some (.ref l)->F l=none
def Ě(pq:PQ κ)(L:List (Addr×dX))(k:List κ):(tW pq L k).length<=L.length:=by
 unfold tW;grind
def Ro{knd:KeyKind P w κ}{H H':Hp}{a:Addr}{O:List (List κ×V)}(e:∀c o,(∀ys,o≠.lst ys)->H c=some o->H' c=some o)(h:DX knd H a O):DX knd H' a O:=by
 obtain⟨z,h|⟨xs,h1,h2⟩⟩:=h
 ·exact⟨z,.inl ⟨h.1,e _ _ (λ_ z=>by cases z) h.2⟩⟩
 ·exact⟨z,.inr ⟨xs,e _ _ (λ_ z=>by cases z) h1,Paired.cC h2 λ_ _ ⟨a,b,c⟩=>⟨a,b.same λ_ _ q=>e _ _ (λ_ z=>by cases z) q,c⟩⟩⟩
def Py{knd:KeyKind P w κ}{H:Hp}{a:Addr}{O:List (List κ×V)}(h:DX knd H a O){ys:List V}:H a≠some (.lst ys):=λe=>by
 obtain⟨z,h|⟨xs,h1,h2⟩⟩:=h
 ·grind
 grind
def Cz.same{knd:KeyKind P w κ}{pq:PQ κ}{F G G':Hp}{pa:Addr}{L:List (Addr×dX)}{O:List (List κ×V)}(I:Cz knd pq F G pa L O)(s:aL G G'):Cz knd pq F G' pa L O :=
 ⟨I.dx.same s,I.len,λk=>(I.val k).imp id λ⟨l,h1,h2⟩=>⟨l,h1,s _ _ h2⟩,I.inj,I.fr⟩
def a0w{knd:KeyKind P w κ}{pq:PQ κ}{G G3:Hp}{L:List (Addr×dX)}{O:List (List κ×V)}{l a0:Addr}{st:dX}(I:Cz knd pq F G pa L O)(hv:ig O (pq.sh st)=some (.ref l))(c:uZ G l (.lst ((tW pq L (pq.sh st)).map V.ref++[.ref a0])) G3)(hl:∃ys,G l=some (.lst ys)):Cz knd pq F G3 pa (L++[(a0,st)]) O:=by
 obtain⟨ys,hl⟩:=hl;refine⟨Ro (λb o nl e=>?_) I.dx,by rw[cB];have:=I.len;omega,λk=>?_,I.inj,I.fr⟩
 ·rw[c.rest b (λz=>by grind)];exact e
 ·rw[Mq];by_cases ck:pq.sh st=k
  ·subst ck;rw[aG rfl];refine .inr ⟨l,hv,?_⟩;rw[c.here,dW];rfl
  ·rw[aB ck];refine(I.val k).imp id λ⟨l',h1,h2⟩=>⟨l',h1,?_⟩;rw[c.rest l' (λz=>ck (I.inj _ _ l hv ()))];exact h2
def a0x{knd:KeyKind P w κ}{pq:PQ κ}{G H' G3:Hp}{L:List (Addr×dX)}{O:List (List κ×V)}{l0 a0:Addr}{st:dX}(I:Cz knd pq F G pa L O)(hv:ig O (pq.sh st)=none)(hl:G l0=some (.lst []))(fl:F l0=none)(nl:∀k l,ig O k=some (.ref l)->l≠l0)(hh:∀c,c≠pa->H' c=G c)(dx:DX knd H' pa (O++[(pq.sh st,.ref l0)]))(c:uZ H' l0 (.lst ([]++[.ref a0])) G3):Cz knd pq F G3 pa (L++[(a0,st)]) (O++[(pq.sh st,.ref l0)]):=by
 have npa:l0≠pa:=λz=>Py I.dx (ys:=[]) ();have hl':H' l0=some (.lst []):=()
 have lk0:tW pq L (pq.sh st)=[]:=by
  rcases I.val (pq.sh st)with h|⟨l,h,_⟩
  ·exact h.2
  grind
 refine⟨Ro (λb o nl e=>?_) dx,by rw[cB,cB];have:=I.len;simp;omega,λk=>?_,λk k' l h h'=>?_,λk l h=>?_⟩
 ·rw[c.rest b (λz=>by grind)];exact e
 ·rw[Mq,Er hv];by_cases ck:pq.sh st=k
  ·subst ck;rw[aG Z,aG Z,lk0];exact .inr ⟨l0,Z,c.here⟩
  ·rw[aB ck,aB ck];refine(I.val k).imp id λ⟨l',h1,h2⟩=>⟨l',h1,?_⟩;rw[c.rest l' (nl k l' h1),hh l' (λz=>Py I.dx (by rw[<-z];exact h2))];exact h2
 ·rw[Er hv]at h h';by_cases ck:pq.sh st=k
  ·grind
  ·by_cases ck':pq.sh st=k'
   ·grind
   ·rw[aB ck]at h;rw[aB ck']at h';exact I.inj _ _ _ h h'
 ·rw[Er hv]at h;by_cases ck:pq.sh st=k
  ·grind
  ·rw[aB ck]at h;exact I.fr _ _ h
def Cz.Pu{knd:KeyKind P w κ}{pq:PQ κ}{G G':Hp}{L:List (Addr×dX)}{O:List (List κ×V)}(I:Cz knd pq F G pa L O)(e:∀c o,(∀ob u,o≠.jo ob u)->G c=some o->G' c=some o):Cz knd pq F G' pa L O:=by
 refine⟨?_,I.len,λk=>(I.val k).imp id λ⟨l,h1,h2⟩=>⟨l,h1,e _ _ (λ_ _ z=>by cases z) h2⟩,I.inj,I.fr⟩;obtain⟨z,h|⟨xs,h1,h2⟩⟩:=I.dx
 ·exact⟨z,.inl ⟨h.1,e _ _ (λ_ _ z=>by cases z) h.2⟩⟩
 ·exact⟨z,.inr ⟨xs,e _ _ (λ_ _ z=>by cases z) h1,Paired.cC h2 λ_ _ ⟨a,b,c⟩=>⟨a,b.same λ_ _ q=>e _ _ (λ_ _ z=>by cases z) q,c⟩⟩⟩
def Rp{R:Addr->dX×gJ->Prop}(pq:PQ κ)(k:List κ){as:List Addr}{A:cI}(h:Paired R as A):Paired R (tW pq (as.zip (A.map (·.1))) k) (A.filter λx=>decide (pq.sh x.1=k)):=by
 induction h with
 |nil=>exact .nil
 | @cons a x as A h t ih =>
  unfold tW at ih ⊢;rw[cL,List.zip_cons_cons];by_cases c:pq.sh x.1=k
  ·rw[Sy (by exact bA c),Sy (by exact bA c),cL];exact .cons h ih
  grind
theorem JG:∀{A:cI}{x:dX×gJ},(A.map (·.1)).Nodup->x∈A->Al A x.1=some x.2
 |y::A,x,nd,h=>by
  unfold Al
  rw[cL,jB]at nd
  rcases bZ.mp h with rfl|h
  ·grind
  ·rw[uJ ()]
   exact JG nd.2 h
end
abbrev iC:Stmt:=top 26
def gK:bD ["question","table","source","another","alike","other","one","row","more","state"] Jt (aH iC):={}
section
variable{K:aJ}{κ:Type} [DecidableEq κ]
def JH(T:cI):Prop:=∀x∈T,x.2.m.natAbs<2^4000
inductive a0y(Qn:Hg P w K mg base κ)(vs:List V)(H:Hp)(Q:VK)(u_3:XK):Prop
 |mk (d t sc an:Addr) (O nJ vq:List (List Key×V)) (T S A:cI) (m:Nat) (_:vs=[.ref d,.ref t,.ref sc,.ref an]) (_:Qn.At H d) (_:H t=some (.dT O)) (_:qt H O T) (_:H sc=some (.dT nJ)) (_:qt H nJ S) (_:H an=some (.dT vq)) (_:qt H vq A) (_:t≠sc) (_:t≠an) (_:sc≠an) (_:(∀x∈S,Qn.pq.Ok m x.1)) (_:(∀x∈A,Qn.pq.Ok m x.1)) (_:m<=5) (_:(A.map (·.1)).Nodup) (_:S.length<=4000) (_:A.length<=900) (_:JH S) (_:JH A) (_:a3j Qn.pq A S T) (_:∀kvs' H',Sd t H H'->H' t=some (.dT kvs')->qt H' kvs' (wL Qn.pq A S T)->Q .non H')
def JK(Qn:Hg P w K mg base κ)(qu:Dn K mg "note" uR Cu)(wB:Dn K mg "fill_joined" iC Jt):bf P w K mg base fX 10 wB.f wB.fd Jt (a0y Qn):=by
 have JL:bf P w K mg base fX 9 _ _ _ _:=Qn.qR.ok.mono ();have VF:bf P w K mg base fX 9 _ _ _ _:=Qn.vg.ok.mono ();have a3h:bf P w K mg base fX 9 _ _ _ _:=Xo Qn qu;refine wB.F.ok gK λdZ A' outer s H vs Q E hr h=>?_;obtain⟨d,t,sc,an,O,nJ,vq,T,S,A,m,rfl,hD,ht,hT,hsc,hS,han,hA,nts,nta,nsa,sy,okA,m5,ndA,lS,lA,smS,smA,lim,q⟩:=h;have hw1:(A'.deeper (PyProof.Rows.envOfC "fill_joined" (aH iC) s⁻¹ wB.f dZ)).units+1<cLine:=by have:=hr.un;omega
 refine⟨_,(aF (bx 4 gK.nd Jm)
   (aF (xX (jD jf Z (Ę (pv 3)) (aO 5 gK.nd)
   (aD (gA (mL (K:=K) Z j7 PySem.F.slot_list_append PySem.F.type_list_append iI (Ċ Qn.knd PySem.F.plainAttrs_dict PySem.F.slot_dict_setdefault PySem.F.type_dict_setdefault (Jq Qn.knd hw1) (pv 4) (J (vY (pv 0) Qn.cl Qn.qR.mt JL hr Qn.qR.b .nil cA (J (pv 5) aj)) (J (cG aj) aj))) (J (pv 5) aj))))))
   (aD (xX (jD jf Z (vf (sO (K:=K) Z zU HB HD vd (pv 2))) (jO (K:=K) (n:=2) Z Z (b8 (aO 6 gK.nd) (b8 (aO 7 gK.nd) jw)))
   (aD (jD jf Z (gk (K:=K) Z (Ċ Qn.knd zU Nq PySem.F.type_dict_get (a0n Qn.knd hw1) (pv 4) (J (vY (pv 0) Qn.cl Qn.qR.mt JL hr Qn.qR.b .nil cA (J (pv 6) aj)) (J (cG aj) aj)))) (aO 5 gK.nd)
   (aF (bx 8 gK.nd (GX hw1 (pv 3) (pv 5) λ_ _=>rfl))
   (aD (jD jf Z (gk (K:=K) Z (vY (pv 0) Qn.cl Qn.vg.mt VF hr Qn.vg.b .nil cA (J (pv 6) (J (pv 5) aj)))) (aO 9 gK.nd)
   (aD (gA (bw a3h hr Z qu.m qu.F.kp qu.b .nil cA (J (pv 0) (J (pv 1) (J (pv 9) (J (bB (J (aZ a0v (aQ (aP (K:=K) Z) (pv 7) aA) (aQ (aP (K:=K) Z) (pv 8) aA)) (J (aZ fj (aQ (aP (K:=K) Z) (pv 7) aA) (aQ (aP (K:=K) Z) (pv 8) aA)) (J (bB (J (pv 6) (J (pv 5) aj))) aj)))) aj))))))))))))))))),?_⟩
 refine λpa hpa=>?_;have n1:=iQ.pQ (o:=.dT []) hpa;generalize cN H pa (.dT [])=H1 at n1 ⊢;have h1a:=n1.same _ _ han;refine⟨_,Z,an,vq,Z,h1a,λo as pk=>?_⟩;have npa:pa≠an:=λz=>by have:=n1.fresh;rw[z,han]at this;cases this
 have npt:pa≠t:=λz=>by have:=n1.fresh;rw[z,ht]at this;cases this
 have nps:pa≠sc:=λz=>by have:=n1.fresh;rw[z,hsc]at this;cases this
 have Vx:Nd H (cN H1 an (.jo o (.dT vq))):=(Nd.of n1.same).trans (Nd.jo h1a);have g0a:cN H1 an (.jo o (.dT vq)) an=some (.jo o (.dT vq)):=dD;have g0p:cN H1 an (.jo o (.dT vq)) pa=some (.dT []):=by rw[aW npa];exact n1.here
 have Xr:∀c,c≠an->cN H1 an (.jo o (.dT vq)) c=H1 c:=λc hc=>aW hc;generalize cN H1 an (.jo o (.dT vq))=G0 at pk Vx g0a g0p Xr ⊢;have lk:=aV hA;have la:=aV pk;obtain⟨L,hL⟩:∃L:List (Addr×dX),L=as.zip (A.map (·.1)):=⟨_,Z⟩;have lL:L.length=as.length:=by rw[hL,List.length_zip,aK];omega
 have atL:∀i a0,as[i]?=some a0->∃st more,A[i]?=some (st,more)/\L[i]?=some (a0,st)/\G0 a0=some (.tup ((su st).map kV)):=λi a0 ha0=>by
  obtain⟨kv,hkv,hak⟩:=bM pk ha0;obtain⟨⟨st,more⟩,hsx,ek,hrow⟩:=bM hA hkv;have ek:kv.1=su st:=ek;rw[ek]at hak;refine⟨st,more,hsx,?_,hak⟩;rw[hL,List.getElem?_zip_eq_some];exact⟨ha0,by rw[dU,hsx];rfl⟩
 refine opq (P:=λi σ G=>P3 (T1 (λo5=>[some (.ref d),some (.ref t),some (.ref sc),some (.ref an),some (.ref pa),o5,none,none,none,none]) σ) (Sd pa G0 G) λka=>Cz Qn.knd Qn.pq G0 G pa (L.take i) ka) λZ97 ji ij=>Zc Z97 (ji _ _ _ ⟨⟨_,Z⟩,.refl,[],⟨DX.new g0p,by simp,λk=>.inl ⟨Z,Z⟩,λk k' l h=>(by cases h),λk l h=>(by cases h)⟩⟩) (λi σ G _ h=>(ij _ _ _ h).s _ _ (Ne.symm npa) g0a) ?_ ?_
 ·intro i a0 σ G ha0 h1;obtain⟨⟨o5,rfl⟩,sG,ka,hK⟩:=ij _ _ _ h1;obtain⟨st,more,hAi,hLi,hak⟩:=atL i a0 ha0;have nG:Nd G0 G:=.sd sG g0p;have nHG:Nd H G:=Vx.trans nG;have hDG:=nHG.at Qn hD;obtain⟨dx',fs,hd,nom,_⟩:=Qn.ins hDG;have hst:um G a0 st:=um.Mj (nG.tups _ _ hak);have hTi:L.take (i+1)=L.take i++[(a0,st)]:=by rw[nA,hLi];rfl
  have li:(L.take i).length<=900:=by rw[gb];omega
  refine⟨_,Z,⟨pa,ka,Z,hK.dx⟩,_,Z,d,dx',fs,Z,hd,nom _ (),_,Z,d,a0,m,st,Z,hDG,hst,okA _ (jz hAi),m5,λb G1 s1 hk=>⟨(),λl0 G2 n2=>?_⟩⟩;have s2:=s1.trans n2.same;have Zd:=hK.same s2;have lk0:=hK.len;refine⟨pa,b,Qn.pq.sh st,ka,.ref l0,Z,Z,hk.same λ_ _ z=>n2.same _ _ z,Zd.dx,(),λy hy=>?_,λhn H' hh dxn=>?_⟩
  ·rcases Zd.val (Qn.pq.sh st)with h|⟨l,h1,h2⟩
   ·rw[h.1]at hy;cases hy
   ·rw[h1]at hy;cases hy;refine⟨.inl ⟨Z,_,bN.of h2⟩,_,Z,l,_,_,Z,Z,h2,?_,λG3 c3=>?_⟩
    ·rw[aK];have:=Ě Qn.pq (L.take i) (Qn.pq.sh st);omega
    ·refine ji _ _ _ ⟨⟨_,Z⟩,λc u hc e=>?_,ka,by rw[hTi];exact a0w Zd h1 c3 ⟨_,h2⟩⟩;rw[c3.rest c (λz=>by have:=Zd.fr _ _ h1;rw[<-z,e]at this;cases this)];exact s2 _ _ (sG c u hc e)
  ·have npl:l0≠pa:=λz=>Py Zd.dx (ys:=[]) (by rw[<-z];exact n2.here);have hl0:H' l0=some (.lst []):=by rw[hh l0 npl];exact n2.here
   refine⟨.inl ⟨Z,_,bN.of hl0⟩,_,Z,l0,[],_,Z,Z,hl0,(),λG3 c3=>?_⟩;have fl:G0 l0=none:=by
    cases e:G0 l0 with
    |none=>rfl
    |some u =>
     have h1:=s1 _ _ (sG l0 u npl e);have h2:=n2.fresh;rw[h1]at h2;cases h2
   refine ji _ _ _ ⟨⟨_,Z⟩,λc u hc e=>?_,_,by
    rw[hTi];refine a0x Zd hn n2.here fl (λk l h z=>?_) hh dxn c3;rcases hK.val k with h'|⟨l',h1,h2⟩
    ·rw[h'.1]at h;cases h
    ·rw[h1]at h;cases h;have h3:=s1 _ _ h2;have h4:=n2.fresh;rw[<-z,h3]at h4;cases h4⟩
   rw[c3.rest c (λz=>by rw[z,fl]at e;cases e),hh c hc];exact s2 _ _ (sG c u hc e)
 intro σ G h1;obtain⟨⟨o5,rfl⟩,sG,ka,hK⟩:=ij _ _ _ h1;clear ji ij;have ga:=sG _ _ (Ne.symm npa) g0a;refine⟨an,o,vq,vq,h1a,ga,?_⟩;have sF:aL H (cN G an (.dT vq)):=λc u e=>by
  have ncp:c≠pa:=λz=>by rw[z,n1.fresh]at e;cases e
  by_cases z:c=an
  ·rw[z]at e ⊢;rw[dD,<-e,han]
  ·rw[aW z];refine sG c u ncp ?_;rw[Xr c z];exact n1.same _ _ e
 rw[show L.take as.length=L by rw[<-lL,je]]at hK;have hKF:Cz Qn.knd Qn.pq G0 (cN G an (.dT vq)) pa L ka:=hK.Pu λc u nf e=>by
  rw[aW (λz=>by rw[z,ga]at e;exact nf _ _ (dB e).symm)];exact e
 have pkF:Paired (λa (x:dX×gJ)=>um (cN G an (.dT vq)) a x.1) as A:=by
  have go:∀{as:List Addr}{ks:List (List Key×V)}{B:cI},Paired (λa (kv:List Key×V)=>G0 a=some (.tup (kv.1.map kV))) as ks->qt H ks B->Paired (λa (x:dX×gJ)=>um (cN G an (.dT vq)) a x.1) as B:=λ{as ks B} p=>by
   induction p generalizing B with
   |nil=>intro h;cases h;exact .nil
   | @cons a kv as ks h1 _ ih =>
    intro h;cases h with
    | @cons _ tr _ B' h2 t2 =>
     refine .cons ?_ (ih t2);have e:kv.1=su tr.1:=h2.1;rw[e]at h1;exact um.Mj (Nd.Pu ga _ _ ((Nd.sd sG g0p).tups _ _ h1))
  exact go pk hA
 generalize cN G an (.dT vq)=F at sF hKF pkF ⊢;have a0z:=sF _ _ hsc;refine⟨_,Z,.inr (.inr (.inl ⟨Z,.inr ⟨_,a0z⟩⟩)),sc,nJ,Z,Z,a0z,λpv H2 n2=>⟨pv,sc,nJ,Z,n2.here,n2.same _ _ a0z,λo2 as2 pk2=>?_⟩⟩;have s2:=sF.trans n2.same;have h2s:=s2 _ _ hsc;have YL:Nd H (cN H2 sc (.jo o2 (.dT nJ))):=(Nd.of s2).trans (Nd.jo h2s);have f0s:cN H2 sc (.jo o2 (.dT nJ)) sc=some (.jo o2 (.dT nJ)):=dD;have f0t:cN H2 sc (.jo o2 (.dT nJ)) t=some (.dT O):=by rw[aW nts];exact s2 _ _ ht
 have f0a:cN H2 sc (.jo o2 (.dT nJ)) an=some (.dT vq):=by rw[aW (Ne.symm nsa)];exact s2 _ _ han
 have f0r:∀c,c≠sc->cN H2 sc (.jo o2 (.dT nJ)) c=H2 c:=λc hc=>aW hc;have Zd:Cz Qn.knd Qn.pq G0 (cN H2 sc (.jo o2 (.dT nJ))) pa L ka:=by
  have h:=hKF.same n2.same;refine⟨?_,h.len,λk=>(h.val k).imp id λ⟨l,h1,h2⟩=>⟨l,h1,?_⟩,h.inj,h.fr⟩
  ·obtain⟨z,hh|⟨xs,h1,h2⟩⟩:=h.dx
   ·refine⟨z,.inl ⟨hh.1,?_⟩⟩;rw[aW nps];exact hh.2
   ·refine⟨z,.inr ⟨xs,?_,Paired.cC h2 λ_ _ ⟨a,b,c⟩=>⟨a,b.same λc' ys q=>?_,c⟩⟩⟩
    ·rw[aW nps];exact h1
    ·rw[aW (λz=>by rw[z,h2s]at q;cases q)];exact q
  ·rw[aW (λz=>by rw[z,h2s]at h2;cases h2)];exact h2
 have a5o:Paired (λa (x:dX×gJ)=>um (cN H2 sc (.jo o2 (.dT nJ))) a x.1) as A:=Paired.cC pkF λa x h=>by
  show cN H2 sc (.jo o2 (.dT nJ)) a=_;have h':H2 a=some (.tup (x.1.map V.int)):=n2.same _ _ h;rw[aW (λz=>by rw[z,h2s]at h';cases h')];exact h'
 generalize cN H2 sc (.jo o2 (.dT nJ))=F0 at pk2 YL f0s f0t f0a f0r Zd a5o ⊢;have lk2:=aV hS;have la2:=aV pk2;refine opq (P:=λi σ G=>P4 (T5 (λo5 o6 o7 o8 o9=>[some (.ref d),some (.ref t),some (.ref sc),some (.ref an),some (.ref pa),o5,o6,o7,o8,o9]) σ) (Sd t F0 G) (λkt=>G t=some (.dT kt)) λkt=>qt G kt (wL Qn.pq A (S.take i) T)) λZ97 ji ij=>wA Z97 (ji _ _ _ ⟨⟨_,_,_,_,_,Z⟩,.refl,O,f0t,hT.keep YL.tups⟩) (λi σ G _ h=>(ij _ _ _ h).s _ _ (Ne.symm nts) f0s) ?_ ?_
 ·intro i a0 v0 σ G p G1 ha0 hv0 h1 nw;obtain⟨⟨o5,o6,o7,o8,o9,rfl⟩,sG,kt,hkt,Vy⟩:=ij _ _ _ h1;obtain⟨kv,hkv,hak⟩:=bM pk2 ha0;obtain⟨⟨gh,row⟩,hsx,ek,hrow⟩:=bM hS hkv;have ek:kv.1=su gh:=ek;have hv0':v0=kv.2:=by
   rw[dU,hkv]at hv0;exact(dB hv0).symm
  subst hv0';rw[ek]at hak;have nG:Nd F0 G:=.sd sG f0t;have s1:aL G G1:=nw.same;have ţ:Nd F0 G1:=nG.trans (.of s1);have nH1:Nd H G1:=YL.trans ţ;have hone:um G1 a0 gh:=um.Mj (ţ.tups _ _ hak);have zG:K5 G1 kv.2 row:=hrow.keep nH1.tups;have mem:(gh,row)∈S:=jz hsx;have hDG:=nH1.at Qn hD;obtain⟨dx',fs,hd,nom,_⟩:=Qn.ins hDG;have hKG:Cz Qn.knd Qn.pq G0 G1 pa L ka:=by
   have ex:∀c u,c≠t->F0 c=some u->G1 c=some u:=λc u hc e=>s1 _ _ (sG c u hc e);refine⟨?_,Zd.len,λk=>(Zd.val k).imp id λ⟨l,h1,h2⟩=>⟨l,h1,ex _ _ (λz=>by rw[z,f0t]at h2;cases h2) h2⟩,Zd.inj,Zd.fr⟩;obtain⟨z,hh|⟨xs,h1,h2⟩⟩:=Zd.dx
   ·exact⟨z,.inl ⟨hh.1,ex _ _ npt hh.2⟩⟩
   ·exact⟨z,.inr ⟨xs,ex _ _ npt h1,Paired.cC h2 λ_ _ ⟨a,b,c⟩=>⟨a,b.same λ_ _ q=>ţ.tups _ _ q,c⟩⟩⟩
  refine⟨p,_,Z,cQ.of nw.here,Z,_,_,Z,_,_,Z,Z,?_⟩;refine⟨_,Z,⟨pa,ka,Z,hKG.dx⟩,_,Z,d,dx',fs,Z,hd,nom _ (),_,Z,d,a0,m,gh,Z,hDG,hone,sy _ mem,m5,λb G2 t2 hk=>⟨(),λl0 G3 n3=>?_⟩⟩;have t3:=t2.trans n3.same;have hK3:=hKG.same t3;refine⟨pa,b,Qn.pq.sh gh,ka,.ref l0,Z,Z,hk.same λ_ _ z=>n3.same _ _ z,hK3.dx,?_⟩;obtain⟨l,el,hl⟩:∃l,(ig ka (Qn.pq.sh gh)).getD (.ref l0)=.ref l/\G3 l=some (.lst ((tW Qn.pq L (Qn.pq.sh gh)).map V.ref)):=by
   rcases hK3.val (Qn.pq.sh gh)with⟨h1,h2⟩|⟨l,h1,h2⟩
   ·rw[h1,h2];exact⟨l0,Z,n3.here⟩
   ·rw[h1];exact⟨l,Z,h2⟩
  rw[el];have nG3:Nd F0 G3:=ţ.trans (.of t3);have pO:Paired (λa (x:dX×gJ)=>um G3 a x.1) (tW Qn.pq L (Qn.pq.sh gh)) (qw Qn.pq gh A):=by
   rw[hL];exact Paired.cC (Rp Qn.pq (Qn.pq.sh gh) a5o) λ_ _ h=>h.keep nG3.tups
  have lO:=aV pO;have st3:aL G G3:=s1.trans t3;have hT3:qt G3 kt (wL Qn.pq A (S.take i) T):=Vy.keep (.of st3);have ht3:G3 t=some (.dT kt):=st3 _ _ hkt;have hTi:S.take (i+1)=S.take i++[(gh,row)]:=by rw[nA,hsx];rfl
  refine⟨l,Z,⟨_,bN.of hl⟩,opq (P:=λj σ G'=>P4 (T3 (λo5 o8 o9=>[some (.ref d),some (.ref t),some (.ref sc),some (.ref an),some (.ref pa),o5,some (.ref a0),some kv.2,o8,o9]) σ) (Sd t G3 G') (λVz=>G' t=some (.dT Vz)) λVz=>qt G' Vz (zJ Qn.pq gh row ((qw Qn.pq gh A).take j) (wL Qn.pq A (S.take i) T))) λJ2 jk kj=>BJ (K:=K) (a:=l) (xs:=(tW Qn.pq L (Qn.pq.sh gh)).map V.ref) J2 (jk _ _ _ ⟨⟨_,_,_,Z⟩,.refl,kt,ht3,hT3⟩) (λj σ G' _ h=>bN.of ((Nd.sd (kj _ _ _ h).s ht3).lst hl)) ?_ ?_⟩
  ·intro j x σ G' hx h1;obtain⟨⟨o5,o8,o9,rfl⟩,Ť,Vz,VB,hT'⟩:=kj _ _ _ h1;rw[dU]at hx;obtain⟨b0,hb0,rfl⟩:=oF.mp hx;obtain⟨⟨bT,more⟩,hox,hob⟩:=bM pO hb0;have a6O:(bT,more)∈qw Qn.pq gh A:=jz hox;obtain⟨a0A,shE⟩:=lG.mp a6O;have shE:Qn.pq.sh bT=Qn.pq.sh gh:=gV shE;have n3':Nd G3 G':=.sd Ť ht3;have nHG:Nd H G':=YL.trans (nG3.trans n3');have hoG:um G' b0 bT:=hob.keep n3'.tups;have a1A:um G' a0 gh:=hone.keep ((pY.of t3).trans n3'.tups);have haG:G' an=some (.dT vq):=Ť _ _ (Ne.symm nta) (st3 _ _ (sG _ _ (Ne.symm nta) f0a));obtain⟨vm,em,hmore⟩:∃vm,ig vq (su bT)=some vm/\K5 H vm more:=by
    rcases Hf bT hA with⟨_,e2⟩|⟨v,r,e1,e2,h⟩
    ·rw[JG ndA a0A]at e2;cases e2
    ·rw[JG ndA a0A]at e2;cases e2;exact⟨v,e1,h⟩
   have a5p:=nHG.at Qn hD;obtain⟨ť,fs2,hd2,a6P,_⟩:=Qn.ins a5p;refine⟨_,Z,_,Z,an,vm,Z,by rw[<-em];exact Jl.t haG hoG.key,?_⟩;refine⟨_,Z,d,ť,fs2,Z,hd2,a6P _ (),_,Z,_,Z,d,a0,b0,m,gh,bT,Z,a5p,a1A,hoG,sy _ mem,okA _ a0A,m5,shE.symm,λr xs G4 s4 hr4 pm=>⟨r,Z,⟨_,bN.of hr4⟩,?_⟩⟩;have ht4:=s4 _ _ VB;have hT4:=hT'.keep (pY.of s4);have lpm:=aV pm;have a6Q:=lim i _ hsx j _ hox;have Ŧ:(qw Qn.pq gh A).take (j+1)=(qw Qn.pq gh A).take j++[(bT,more)]:=by rw[nA,hox];rfl
   refine opq (P:=λe σ G5=>P4 (T1 (λo9=>[some (.ref d),some (.ref t),some (.ref sc),some (.ref an),some (.ref pa),some (.ref b0),some (.ref a0),some kv.2,some vm,o9]) σ) (Sd t G4 G5) (λZb=>G5 t=some (.dT Zb)) λZb=>qt G5 Zb (zH Qn.pq.bt gh bT row more ((Qn.pq.jn gh bT).take e) (zJ Qn.pq gh row ((qw Qn.pq gh A).take j) (wL Qn.pq A (S.take i) T)))) λJ3 jm mj=>BJ (K:=K) (a:=r) (xs:=xs) J3 (jm _ _ _ ⟨⟨_,Z⟩,.refl,Vz,ht4,hT4⟩) (λe σ G5 _ h=>bN.of ((Nd.sd (mj _ _ _ h).s ht4).lst hr4)) ?_ ?_
   ·intro e x σ G5 hx h1;obtain⟨⟨o9,rfl⟩,sG5,kt5,a3k,hT5⟩:=mj _ _ _ h1;obtain⟨st',hmx,aa,rfl,haa⟩:=bM pm hx;have n4':Nd G4 G5:=.sd sG5 ht4;have a5q:Nd H G5:=nHG.trans ((Nd.of s4).trans n4');have a3l:Nd G' G5:=(Nd.of s4).trans n4';obtain⟨pr,qr,asr,VD,hpr,hqr,hsr⟩:=zG.keep ((pY.of t3).trans (n3'.tups.trans a3l.tups));obtain⟨pm',qm,asm,a1B,hpm,hqm,hsm⟩:=hmore.keep a5q.tups;rw[VD,a1B];refine⟨_,Z,_,Z,_,Z,_,Z,pr,_,_,.int row.m,Z,Z,cQ.of hpr,Z,_,Z,pm',_,_,.int more.m,Z,Z,cQ.of hpm,Z,_,_,Z,Z,⟨smS _ mem,smA _ a0A⟩,_,Z,pr,_,_,.int row.b,Z,Z,cQ.of hpr,Z,_,Z,pm',_,_,.int more.b,Z,Z,cQ.of hpm,Z,_,_,Z,Z,_,Z,_,Z,(),λq1 G6 m6=>⟨(),λq2 G7 m7=>?_⟩⟩;have s67:=m6.same.trans m7.same;refine⟨d,t,aa,.ref q2,kt5,_,st',⟨row.m*more.m,row.b+more.b,[gh,bT]⟩,Z,(a5q.trans (.of s67)).at Qn hD,s67 _ _ a3k,hT5.keep (.of s67),?_,haa.keep (n4'.tups.trans (.of s67)),⟨q2,q1,[a0,b0],Z,m7.here,m7.same _ _ m6.here,.cons (a1A.keep (a3l.tups.trans (.of s67))) (.cons (hoG.keep (a3l.tups.trans (.of s67))) .nil)⟩,λkt8 G8 s8 h8 hT8=>?_⟩
    ·exact a6Q e (eO (fL.mp hmx).1)
    ·refine jm _ _ _ ⟨⟨_,by rw[VD,a1B];rfl⟩,sG5.trans ((Sd.of s67).trans s8),kt8,h8,?_⟩;rw[nA,hmx];show qt G8 kt8 (zH Qn.pq.bt gh bT row more ((Qn.pq.jn gh bT).take e++[st']) _);rw[JD];exact hT8
   ·intro σ G5 h1;obtain⟨⟨o9,rfl⟩,sG5,kt5,a3k,hT5⟩:=mj _ _ _ h1;refine jk _ _ _ ⟨⟨_,_,_,Z⟩,Ť.trans ((Sd.of s4).trans sG5),kt5,a3k,?_⟩;rw[Ŧ,JF];rw[lpm,je]at hT5;exact hT5
  ·intro σ G' h1;obtain⟨⟨o5,o8,o9,rfl⟩,Ť,Vz,VB,hT'⟩:=kj _ _ _ h1;refine ji _ _ _ ⟨⟨_,_,_,_,_,Z⟩,sG.trans ((Sd.of st3).trans Ť),Vz,VB,?_⟩;rw[hTi,join_snoc];rw[aK,lO,je]at hT';exact hT'
 ·intro σ G h1;obtain⟨⟨o5,o6,o7,o8,o9,rfl⟩,sG,kt,hkt,Vy⟩:=ij _ _ _ h1;have gs:=sG _ _ (Ne.symm nts) f0s;refine⟨sc,o2,nJ,nJ,a0z,gs,?_⟩;refine q kt _ (λc u hc e=>?_) (by rw[aW nts];exact hkt) ?_
  ·by_cases z:c=sc
   ·rw[z]at e ⊢;rw[dD,<-e,hsc]
   ·rw[aW z];refine sG c u hc ?_;rw[f0r c z];exact s2 _ _ e
  ·rw[show S.take as2.length=S by rw[la2,lk2,je]]at Vy;exact Vy.keep (Nd.Pu gs)
end
abbrev oU:Stmt:=top 3
def ě:bD jU jU (aH oU):={}
def Ze{p q:Int->Bool}(h:∀v,0<=v->v<16->p v=q v):Qv p=Qv q:=by
 unfold Qv;refine List.filter_congr λv hv=>?_;grind
def gj(xs ys:List Int):List Int:=Qv λv=>decide (v∈xs\/v∈ys)
inductive a0B(K:aJ)(vs:List V)(H:Hp)(Q:VK)(u_3:XK):Prop
 |mk (a b:Addr) (xs ys:List Int) (_:vs=[.ref a,.ref b]) (_:bN K H a (xs.map V.int)) (_:bN K H b (ys.map V.int)) (_:Small xs) (_:Small ys) (_:∀H0 p H',aL H H0->iQ H0 p (.lst ((gj xs ys).map V.int)) H'->Q (.ref p) H')
section
variable{K:aJ}
def Rq(B:Bl mg)(ou:Dn K mg "joint" oU jU):bf P w K mg base fX 1 ou.f ou.fd jU (a0B K):=by
 refine ou.F.ok ě λdZ A outer s H vs Q E hr h=>?_;obtain⟨a,b,xs,ys,rfl,hA,hB,sA,sB,q⟩:=h;refine⟨_,(aD (bJ (bK (Pn (w:=w) Z Z) Z B.sorted () (J (aZ (a2Q (w:=w) Z) (jY (Mg (K:=K) (w:=w) Z Z Z) Z B.set () (J (pv 0) aj)) (jY (Mg (K:=K) (w:=w) Z Z Z) Z B.set () (J (pv 1) aj))) aj)))),⟨_,Z,a,xs,Z,hA,sA,λp1 L1 H1 n1 m1=>⟨_,Z,b,ys,Z,n1.same.seq hB,sB,λp2 L2 H2 n2 m2=>⟨p1,p2,L1,L2,Z,Z,n2.ne n1.here,n2.same _ _ n1.here,n2.here,λp3 L H3 n3 m3=>⟨p3,false,L,Z,n3.here,λp4 H4 n4=>?_⟩⟩⟩⟩⟩;have e:(Qv λv=>decide (v.toNat∈L))=gj xs ys:=Ze λv h0 h1=>by
  have ev:((v.toNat:Nat):Int)=v:=()
  rw[N7,m3 v.toNat,m1 v.toNat,m2 v.toNat,ev]
 rw[e]at n4;exact q H3 p4 H4 (n1.same.trans (n2.same.trans n3.same)) n4
end
abbrev nO:Stmt:=top 23
def oh:bD ["steps","question","tops","feeds","told","step","bag","used","table"] Ju (aH nO):={}
section
variable{K:aJ}{κ:Type} [DecidableEq κ]
noncomputable def K9(pq:PQ κ)(aR:List (List Int))(iV:List cI)(jZ:bU)(bh:List Int)(used:List Nat):cI:=match used with
 | []=>[(pq.leaf,⟨1,0,[]⟩)]
 | [i]=>nH pq jZ (gj bh (aR.getD i [])) (iV.getD i []) []
 |i::j::_=>wL pq (iV.getD j []) (iV.getD i []) []
def La(pq:PQ κ)(ss:List bU)(aR:List (List Int))(dJ:List (List Nat)):Nat->List cI
 |0=>[]
 |k+1=>La pq ss aR dJ k++[K9 pq aR (La pq ss aR dJ k) (ss.getD k .leaf) (aR.getD k []) (dJ.getD k [])]
theorem mX(pq:PQ κ)(ss:List bU)(aR:List (List Int))(dJ:List (List Nat)):∀k,(La pq ss aR dJ k).length=k
 |0=>rfl
 |k+1=>by
  show(_++[_]).length=_
  rw[cB,mX pq ss aR dJ k]
  rfl
def Aq(Qn:Hg P w K mg base κ)(aR:List (List Int))(iV:List cI)(jZ:bU)(bh:List Int)(used:List Nat):Prop:=match used with
 | []=>True
 | [i]=>jZ≠.join/\i<iV.length/\(∀x∈iV.getD i [],Qn.pq.Ok (aR.getD i []).length x.1)/\Hi Qn jZ (gj bh (aR.getD i [])) (aR.getD i []).length/\(iV.getD i []).length<=4000/\a3g Qn.pq jZ (gj bh (aR.getD i [])) (iV.getD i []) []
 | [i,j]=>jZ=.join/\i<iV.length/\j<iV.length/\i≠j/\∃m≤5,(∀x∈iV.getD i [],Qn.pq.Ok m x.1)/\(∀x∈iV.getD j [],Qn.pq.Ok m x.1)/\((iV.getD j []).map (·.1)).Nodup/\(iV.getD i []).length<=4000/\(iV.getD j []).length<=900/\JH (iV.getD i [])/\JH (iV.getD j [])/\a3j Qn.pq (iV.getD j []) (iV.getD i []) []
 |_=>False
def Ĝ(H:Hp)(p:Addr)(T:cI):Prop:=∃O,H p=some (.dT O)/\qt H O T
inductive a3m(Qn:Hg P w K mg base κ)(vs:List V)(H:Hp)(Q:VK)(u_3:XK):Prop
 |mk (d a pt pf:Addr) (xs vt:List V) (fs:List Addr) (ss:List bU) (aR:List (List Int)) (dJ:List (List Nat)) (_:vs=[.ref a,.ref d,.ref pt,.ref pf]) (_:Qn.At H d) (_:bN K H a xs) (_:Paired (uT K H) xs ss) (_:bN K H pt vt) (_:Paired (λv b=>∃p,v=.ref p/\bN K H p (b.map V.int)) vt aR) (_:bN K H pf (fs.map V.ref)) (_:Paired (λf us=>H f=some (.lst (us.map λj:Nat=>V.int (j:Int)))) fs dJ) (_:ss.length<=900) (_:aR.length=ss.length) (_:dJ.length=ss.length) (_:(∀b∈aR,Small b)) (_:(∀k,k<ss.length->Aq Qn aR (La Qn.pq ss aR dJ k) (ss.getD k .leaf) (aR.getD k []) (dJ.getD k []))) (_:∀pl ps H',aL H H'->H pl=none->H' pl=some (.lst (ps.map V.ref))->Paired (Ĝ H') ps (La Qn.pq ss aR dJ ss.length)->ps.Nodup->(∀p∈ps,H p=none)->Q (.ref pl) H')
def Zf{α:Type}{ps:List α}{i j:Nat}{p:α}(nd:ps.Nodup)(h:ps[i]?=some p)(h':ps[j]?=some p):i=j:=by
 have h1:=fL.mp h;have h2:=fL.mp h';have pw:=Z8.mp nd;rcases Nat.lt_trichotomy i j with c|c|c
 ·exact absurd (h1.2.trans h2.2.symm) (pw i j h1.1 h2.1 c)
 ·exact c
 ·exact absurd (h2.2.trans h1.2.symm) (pw j i h2.1 h1.1 c)
def Zg:∀{s:bU},s.word=(Str.ofString "join")->s=.join
 |.leaf,h=>absurd (show Str.ofString "leaf" = Str.ofString "join" from h) ()
 |.inn _,h=>absurd (show Str.ofString "in" = Str.ofString "join" from h) ()
 |.tie _ _,h=>absurd (show Str.ofString "tie" = Str.ofString "join" from h) ()
 |.out _,h=>absurd (show Str.ofString "out" = Str.ofString "join" from h) ()
 |.join,_=>rfl
inductive ĝ(a d pt pf pl:Addr)(H:Hp)(L:List cI)(σ:St)(G:Hp):Prop
 |mk (e:T4 (λo5 o6 o7 o8=>[some (.ref a),some (.ref d),some (.ref pt),some (.ref pf),some (.ref pl),o5,o6,o7,o8]) σ) (s:aL H G) (ps:List Addr) (_:G pl=some (.lst (ps.map V.ref))) (_:Paired (Ĝ G) ps L) (_:ps.Nodup) (_:∀p∈ps,H p=none)
def ĝ.s{a d pt pf pl:Addr}{H:Hp}{L:List cI}{σ:St}{G:Hp}(h:ĝ a d pt pf pl H L σ G):aL H G:=by cases h;assumption
def Et{P:St->Hp->Prop}{R:Prop}(h:∀Z97:St->Hp->Prop,(∀σ H,P σ H->Z97 σ H)->(∀σ H,Z97 σ H->P σ H)->R):R:=h P (λ_ _ z=>z) (λ_ _ z=>z)
def Rr(B:Bl mg)(Bz:mg "zip" = none)(Qn:Hg P w K mg base κ)(ou:Dn K mg "joint" oU jU)(vp:Dn K mg "states_behind" fZ FJ)(qu:Dn K mg "note" uR Cu)(wO:Dn K mg "fill_along" jP Js)(wB:Dn K mg "fill_joined" iC Jt)(xY:Dn K mg "going_up" nO Ju):bf P w K mg base fX 11 xY.f xY.fd Ju (a3m Qn):=by
 have a6R:bf P w K mg base fX 10 _ _ _ _:=K8 Qn vp qu wO;have a6S:bf P w K mg base fX 10 _ _ _ _:=JK Qn qu wB;have a3n:bf P w K mg base fX 10 _ _ _ _:=(Rq B ou).mono ();refine xY.F.ok oh λdZ A outer s H vs Q E hr h=>?_;obtain⟨d,a,pt,pf,xs,vt,fs,ss,aR,dJ,rfl,hD,hA,pA,hP,pP,hF,pF,l9,lt,lf,smT,ok,q⟩:=h;have hw1:(A.deeper (PyProof.Rows.envOfC "going_up" (aH nO) s⁻¹ xY.f dZ)).units+1<cLine:=by have:=hr.un;omega
 refine⟨_,(aF (bx 4 oh.nd (cG aj))
   (aF (jD jf Z (a0q (K:=K) Z Z Bz (J (pv 0) (J (pv 2) (J (pv 3) aj)))) (jO (K:=K) (n:=3) Z Z (b8 (aO 5 oh.nd) (b8 (aO 6 oh.nd) (b8 (aO 7 oh.nd) jw))))
   (aF (bx 8 oh.nd Jm)
   (lW (dF (tM (fW (K:=K) Z (pv 7) λ_=>rfl))
   (aD (xQ (bB (J aA (J aA (J (bB aj) aj)))) (Ot (pv 8) (yZ (K:=K) Z (pv 1) Z) (El hw1))))
   (aD (dF (aN jE (aQ (aP (K:=K) Z) (pv 5) aA) gw)
   (aD (gA (bw a6S hr Z wB.m wB.F.kp wB.b .nil cA (J (pv 1) (J (pv 8) (J (aQ (bI (K:=K) Z) (pv 4) (aQ (bI (K:=K) Z) (pv 7) aA)) (J (aQ (bI (K:=K) Z) (pv 4) (aQ (bI (K:=K) Z) (pv 7) aA)) aj)))))))
   (aD (gA (bw a6R hr Z wO.m wO.F.kp wO.b .nil cA (J (pv 1) (J (pv 8) (J (aQ (bI (K:=K) Z) (pv 4) (aQ (bI (K:=K) Z) (pv 7) aA)) (J (pv 5) (J (bw a3n hr Z ou.m ou.F.kp ou.b .nil cA (J (pv 6) (J (aQ (bI (K:=K) Z) (pv 2) (aQ (bI (K:=K) Z) (pv 7) aA)) aj))) aj)))))))))))
   (aD (gA (mL (K:=K) Z j7 PySem.F.slot_list_append PySem.F.type_list_append iI (pv 4) (J (pv 8) aj)))))))
   (aD (bJ (pv 4))))),?_⟩
 refine⟨(),λpl H1 n1=>?_⟩;have s1:=n1.same;refine⟨_,Z,_,Z,_,Z,a,pt,pf,Z,⟨_,s1.seq hA⟩,⟨_,s1.seq hP⟩,⟨_,s1.seq hF⟩,?_⟩;have lx:xs.length=ss.length:=aV pA;have lv:vt.length=ss.length:=(aV pP).trans lt;have lfs:(fs.map V.ref).length=ss.length:=by rw[aK];exact(aV pF).trans lf
 refine opq (P:=λk σ G=>ĝ a d pt pf pl H (La Qn.pq ss aR dJ k) σ G) λZ97 ji ij=>?_;refine Ď (K:=K) (xs:=xs) (ys:=vt) (zs:=fs.map V.ref) (lx.trans lv.symm) (lx.trans lfs.symm) Z97 (ji _ _ _ ⟨⟨_,_,_,_,Z⟩,s1,[],n1.here,.nil,Ad,λ_ h=>absurd h dO⟩) (λk σ G _ h=>have s:=(ij _ _ _ h).s;⟨s.seq hA,s.seq hP,s.seq hF⟩) ?_ ?_
 ·intro k x y z σ G p G1 hx hy hz hJ nw;obtain⟨⟨o5,o6,o7,o8,rfl⟩,sG,ps,hpl,pT,nd,fr⟩:=ij _ _ _ hJ;obtain⟨jZ,a5r,Xu,rfl,hst⟩:=bM pA hx;obtain⟨bh,a5s,pbg,rfl,hbg⟩:=bM pP hy;rw[dU]at hz;obtain⟨f,hf,rfl⟩:=oF.mp hz;obtain⟨used,a5t,hfu⟩:=bM pF hf;have kl:k<ss.length:=(fL.mp a5r).1;have okk:=ok k kl;have eS:ss.getD k .leaf=jZ:=by rw[fM,a5r];rfl
  have eT:aR.getD k []=bh:=by rw[fM,a5s];rfl
  have eF:dJ.getD k []=used:=by rw[fM,a5t];rfl
  have go:La Qn.pq ss aR dJ (k+1)=La Qn.pq ss aR dJ k++[K9 Qn.pq aR (La Qn.pq ss aR dJ k) jZ bh used]:=by
   show _++[_]=_;rw[eS,eT,eF]
  rw[eS,eT,eF]at okk;have lps:ps.length=k:=(aV pT).trans (mX _ _ _ _ k);have ŧ:aL H G1:=sG.trans nw.same;refine⟨p,_,Z,cQ.of nw.here,Z,_,_,Z,_,_,Z,_,_,Z,Z,λt ht0=>?_⟩;have n2:=iQ.pQ (o:=.dT []) ht0;generalize cN G1 t (.dT [])=G2 at n2 ⊢;have sG2:aL H G2:=ŧ.trans n2.same;have g12:aL G G2:=nw.same.trans n2.same;have Ğ:=g12 _ _ hpl;have pT2:Paired (Ĝ G2) ps (La Qn.pq ss aR dJ k):=Paired.cC pT λ_ _ ⟨kv,h1,h2⟩=>⟨kv,g12 _ _ h1,h2.keep (.of g12)⟩;have hD2:Qn.At G2 d:=(Nd.of sG2).at Qn hD;have Ht:H t=none:=by
   cases e:H t with
   |none=>rfl
   |some u=>rw[ŧ _ _ e]at ht0;cases ht0
  have ntp:∀p∈ps,p≠t:=λp' hp' z=>by
   obtain⟨i,hi,e⟩:=rN hp';obtain⟨T',_,kv,h1,_⟩:=bM pT (fL.mpr ⟨hi,e⟩);have:=nw.same _ _ h1;rw[z,ht0]at this;cases this
  have npl:pl≠t:=λz=>by have:=nw.same _ _ hpl;rw[z,ht0]at this;cases this
  have atT:∀i,i<k->∃pi kv,ps[i]?=some pi/\G2 pi=some (.dT kv)/\qt G2 kv ((La Qn.pq ss aR dJ k).getD i [])/\pi≠t:=λi hi=>by
   have hi':i<ps.length:=()
   obtain⟨T',hT',kv,h1,h2⟩:=bM pT2 (bF hi');refine⟨ps[i],kv,bF hi',h1,?_,ntp _ (mJ hi')⟩;rw[fM,hT'];exact h2
  have ixT:∀(i:Nat) (pi:Addr),ps[i]?=some pi->R6 (ps.map V.ref) (i:Int)=some (.ref pi):=λi pi h=>by
   have hi:=(fL.mp h).1;exact cu (by rw[dU,h];rfl)
  refine Et (P:=λσ' G'=>σ'=[some (.ref a),some (.ref d),some (.ref pt),some (.ref pf),some (.ref pl),some (.ref Xu),some (.ref pbg),some (.ref f),some (.ref t)]/\Sd t G2 G'/\∃kt,G' t=some (.dT kt)/\qt G' kt (K9 Qn.pq aR (La Qn.pq ss aR dJ k) jZ bh used)) λJ2 ji2 ij2=>⟨J2,?_,?_⟩
  ·have hf2:=sG2 _ _ hfu;rcases used with _|⟨i,_|⟨j,_|⟨e,rest⟩⟩⟩
   ·refine⟨_,Z,false,.inl ⟨_,bN.of hf2,Z⟩,gZ ?_⟩;obtain⟨dx',fs',hd,_,⟨al,hal,hlf⟩,_⟩:=Qn.ins hD2;refine⟨(),λp3 G3 m3=>⟨(),λp4 G4 m4=>?_⟩⟩;have ZR:=m3.same.trans m4.same;refine⟨_,Z,_,Z,d,_,dx',fs',_,Z,ZR _ _ hd,Qn.cl,Qn.iw,hal,t,al,su Qn.pq.leaf,[],Z,Z,(hlf.keep (.of ZR)).key,ZR _ _ n2.here,(),λG5 c5=>?_⟩;have nd5:pY G4 G5:=λc' ys hc=>by
     rw[c5.rest c' (λz=>by rw[z,ZR _ _ n2.here]at hc;cases hc)];exact hc
    exact ji2 _ _ ⟨Z,(Sd.of ZR).trans (.Đ c5),_,c5.here,.cons ⟨Z,p4,p3,[],Z,nd5 _ _ m4.here,nd5 _ _ (m4.same _ _ m3.here),.nil⟩ .nil⟩
   ·obtain⟨nj,il,sy,fit,lS,lim⟩:=okk;rw[mX]at il;obtain⟨pi,kv,hpi,hgi,hTi,nti⟩:=atT i il;refine⟨_,Z,true,.inl ⟨_,bN.of hf2,Z⟩,cY ?_⟩;refine⟨_,Z,Xu,jZ.vs,0,.str jZ.word,Z,Z,sG2.wj hst,by cases jZ<;>rfl,Z,_,Z,?_⟩;rw[cJ (show ¬V.str jZ.word=V.str (Str.ofString "join")from λz=>nj (Zg (V.str.inj z)))];refine cY ⟨_,Z,_,Z,_,Z,_,Z,f,_,_,_,Z,Z,bN.of hf2,Z,pl,_,_,_,Z,Z,bN.of Ğ,ixT i pi hpi,_,Z,_,Z,_,Z,_,Z,f,_,_,_,Z,Z,bN.of hf2,Z,?_⟩;have it:i<aR.length:=()
    obtain⟨vb,hvb,pbi,rfl,hbi⟩:∃vb,vt[i]?=some vb/\∃q,vb=.ref q/\bN K H q ((aR.getD i []).map V.int):=by
     have hi':i<vt.length:=()
     obtain⟨b',hb',q',e',h'⟩:=bM pP (bF hi');refine⟨_,bF hi',q',e',?_⟩;rw[fM,hb'];exact h'
    refine⟨pt,vt,_,_,Z,Z,sG2.seq hP,cu hvb,pbg,pbi,bh,aR.getD i [],Z,sG2.seq hbg,sG2.seq hbi,smT _ (jz a5s),smT _ (by rw[fM,bF it];exact mJ it),λG3 pj G4 s3 n4=>?_⟩;have ğ:=s3.trans n4.same;refine⟨d,t,pi,Xu,pj,[],kv,[],_,jZ,gj bh (aR.getD i []),(aR.getD i []).length,Z,(Nd.of ğ).at Qn hD2,ğ _ _ n2.here,.nil,ğ _ _ hgi,hTi.keep (.of ğ),Ne.symm nti,sy,(sG2.trans ğ).wj hst,n4.here,fit,lS,lim,λkt G5 s5 h5 hT5=>ji2 _ _ ⟨Z,(Sd.of ğ).trans s5,kt,h5,hT5⟩⟩
   ·obtain⟨ej,il,jl,nij,m,m5,sy,okA,ndA,lS,lA,smS,smA,lim⟩:=okk;rw[mX]at il jl;obtain⟨pi,kv,hpi,hgi,hTi,nti⟩:=atT i il;obtain⟨pj,kvj,hpj,hgj,Ŧ,ntj⟩:=atT j jl;have npp:pi≠pj:=λz=>nij (Zf nd hpi (by rw[z];exact hpj));refine⟨_,Z,true,.inl ⟨_,bN.of hf2,Z⟩,cY ?_⟩;subst ej;refine⟨_,Z,Xu,bU.join.vs,0,.str (Str.ofString "join"),Z,Z,sG2.wj hst,Z,Z,_,Z,?_⟩;rw[bA (show V.str (Str.ofString "join")=V.str (Str.ofString "join")from Z)];exact gZ ⟨_,Z,_,Z,_,Z,_,Z,f,_,_,_,Z,Z,bN.of hf2,Z,pl,_,_,_,Z,Z,bN.of Ğ,ixT i pi hpi,_,Z,_,Z,f,_,_,_,Z,Z,bN.of hf2,Z,pl,_,_,_,Z,Z,bN.of Ğ,ixT j pj hpj,⟨d,t,pi,pj,[],kv,kvj,[],_,_,m,Z,hD2,n2.here,.nil,hgi,hTi,hgj,Ŧ,Ne.symm nti,Ne.symm ntj,npp,sy,okA,m5,ndA,lS,lA,smS,smA,lim,λkt G5 s5 h5 hT5=>ji2 _ _ ⟨Z,s5,kt,h5,hT5⟩⟩⟩
   ·exact okk.elim
  ·intro σ' G3 h2;obtain⟨rfl,s3,kt,hkt,hTn⟩:=ij2 _ _ h2;have a3o:=s3 _ _ npl Ğ;have tu3:pY G2 G3:=s3.tups n2.here;refine⟨_,Z,.inl ⟨Z,_,bN.of a3o⟩,_,Z,pl,_,_,Z,Z,a3o,by rw[aK,lps];omega,λG4 c4=>?_⟩;have s4:∀c u,c≠pl->G3 c=some u->G4 c=some u:=λc u hc e=>by rw[c4.rest c hc];exact e
   have tu4:pY G3 G4:=λc ys e=>s4 c _ (λz=>by rw[z,a3o]at e;cases e) e;have nlp:∀p∈ps,p≠pl:=λp' hp' z=>by
    obtain⟨i,hi,e⟩:=rN hp';obtain⟨T',_,kv,h1,_⟩:=bM pT2 (fL.mpr ⟨hi,e⟩);rw[z,Ğ]at h1;cases h1
   refine ji _ _ _ ⟨⟨_,_,_,_,Z⟩,λc u e=>?_,ps++[t],by rw[c4.here,dW];rfl,?_,?_,?_⟩
   ·have ncl:c≠pl:=λz=>by rw[z,n1.fresh]at e;cases e
    have nct:c≠t:=λz=>by rw[z,Ht]at e;cases e
    exact s4 c u ncl (s3 c u nct (sG2 _ _ e))
   ·rw[go];have a5u:∀{as:List Addr}{Ts:List cI},Paired (Ĝ G2) as Ts->(∀p∈as,p≠t/\p≠pl)->Paired (Ĝ G4) as Ts:=λ{as Ts} h=>by
     induction h with
     |nil=>intro _;exact .nil
     | @cons p T _ _ h1 _ ih =>
      intro hh;obtain⟨kv,e1,e2⟩:=h1;have hn:=hh p (aU ..);exact .cons ⟨kv,s4 _ _ hn.2 (s3 _ _ hn.1 e1),e2.keep (tu3.trans tu4)⟩ (ih λp' hp'=>hh p' (bC _ hp'))
    exact dH (a5u pT2 λp' hp'=>⟨ntp p' hp',nlp p' hp'⟩) ⟨kt,s4 _ _ (Ne.symm npl) hkt,hTn.keep tu4⟩
   ·exact vL.mpr ⟨nd,zT _ _,λx hx y hy e=>ntp x hx (by rw[e,bG.mp hy])⟩
   ·intro p' hp';rcases cH.mp hp' with h|h
    ·exact fr p' h
    ·rw[bG.mp h];exact Ht
 ·intro σ G hJ;obtain⟨⟨o5,o6,o7,o8,rfl⟩,sG,ps,hpl,pT,nd,fr⟩:=ij _ _ _ hJ;rw[lx]at pT;exact⟨_,Z,q pl ps G sG n1.fresh hpl pT nd fr⟩
end
abbrev Ar:Stmt:=top 1
def Rt:bD ["thing"] ["thing"] (aH Ar):={}
abbrev fP:Stmt:=top 2
def Ru:bD tV tV (aH fP):={}
inductive a0C(K:aJ)(vs:List V)(H:Hp)(Q:VK)(u_3:XK):Prop
 |mk (x:V) (t:Value) (bi bb:Bool) (_:vs=[x]) (_:tR K H x t) (_:PySem.W.kitOne K t (.type "int")=some bi) (_:PySem.W.kitOne K t (.type "bool")=some bb) (_:Q (.bl (bi && !bb)) H)
inductive a0D(vs:List V)(H:Hp)(Q:VK)(u_3:XK):Prop
 |mk (n:Int) (o:Option Int) (_:vs=[.int n,upV o]) (_:Q (.bl (oN n o)) H)
section
variable{K:aJ}
abbrev Eu(K:PySem.W.Frag)(mg:Str->Option Value):=Dn K mg "is_whole" Ar ["thing"]
def Rv(B:Bl mg)(jV:Eu K mg):bf P w K mg base fX 1 jV.f jV.fd ["thing"] (a0C K):=by
 refine jV.F.ok Rt λdZ A outer s H vs Q E hr h=>?_;obtain⟨x,t,bi,bb,rfl,ty,h1,h2,q⟩:=h;refine⟨_,(aD (bJ (Æ (bK (iZ (K:=K) Z) Z B.isinstance () (J (pv 0) (J (uw (v:=.ty "int") (u:=.type "int") Z B.int () Z) aj))) (Å (a1U (bK (iZ (K:=K) Z) Z B.isinstance () (J (pv 0) (J (uw (v:=.ty "bool") (u:=.type "bool") Z B.bool () Z) aj)))))))),⟨_,Z,_,_,_,_,_,Z,Z,ty,h1,_,Z,?_⟩⟩;cases bi with
 |true =>
  exact gZ ⟨_,Z,_,_,_,_,_,Z,Z,ty,h2,_,Z,q⟩
 |false=>exact cY q
def xZ(B:Bl mg)(jV:Eu K mg)(jr:Dn K mg "is_below" fP tV):bf P w K mg base fX 2 jr.f jr.fd tV a0D:=by
 have a6T:bf P w K mg base fX 1 _ _ _ _:=Rv B jV;refine jr.F.ok Ru λdZ A outer s H vs Q E hr h=>?_;obtain⟨n,o,rfl,q⟩:=h;refine⟨_,(aD (bJ (Æ (bw a6T hr Z jV.m jV.F.kp jV.b .nil cA (J (pv 1) aj)) (Å (Î a4r IK aA (pv 1) (pv 0)))))),?_⟩;cases o with
 |none=>exact⟨_,Z,_,_,_,_,Z,tR.non,QL,O3,_,Z,cY q⟩
 |some i =>
  refine⟨_,Z,_,_,_,_,Z,tR.int i,Fq,Ca,_,Z,gZ ⟨_,Z,_,_,Z,Z,_,Z,uO (λc=>?_) λc=>?_⟩⟩
  ·have c':0<=i:=gV c;refine⟨_,Z,_,_,Z,Z,?_⟩;have e:oN n (some i)=decide (i<n):=by unfold oN;simp[c']
   rw[e]at q;exact q
  ·have c':¬0<=i:=Tp (xr.mpr c);have e:oN n (some i)=false:=by unfold oN;simp[c']
   grind
end
def mV(xs ys:List Int):List Int:=xs.filter λv=>!decide (v∈ys)
abbrev rT:Stmt:=top 4
def Xv:bD jU jU (aH rT):={}
inductive a0E(K:aJ)(vs:List V)(H:Hp)(Q:VK)(u_3:XK):Prop
 |mk (a b:Addr) (xs ys:List Int) (_:vs=[.ref a,.ref b]) (_:cQ K H a (xs.map V.int)) (_:bN K H b (ys.map V.int)) (_:xs.length<=1000) (_:∀H0 p H',aL H H0->iQ H0 p (.lst ((mV xs ys).map V.int)) H'->Q (.ref p) H')
section
variable{K:aJ}
def Ġ(B:Bl mg)(mO:Dn K mg "less" rT jU):bf P w K mg base fX 1 mO.f mO.fd jU (a0E K):=by
 refine mO.F.ok Xv λdZ A outer s H vs Q E hr h=>?_;obtain⟨a,b,xs,ys,rfl,hA,hB,hz,q⟩:=h;have hv:(A.deeper (PyProof.Rows.envOfC "less" (aH rT) s⁻¹ mO.f dZ)).units+65<cLine:=by have:=hr.un;omega
 refine⟨_,(aD (bJ (kJ ["v","other"] [none,some 1]  (by kernel_rfl) Z (Cd (K:=K) Z (pv 0)) (λ_ _ _ _ _=>(aO 0 (show(["v","other"]:List Str).Nodup by decide))) (λ_ _ _ _ _=>(v5 (aN (jN (K:=K) Z hv) (pv 0) (pv 1) (by with_unfolding_all rfl)))) λ_ _ _ _ _=>(pv 0)))),⟨_,Z,a,Z,⟨_,hA⟩,?_⟩⟩;refine a0e (λx=>match x with |.int v=>if !decide (v∈ys)then some (.int v)else none|_=>none) hA (by rw[aK];exact hz) (λx H1 N hx sm hN=>?_) (λH1 p H1' sm hp=>?_)
 ·obtain⟨v,hv,rfl⟩:=fH.mp hx;have hN':=hN H1 sm;refine⟨_,Z,_,Z,yS (sm.seq hB) ⟨_,Z,?_⟩⟩;dsimp only at hN';cases c:decide (v∈ys)with
  |true=>rw[c]at hN';exact cY hN'
  |false=>rw[c]at hN';exact gZ ⟨_,Z,hN'⟩
 ·have e:(xs.map V.int).filterMap (λx=>match x with |.int v=>if !decide (v∈ys)then some (V.int v)else none|_=>none)=(mV xs ys).map V.int:=Ed λv _=>rfl;rw[e]at hp;exact q _ _ _ sm hp
end
inductive a0F(K:aJ)(vs:List V)(H:Hp)(Q:VK)(u_3:XK):Prop
 |mk (a b:Addr) (xs ys:List Int) (_:vs=[.ref a,.ref b]) (_:bN K H a (xs.map V.int)) (_:cQ K H b (ys.map V.int)) (_:xs.length<=1000) (_:∀H0 p H',aL H H0->iQ H0 p (.lst ((mV xs ys).map V.int)) H'->Q (.ref p) H')
theorem Rx(v:Int):∀ys:List Int,inV (.int v) (ys.map V.int)=decide (v∈ys)
 | []=>rfl
 |y::r=>by
  have ih:=Rx v r
  unfold inV at ih ⊢
  rw[cL,tH,ih,tE,Bool.or_eq_true,d7,d7,bZ]
  have:Ö (V.int y) (V.int v)=decide (y=v):=rfl
  rw[this,d7]
  exact or_congr_left eq_comm
def Zh(ys:List Int):(ys.map V.int).all BP=true:=DN.mpr λx hx=>by
 obtain⟨y,_,rfl⟩:=fH.mp hx;rfl
section
variable{K:aJ}
def ġ(B:Bl mg)(mO:Dn K mg "less" rT jU):bf P w K mg base fX 1 mO.f mO.fd jU (a0F K):=by
 refine mO.F.ok Xv λdZ A outer s H vs Q E hr h=>?_;obtain⟨a,b,xs,ys,rfl,hA,hB,hz,q⟩:=h;refine⟨_,(aD (bJ (kJ ["v","other"] [none,some 1]  (by kernel_rfl) Z (gk (K:=K) Z (pv 0)) (λ_ _ _ _ _=>(aO 0 (show(["v","other"]:List Str).Nodup by decide))) (λ_ _ _ _ _=>(v5 (aN (U7 (K:=K) Z) (pv 0) (pv 1) (by with_unfolding_all rfl)))) λ_ _ _ _ _=>(pv 0)))),⟨_,Z,a,Z,⟨_,hA⟩,?_⟩⟩;refine O5 (λx=>match x with |.int v=>if !decide (v∈ys)then some (.int v)else none|_=>none) hA (by rw[aK];exact hz) (λx H1 N hx sm hN=>?_) (λH1 p H1' sm hp=>?_)
 ·obtain⟨v,hv,rfl⟩:=fH.mp hx;have hN':=hN H1 sm;refine⟨_,Z,_,Z,b,_,Z,.inr (sm.wj hB),Z,Zh _,_,Z,?_⟩;rw[aG Z,Rx];dsimp only at hN';cases c:decide (v∈ys)with
  |true=>rw[c]at hN';exact cY hN'
  |false=>rw[c]at hN';exact gZ ⟨_,Z,hN'⟩
 ·have e:(xs.map V.int).filterMap (λx=>match x with |.int v=>if !decide (v∈ys)then some (V.int v)else none|_=>none)=(mV xs ys).map V.int:=Ed λv _=>rfl;rw[e]at hp;exact q _ _ _ sm hp
end
def bf.either{K:aJ}{CX:R5}{k:Nat}{f:Addr}{fd:FuncData}{ps:List Str}{sp sp':Sp}(F:bf P w K mg base CX k f fd ps sp)(G:bf P w K mg base CX k f fd ps sp'):bf P w K mg base CX k f fd ps (λvs H Q E=>sp vs H Q E\/sp' vs H Q E) :=
 ⟨λvs H Q E h=>h.elim (F.len vs H Q E) (G.len vs H Q E),λA outer s H args us vs Q E hr he hb hv hs=>hs.elim (F.run A outer s H args us vs Q E hr he hb hv) (G.run A outer s H args us vs Q E hr he hb hv)⟩
def Xw(s t:Int×Int):PyData.eqv (xV s) (xV t)=decide (s=t):=by
 unfold xV;rw[PyData.eqv];have e:=PySem.W.ked_eqvAll [s.1,s.2] [t.1,t.2];grind
def a0G(ts:List bY)(t:Int×Int):(ts.map xV).any (λe=>PyData.eqv e (xV t))=decide (t∈ts):=by
 rw[List.any_map];rw[tE,List.any_eq_true,d7];constructor
 ·rintro⟨s,hs,e⟩;have:PyData.eqv (xV s) (xV t)=true:=e;rw[Xw]at this;grind
 ·intro h;exact⟨t,h,by show PyData.eqv (xV t) (xV t)=true;rw[Xw];simp⟩
def VG(t:Int×Int):SeqAt.shaped (xV t)=true:=by
 unfold SeqAt.shaped;rw[WQ,Ik];exact bA (by have:=Ma t;omega)
abbrev fQ:Stmt:=top 15
def qH:bD ["graph","done","step","used","kind","bag","v"] Cv (aH fQ):={}
noncomputable def pZ(n:Nat)(ts:List bY)(done:List bU)(s:bU)(used:List (List Int)):Option (List Int) :=
 match s with
 |.leaf=>some []
 |.inn v=>if(0<=v/\v<(n:Int))/\v∉used.getD 0 []/\bU.out v∉done then some (gj (used.getD 0 []) [v])else none
 |.tie a b=>if(a,b)∈ts/\mV [a,b] (used.getD 0 [])=[]/\bU.tie a b∉done then some (used.getD 0 [])else none
 |.out v=>if v∈used.getD 0 []/\bU.out v∉done then some (mV (used.getD 0 []) [v])else none
 |.join=>if used.getD 0 []=used.getD 1 []then some (used.getD 0 [])else none
def a6U(K:aJ)(H:Hp)(ux:List V)(H':Hp)(v:V):Option (List Int)->Prop
 |none=>v=.non
 |some b=>∃p,v=.ref p/\bN K H' p (b.map V.int)/\(H p=none\/V.ref p∈ux)
def Xx{ux:List V}{k:Nat}{v:V}(h:R6 ux (k:Int)=some v):v∈ux:=by
 obtain⟨j,_,e,_⟩:=Ox h;exact jz e
inductive a3p(K:aJ)(vs:List V)(H:Hp)(Q:VK)(u_3:XK):Prop
 |mk (g:V) (n:Nat) (ts:List bY) (dn st us:Addr) (ds ux:List V) (done:List bU) (s:bU) (used:List (List Int)) (_:vs=[g,.ref dn,.ref st,.ref us]) (_:uQ K H g n ts) (_:n<=10) (_:bN K H dn ds) (_:Paired (uT K H) ds done) (_:cQ K H st s.vs) (_:bN K H us ux) (_:Paired (Vl K H) ux used) (_:s.need<=used.length) (_:(∀b∈used,Small b/\b.length<=1000)) (_:∀r H',aL H H'->a6U K H ux H' r (pZ n ts done s used)->Q r H')
def qI{i j:Nat}(hi:i<5)(hj:j<5)(h:i≠j):decide (V.str (FT i)=V.str (FT j))=false:=cJ λe=>by
 have e':FT i=FT j:=by injection e
 have:=Jz i hi j hj;grind
def w10:decide (V.str (Str.ofString "in")=V.str (Str.ofString "leaf"))=false:=qI (i:=1) (j:=0) () () ()
def w20:decide (V.str (Str.ofString "tie")=V.str (Str.ofString "leaf"))=false:=qI (i:=2) (j:=0) () () ()
def w21:decide (V.str (Str.ofString "tie")=V.str (Str.ofString "in"))=false:=qI (i:=2) (j:=1) () () ()
def w30:decide (V.str (Str.ofString "out")=V.str (Str.ofString "leaf"))=false:=qI (i:=3) (j:=0) () () ()
def w31:decide (V.str (Str.ofString "out")=V.str (Str.ofString "in"))=false:=qI (i:=3) (j:=1) () () ()
def w32:decide (V.str (Str.ofString "out")=V.str (Str.ofString "tie"))=false:=qI (i:=3) (j:=2) () () ()
def w40:decide (V.str (Str.ofString "join")=V.str (Str.ofString "leaf"))=false:=qI (i:=4) (j:=0) () () ()
def w41:decide (V.str (Str.ofString "join")=V.str (Str.ofString "in"))=false:=qI (i:=4) (j:=1) () () ()
def w42:decide (V.str (Str.ofString "join")=V.str (Str.ofString "tie"))=false:=qI (i:=4) (j:=2) () () ()
def w43:decide (V.str (Str.ofString "join")=V.str (Str.ofString "out"))=false:=qI (i:=4) (j:=3) () () ()
def Ry{K:aJ}{H:Hp}{ux:List V}{used:List (List Int)}{k:Nat}(p:Paired (Vl K H) ux used)(h:k<used.length):∃b,R6 ux (k:Int)=some (.ref b)/\bN K H b ((used.getD k []).map V.int)/\used.getD k []∈used:=by
 obtain⟨x,hx,⟨b,rfl,hb⟩⟩:=cU p (bF h);refine⟨b,cu hx,?_,?_⟩
 ·rw[fM,bF h];exact hb
 ·rw[fM,bF h];exact mJ h
def yc{K:aJ}{H:Hp}{dn st:Addr}{ds:List V}{done:List bU}{s:bU}{Q:VK}(hD:bN K H dn ds)(pD:Paired (uT K H) ds done)(hS:cQ K H st s.vs)(q:Q (.bl (!decide (s∈done))) H):U6 K true (.ref st) (.ref dn) H Q:=by
 refine⟨s.d,done.map bU.d,uT.isD ⟨st,Z,hS⟩,.lst hD (O7 (λ_ _ h=>uT.isD h) pD),Vt _,Rn _,?_⟩;rw[aG Z,a0u];exact q
section
variable{K:aJ}
def Lb(B:Bl mg)(jV:Eu K mg)(jr:Dn K mg "is_below" fP tV)(ou:Dn K mg "joint" oU jU)(mO:Dn K mg "less" rT jU)(Hj:Dn K mg "bag_behind" fQ Cv):bf P w K mg base fX 3 Hj.f Hj.fd Cv (a3p K):=by
 have Ģ:bf P w K mg base fX 2 _ _ _ _:=xZ B jV jr;have a3n:bf P w K mg base fX 2 _ _ _ _:=(Rq B ou).mono ();have a5v:bf P w K mg base fX 2 _ _ _ _:=(bf.either (Ġ B mO) (ġ B mO)).mono ();refine Hj.F.ok qH λdZ A outer s H vs Q E hr h=>?_;obtain⟨g,n,ts,dn,st,us,ds,ux,done,sp,used,rfl,hG,cZ,hD,pD,hS,hU,pU,nu,sm,q⟩:=h;have hu:(A.deeper (PyProof.Rows.envOfC "bag_behind" (aH fQ) s⁻¹ Hj.f dZ)).units+64<cLine:=by have:=hr.un;omega
 have hv:(A.deeper (PyProof.Rows.envOfC "bag_behind" (aH fQ) s⁻¹ Hj.f dZ)).units+65<cLine:=by have:=hr.un;omega
 obtain⟨pg,ta,rfl,hP,hT⟩:=id hG;refine⟨_,(aF (bx 4 qH.nd (aQ (aP (K:=K) Z) (pv 2) aA))
   (aF (dF (aN jE (pv 4) gw)
   (aD (bJ (cG aj)))
   bQ)
   (aF (bx 5 qH.nd (aQ (bI (K:=K) Z) (pv 3) aA))
   (aF (dF (aN jE (pv 4) gw)
   (aF (bx 6 qH.nd (aQ (aP (K:=K) Z) (pv 2) aA))
   (aD (bJ (oK (PW.pt (rR (fW (K:=K) Z (bw Ģ hr Z jr.m jr.F.kp jr.b .nil cA (J (aQ (aP (K:=K) Z) (pv 0) aA) (J (pv 6) aj))) λ_=>rfl) (rR (aN (jN (K:=K) Z hv) (pv 6) (pv 5) (by with_unfolding_all rfl)) (sI (aN (jN (K:=K) Z hv) (bB (J gw (J (pv 6) aj))) (pv 1) (by with_unfolding_all rfl)))))) (bw a3n hr Z ou.m ou.F.kp ou.b .nil cA (J (pv 5) (J (cG (J (pv 6) aj)) aj))) ql))))
   bQ)
   (aF (dF (aN jE (pv 4) gw)
   (aD (bJ (oK (PW.pt (rR (aN (uy (K:=K) Z hv) (iH (GR (K:=K) Z) (pv 2) (jM aA) jL) (aQ (aP (K:=K) Z) (pv 0) aA) (by with_unfolding_all rfl)) (rR (tM (fW (K:=K) Z (bw a5v hr Z mO.m mO.F.kp mO.b .nil cA (J (iH (GR (K:=K) Z) (pv 2) (jM aA) jL) (J (pv 5) aj))) λ_=>rfl)) (sI (aN (jN (K:=K) Z hv) (pv 2) (pv 1) (by with_unfolding_all rfl)))))) (pv 5) ql)))
   bQ)
   (aF (dF (aN jE (pv 4) gw)
   (aD (bJ (oK (PW.pt (rR (aN (uy (K:=K) Z hv) (aQ (aP (K:=K) Z) (pv 2) aA) (pv 5) (by with_unfolding_all rfl)) (sI (aN (jN (K:=K) Z hv) (pv 2) (pv 1) (by with_unfolding_all rfl))))) (bw a5v hr Z mO.m mO.F.kp mO.b .nil cA (J (pv 5) (J (iH (GR (K:=K) Z) (pv 2) (jM aA) jL) aj))) ql)))
   bQ)
   (aD (bJ (oK (aN (Η (K:=K) Z hu) (pv 5) (aQ (bI (K:=K) Z) (pv 3) aA)) (pv 5) ql))))))))),?_⟩
 cases sp with
 |leaf =>
  refine⟨_,Z,st,_,_,_,Z,Z,hS,Z,⟨_,Z,Z,_,Z,?_⟩⟩;rw[bA rfl];exact gZ ⟨(),λp1 H1 n1=>q _ H1 n1.same ⟨p1,Z,bN.of n1.here,.inl n1.fresh⟩⟩
 |inn v =>
  obtain⟨b0,a0,hb0,m0⟩:=Ry (k:=0) pU nu;obtain⟨sm0,l0⟩:=sm _ m0;refine⟨_,Z,st,_,_,_,Z,Z,hS,Z,⟨_,Z,Z,_,Z,?_⟩⟩;rw[w10];refine cY ⟨_,Z,us,_,_,_,Z,Z,hU,a0,⟨_,Z,Z,_,Z,?_⟩⟩;rw[bA rfl];refine gZ ⟨_,Z,st,_,_,_,Z,Z,hS,Z,⟨_,Z,pg,_,_,_,Z,Z,hP,Z,_,Z,(n:Int),some v,Z,_,Z,?_⟩⟩;have eb:oN (n:Int) (some v)=decide (0<=v/\v<(n:Int)):=rfl;rw[eb];have no:∀{H'},aL H H'->¬((0<=v/\v<(n:Int))/\v∉used.getD 0 []/\bU.out v∉done)->Q .non H':=λs c=>q _ _ s (by
   unfold pZ;dsimp only;rw[aB c];exact Z)
  by_cases c1:0<=v/\v<(n:Int)
  ·rw[bA c1];refine gZ ⟨_,Z,_,Z,yS hb0 ⟨_,Z,?_⟩⟩;by_cases c2:v∈used.getD 0 []
   ·rw[bA c2];exact cY (cY (no (aL.refl _) λh=>h.2.1 c2))
   ·rw[cJ c2];refine gZ ⟨_,Z,(),λp2 H2 n2=>?_⟩;refine⟨_,Z,yc (s:=.out v) (n2.same.seq hD) (Paired.cC pD λ_ _ h=>uT.same n2.same h) (cQ.of n2.here) ⟨_,Z,?_⟩⟩;by_cases c3:bU.out v∈done
    ·rw[bA c3];exact cY (no n2.same λh=>h.2.2 c3)
    ·rw[cJ c3];refine gZ ⟨_,Z,_,Z,(),λp3 H3 n3=>?_⟩;refine⟨b0,p3,_,[v],Z,(n2.same.trans n3.same).seq hb0,bN.of n3.here,sm0,λx hx=>by rw[bG.mp hx];omega,λH4 p5 H5 s4 n5=>?_⟩;refine q _ H5 (n2.same.trans (n3.same.trans (s4.trans n5.same))) ?_;unfold pZ;dsimp only;rw[aG ⟨c1,c2,c3⟩];exact⟨p5,Z,bN.of n5.here,.inl ((n2.same.trans (n3.same.trans s4)).free n5.fresh)⟩
  ·rw[cJ c1];exact cY (cY (no (aL.refl _) λh=>c1 h.1))
 |tie x y =>
  obtain⟨b0,a0,hb0,m0⟩:=Ry (k:=0) pU nu;refine⟨_,Z,st,_,_,_,Z,Z,hS,Z,⟨_,Z,Z,_,Z,?_⟩⟩;rw[w20];refine cY ⟨_,Z,us,_,_,_,Z,Z,hU,a0,⟨_,Z,Z,_,Z,?_⟩⟩;rw[w21];refine cY ⟨_,Z,Z,_,Z,?_⟩;rw[bA rfl];have no:∀{H'},aL H H'->¬((x,y)∈ts/\mV [x,y] (used.getD 0 [])=[]/\bU.tie x y∉done)->Q .non H':=λs c=>q _ _ s (by
   unfold pZ;dsimp only;rw[aB c];exact Z)
  refine gZ ⟨_,Z,_,Z,st,_,Z,hS,λh=>absurd h.1 (by show ¬HT.lK 3 0 (some 1)=0;decide),λp1 H1 n1=>?_⟩;refine⟨_,Z,pg,_,_,_,Z,Z,n1.same.wj hP,Z,xV (x,y),ts.map xV,Μ.isD ⟨p1,Z,cQ.of n1.here⟩,(hT.same n1.same).isD,VG _,QS _,_,Z,?_⟩;rw[aB dh,a0G];by_cases c1:(x,y)∈ts
  ·rw[bA c1];refine gZ ⟨_,Z,_,Z,st,_,Z,n1.same.wj hS,λh=>absurd h.1 (by show ¬HT.lK 3 0 (some 1)=0;decide),λp2 H2 n2=>?_⟩;have s2:=n1.same.trans n2.same;refine⟨_,Z,.inl ⟨p2,b0,[x,y],_,Z,cQ.of n2.here,s2.seq hb0,(),λH4 p5 H5 s4 n5=>?_⟩⟩;have s5:=s2.trans (s4.trans n5.same);refine⟨_,.inl ⟨_,bN.of n5.here,Z⟩,?_⟩;by_cases c2:mV [x,y] (used.getD 0 [])=[]
   ·rw[c2];refine gZ ⟨_,Z,_,Z,yc (s:=.tie x y) (s5.seq hD) (Paired.cC pD λ_ _ h=>uT.same s5 h) (s5.wj hS) ⟨_,Z,?_⟩⟩;by_cases c3:bU.tie x y∈done
    ·rw[bA c3];exact cY (no s5 λh=>h.2.2 c3)
    ·rw[cJ c3];refine gZ ⟨_,Z,q _ H5 s5 ?_⟩;unfold pZ;dsimp only;rw[aG ⟨c1,c2,c3⟩];exact⟨b0,Z,s5.seq hb0,.inr (Xx a0)⟩
   ·have e:((mV [x,y] (used.getD 0 [])).map V.int).isEmpty=false:=by
     cases c4:mV [x,y] (used.getD 0 [])with
     |nil=>exact absurd c4 c2
     |cons _ _=>rfl
    rw[e];exact cY (cY (no s5 λh=>c2 h.2.1))
  ·rw[cJ c1];exact cY (cY (no n1.same λh=>c1 h.1))
 |out v =>
  obtain⟨b0,a0,hb0,m0⟩:=Ry (k:=0) pU nu;refine⟨_,Z,st,_,_,_,Z,Z,hS,Z,⟨_,Z,Z,_,Z,?_⟩⟩;rw[w30];refine cY ⟨_,Z,us,_,_,_,Z,Z,hU,a0,⟨_,Z,Z,_,Z,?_⟩⟩;rw[w31];refine cY ⟨_,Z,Z,_,Z,?_⟩;rw[w32];refine cY ⟨_,Z,Z,_,Z,?_⟩;rw[bA rfl];have no:∀{H'},aL H H'->¬(v∈used.getD 0 []/\bU.out v∉done)->Q .non H':=λs c=>q _ _ s (by
   unfold pZ;dsimp only;rw[aB c];exact Z)
  refine gZ ⟨_,Z,st,_,_,_,Z,Z,hS,Z,_,Z,Aj hb0 ⟨_,Z,?_⟩⟩;by_cases c1:v∈used.getD 0 []
  ·rw[bA c1];refine gZ ⟨_,Z,_,Z,yc (s:=.out v) hD pD hS ⟨_,Z,?_⟩⟩;by_cases c2:bU.out v∈done
   ·rw[bA c2];exact cY (no (aL.refl _) λh=>h.2 c2)
   ·rw[cJ c2];refine gZ ⟨_,Z,_,Z,_,Z,st,_,Z,hS,λh=>absurd h.1 (by show ¬HT.lK 2 0 (some 1)=0;decide),λp2 H2 n2=>?_⟩;refine .inr ⟨b0,p2,_,[v],Z,n2.same.seq hb0,cQ.of n2.here,(sm _ m0).2,λH4 p5 H5 s4 n5=>q _ H5 (n2.same.trans (s4.trans n5.same)) ?_⟩;unfold pZ;dsimp only;rw[aG ⟨c1,c2⟩];exact⟨p5,Z,bN.of n5.here,.inl ((n2.same.trans s4).free n5.fresh)⟩
  ·rw[cJ c1];exact cY (cY (no (aL.refl _) λh=>c1 h.1))
 |join =>
  obtain⟨b0,a0,hb0,m0⟩:=Ry (k:=0) pU (jA () nu);obtain⟨b1,a1,hb1,m1⟩:=Ry (k:=1) pU (jA () nu);refine⟨_,Z,st,_,_,_,Z,Z,hS,Z,⟨_,Z,Z,_,Z,?_⟩⟩;rw[w40];refine cY ⟨_,Z,us,_,_,_,Z,Z,hU,a0,⟨_,Z,Z,_,Z,?_⟩⟩;rw[w41];refine cY ⟨_,Z,Z,_,Z,?_⟩;rw[w42];refine cY ⟨_,Z,Z,_,Z,?_⟩;rw[w43];refine cY ⟨_,Z,_,Z,us,_,_,_,Z,Z,hU,a1,_,_,.lst hb0 (uP.ints _),.lst hb1 (uP.ints _),shaped_ints _,shaped_ints _,_,Z,?_⟩;rw[aB dh,Je];by_cases c:used.getD 0 []=used.getD 1 []
  ·rw[bA c];refine gZ ⟨_,Z,q _ H (aL.refl _) ?_⟩;unfold pZ;dsimp only;rw[aG c];exact⟨b0,Z,hb0,.inr (Xx a0)⟩
  ·rw[cJ c];refine cY (q _ H (aL.refl _) ?_);unfold pZ;dsimp only;rw[aB c];exact rfl
end
abbrev FZ:Stmt:=top 14
def uU:bD ["graph","steps","tops","feeds","pile","k","step","left","bag"] mR (aH FZ):={}
structure RS where
 aR:List (List Int)
 dJ:List (List Nat)
 pile:List Nat
def dR(s:bU)(r:RS):Nat:=r.pile.length-s.need
def sE(s:bU)(r:RS):List (List Int):=(r.pile.drop (dR s r)).map λj=>r.aR.getD j []
noncomputable def qU(n:Nat)(ts:List bY)(ss:List bU)(k:Nat)(r:RS):Option RS :=
 if(ss.getD k .leaf).need<=r.pile.length then
  (pZ n ts (ss.take k) (ss.getD k .leaf) (sE (ss.getD k .leaf) r)).map λb=>⟨r.aR++[b],r.dJ++[r.pile.drop (dR (ss.getD k .leaf) r)],r.pile.take (dR (ss.getD k .leaf) r)++[k]⟩
 else none
def aX(n:Nat)(ts:List bY)(ss:List bU):Nat->RS×Bool
 |0=>(⟨[],[],[]⟩,true)
 |k+1=>if(aX n ts ss k).2=true then
   match qU n ts ss k (aX n ts ss k).1 with
   |some r=>(r,true)
   |none=>((aX n ts ss k).1,false)
  else((aX n ts ss k).1,false)
def cD(n:Nat)(ts:List bY)(ss:List bU):RS:=(aX n ts ss ss.length).1
theorem JM{n:Nat}{ts:List bY}{ss:List bU}{k:Nat}(h:(aX n ts ss k).2=false):∀m,k<=m->aX n ts ss m=((aX n ts ss k).1,false)
 |0,hm=>by
  grind
 |m+1,hm=>by
  by_cases c:k=m+1
  ·grind
  ·have ih:=JM h m ()
   show(if(aX n ts ss m).2=true then _ else _)=_
   rw[ih]
   rfl
structure a0H(i:Nat)(r:RS):Prop where
 tl:r.aR.length=i
 fl:r.dJ.length=i
 pl:r.pile.length<=i
 lt:∀j∈r.pile,j<i
 sm:∀b∈r.aR,Small b/\b.length<=1000
 ff:∀f∈r.dJ,f.length<=2
def Zi{n:Nat}{ts:List bY}{done:List bU}{s:bU}{used:List (List Int)}{b:List Int}(cZ:n<=10)(sm:∀b∈used,Small b/\b.length<=1000)(h:pZ n ts done s used=some b):Small b/\b.length<=1000:=by
 have g:∀k,Small (used.getD k [])/\(used.getD k []).length<=1000:=λk=>by
  by_cases c:k<used.length
  ·rw[fM,bF c];exact sm _ (mJ c)
  ·rw[fM,List.getElem?_eq_none ()];exact⟨λx hx=>absurd hx dO,()⟩
 unfold pZ at h;cases s with
 |leaf =>
  have:b=[]:=(dB h).symm;subst this;exact⟨λx hx=>absurd hx dO,()⟩
 |inn v =>
  dsimp only at h;split at h
  ·rw[<-dB h];refine⟨λx hx=>?_,?_⟩
   ·obtain⟨h1,h2,_⟩:=yW.mp hx;exact⟨h1,h2⟩
   ·unfold gj Qv;grind
  ·cases h
 |tie x y =>
  dsimp only at h;split at h
  ·rw[<-dB h];exact g 0
  ·cases h
 |out v =>
  dsimp only at h;split at h
  ·rw[<-dB h];exact⟨λx hx=>(g 0).1 x (lG.mp hx).1,cV (Ds _ _) (g 0).2⟩
  ·cases h
 |join =>
  dsimp only at h;split at h
  ·rw[<-dB h];exact g 0
  ·cases h
theorem jx{n:Nat}{ts:List bY}{ss:List bU}(cZ:n<=10):∀{i:Nat},(aX n ts ss i).2=true->a0H i (aX n ts ss i).1
 |0,_=>⟨Z,Z,aM _,λj h=>absurd h dO,λb h=>absurd h dO,λb h=>absurd h dO⟩
 |i+1,h=>by
  have e:aX n ts ss (i+1)=if(aX n ts ss i).2=true then
   (match qU n ts ss i (aX n ts ss i).1 with
   |some r=>(r,true)
   |none=>((aX n ts ss i).1,false))
  else((aX n ts ss i).1,false):=rfl
  rw[e]at h ⊢
  by_cases c:(aX n ts ss i).2=true
  ·have I:=jx cZ c
   rw[aG c]at h ⊢
   cases d:qU n ts ss i (aX n ts ss i).1 with
   |none=>grind
   |some r =>
    dsimp only
    unfold qU at d
    split at d
    ·obtain⟨b,hb,er⟩:=oF.mp d
     rw[<-er]
     have sb:=Zi cZ (λx hx=>by
      obtain⟨j,hj,e⟩:=fH.mp hx
      have jl:=I.lt j (vG hj)
      rw[<-e,fM,bF (by rw[I.tl];exact jl)]
      exact I.sm _ (mJ _)) hb
     refine⟨?_,?_,?_,λj hj=>?_,λx hx=>?_,λf hf=>?_⟩
     ·show(_++[b]).length=_
      rw[cB,I.tl];rfl
     ·show(_++[_]).length=_
      rw[cB,I.fl];rfl
     ·show(_++[i]).length<=_
      rw[cB,gb]
      have:=I.pl
      show min _ _+1<=_
      omega
     ·rcases cH.mp hj with hj|hj
      ·have:=I.lt j (lE hj)
       omega
      grind
     ·rcases cH.mp hx with hx|hx
      ·exact I.sm x hx
      ·rw[bG.mp hx];exact sb
     ·rcases cH.mp hf with hf|hf
      ·exact I.ff f hf
      ·rw[bG.mp hf,j9]
       unfold dR
       have:(ss.getD i .leaf).need<=2:=by cases ss.getD i .leaf<;>simp[bU.need]
       omega
    ·cases d
  grind
def ģ{n:Nat}{ts:List bY}{ss:List bU}{i:Nat}{r:RS}(c:(aX n ts ss i).2=true)(d:qU n ts ss i (aX n ts ss i).1=some r):aX n ts ss (i+1)=(r,true):=by
 show(if(aX n ts ss i).2=true then _ else _)=_;grind
def a0I{n:Nat}{ts:List bY}{ss:List bU}{i:Nat}(il:i<ss.length)(c:(aX n ts ss i).2=true)(d:qU n ts ss i (aX n ts ss i).1=none):cD n ts ss=(aX n ts ss i).1:=by
 have e:aX n ts ss (i+1)=((aX n ts ss i).1,false):=by
  show(if(aX n ts ss i).2=true then _ else _)=_;grind
 unfold cD;rw[JM (k:=i+1) (by rw[e]) ss.length il,e]
abbrev uo(l:List Nat):List V:=l.map λ(x:Nat)=>V.int (x:Int)
theorem JN:∀{m:Nat}{l:List Nat},l.Nodup->(∀x∈l,x<m)->l.length<=m
 |0,l,_,lt=>by
  cases l with
  |nil=>grind
  |cons x r=>exact absurd (lt x aU) (xG _)
 |m+1,l,nd,lt=>by
  have ih:=JN (m:=m) (nd.erase m) λx hx=>by
   grind
  grind
def wQ(ex:List Addr)(K:aJ)(H:Hp)(v:V)(b:List Int):Prop:=∃p,v=.ref p/\bN K H p (b.map V.int)/\p∉ex
def wQ.same{K:aJ}{H H':Hp}{v:V}{b:List Int}(s:aL H H')(h:wQ ex K H v b):wQ ex K H' v b:=by
 obtain⟨p,e,q,n⟩:=h;exact⟨p,e,s.seq q,n⟩
def wQ.l{K:aJ}{H:Hp}{v:V}{b:List Int}(h:wQ ex K H v b):Vl K H v b:=by
 obtain⟨p,e,q,n⟩:=h;exact⟨p,e,q⟩
def a0J{K:aJ}{H H':Hp}{a p:Addr}{o:HO}{xs:List V}(c:uZ H a o H')(n:p≠a)(h:bN K H p xs):bN K H' p xs:=by
 rcases h with h|h
 ·refine .inl ?_;rcases h with h|⟨u,h⟩
  ·exact .inl ((c.rest p n).trans h)
  ·exact .inr ⟨u,(c.rest p n).trans h⟩
 ·exact .inr h
def wQ.chg{K:aJ}{H H':Hp}{a:Addr}{o:HO}{v:V}{b:List Int}(c:uZ H a o H')(ha:a∈ex)(h:wQ ex K H v b):wQ ex K H' v b:=by
 obtain⟨p,e,q,n⟩:=h;exact⟨p,e,a0J c (λz=>n (z▸ha)) q,n⟩
def Av(ex:List Addr)(H:Hp)(q:Addr)(f:List Nat):Prop:=H q=some (.lst (uo f))/\q∉ex
def Av.same{H H':Hp}{q:Addr}{f:List Nat}(s:aL H H')(h:Av ex H q f):Av ex H' q f:=⟨s _ _ h.1,h.2⟩
def Av.chg{H H':Hp}{a:Addr}{o:HO}{q:Addr}{f:List Nat}(c:uZ H a o H')(ha:a∈ex)(h:Av ex H q f):Av ex H' q f:=⟨(c.rest q λz=>h.2 (z▸ha)).trans h.1,h.2⟩
def Rz(xs:List V)(k:Nat)(h:k<=xs.length):uM xs none (some (k:Int))=xs.take k:=by
 unfold uM;have e1:HT.lK xs.length xs.length (some (k:Int))=k:=by
  show min _ _=k;simp;omega
 have e2:HT.lK xs.length 0 none=0:=rfl;rw[e1,e2,Ua,Af]
def RB(xs:List V)(k:Nat)(h:k<=xs.length):uM xs (some (k:Int)) none=xs.drop k:=by
 unfold uM;have e1:HT.lK xs.length 0 (some (k:Int))=k:=by
  show min _ _=k;grind
 have e2:HT.lK xs.length xs.length none=xs.length:=rfl;rw[e1,e2,HF (by rw[j9];omega)]
theorem JQ{α β:Type}{R:α->β->Prop}:∀{xs:List α}{ys:List β} (i:Nat),Paired R xs ys->Paired R (xs.take i) (ys.take i)
 |_,_,0,_=>.nil
 |_,_,_+1,.nil=>.nil
 |_,_,i+1,.cons q r=>.cons q (JQ i r)
def a6V(ex:List Addr)(K:aJ)(H:Hp)(v:V):Option (List Int)->Prop
 |none=>v=.non
 |some b=>wQ ex K H v b
theorem Mr{ex:List Addr}{K:aJ}{H:Hp}{vt:List V}{aR:List (List Int)}(p:Paired (wQ ex K H) vt aR):∀l:List Nat,(∀j∈l,j<aR.length)->Paired (Vl K H) (l.map λj=>vt.getD j .non) (l.map λj=>aR.getD j [])
 | [],_=>.nil
 |j::r,h=>by
  have jl:=h j aU
  obtain⟨x,hx,hb⟩:=cU p (bF jl)
  refine .cons ?_ (Mr p r λi hi=>h i (bC _ hi))
  dsimp only
  rw[fM,hx,fM,bF jl]
  exact hb.l
inductive a5w(K:aJ)(vs:List V)(H:Hp)(Q:VK)(u_3:XK):Prop
 |mk (g:V) (n:Nat) (ts:List bY) (a:Addr) (xs:List V) (ss:List bU) (_:vs=[g,.ref a]) (_:uQ K H g n ts) (_:n<=10) (_:bN K H a xs) (_:Paired (uT K H) xs ss) (_:ss.length<=900) (_:∀r pt pf pp vt fs H',aL H H'->H' r=some (.tup [.ref pt,.ref pf,.ref pp])->H pt=none->H pf=none->H pp=none->H' pt=some (.lst vt)->H' pf=some (.lst (fs.map V.ref))->Av [pt,pf] H' pp (cD n ts ss).pile->Paired (wQ [pt,pf] K H') vt (cD n ts ss).aR->Paired (Av [pt,pf] H') fs (cD n ts ss).dJ->Q (.ref r) H')
inductive a5x(K:aJ)(g:V)(a p1 p2:Addr)(n:Nat)(ts:List bY)(ss:List bU)(H:Hp)(i:Nat)(σ:St)(H':Hp):Prop
 |mk (vt:List V) (fs:List Addr) (pp:Addr) (a5 a6 a7 a8:Option V) (_:σ=[some g,some (.ref a),some (.ref p1),some (.ref p2),some (.ref pp),a5,a6,a7,a8]) (_:aL H H') (_:H' p1=some (.lst vt)) (_:H' p2=some (.lst (fs.map V.ref))) (_:(aX n ts ss i).2=true) (_:H pp=none) (_:Av [p1,p2] H' pp (aX n ts ss i).1.pile) (_:Paired (wQ [p1,p2] K H') vt (aX n ts ss i).1.aR) (_:Paired (Av [p1,p2] H') fs (aX n ts ss i).1.dJ)
section
variable{K:aJ}
def a3q(B:Bl mg)(U:Used w K mg)(jV:Eu K mg)(jr:Dn K mg "is_below" fP tV)(ou:Dn K mg "joint" oU jU)(mO:Dn K mg "less" rT jU)(Hj:Dn K mg "bag_behind" fQ Cv)(vy:Dn K mg "run" FZ mR):bf P w K mg base fX 4 vy.f vy.fd mR (a5w K):=by
 have gZ9:bf P w K mg base fX 3 _ _ _ _:=Lb B jV jr ou mO Hj;refine vy.F.ok uU λdZ A outer s H vs Q E hr h=>?_;obtain⟨g,n,ts,a,xs,ss,rfl,hG,cZ,hA,pA,a5y,q⟩:=h;have lx:=aV pA;refine⟨_,(aF (bx 2 uU.nd (cG aj))
   (aF (bx 3 uU.nd (cG aj))
   (aF (bx 4 uU.nd (cG aj))
   (aF (jD jf Z (Λ (K:=K) Z Z B.enumerate (J (pv 1) aj)) (jO (K:=K) (n:=2) Z Z (b8 (aO 5 uU.nd) (b8 (aO 6 uU.nd) jw)))
   (aF (bx 7 uU.nd (aZ Ou (bK (cP (K:=K) Z) Z B.len () (J (pv 4) aj)) (a0h U Z (aQ (aP (K:=K) Z) (pv 6) aA) λ_ _=>rfl)))
   (aF (bx 8 uU.nd ql)
   (lW (dF (aN a4s (pv 7) aA)
   (aD (bx 8 uU.nd (bw gZ9 hr Z Hj.m Hj.F.kp Hj.b .nil cA (J (pv 0) (J (iH (xU (K:=K) Z) (pv 1) jL (jM (pv 5))) (J (pv 6) (J (kJ ["j","tops"] [none,some 2]  (by kernel_rfl) Z (gk (K:=K) Z (iH (xU (K:=K) Z) (pv 4) (jM (pv 7)) jL)) (λ_ _ _ _ _=>(aO 0 (show(["j","tops"]:List Str).Nodup by decide))) (λ_ _ _ _ _=>gM) λ_ _ _ _ _=>(aQ (bI (K:=K) Z) (pv 1) (pv 0))) aj)))))))
   bQ)
   (aF (dF (aN Ì (pv 8) ql)
   (aD È)
   bQ)
   (aF (gA (mL (K:=K) Z j7 PySem.F.slot_list_append PySem.F.type_list_append iI (pv 2) (J (pv 8) aj)))
   (aF (gA (mL (K:=K) Z j7 PySem.F.slot_list_append PySem.F.type_list_append iI (pv 3) (J (iH (xU (K:=K) Z) (pv 4) (jM (pv 7)) jL) aj)))
   (aD (bx 4 uU.nd (aZ lX (iH (xU (K:=K) Z) (pv 4) jL (jM (pv 7))) (cG (J (pv 5) aj))))))))))))
   (aD (bJ (bB (J (pv 2) (J (pv 3) (J (pv 4) aj)))))))))),?_⟩
 refine⟨(),λp1 H1 n1=>⟨(),λp2 H2 n2=>⟨(),λp3 H3 n3=>?_⟩⟩⟩;have s3:=n1.same.trans (n2.same.trans n3.same);have f1:H p1=none:=n1.fresh;have f2:H p2=none:=n1.same.free n2.fresh;have f3:H p3=none:=n1.same.free (n2.same.free n3.fresh);have n12:p1≠p2:=n2.ne n1.here;have n13:p3≠p1:=(n3.ne (n2.same _ _ n1.here)).symm;have n23:p3≠p2:=(n3.ne n2.here).symm;have ret:∀{H':Hp}{pp:Addr}{vt:List V}{fs:List Addr}{a5 a6 a7 a8:Option V},aL H H'->H pp=none->H' p1=some (.lst vt)->H' p2=some (.lst (fs.map V.ref))->Av [p1,p2] H' pp (cD n ts ss).pile->Paired (wQ [p1,p2] K H') vt (cD n ts ss).aR->Paired (Av [p1,p2] H') fs (cD n ts ss).dJ->a4i (a1s (Ww (Ä 2) (Ww (Ä 3) (Ww (Ä 4) a2h)))) { nx:=λx H'=>Q V.non H',rt:=Q} [some g,some (.ref a),some (.ref p1),some (.ref p2),some (.ref pp),a5,a6,a7,a8] H':=λ{H' pp vt fs a5 a6 a7 a8} s fp h1 h2 h3 h4 h5=>by
  refine⟨_,Z,_,Z,_,Z,(),λpr Hr nr=>?_⟩;exact q pr p1 p2 pp vt fs Hr (s.trans nr.same) nr.here f1 f2 fp (nr.same _ _ h1) (nr.same _ _ h2) (h3.same nr.same) (Paired.cC h4 λ_ _ h=>h.same nr.same) (Paired.cC h5 λ_ _ h=>h.same nr.same)
 refine⟨_,Z,a,Z,⟨_,s3.seq hA⟩,opq (P:=λi σ H'=>a5x K g a p1 p2 n ts ss H i σ H') λZ97 ji ij=>?_⟩;refine å (xs:=xs) Z97 (ji _ _ _ ⟨[],[],p3,none,none,none,none,Z,s3,n3.same _ _ (n2.same _ _ n1.here),n3.same _ _ n2.here,Z,f3,⟨n3.here,by simp[n13,n23]⟩,.nil,.nil⟩) (λi σ H' _ h=>by
  obtain⟨_,_,_,_,_,_,_,_,s,_⟩:=ij _ _ _ h;exact s.seq hA) ?_ ?_
 ·intro i x σ H4 pz H5 hi hJ nz;obtain⟨vt,fs,pp,a5,a6,a7,a8,rfl,s4,h1,h2,go,fp,Dp,pv,pf⟩:=ij _ _ _ hJ;obtain⟨sp,hsp,⟨ps,rfl,hps⟩⟩:=bM pA hi;have il:i<ss.length:=(fL.mp hsp).1;have esp:ss.getD i .leaf=sp:=by rw[fM,hsp];rfl
  have I:=jx (n:=n) (ts:=ts) (ss:=ss) cZ go;obtain⟨R,eR⟩:∃R,R=(aX n ts ss i).1:=⟨_,Z⟩;rw[<-eR]at I Dp pv pf;have s5:=s4.trans nz.same;refine⟨pz,_,Z,cQ.of nz.here,Z,_,_,Z,_,_,Z,Z,?_⟩;have a5z:=(Dp.same nz.same).1;refine⟨_,Z,pp,_,Z,.inl (bN.of a5z),_,Z,ps,_,((0:Nat):Int),_,Z,Z,s5.wj hps,zc sp,.inr sp.word,_,Z,a0t sp,_,_,Z,Z,?_⟩;dsimp only;rw[aK];obtain⟨lf,elf⟩:∃lf:Int,((R.pile.length:Nat):Int)-((sp.need:Nat):Int)=lf:=⟨_,Z⟩;rw[elf];refine⟨λσ' H'=>∃bv:V,σ'=[some g,some (.ref a),some (.ref p1),some (.ref p2),some (.ref pp),some (.int (i:Int)),some (.ref ps),some (.int lf),some bv]/\aL H5 H'/\((sp.need<=R.pile.length/\a6V [p1,p2] K H' bv (pZ n ts (ss.take i) sp (sE sp R)))\/(¬sp.need<=R.pile.length/\bv=.non)),?_,?_⟩
  ·refine⟨_,Z,_,_,Z,Z,_,Z,uO (λc=>?_) λc=>⟨.non,Z,aL.refl _,.inr ⟨?_,Z⟩⟩⟩
   ·have c':(0:Int)<=lf:=gV c;have nl:sp.need<=R.pile.length:=()
    have el:lf=((dR sp R:Nat):Int):=by unfold dR;omega
    have ll:dR sp R<=R.pile.length:=by unfold dR;omega
    rw[el];refine⟨_,Z,_,Z,_,Z,_,Z,a,_,Z,s5.seq hA,λp6 H6 n6=>?_⟩;rw[Rz _ _ ()]at n6;refine⟨_,Z,_,Z,_,Z,_,Z,pp,_,Z,bN.of (n6.same _ _ a5z),λp7 H7 n7=>?_⟩;rw[RB _ _ (by rw[aK];exact ll)]at n7;have s57:=n6.same.trans n7.same;have ed:(uo R.pile).drop (dR sp R)=uo (R.pile.drop (dR sp R)):=by unfold uo;rw[Ud]
    rw[ed]at n7;have h17:=s57 _ _ (nz.same _ _ h1);have lv:=aV pv;have jt:∀j∈R.pile.drop (dR sp R),j<R.aR.length:=λj hj=>by rw[I.tl];exact I.lt j (vG hj)
    refine⟨p7,Z,⟨_,bN.of n7.here⟩,?_⟩;refine O5 (λv=>match v with |.int z=>some (vt.getD z.toNat .non)|_=>none) (bN.of n7.here) (by rw[aK,j9];have:=I.pl;omega) (λv H8 N hv8 s8 hN=>?_) (λH8 p9 H9 s8 n9=>?_)
    ·obtain⟨j,hj,rfl⟩:=fH.mp hv8;have jl:j<vt.length:=by rw[lv];exact jt j hj
     have hN':=hN H8 s8;dsimp only at hN';rw[iU]at hN';refine⟨_,Z,_,Z,p1,_,_,_,Z,Z,bN.of (s8 _ _ h17),cu (bF jl),?_⟩;rw[fM,bF jl]at hN';exact hN'
    have e9:(uo (R.pile.drop (dR sp R))).filterMap (λv=>match v with |.int z=>some (vt.getD z.toNat .non)|_=>none)=(R.pile.drop (dR sp R)).map λj=>vt.getD j .non:=by
     unfold uo;rw[Tj];refine(Ce λj _=>?_);show some (vt.getD ((j:Int)).toNat V.non)=_;rw[iU]
    rw[e9]at n9;have s59:=s57.trans (s8.trans n9.same);have s69:=n7.same.trans (s8.trans n9.same);have pv9:=Paired.cC pv λ_ _ h=>h.same (nz.same.trans s59);refine⟨g,n,ts,p6,ps,p9,xs.take i,_,ss.take i,sp,sE sp R,Z,(hG.same s5).same s59,cZ,bN.of (s69 _ _ n6.here),JQ i (Paired.cC pA λ_ _ h=>(h.same s5).same s59),(s5.trans s59).wj hps,bN.of n9.here,Mr pv9 _ jt,?_,λb hb=>?_,λr R9 s10 bn=>?_⟩
    ·unfold sE;rw[aK,j9];unfold dR;omega
    ·obtain⟨j,hj,rfl⟩:=fH.mp hb;rw[fM,bF (jt j hj)];exact I.sm _ (mJ _)
    refine⟨r,Z,s59.trans s10,.inl ⟨nl,?_⟩⟩;cases eb:pZ n ts (ss.take i) sp (sE sp R)with
    |none=>rw[eb]at bn;exact bn
    |some b =>
     rw[eb]at bn;obtain⟨p,e,hp,h⟩:=bn;refine⟨p,e,hp,?_⟩;rcases h with h|h
     ·have k1:H9 p1=some (.lst vt):=s59 _ _ (nz.same _ _ h1);have k2:H9 p2=some (.lst (fs.map V.ref)):=s59 _ _ (nz.same _ _ h2);intro hm;rcases bZ.mp hm with hm|hm
      ·rw[hm,k1]at h;cases h
      ·rw[bG.mp hm,k2]at h;cases h
     ·obtain⟨j,hj,ej⟩:=fH.mp h;have jl:j<vt.length:=by rw[lv];exact jt j hj
      obtain⟨b',_,⟨p',e',_,np⟩⟩:=bM pv (bF jl);rw[fM,bF jl,TX,e']at ej;injection ej with ej
      rw[<-ej];exact np
   ·have c':¬(0:Int)<=lf:=Tp (xr.mpr c);omega
  rintro σ' H6 ⟨bv,rfl,s6,wb⟩;have s46:=nz.same.trans s6;have h16:=s46 _ _ h1;have h26:=s46 _ _ h2;have a5A:=Dp.same s46;have pv6:=Paired.cC pv λ_ _ h=>h.same s46;have pf6:=Paired.cC pf λ_ _ h=>h.same s46;have sH6:=s4.trans s46;have stop:bv=.non->qU n ts ss i R=none:=λe=>by
   unfold qU;rw[esp];rcases wb with⟨nl,w⟩|⟨nl,_⟩
   ·rw[aG nl];cases eb:pZ n ts (ss.take i) sp (sE sp R)with
    |none=>rfl
    |some b =>
     rw[eb]at w;obtain⟨p,e',_⟩:=w;rw[e]at e';cases e'
   ·rw[aB nl]
  refine⟨_,Z,Z,_,Z,?_⟩;by_cases cn:bv=.non
  ·rw[bA cn];refine gZ ?_;have ee:=a0I il go (by rw[<-eR];exact stop cn);rw[<-eR]at ee;refine ret sH6 fp h16 h26 ?_ ?_ ?_
   ·rw[ee];exact a5A
   ·rw[ee];exact pv6
   ·rw[ee];exact pf6
  ·rw[cJ cn];refine cY ?_;obtain⟨nl,b,eb,p,rfl,hp,np⟩:sp.need<=R.pile.length/\∃b,pZ n ts (ss.take i) sp (sE sp R)=some b/\wQ [p1,p2] K H6 bv b:=by
    rcases wb with⟨nl,w⟩|⟨_,e⟩
    ·refine⟨nl,?_⟩;cases eb:pZ n ts (ss.take i) sp (sE sp R)with
     |none=>rw[eb]at w;exact absurd w cn
     |some b=>rw[eb]at w;exact⟨b,Z,w⟩
    ·exact absurd e cn
   have el:lf=((dR sp R:Nat):Int):=by unfold dR;omega
   have ll:dR sp R<=R.pile.length:=by unfold dR;omega
   rw[el];have lv:=aV pv;have lff:=aV pf;have tl:=I.tl;have fl:=I.fl;have pl:=I.pl;have es:qU n ts ss i R=some ⟨R.aR++[b],R.dJ++[R.pile.drop (dR sp R)],R.pile.take (dR sp R)++[i]⟩:=by
    unfold qU;rw[esp,aG nl,eb];rfl
   have er:=ģ go (by rw[<-eR];exact es);have m1:p1∈[p1,p2]:=aU;have m2:p2∈[p1,p2]:=bC _ (bG.mpr Z);refine⟨_,Z,.inl ⟨Z,_,bN.of h16⟩,_,Z,p1,vt,_,Z,Z,h16,(),λH7 c7=>?_⟩;have h27:H7 p2=some (.lst (fs.map V.ref)):=(c7.rest p2 (Ne.symm n12)).trans h26;have a5B:=a5A.chg c7 m1;refine⟨_,Z,.inl ⟨Z,_,bN.of h27⟩,_,Z,_,Z,_,Z,pp,_,Z,bN.of a5B.1,λp8 H8 n8=>?_⟩;rw[RB _ _ (by rw[aK];exact ll),show(uo R.pile).drop (dR sp R)=uo (R.pile.drop (dR sp R)) by unfold uo;rw[Ud]]at n8;have h28:=n8.same _ _ h27;refine⟨p2,_,_,Z,Z,h28,by rw[aK];omega,λH9 c9=>?_⟩;have n81:p8∉[p1,p2]:=λhm=>by
    have f8:=n8.fresh;rcases bZ.mp hm with hm|hm
    ·rw[hm,c7.here]at f8;cases f8
    ·rw[bG.mp hm,h27]at f8;cases f8
   have h19:H9 p1=some (.lst (vt++[.ref p])):=(c9.rest p1 n12).trans (n8.same _ _ c7.here);have a6W:=(a5B.same n8.same).chg c9 m2;refine⟨_,Z,_,Z,_,Z,pp,_,Z,bN.of a6W.1,λŨ R9 uq=>?_⟩;rw[Rz _ _ (by rw[aK];exact ll),show(uo R.pile).take (dR sp R)=uo (R.pile.take (dR sp R)) by unfold uo;rw[Ue]]at uq;refine⟨_,Z,(),λp11 H11 JR=>?_⟩;refine⟨Ũ,p11,_,_,Z,Z,JR.same _ _ uq.here,JR.here,by rw[aK,gb];show min _ _+1<=1000;omega,λp12 ZS a0K=>?_⟩;have JS:=uq.same.trans (JR.same.trans a0K.same);have sH9:aL H H9:=((sH6.chg f1 c7).trans n8.same).chg f2 c9;have f12:H p12=none:=sH9.free (uq.same.free (JR.same.free a0K.fresh));refine ji _ _ _ ⟨vt++[.ref p],fs++[p8],p12,_,_,_,_,Z,sH9.trans JS,JS _ _ h19,?_,by rw[er],f12,?_,?_,?_⟩
   ·have:=JS _ _ c9.here;rw[this,dW];rfl
   ·rw[er];refine⟨?_,λhm=>?_⟩
    ·rw[a0K.here];unfold uo;rw[dW];rfl
    ·have g:=a0K.fresh;rcases bZ.mp hm with hm|hm
     ·rw[hm,JR.same _ _ (uq.same _ _ h19)]at g;cases g
     ·rw[bG.mp hm,JR.same _ _ (uq.same _ _ c9.here)]at g;cases g
   ·rw[er];exact dH (Paired.cC pv6 λ_ _ h=>(((h.chg c7 m1).same n8.same).chg c9 m2).same JS) ((((wQ.chg c7 m1 ⟨p,Z,hp,np⟩).same n8.same).chg c9 m2).same JS)
   ·rw[er];exact dH (Paired.cC pf6 λ_ _ h=>(((h.chg c7 m1).same n8.same).chg c9 m2).same JS) ((Av.chg c9 m2 ⟨n8.here,n81⟩).same JS)
 ·intro σ H4 hJ;obtain⟨vt,fs,pp,a5,a6,a7,a8,rfl,s4,h1,h2,go,fp,Dp,pv,pf⟩:=ij _ _ _ hJ;rw[lx]at Dp pv pf;exact ret s4 fp h1 h2 Dp pv pf
end
abbrev eY:Stmt:=top 16
def mY:bD ["graph","steps","tops","pile","v","a","b"] FN (aH eY):={}
inductive a5C where
 |ok
 |step (k:Nat)
 |pile
 |place (v:Nat)
 |tie (a b:Int)
def Ms(R:RS):List (List Int):=R.pile.map λj=>R.aR.getD j []
noncomputable def Bt(n:Nat)(ts:List bY)(ss:List bU)(R:RS):a5C :=
 if R.aR.length<ss.length then .step R.aR.length
 else if Ms R=[[]]then
  match(List.range n).find? λ(v:Nat)=>!decide (bU.inn (v:Int)∈ss)with
  |some v=>.place v
  |none=>match ts.find? λt=>!decide (bU.tie t.1 t.2∈ss)with
   |some t=>.tie t.1 t.2
   |none=>.ok
 else .pile
def a5D(H:Hp)(v:V):a5C->Prop
 |.ok=>v=.non
 |.step k=>∃p,v=.ref p/\H p=some (.tup [.str "step",.int (k:Int)])
 |.pile=>∃p,v=.ref p/\H p=some (.tup [.str "pile"])
 |.place v'=>∃p,v=.ref p/\H p=some (.tup [.str "place",.int (v':Int)])
 |.tie a b=>∃p,v=.ref p/\H p=some (.tup [.str "tie",.int a,.int b])
def JT(b:List Int):PyData:=.list (b.map PyData.int)
def a0L(b:List Int):(JT b).canLay0=true:=by
 have h:=shaped_ints b;unfold SeqAt.shaped at h;rw[qj]at h;exact h.1
def Zj(b:List Int):(JT b).depth<=1:=by
 unfold JT;rw[PyData.depth];have:=u9 (k:=0) (f:=PyData.int) (λb=>by simp[PyData.depth]) b;omega
def Ga(bs:List (List Int)):SeqAt.shaped (.list (bs.map JT))=true:=by
 unfold SeqAt.shaped;rw[PyData.canLay0,GP a0L,PyData.depth,Ik];exact bA (by have:=u9 Zj bs;omega)
theorem RD:∀xs ys:List (List Int),PyData.eqvAll (xs.map JT) (ys.map JT)=decide (xs=ys)
 | [],[]=>by simp[PyData.eqvAll]
 | [],_::_=>by simp[PyData.eqvAll]
 |_::_,[]=>by simp[PyData.eqvAll]
 |x::xs,y::ys=>by
  rw[cL,cL,PyData.eqvAll,RD xs ys,show PyData.eqv (JT x) (JT y)=decide (x=y)from Je x y,tE]
  simp
def Ĥ{K:aJ}{H:Hp}{v:V}{s:List Int}(h:Vl K H v s):KQ K H v (JT s):=by
 obtain⟨p,rfl,h⟩:=h;exact .lst h (uP.ints _)
inductive ĥ(K:aJ)(vs:List V)(H:Hp)(Q:VK)(u_3:XK):Prop
 |mk (g:V) (n:Nat) (ts:List bY) (a pt pp:Addr) (xs vt:List V) (ss:List bU) (R:RS) (_:vs=[g,.ref a,.ref pt,.ref pp]) (_:uQ K H g n ts) (_:n<=10) (_:bN K H a xs) (_:Paired (uT K H) xs ss) (_:bN K H pt vt) (_:Paired (Vl K H) vt R.aR) (_:bN K H pp (uo R.pile)) (_:(∀j∈R.pile,j<R.aR.length)) (_:R.pile.length<=1000) (_:∀r H',aL H H'->a5D H' r (Bt n ts ss R)->Q r H')
section
variable{K:aJ}
def Gh(B:Bl mg)(ur:Dn K mg "fault_behind" eY FN):bf P w K mg base fX 1 ur.f ur.fd FN (ĥ K):=by
 refine ur.F.ok mY λdZ A outer s H vs Q E hr h=>?_;obtain⟨g,n,ts,a,pt,pp,xs,vt,ss,R,rfl,hG,cZ,hA,pA,hV,pV,hPp,jl,a5E,q⟩:=h;have hu:(A.deeper (PyProof.Rows.envOfC "fault_behind" (aH eY) s⁻¹ ur.f dZ)).units+64<cLine:=by have:=hr.un;omega
 have hv:(A.deeper (PyProof.Rows.envOfC "fault_behind" (aH eY) s⁻¹ ur.f dZ)).units+65<cLine:=by have:=hr.un;omega
 obtain⟨pg,ta,rfl,hP,hT⟩:=id hG;have lx:=aV pA;have lv:=aV pV;refine⟨_,(aF (dF (aN IK (bK (cP (K:=K) Z) Z B.len () (J (pv 2) aj)) (bK (cP (K:=K) Z) Z B.len () (J (pv 1) aj)))
   (aD (bJ (bB (J gw (J (bK (cP (K:=K) Z) Z B.len () (J (pv 2) aj)) aj)))))
   bQ)
   (aF (dF (aN (O4 (K:=K) Z hu) (kJ ["k","tops"] [none,some 2]  (by kernel_rfl) Z (gk (K:=K) Z (pv 3)) (λ_ _ _ _ _=>(aO 0 (show(["k","tops"]:List Str).Nodup by decide))) (λ_ _ _ _ _=>gM) λ_ _ _ _ _=>(aQ (bI (K:=K) Z) (pv 1) (pv 0))) (cG (J (cG aj) aj)))
   (aD (bJ (bB (J gw aj))))
   bQ)
   (aF (jD jf Z (iW Z B.range (J (aQ (aP (K:=K) Z) (pv 0) aA) aj)) (aO 4 mY.nd)
   (aD (dF (aN (jN (K:=K) Z hv) (bB (J gw (J (pv 4) aj))) (pv 1) (by with_unfolding_all rfl))
   (aD (bJ (bB (J gw (J (pv 4) aj)))))
   bQ)))
   (aF (jD jf Z (gk (K:=K) Z (aQ (aP (K:=K) Z) (pv 0) aA)) (jO (K:=K) (n:=2) Z Z (b8 (aO 5 mY.nd) (b8 (aO 6 mY.nd) jw)))
   (aD (dF (aN (jN (K:=K) Z hv) (bB (J gw (J (pv 5) (J (pv 6) aj)))) (pv 1) (by with_unfolding_all rfl))
   (aD (bJ (bB (J gw (J (pv 5) (J (pv 6) aj))))))
   bQ)))
   (aD (bJ ql)))))),?_⟩
 refine⟨_,Z,pt,_,Z,.inl hV,_,Z,a,_,Z,.inl hA,_,_,Z,Z,_,Z,?_⟩;rw[lv,lx];by_cases c1:R.aR.length<ss.length
 ·rw[bA (show((R.aR.length:Nat):Int)<((ss.length:Nat):Int) by omega)];refine gZ ⟨_,Z,pt,_,Z,.inl hV,(),λp1 H1 n1=>q _ H1 n1.same ?_⟩;unfold Bt;rw[aG c1];rw[lv]at n1;exact⟨p1,Z,n1.here⟩
 ·rw[cJ (show ¬((R.aR.length:Nat):Int)<((ss.length:Nat):Int) by omega)];refine cY ⟨_,Z,pp,Z,⟨_,hPp⟩,?_⟩;refine O5 (λv=>match v with |.int z=>some (vt.getD z.toNat .non)|_=>none) hPp (by rw[aK];exact a5E) (λv H8 N hv8 s8 hN=>?_) (λH8 p9 H9 s8 n9=>?_)
  ·obtain⟨j,hj,rfl⟩:=fH.mp hv8;have jv:j<vt.length:=by rw[lv];exact jl j hj
   have hN':=hN H8 s8;dsimp only at hN';rw[iU]at hN';refine⟨_,Z,_,Z,pt,_,_,_,Z,Z,s8.seq hV,cu (bF jv),?_⟩;rw[fM,bF jv]at hN';exact hN'
  have e9:(uo R.pile).filterMap (λv=>match v with |.int z=>some (vt.getD z.toNat .non)|_=>none)=R.pile.map λj=>vt.getD j .non:=by
   unfold uo;rw[Tj];refine(Ce λj _=>?_);show some (vt.getD ((j:Int)).toNat V.non)=_;rw[iU]
  rw[e9]at n9;have s09:=s8.trans n9.same;have laid:∀l:List Nat,(∀j∈l,j<R.aR.length)->Paired (Vl K H9) (l.map λj=>vt.getD j .non) (l.map λj=>R.aR.getD j []):=λl=>by
   induction l with
   |nil=>exact λ_=>.nil
   |cons j r ih =>
    intro h;have jl:=h j aU;obtain⟨x,hx,p,e,hb⟩:=cU pV (bF jl);refine .cons ?_ (ih λi hi=>h i (bC _ hi));dsimp only;rw[fM,hx,fM,bF jl];exact⟨p,e,s09.seq hb⟩
  refine⟨(),λŨ R9 uq=>⟨(),λp11 H11 JR=>?_⟩⟩;have Ħ:=uq.same.trans JR.same;refine⟨.list ((Ms R).map JT),.list ([[]].map JT),.lst (bN.of (Ħ _ _ n9.here)) (O7 (λ_ _ h=>Ĥ h) (Paired.cC (laid R.pile jl) λ_ _ ⟨p,e,hb⟩=>⟨p,e,Ħ.seq hb⟩)),.lst (bN.of JR.here) (.cons (.lst (bN.of (JR.same _ _ uq.here)) .nil) .nil),Ga _,Ga [[]],_,Z,?_⟩;rw[aG Z,PyData.eqv,RD];have ZV:=s09.trans Ħ;by_cases c2:Ms R=[[]]
  ·rw[bA c2];refine cY ?_;refine⟨_,Z,pg,_,_,_,Z,Z,ZV.wj hP,Z,_,Z,(),(),?_⟩;rw[iU];refine yR (n:=n) (λi σ H'=>(∃vv:Option V,σ=[some (.ref pg),some (.ref a),some (.ref pt),some (.ref pp),vv,none,none])/\aL H H'/\∀j,j<i->bU.inn (j:Int)∈ss) ⟨⟨none,Z⟩,ZV,λj h=>absurd h (xG _)⟩ ?_ ?_
   ·rintro i σ ZS hi ⟨⟨vv,rfl⟩,s12,ok⟩;have ei:(0:Int)+(i:Int)=(i:Int):=()
    rw[ei];refine⟨_,Z,(),λp13 VH n13=>?_⟩;have wC:=s12.trans n13.same;refine⟨_,Z,yc (s:=.inn (i:Int)) (wC.seq hA) (Paired.cC pA λ_ _ h=>uT.same wC h) (cQ.of n13.here) ⟨_,Z,?_⟩⟩;by_cases c3:bU.inn (i:Int)∈ss
    ·rw[bA c3];refine cY ⟨⟨_,Z⟩,wC,λj hj=>?_⟩;by_cases e:j=i
     ·rw[e];exact c3
     ·exact ok j ()
    ·rw[cJ c3];refine gZ ⟨_,Z,(),λp14 Mt n14=>q _ Mt (wC.trans n14.same) ?_⟩;unfold Bt;have ef:(List.range n).find? (λ(v:Nat)=>!decide (bU.inn (v:Int)∈ss))=some i:=Â.mpr ⟨by rw[cJ c3];rfl,mK.mpr hi,λj hj=>by rw[bA (ok j hj)];rfl⟩;rw[aB c1,aG c2,ef];exact⟨p14,Z,n14.here⟩
   ·rintro σ ZS ⟨⟨vv,rfl⟩,s12,ok⟩;have ef:(List.range n).find? (λ(v:Nat)=>!decide (bU.inn (v:Int)∈ss))=none:=Dz.mpr λj hj=>by rw[bA (ok j (mK.mp hj))];simp
    obtain⟨txs,htx,ptx,ltx⟩:=id (hT.same s12);have ltl:=aV ptx;refine⟨_,Z,pg,_,_,_,Z,Z,s12.wj hP,Z,ta,Z,⟨_,htx⟩,BJ (xs:=txs) (λi σ H'=>(∃va vb:Option V,σ=[some (.ref pg),some (.ref a),some (.ref pt),some (.ref pp),vv,va,vb])/\aL ZS H'/\∀t∈ts.take i,bU.tie t.1 t.2∈ss) ⟨⟨none,none,Z⟩,aL.refl _,λt h=>absurd h (by simp)⟩ (λi σ H' _ ⟨_,s,_⟩=>s.seq htx) ?_ ?_⟩
    ·rintro i x σ VH hx ⟨⟨va,vb,rfl⟩,wC,ok2⟩;obtain⟨t,ht,⟨px,rfl,hpx⟩⟩:=bM ptx hx;obtain⟨til,tix⟩:=fL.mp ht;have et:ts.take (i+1)=ts.take i++[t]:=by rw[zP til,tix]
     refine⟨px,_,Z,wC.wj hpx,Z,_,_,Z,_,_,Z,Z,?_⟩;refine⟨_,Z,_,Z,(),λp14 Mt n14=>?_⟩;have Dr:=(s12.trans wC).trans n14.same;refine⟨_,Z,yc (s:=.tie t.1 t.2) (Dr.seq hA) (Paired.cC pA λ_ _ h=>uT.same Dr h) (cQ.of n14.here) ⟨_,Z,?_⟩⟩;by_cases c3:bU.tie t.1 t.2∈ss
     ·rw[bA c3];refine cY ⟨⟨_,_,Z⟩,wC.trans n14.same,λt' h'=>?_⟩;rw[et]at h';rcases cH.mp h' with h'|h'
      ·exact ok2 t' h'
      ·rw[bG.mp h'];exact c3
     ·rw[cJ c3];refine gZ ⟨_,Z,_,Z,(),λp15 H15 n15=>q _ H15 (Dr.trans n15.same) ?_⟩;unfold Bt;have eg:ts.find? (λt=>!decide (bU.tie t.1 t.2∈ss))=some t:=by
       rw[<-xg (i+1) ts,et,vK,List.find?_append,Dz.mpr (λt' h'=>by rw[bA (ok2 t' h')];simp)];rw[Option.none_or];show List.find? _ (t::_)=_;rw[List.find?_cons,cJ c3];rfl
      rw[aB c1,aG c2,ef,eg];exact⟨p15,Z,n15.here⟩
    ·rintro σ VH ⟨⟨va,vb,rfl⟩,wC,ok2⟩;rw[ltl,je]at ok2;refine q _ VH (s12.trans wC) ?_;unfold Bt;have eg:ts.find? (λt=>!decide (bU.tie t.1 t.2∈ss))=none:=Dz.mpr λt h=>by rw[bA (ok2 t h)];simp
     rw[aB c1,aG c2,ef,eg];exact rfl
  ·rw[cJ c2];refine gZ ⟨(),λp12 ZS n12=>q _ ZS (ZV.trans n12.same) ?_⟩;unfold Bt;rw[aB c1,aB c2];exact⟨p12,Z,n12.here⟩
def a0M{n:Nat}{ts:List bY}{ss:List bU}(cZ:n<=10):∃i,i<=ss.length/\a0H i (cD n ts ss)/\(i=ss.length\/i<ss.length):=by
 have h:∀m,m<=ss.length->∃i,i<=m/\a0H i (aX n ts ss m).1:=λm=>by
  induction m with
  |zero=>exact λ_=>⟨0,aM _,jx cZ Z⟩
  |succ m ih =>
   intro hm;by_cases c:(aX n ts ss (m+1)).2=true
   ·exact⟨m+1,aM _,jx cZ c⟩
   ·obtain⟨i,hi,I⟩:=ih ();refine⟨i,(),?_⟩;have e:(aX n ts ss (m+1)).1=(aX n ts ss m).1:=by
     have e:aX n ts ss (m+1)=if(aX n ts ss m).2=true then
      (match qU n ts ss m (aX n ts ss m).1 with
      |some r=>(r,true)
      |none=>((aX n ts ss m).1,false))
     else((aX n ts ss m).1,false):=rfl
     grind
    grind
 obtain⟨i,hi,I⟩:=h ss.length (aM _);exact⟨i,hi,I,()⟩
end
structure ħ(mg:Str->Option Value) where
 qx:Value
 vz:mg "BEYOND_WEIGHTS" = some qx
 vA:cW (.int 1000000000000000000000000000000) qx
 rU:Value
 wM:mg "MOST_IN_A_BAG" = some rU
 wN:cW (.int 4) rU
 tX:Value
 yd:mg "MOST_COLOURS" = some tX
 ye:cW (.int 4) tX
def a3r{K:aJ}{h:Heap}{Ew:Tok}{Gi:Tok}{JV:Tok}(X:K.In h)(G:h.Ns mainGlobals mg)(Ey:PySem.W.nsIn K mainGlobals "BEYOND_WEIGHTS" = some (some (Value.int 1000000000000000000000000000000 Ew)))(Gj:PySem.W.nsIn K mainGlobals "MOST_IN_A_BAG" = some (some (Value.int 4 Gi)))(JW:PySem.W.nsIn K mainGlobals "MOST_COLOURS" = some (some (Value.int 4 JV))):Nonempty (ħ mg) :=
 ⟨{ qx:=_,vz:=Ij X G Ey,vA:=⟨_,Z⟩,rU:=_,wM:=Ij X G Gj,wN:=⟨_,Z⟩,tX:=_,yd:=Ij X G JW,ye:=⟨_,Z⟩}⟩
abbrev mQ:Stmt:=inClass (top 35) 0
def yg:bD Xd Xd (aH mQ):={}
abbrev fu:Stmt:=inClass (top 35) 1
def wR:bD kW kW (aH fu):={}
abbrev gO:Stmt:=inClass (top 35) 2
def Aw:bD wH wH (aH gO):={}
abbrev gP:Stmt:=inClass (top 35) 3
def Ax:bD kW kW (aH gP):={}
abbrev nP:Stmt:=inClass (top 36) 0
def zx:bD Xe Xe (aH nP):={}
abbrev mq:Stmt:=inClass (top 36) 1
def CG:bD iB iB (aH mq):={}
abbrev oV:Stmt:=inClass (top 36) 2
def Gk:bD rZ rZ (aH oV):={}
abbrev jy:Stmt:=inClass (top 36) 3
def yh:bD iB iB (aH jy):={}
abbrev qy:Stmt:=inClass (top 37) 0
def CJ:bD FP FP (aH qy):={}
abbrev kY:Stmt:=inClass (top 37) 1
def Ay:bD kW kW (aH kY):={}
abbrev oW:Stmt:=inClass (top 37) 2
def Gm:bD iB iB (aH oW):={}
abbrev sS:Stmt:=inClass (top 37) 3
def Ld:bD rZ rZ (aH sS):={}
abbrev kZ:Stmt:=inClass (top 37) 4
def Az:bD iB iB (aH kZ):={}
abbrev qz:Stmt:=inClass (top 38) 0
def CK:bD FP FP (aH qz):={}
abbrev oX:Stmt:=inClass (top 38) 1
def Gn:bD wH wH (aH oX):={}
abbrev oY:Stmt:=inClass (top 38) 2
def Gp:bD kW kW (aH oY):={}
abbrev oZ:Stmt:=inClass (top 38) 3
def Gq:bD iB iB (aH oZ):={}
abbrev pB:Stmt:=inClass (top 38) 4
def Le:bD rZ rZ (aH pB):={}
abbrev lC:Stmt:=inClass (top 38) 5
def Ba:bD iB iB (aH lC):={}
structure qC(K:aJ)(mg:Str->Option Value) where
 C:Addr
 cl:Cls K C
 m:mg "Question" = some (.ref C)
 bO:Dm K C "__init__" "Question.__init__" mQ Xd
 uD:a5c K C "__init__" bO.f
 ũ:Mk K C bO.f
set_option genInjectivity false in
structure vB(K:aJ)(mg:Str->Option Value) where
 C:Addr
 cl:Cls K C
 m:mg "Colours" = some (.ref C)
 fD:eX K C "graph"
 iw:eX K C "leaf"
 fO:eX K C "whole"
 JX:eX K C "many"
 fB:eX K C "weights"
 bO:DmD K C "__init__" "Colours.__init__" nP Xe
 eG:Dm K C "is_better" "Question.is_better" fu kW
 jb:Dm K C "shared" "Question.shared" gO wH
 jc:Dm K C "joined" "Question.joined" gP kW
 jd:Dm K C "put_in" "Colours.put_in" mq iB
 pC:Dm K C "tied" "Colours.tied" oV rZ
 eN:Dm K C "taken_out" "Colours.taken_out" jy iB
 ũ:Mk K C bO.f
set_option genInjectivity false in
structure CN(K:aJ)(mg:Str->Option Value) where
 C:Addr
 cl:Cls K C
 m:mg "Apart" = some (.ref C)
 fD:eX K C "graph"
 iw:eX K C "leaf"
 fO:eX K C "whole"
 fB:eX K C "weights"
 bO:DmD K C "__init__" "Apart.__init__" qy FP
 eG:Dm K C "is_better" "Apart.is_better" kY kW
 jb:Dm K C "shared" "Question.shared" gO wH
 jc:Dm K C "joined" "Question.joined" gP kW
 jd:Dm K C "put_in" "Apart.put_in" oW iB
 pC:Dm K C "tied" "Apart.tied" sS rZ
 eN:Dm K C "taken_out" "Apart.taken_out" kZ iB
 ũ:Mk K C bO.f
set_option genInjectivity false in
structure CP(K:aJ)(mg:Str->Option Value) where
 C:Addr
 cl:Cls K C
 m:mg "Watch" = some (.ref C)
 fD:eX K C "graph"
 iw:eX K C "leaf"
 fO:eX K C "whole"
 fB:eX K C "weights"
 bO:DmD K C "__init__" "Watch.__init__" qz FP
 eG:Dm K C "is_better" "Question.is_better" fu kW
 jb:Dm K C "shared" "Watch.shared" oX wH
 jc:Dm K C "joined" "Watch.joined" oY kW
 jd:Dm K C "put_in" "Watch.put_in" oZ iB
 pC:Dm K C "tied" "Watch.tied" pB rZ
 eN:Dm K C "taken_out" "Watch.taken_out" lC iB
 ũ:Mk K C bO.f
abbrev lN:Stmt:=top 17
def sU:bD ["graph","steps","tops","feeds","pile"] mR (aH lN):={}
abbrev uV:Stmt:=top 18
def JZ:bD ["bags"] ["bags"] (aH uV):={}
inductive a3s(K:aJ)(vs:List V)(H:Hp)(Q:VK)(u_3:XK):Prop
 |mk (g:V) (n:Nat) (ts:List bY) (a:Addr) (xs:List V) (ss:List bU) (_:vs=[g,.ref a]) (_:uQ K H g n ts) (_:n<=10) (_:bN K H a xs) (_:Paired (uT K H) xs ss) (_:ss.length<=900) (_:Bt n ts ss (cD n ts ss)=.ok) (_:∀r pt pf vt fs H',aL H H'->H' r=some (.tup [.ref pt,.ref pf])->H pt=none->H pf=none->H' pt=some (.lst vt)->H' pf=some (.lst (fs.map V.ref))->Paired (wQ [pt,pf] K H') vt (cD n ts ss).aR->Paired (Av [pt,pf] H') fs (cD n ts ss).dJ->Q (.ref r) H')
def zf{n:Nat}{ts:List bY}{ss:List bU}(cZ:n<=10)(h:Bt n ts ss (cD n ts ss)=.ok):a0H ss.length (cD n ts ss):=by
 obtain⟨i,il,I,_⟩:=a0M (n:=n) (ts:=ts) (ss:=ss) cZ;have e:¬(cD n ts ss).aR.length<ss.length:=λc=>by
  unfold Bt at h;rw[aG c]at h;cases h
 rw[I.tl]at e;grind
def RG(n:Nat)(ts:List bY)(ss:List bU)(m:Nat):aX n ts ss (m+1)=if(aX n ts ss m).2=true then
   (match qU n ts ss m (aX n ts ss m).1 with
   |some r=>(r,true)
   |none=>((aX n ts ss m).1,false))
  else((aX n ts ss m).1,false):=rfl
theorem Mu{n:Nat}{ts:List bY}{ss:List bU}(cZ:n<=10):∀m,(aX n ts ss m).2=false->(aX n ts ss m).1.aR.length<m
 |0,h=>by cases h
 |m+1,h=>by
  rw[RG]at h ⊢
  by_cases c:(aX n ts ss m).2=true
  ·rw[aG c]at h ⊢
   have I:=jx cZ c
   cases d:qU n ts ss m (aX n ts ss m).1 with
   |none=>show(aX n ts ss m).1.aR.length<m+1;rw[I.tl];omega
   |some r=>grind
  ·rw[aB c]
   have:=Mu cZ m (xr.mpr c)
   grind
def Ĩ{n:Nat}{ts:List bY}{ss:List bU}(cZ:n<=10)(h:Bt n ts ss (cD n ts ss)=.ok):∀i,i<=ss.length->(aX n ts ss i).2=true:=by
 have e:¬(cD n ts ss).aR.length<ss.length:=λc=>by
  unfold Bt at h;grind
 intro i il;cases c:(aX n ts ss i).2 with
 |true=>rfl
 |false =>
  have e2:=JM c ss.length il;have:=Mu cZ i c;unfold cD at e;grind
section
variable{K:aJ}
def Pz(B:Bl mg)(U:Used w K mg)(jV:Eu K mg)(jr:Dn K mg "is_below" fP tV)(ou:Dn K mg "joint" oU jU)(mO:Dn K mg "less" rT jU)(Hj:Dn K mg "bag_behind" fQ Cv)(vy:Dn K mg "run" FZ mR)(ur:Dn K mg "fault_behind" eY FN)(wU:Dn K mg "run_whole" lN mR):bf P w K mg base fX 5 wU.f wU.fd mR (a3s K):=by
 have a6X:bf P w K mg base fX 4 _ _ _ _:=a3q B U jV jr ou mO Hj vy;have a6Y:bf P w K mg base fX 4 _ _ _ _:=(Gh B ur).mono ();refine wU.F.ok sU λdZ A outer s H vs Q E hr h=>?_;obtain⟨g,n,ts,a,xs,ss,rfl,hG,cZ,hA,pA,a5y,sy,q⟩:=h;refine⟨_,(aF (xQ (bw a6X hr Z vy.m vy.F.kp vy.b .nil cA (J (pv 0) (J (pv 1) aj))) (jO (K:=K) (n:=3) Z Z (b8 (aO 2 sU.nd) (b8 (aO 3 sU.nd) (b8 (aO 4 sU.nd) jw)))))
   (aF (dF (aN Wv (bw a6Y hr Z ur.m ur.F.kp ur.b .nil cA (J (pv 0) (J (pv 1) (J (pv 2) (J (pv 4) aj))))) ql)
   (aD Bx)
   bQ)
   (aD (bJ (bB (J (pv 2) (J (pv 3) aj))))))),?_⟩
 have I:=zf cZ sy;have pl:=I.pl;refine⟨_,Z,_,Z,g,n,ts,a,xs,ss,Z,hG,cZ,hA,pA,a5y,λr pt pf pp vt fs H1 s1 hr1 ft ff fp ht hf hp pv pf'=>⟨r,_,Z,cQ.of hr1,Z,_,_,Z,_,_,Z,_,_,Z,Z,?_⟩⟩;refine⟨_,Z,_,Z,_,Z,_,Z,g,n,ts,a,pt,pp,xs,vt,ss,cD n ts ss,Z,hG.same s1,cZ,s1.seq hA,Paired.cC pA λ_ _ h=>h.same s1,bN.of ht,Paired.cC pv λ_ _ h=>h.l,bN.of hp.1,(λj hj=>by rw[I.tl];exact I.lt j hj),(),λv H2 s2 fv=>?_⟩;rw[sy]at fv;obtain rfl:v=.non:=fv;refine⟨Z,_,Z,cY ?_⟩;refine⟨_,Z,_,Z,(),λp3 H3 n3=>?_⟩;have wC:=s2.trans n3.same;exact q p3 pt pf vt fs H3 (s1.trans wC) n3.here ft ff (wC _ _ ht) (wC _ _ hf) (Paired.cC pv λ_ _ h=>h.same wC) (Paired.cC pf' λ_ _ h=>h.same wC)
end
inductive a3t(K:aJ)(vs:List V)(H:Hp)(Q:VK)(u_3:XK):Prop
 |mk (a:Addr) (xs:List V) (rs:List Bs) (_:vs=[.ref a]) (_:bN K H a xs) (_:Paired (λv r=>∃q,v=.ref q/\bN K H q (r.2.map V.int)) xs rs) (_:rs.length<=900) (_:(∀r∈rs,r.2.length<=4)) (_:∀H',aL H H'->Q .non H')
section
variable{K:aJ}
abbrev ĩ(K:PySem.W.Frag)(mg:Str->Option Value):=Dn K mg "refuse_wide" uV ["bags"]
def J0(B:Bl mg)(Ct:ħ mg)(wV:ĩ K mg):bf P w K mg base fX 1 wV.f wV.fd ["bags"] (a3t K):=by
 refine wV.F.ok JZ λdZ A outer s H vs Q E hr h=>?_;obtain⟨a,xs,rs,rfl,hx,hp,l9,h4,q⟩:=h;have lx:=aV hp;refine⟨_,(aD (dF (fW (K:=K) Z (bK (Yx (K:=K) Z Z) Z B.any () (J (kJ ["bag"] [none]  (by kernel_rfl) Z (gk (K:=K) Z (pv 0)) (λ_ _ _ _ _=>(aO 0 (show(["bag"]:List Str).Nodup by decide))) (λ_ _ _ _ _=>gM) λ_ _ _ _ _=>(vW Fj (bK (cP (K:=K) Z) Z B.len () (J (pv 0) aj)) (Oq (v:=.int 4) Z Ct.wM Ct.wN))) aj)) λ_=>rfl)
   (aD Bx)
   bQ)),?_⟩
 refine⟨_,Z,a,Z,⟨_,hx⟩,æ (λj=>some (.bl false)) hx () (λj x H3 N hj s3 hN=>?_) λH3 p H4 s3 nw=>?_⟩
 ·obtain⟨r,hr1,⟨b,rfl,hb⟩⟩:=bM hp hj;refine⟨_,Z,b,_,Z,.inl (s3.seq hb),_,_,Z,Z,?_⟩;grind
 have e1:(List.range xs.length).filterMap (λj=>some (V.bl false))=((List.range rs.length).map λ_=>false).map V.bl:=by
  rw[lx,nC];exact Ce λ_ _=>rfl
 rw[e1]at nw;refine⟨p,_,_,Z,bN.of nw.here,oM.bls _,_,Z,?_⟩;have e2:((List.range rs.length).map λ_=>false).any id=false:=by
  grind
 rw[e2];exact cY (q H4 (s3.trans nw.same))
end
abbrev yj:Stmt:=top 20
def Ez:bD Ju Mi (aH yj):={}
abbrev lD:Stmt:=top 21
def Bb:bD ["table"] ["table"] (aH lD):={}
abbrev mD:Stmt:=top 22
def uW:bD ["graph","steps","tops","feeds"] mR (aH mD):={}
def a0N{K:aJ}{H:Hp}{vs:List V}{bs:List (List Int)}(h:Paired (wQ ex K H) vs bs):Paired (λv (r:Bs)=>∃q,v=.ref q/\bN K H q (r.2.map V.int)) vs (bs.map λb=>(none,b)):=by
 induction h with
 |nil=>exact .nil
 |cons h _ ih =>
  obtain⟨q,e,h,_⟩:=h;exact .cons ⟨q,e,h⟩ ih
inductive a5F(K:aJ)(vs:List V)(H:Hp)(Q:VK)(u_3:XK):Prop
 |mk (g:V) (n:Nat) (ts:List bY) (a:Addr) (xs:List V) (ss:List bU) (_:vs=[g,.ref a]) (_:uQ K H g n ts) (_:n<=10) (_:bN K H a xs) (_:Paired (uT K H) xs ss) (_:ss.length<=800) (_:Bt n ts ss (cD n ts ss)=.ok) (_:(∀b∈(cD n ts ss).aR,b.length<=4)) (_:∀r pt pf vt fs H',aL H H'->H' r=some (.tup [.ref pt,.ref pf])->H' pt=some (.lst vt)->H' pf=some (.lst (fs.map V.ref))->Paired (wQ [pt,pf] K H') vt (cD n ts ss).aR->Paired (Av [pt,pf] H') fs (cD n ts ss).dJ->Q (.ref r) H')
def a0O(H:Hp)(v:V)(r:gJ):Prop:=∃p,v=.ref p/\H p=some (.tup [.int r.m,.int r.b])
def Bc(H:Hp):List (List Key×V)->cI->Prop:=Paired λkv tr=>kv.1=su tr.1/\a0O H kv.2 tr.2
inductive VJ(H:Hp)(v:V)(T:cI):Prop
 |mk (p O:_) (_:v=.ref p) (_:H p=some (.dT O)) (_:Bc H O T)
def a0O.keep{H H':Hp}{v:V}{r:gJ}(k:pY H H')(h:a0O H v r):a0O H' v r:=by
 obtain⟨p,e,h⟩:=h;exact⟨p,e,k _ _ h⟩
def VJ.keep{H H':Hp}{v:V}{T:cI}(s:aL H H')(h:VJ H v T):VJ H' v T:=by
 obtain⟨p,O,e,h1,h2⟩:=h;exact⟨p,O,e,s _ _ h1,Paired.cC h2 λ_ _ z=>⟨z.1,z.2.keep (.of s)⟩⟩
inductive Zk(vs:List V)(H:Hp)(Q:VK)(u_3:XK):Prop
 |mk (t:Addr) (O:List (List Key×V)) (T:cI) (_:vs=[.ref t]) (_:H t=some (.dT O)) (_:qt H O T) (_:T.length<=900) (_:(T.map (·.1)).Nodup) (_:∀p kvs' H',aL H H'->H' p=some (.dT kvs')->Bc H' kvs' T->Q (.ref p) H')
section
variable{K:aJ}{κ:Type} [DecidableEq κ]
def Lf(B:Bl mg)(Ct:ħ mg)(U:Used w K mg)(jV:Eu K mg)(jr:Dn K mg "is_below" fP tV)(ou:Dn K mg "joint" oU jU)(mO:Dn K mg "less" rT jU)(Hj:Dn K mg "bag_behind" fQ Cv)(vy:Dn K mg "run" FZ mR)(ur:Dn K mg "fault_behind" eY FN)(wU:Dn K mg "run_whole" lN mR)(wV:ĩ K mg)(zy:Dn K mg "run_narrow" mD mR):bf P w K mg base fX 6 zy.f zy.fd mR (a5F K):=by
 have a6Z:bf P w K mg base fX 5 _ _ _ _:=Pz B U jV jr ou mO Hj vy ur wU;have a65:bf P w K mg base fX 5 _ _ _ _:=(J0 B Ct wV).mono ();refine zy.F.ok uW λdZ A outer s H vs Q E hr h=>?_;obtain⟨g,n,ts,a,xs,ss,rfl,hg,cZ,hA,pA,l8,qJ,b4,q⟩:=h;refine⟨_,(aF (xQ (bw a6Z hr Z wU.m wU.F.kp wU.b .nil cA (J (pv 0) (J (pv 1) aj))) (jO (K:=K) (n:=2) Z Z (b8 (aO 2 uW.nd) (b8 (aO 3 uW.nd) jw))))
   (aF (gA (bw a65 hr Z wV.m wV.F.kp wV.b .nil cA (J (pv 2) aj)))
   (aD (bJ (bB (J (pv 2) (J (pv 3) aj))))))),?_⟩
 refine⟨_,Z,_,Z,g,n,ts,a,xs,ss,Z,hg,cZ,hA,pA,(),qJ,λr pt pf vt fs H1 s1 hr1 fpt fpf hpt hpf pT pF=>?_⟩;refine⟨r,_,Z,cQ.of hr1,Z,_,_,Z,_,_,Z,Z,?_⟩;have lT:(cD n ts ss).aR.length<=900:=by
  have:=(zf cZ qJ).tl;omega
 refine⟨_,Z,pt,vt,(cD n ts ss).aR.map (λb=>(none,b)),Z,bN.of hpt,a0N pT,by rw[aK];exact lT,?_,λH2 s2=>?_⟩
 ·intro r' hr';obtain⟨b,hb,rfl⟩:=fH.mp hr';exact b4 b hb
 ·refine⟨_,Z,_,Z,(),λp3 H3 n3=>?_⟩;have s23:=s2.trans n3.same;exact q p3 pt pf vt fs H3 (s1.trans s23) n3.here (s23 _ _ hpt) (s23 _ _ hpf) (Paired.cC pT λ_ _ ⟨p,e,h,ne⟩=>⟨p,e,s23.seq h,ne⟩) (Paired.cC pF λ_ _ ⟨h,ne⟩=>⟨s23 _ _ h,ne⟩)
abbrev a0P(K:PySem.W.Frag)(mg:Str->Option Value):=Dn K mg "without_sources" lD ["table"]
def Bd(B:Bl mg)(yp:a0P K mg):bf P w K mg base fX 1 yp.f yp.fd ["table"] Zk:=by
 refine yp.F.ok Bb λdZ A outer s H vs Q E hr h=>?_;obtain⟨t,O,T,rfl,ht,hT,lT,nd,q⟩:=h;have hw2:(A.deeper (PyProof.Rows.envOfC "without_sources" (aH lD) s⁻¹ yp.f dZ)).units+2<cLine:=by have:=hr.un;omega
 refine⟨_,(aD (bJ (jY (Vp (K:=K) Z Z hw2) Z B.dict () (J (ą (kJ ["state","row"] [none,none]  (by kernel_rfl) Z (vf (sO (K:=K) Z zU HB HD vd (pv 0))) (λ_ _ _ _ _=>(jO (K:=K) (n:=2) Z Z (b8 (aO 0 (show(["state","row"]:List Str).Nodup by decide)) (b8 (aO 1 (show(["state","row"]:List Str).Nodup by decide)) jw)))) (λ_ _ _ _ _=>gM) λ_ _ _ _ _=>(bB (J (pv 0) (J (bB (J (aQ (aP (K:=K) Z) (pv 1) aA) (J (aQ (aP (K:=K) Z) (pv 1) aA) aj))) aj))))) aj)))),⟨_,Z,.inr (.inr (.inl ⟨Z,.inr ⟨_,ht⟩⟩)),t,O,Z,Z,ht,λpv H1 n1=>⟨pv,t,O,Z,n1.here,n1.same _ _ ht,λo as pk=>?_⟩⟩⟩;have h1t:=n1.same _ _ ht;have Vx:Nd H (cN H1 t (.jo o (.dT O))):=(Nd.of n1.same).trans (Nd.jo h1t);have R8:cN H1 t (.jo o (.dT O)) t=some (.jo o (.dT O)):=dD;have Xr:∀c,c≠t->cN H1 t (.jo o (.dT O)) c=H1 c:=λc hc=>aW hc;generalize cN H1 t (.jo o (.dT O))=G0 at pk Vx R8 Xr ⊢;have lk:=aV hT;have la:=aV pk;refine Y4 (λi ys G=>aL G0 G/\∃kw,Paired (PrL G) ys kw/\Bc G kw (T.take i)) ⟨aL.refl _,[],.nil,.nil⟩ (λi ys G hi ⟨sG,kw,p1,p2⟩=>⟨sG _ _ R8,?_⟩) (λi ys G a0 v0 p G1 ha0 hv0 ⟨sG,kw,p1,p2⟩ nw=>?_) (λys G pl ⟨sG,kw,p1,p2⟩ hpl=>?_)
 ·rw[aV p1,aV p2,gb];omega
 ·obtain⟨kv,hkv,hak⟩:=bM pk ha0;obtain⟨⟨st,row⟩,hsx,ek,hrow⟩:=bM hT hkv;have ek:kv.1=su st:=ek;have hv0':v0=kv.2:=by
   rw[dU,hkv]at hv0;exact(dB hv0).symm
  subst hv0';rw[ek]at hak;have ŧ:=sG.trans nw.same;obtain⟨pr,qr,asr,VD,hpr,_⟩:=hrow.keep (Vx.tups.trans (.of ŧ));refine⟨p,_,Z,cQ.of nw.here,Z,_,_,Z,_,_,Z,Z,?_⟩;rw[VD];refine⟨_,Z,_,Z,pr,_,_,.int row.m,Z,Z,cQ.of hpr,Z,_,Z,pr,_,_,.int row.b,Z,Z,cQ.of hpr,Z,(),λq1 G2 m2=>⟨(),λq2 G3 m3=>?_⟩⟩;have wC:=nw.same.trans (m2.same.trans m3.same);refine⟨sG.trans wC,kw++[(su st,.ref q1)],dH (Paired.cC p1 λ_ _ ⟨pp,kp,e,h1,h2⟩=>⟨pp,kp,e,wC _ _ h1,wC _ _ h2⟩) ⟨q2,a0,Z,m3.here,(sG.trans wC) _ _ hak⟩,?_⟩;rw[nA,hsx];exact dH (Paired.cC p2 λ_ _ z=>⟨z.1,z.2.keep (.of wC)⟩) ⟨Z,q1,Z,m3.same _ _ m2.here⟩
 ·have n2:=iQ.pQ (o:=.lst ys) hpl;generalize cN G pl (.lst ys)=G2 at n2 ⊢;have g2t:=n2.same _ _ (sG _ _ R8);rw[show T.take as.length=T by grind]at p2;have tu:pY G (cN G2 t (.dT O)):=λc zs e=>Nd.Pu g2t _ _ (n2.same _ _ e);have sF:aL H (cN G2 t (.dT O)):=λc u e=>by
   by_cases z:c=t
   ·rw[z]at e ⊢;rw[dD,<-e,ht]
   ·rw[aW z];refine(sG.trans n2.same) c u ?_;rw[Xr c z];exact n1.same _ _ e
  have npl:pl≠t:=λz=>by have:=n2.here;grind
  refine⟨t,o,O,O,ht,g2t,?_⟩;refine⟨pl,ys,kw,Z,by rw[aW npl];exact n2.here,Paired.cC p1 λ_ _ ⟨pp,kp,e,h1,h2⟩=>⟨pp,kp,e,tu _ _ h1,tu _ _ h2⟩,?_,λpd H5 n5=>?_⟩
  ·have go:∀{kw:List (List Key×V)}{T:cI},Bc G kw T->kw.map (·.1)=T.map λx=>su x.1:=λ{kw T} h=>by
    induction h with
    |nil=>rfl
    |cons a _ ih=>grind
   rw[go p2];have e2:(T.map λx=>su x.1)=(T.map (·.1)).map su:=by rw[nC];rfl
   rw[e2];exact Aa.mpr (nd.imp λ{a b} ne e=>ne (G9 e))
  ·exact q pd kw H5 (sF.trans n5.same) n5.here (Paired.cC p2 λ_ _ z=>⟨z.1,z.2.keep (tu.trans (.of n5.same))⟩)
inductive Ī(Qn:Hg P w K mg base κ)(vs:List V)(H:Hp)(Q:VK)(u_3:XK):Prop
 |mk (d a:Addr) (xs:List V) (ss:List bU) (_:vs=[.ref a,.ref d]) (_:Qn.At H d) (_:Qn.n<=10) (_:bN K H a xs) (_:Paired (uT K H) xs ss) (_:ss.length<=800) (_:Bt Qn.n Qn.ts ss (cD Qn.n Qn.ts ss)=.ok) (_:(∀b∈(cD Qn.n Qn.ts ss).aR,b.length<=4)) (_:(∀k,k<ss.length->Aq Qn (cD Qn.n Qn.ts ss).aR (La Qn.pq ss (cD Qn.n Qn.ts ss).aR (cD Qn.n Qn.ts ss).dJ k) (ss.getD k .leaf) ((cD Qn.n Qn.ts ss).aR.getD k []) ((cD Qn.n Qn.ts ss).dJ.getD k []))) (_:(∀T∈La Qn.pq ss (cD Qn.n Qn.ts ss).aR (cD Qn.n Qn.ts ss).dJ ss.length,T.length<=900/\(T.map (·.1)).Nodup)) (_:∀pl ys H',aL H H'->H' pl=some (.lst ys)->Paired (VJ H') ys (La Qn.pq ss (cD Qn.n Qn.ts ss).aR (cD Qn.n Qn.ts ss).dJ ss.length)->Q (.ref pl) H')
def EY(B:Bl mg)(Bz:mg "zip" = none)(Ct:ħ mg)(U:Used w K mg)(Qn:Hg P w K mg base κ)(jV:Eu K mg)(jr:Dn K mg "is_below" fP tV)(ou:Dn K mg "joint" oU jU)(mO:Dn K mg "less" rT jU)(Hj:Dn K mg "bag_behind" fQ Cv)(vy:Dn K mg "run" FZ mR)(ur:Dn K mg "fault_behind" eY FN)(wU:Dn K mg "run_whole" lN mR)(wV:ĩ K mg)(zy:Dn K mg "run_narrow" mD mR)(vp:Dn K mg "states_behind" fZ FJ)(qu:Dn K mg "note" uR Cu)(wO:Dn K mg "fill_along" jP Js)(wB:Dn K mg "fill_joined" iC Jt)(xY:Dn K mg "going_up" nO Ju)(yp:a0P K mg)(zA:Dn K mg "tables" yj Mi):bf P w K mg base fX 12 zA.f zA.fd Mi (Ī Qn):=by
 have a66:bf P w K mg base fX 11 _ _ _ _:=(Lf B Ct U jV jr ou mO Hj vy ur wU wV zy).mono ();have a67:bf P w K mg base fX 11 _ _ _ _:=Rr B Bz Qn ou vp qu wO wB xY;have a68:bf P w K mg base fX 11 _ _ _ _:=(Bd B yp).mono ();refine zA.F.ok Ez λdZ A outer s H vs Q E hr h=>?_;obtain⟨d,a,xs,ss,rfl,hD,cZ,hA,pA,l8,qJ,b4,ok,sm,q⟩:=h;refine⟨_,(aF (xQ (bw a66 hr Z zy.m zy.F.kp zy.b .nil cA (J (yZ (K:=K) Z (pv 1) Z) (J (pv 0) aj))) (jO (K:=K) (n:=2) Z Z (b8 (aO 2 Ez.nd) (b8 (aO 3 Ez.nd) jw))))
   (aD (bJ (kJ ["table"] [none]  (by kernel_rfl) Z (gk (K:=K) Z (bw a67 hr Z xY.m xY.F.kp xY.b .nil cA (J (pv 0) (J (pv 1) (J (pv 2) (J (pv 3) aj)))))) (λ_ _ _ _ _=>(aO 0 (show(["table"]:List Str).Nodup by grind) Z (Or.inl Z))) (λ_ _ _ _ _=>gM) λ_ _ _ _ _=>(bw a68 hr Z yp.m yp.F.kp yp.b .nil cA (J (pv 0) aj)))))),?_⟩
 obtain⟨dx,fs,hd,_,_,_,g,hgl,hg⟩:=Qn.ins hD;have RI:=zf cZ qJ;refine⟨_,Z,d,_,dx,fs,_,Z,hd,Qn.cl,Qn.fD,hgl,_,Z,⟨g,Qn.n,Qn.ts,a,xs,ss,Z,hg,cZ,hA,pA,l8,qJ,b4,λr pt pf vt fs' H1 s1 hr1 hpt hpf pT pF=>⟨r,_,Z,cQ.of hr1,Z,_,_,Z,_,_,Z,Z,⟨_,Z,_,Z,_,Z,_,Z,?_⟩⟩⟩⟩;refine⟨d,a,pt,pf,xs,vt,fs',ss,(cD Qn.n Qn.ts ss).aR,(cD Qn.n Qn.ts ss).dJ,Z,(Nd.of s1).at Qn hD,s1.seq hA,Paired.cC pA λ_ _ h=>h.same s1,bN.of hpt,Paired.cC pT λ_ _ ⟨p,e,h,_⟩=>⟨p,e,h⟩,bN.of hpf,Paired.cC pF λ_ _ ⟨h,_⟩=>h,(),RI.tl,RI.fl,λb hb=>(RI.sm b hb).1,ok,λpl ps H2 s2 fpl hpl pP nd fr=>⟨pl,Z,⟨_,bN.of hpl⟩,?_⟩⟩;have lg:=mX Qn.pq ss (cD Qn.n Qn.ts ss).aR (cD Qn.n Qn.ts ss).dJ ss.length;have lp:=aV pP;refine wg (K:=K) (a:=pl) (xs:=ps.map V.ref) (λi ys G=>aL H2 G/\Paired (VJ G) ys ((La Qn.pq ss (cD Qn.n Qn.ts ss).aR (cD Qn.n Qn.ts ss).dJ ss.length).take i)) ⟨aL.refl _,.nil⟩ (λi ys G hi ⟨sG,p⟩=>⟨bN.of (sG _ _ hpl),?_⟩) (λi x ys G hx ⟨sG,p⟩=>?_) (λys G ⟨sG,p⟩ pr hpr=>?_)
 ·rw[aV p,gb];exact eO (cO ())
 ·rw[dU]at hx;obtain⟨p0,hp0,rfl⟩:=oF.mp hx;obtain⟨T,hT,kv,h1,h2⟩:=bM pP hp0;obtain⟨sl,sn⟩:=sm T (jz hT);refine⟨_,Z,p0,kv,T,Z,sG _ _ h1,h2.keep (.of sG),sl,sn,λp' kv' G1 s' h1' h2'=>⟨sG.trans s',?_⟩⟩;rw[nA,hT];exact dH (Paired.cC p λ_ _ h=>h.keep s') ⟨p',kv',Z,h1',h2'⟩
 ·have n3:=iQ.pQ (o:=.lst ys) hpr;rw[show(ps.map V.ref).length=ss.length by grind,show(La Qn.pq ss (cD Qn.n Qn.ts ss).aR (cD Qn.n Qn.ts ss).dJ ss.length).take ss.length=La Qn.pq ss (cD Qn.n Qn.ts ss).aR (cD Qn.n Qn.ts ss).dJ ss.length from HF (Og lg)]at p;exact q pr ys _ (s1.trans (s2.trans (sG.trans n3.same))) n3.here (Paired.cC p λ_ _ h=>h.keep n3.same)
end
end K
namespace L2
open PyProof.Rows Bg
section
variable{X:Cx}{K:aJ}
inductive a3u(K:aJ)(x:V)(y:V)(H:Hp)(Q:VK):Prop
 |mk (a b xs ys:_) (_:x=.ref a) (_:y=.ref b) (_:cQ K H a xs) (_:cQ K H b ys) (_:xs≠[]) (_:ys≠[]) (_:xs.length+ys.length<=1000) (_:∀p H',iQ H p (.tup (xs++ys)) H'->Q (.ref p) H')
def ī(e:X.K=K):sX X (binaryOp .Add) (a3u K):=by
 subst e;exact Wz.weak λx y H Q ⟨a,b,xs,ys,e1,e2,h1,h2,n1,n2,z,q⟩=>⟨a,b,xs,ys,e1,e2,h1,h2,n1,eO (cO z),λe=>absurd e n2,λ_ p hp=>q p _ (iQ.pQ hp)⟩
end
end L2
namespace HT
open PyProof.Rows Bg
section
variable{prog:Program}{w:World}{A:Around}{E:Value->Shared->Prop}{s:Shared}
def a0Q{t b:Addr}{vs ws:List Value}{Q:Value->Shared->Prop}(ht:IsTup s.heap t vs.toArray)(hb:IsTup s.heap b ws.toArray)(hv:vs=[])(h1:Q (.ref b) s):wpAny (model prog w) A (binaryOp .Add (.ref t) (.ref b)) Q E s:=by
 obtain⟨⟨cls,dd,data,sl⟩,ho,hc,n,hd⟩:=id ht;obtain⟨⟨cls2,dd2,data2,sl2⟩,ho2,hc2,n2,hd2⟩:=id hb;simp only at hc hd hc2 hd2;subst hc hd hc2 hd2;exact Oh ⟨_,ho,Z⟩ ⟨_,ho2,Z⟩ NP Od Nk Ni (Ng _ _)
   (tuple_addW0 t b vs.toArray ws.toArray n n2 dd dd2 sl sl2 (by simp[hv])) ⟨ho,ho2,h1⟩
def zB{t sl:Addr}{items:Array Value}{vl vu:Value}{lo hi:Option Int}{Q:Value->Shared->Prop}(ht:IsTup s.heap t items)(hs:s.heap.IsSliceOf sl vl vu .none)(pl:IsPart vl lo)(pu:IsPart vu hi)
  (hw:lK items.size 0 lo=0/\lK items.size items.size hi=items.size) (h:Q (.ref t) s):wpAny (model prog w) A (getItem (.ref t) (.ref sl)) Q E s:=by
 obtain⟨os,hos,hcs,hds⟩:=id hs;have hTs:s.TypeIs (.ref sl) "slice" :=⟨os,hos,hcs⟩;unfold getItem;try with_reducible refine fG ?_
 first|refine M (aq ?_)|skip
 refine M (wpAny_sequenceKey ht.typeIs () ?_);refine M (oE (name:=Str.ofString "__getitem__") ht.typeIs M6
  (gF M6 ht.typeIs entry_tuple_getitem ?_ (args_tuple_getitem _ _)))
 show wpAny _ _ (Builtin.Tuple.tupleItemsOf (.ref t) >>= _) _ _ s;refine M (tupleItemsOf_ ht (M (vQ hTs ?_)));rw[aG ()];refine M (u5 hs pl pu ?_);show wpAny _ _ (if(((lK items.size 0 lo:Nat):Int)==0&&(1:Int)==1&&(lK items.size items.size hi-lK items.size 0 lo)==items.size)=true then _ else _) _ _ s;rw[aG (by rw[hw.1,hw.2];simp)];refine M (M (vQ ht.typeIs (aq ?_)));rw[aG ()];exact M (kE (M (aq (aq ⟨_,Z,aq h⟩))))
end
end HT
namespace L2
open PyProof.Rows Bg
section
variable{X:Cx}
inductive a69(x:V)(lo:Option Int)(hi:Option Int)(H:Hp)(Q:VK):Prop
 |mk (a xs:_) (_:x=.ref a) (_:H a=some (.tup xs)) (_:∀p H',aL H H'->H' p=some (.tup (uM xs lo hi))->Q (.ref p) H')
def zj:SlR X a69:=by
 intro Y s σ H x v vl vu lo hi sl Q I rx hs pl pu h;obtain⟨a,xs,rfl,hx,q⟩:=h;by_cases hw:HT.lK xs.length 0 lo=0/\HT.lK xs.length xs.length hi=xs.length
 ·cases rx;obtain⟨bV,r,ht,hz⟩:=I.tuple (cQ.of hx);have hlen:bV.toArray.size=xs.length:=by rw[gn];exact r.length.symm
  refine⟨"tuple",_,PyProof.Rows.slot_tuple_getitem.lookup,ht.typeIs,?_⟩;refine HT.zB ht hs pl pu (by rw[hlen];exact hw) ⟨.ref a,H,I,Z,q a H (aL.refl _) ?_⟩;have e:uM xs lo hi=xs:=by
   unfold uM;grind
  grind
 ·exact Õ Y s σ H _ v vl vu lo hi sl Q I rx hs pl pu ⟨a,xs,Z,cQ.of hx,hw,λp hp=>q p _ (Lw.qN hp _) dD⟩
inductive a5G(x:V)(y:V)(H:Hp)(Q:VK):Prop
 |mk (a b xs ys:_) (_:x=.ref a) (_:y=.ref b) (_:H a=some (.tup xs)) (_:H b=some (.tup ys)) (_:xs.length+ys.length<=1000) (_:∀p H',aL H H'->H' p=some (.tup (xs++ys))->Q (.ref p) H')
def Hl:sX X (binaryOp .Add) a5G:=by
 intro Y s σ H x y v u Q I rx ry h;obtain⟨a,b,xs,ys,rfl,rfl,ha,hb,hz,q⟩:=h;by_cases hx:xs=[]
 ·cases rx;cases ry;obtain⟨bV,r1,p1,_⟩:=I.tuple (cQ.of ha);obtain⟨its2,r2,p2,_⟩:=I.tuple (cQ.of hb);exact HT.a0Q p1 p2 (r1.BL.mpr hx) ⟨.ref b,H,I,Z,q b H (aL.refl _) (by rw[hx];exact hb)⟩
 ·exact Wz Y s σ H _ _ v u Q I rx ry ⟨a,b,xs,ys,Z,Z,cQ.of ha,cQ.of hb,hx,eO (cO hz),λe=>q a H (aL.refl _) (by rw[e,lH];exact ha),λ_ p hp=>q p _ (Lw.qN hp _) dD⟩
end
end L2
namespace L2
open PyProof.Rows
section
variable{K:aJ}{a:Addr}{xs:List V}{ix:List (Option Nat)}{g:TG}{tt:TT}{te:TE}{σ:St}{H1:Hp}{Q:VK}
def PJ(Pv:Nat->List V->Hp->Prop)(h0:Pv 0 [] H1)(hl:∀i ys H,i<=xs.length->Pv i ys H->cQ K H a xs/\ys.length<=sizeLine)
  (hs:∀i x ys H,xs[i]?=some x->Pv i ys H->g x (qM ix σ) H λσ2 H2=>tt σ2 H2 λb H3=>if b=true then te σ2 H3 λv H4=>Pv (i+1) (ys++[v]) H4 else Pv (i+1) ys H3)
  (hd:∀ys H,Pv xs.length ys H->∀p,H p=none->Q (.ref p) (cN H p (.lst ys))):nF ix g tt te σ H1 Q (Itt K a):=by
 refine⟨λi m ys H=>m=xs.length-i/\i<=xs.length/\Pv i ys H,⟨xs.length,by simp,dw _,h0⟩,?_⟩;rintro i m ys H ⟨rfl,hi,p⟩;obtain⟨q,z⟩:=hl i ys H hi p;by_cases hlt:i<xs.length
 ·refine .inr ⟨⟨xs,xs[i],q,by simp[hlt]⟩,z,λys' H'=>Pv (i+1) ys' H',λys' H' p'=>⟨xs.length-(i+1),(),Z,hlt,p'⟩,λx H' y=>?_⟩;obtain⟨e',y⟩:=y;subst e';exact hs i x ys _ (y xs q) p
 ·have ei:i=xs.length:=()
  subst ei;exact .inl ⟨⟨xs,q,aM _⟩,z,λpp hp=>hd ys H p pp hp⟩
end
end L2
namespace K
open L2 Lw Bg
variable{K:aJ}{P:Program}{w:World}{mg:Str->Option Value}{base:Heap}{ex:List (Str×V)}{n c:Nat}{ts:List bY}
abbrev eZ:Stmt:=top 32
def J6:bD wI wI (aH eZ):={}
abbrev cX:Stmt:=top 33
def CQ:bD wJ wJ (aH cX):={}
def sV(s:dX)(p:Nat)(x:Int):dX:=s.take p++([x]++s.drop p)
def wW(s:dX)(p:Nat):dX:=s.take p++s.drop (p+1)
def PK(s:dX)(p:Nat)(h:p<=s.length):uM (s.map V.int) none (some (p:Int))=(s.take p).map V.int:=by
 unfold uM;rw[HT.Ow,HT.QG,Ua,Af,aK,Nat.min_eq_left h,Ue]
def PL(s:dX)(p:Nat)(h:p<=s.length):uM (s.map V.int) (some (p:Int)) none=(s.drop p).map V.int:=by
 unfold uM;rw[HT.Ow,HT.QG,aK,Nat.min_eq_left h,Ud];exact HF (by rw[j9,aK];exact aM _)
inductive a0R(vs:List V)(H:Hp)(Q:VK)(u_3:XK):Prop
 |mk (a:Addr) (s:dX) (p:Nat) (x:Int) (_:vs=[.ref a,.int p,.int x]) (_:um H a s) (_:p<=s.length) (_:s.length<=100) (_:∀b H',aL H H'->um H' b (sV s p x)->Q (.ref b) H')
inductive VL(vs:List V)(H:Hp)(Q:VK)(u_3:XK):Prop
 |mk (a:Addr) (s:dX) (p:Nat) (_:vs=[.ref a,.int p]) (_:um H a s) (_:p<s.length) (_:s.length<=100) (_:∀b H',aL H H'->um H' b (wW s p)->Q (.ref b) H')
def tY(jW:Dn K mg "with_number" eZ wI):bf P w K mg base fX 1 jW.f jW.fd wI a0R:=by
 refine jW.F.ok J6 λdZ A outer s H vs Q E hr h=>?_;obtain⟨a,st,p,x,rfl,ha,hp,l1,q⟩:=h;refine⟨_,(aD (bJ (aZ Hl (aZ Hl (iH zj (pv 0) jL (jM (pv 1))) (bB (J (pv 2) aj))) (iH zj (pv 0) (jM (pv 1)) jL)))),⟨_,Z,_,Z,_,Z,a,_,Z,ha,λb1 H1 s1 h1=>?_⟩⟩;rw[PK st p hp]at h1;refine⟨_,Z,(),λb2 H2 n2=>⟨b1,b2,_,_,Z,Z,n2.same _ _ h1,n2.here,?_,λb3 H3 s3 h3=>?_⟩⟩
 ·grind
 have wC:=n2.same.trans s3;refine⟨_,Z,_,Z,_,Z,a,_,Z,(s1.trans wC) _ _ ha,λb4 H4 s4 h4=>?_⟩;rw[PL st p hp]at h4;refine⟨b3,b4,_,_,Z,Z,s4 _ _ h3,h4,?_,λb5 H5 s5 h5=>q b5 H5 (s1.trans (wC.trans (s4.trans s5))) ?_⟩
 ·grind
 ·show H5 b5=some (.tup ((sV st p x).map V.int));rw[h5];unfold sV;grind
def pG(jX:Dn K mg "without_number" cX wJ):bf P w K mg base fX 1 jX.f jX.fd wJ VL:=by
 refine jX.F.ok CQ λdZ A outer s H vs Q E hr h=>?_;obtain⟨a,st,p,rfl,ha,hp,l1,q⟩:=h;refine⟨_,(aD (bJ (aZ Hl (iH zj (pv 0) jL (jM (pv 1))) (iH zj (pv 0) (jM (aZ fj (pv 1) aA)) jL)))),⟨_,Z,_,Z,_,Z,a,_,Z,ha,λb1 H1 s1 h1=>?_⟩⟩;rw[PK st p ()]at h1;refine⟨_,Z,_,Z,_,_,Z,Z,_,Z,a,_,Z,s1 _ _ ha,λb4 H4 s4 h4=>?_⟩;try dsimp only at h4
 rw[show((p:Int)+1)=((p+1:Nat):Int) by omega,PL st (p+1) ()]at h4;refine⟨b1,b4,_,_,Z,Z,s4 _ _ h1,h4,?_,λb5 H5 s5 h5=>q b5 H5 (s1.trans (s4.trans s5)) ?_⟩
 ·grind
 ·show H5 b5=some (.tup ((wW st p).map V.int));rw[h5];unfold wW;grind
abbrev jQ:Stmt:=top 31
def Lg:bD FQ FQ (aH jQ):={}
def PN:Int:=1000000000000000000000000000000
def WtV(K:aJ)(H:Hp)(v:V)(o:Option (List Int)):Prop:=match o with
 |none=>v=.non
 |some ws=>∃a,v=.ref a/\bN K H a (ws.map V.int)
def VN(m:Nat):Option (List Int)->Bool
 |none=>true
 |some ws=>decide (ws.length=m)&&ws.all λx=>decide (0<=x)&&decide (x<PN)
def VP(m:Nat):Option (List Int)->List Int
 |none=>List.replicate m 1
 |some ws=>ws
def btF:V->Option V
 |.int y=>some (.bl (oN PN (some y)))
 |_=>none
theorem a1C:∀ws:List Int,(ws.map V.int).filterMap btF=(ws.map λy=>oN PN (some y)).map V.bl
 | []=>rfl
 |x::r=>by
  rw[cL,Nh (show btF (V.int x)=some (.bl (oN PN (some x)))from Z),a1C r]
  rfl
def a0S(x:Int):oN PN (some x)=(decide (0<=x)&&decide (x<PN)):=by
 unfold oN;dsimp only;exact Bool.decide_and ..
inductive Zm(K:aJ)(vs:List V)(H:Hp)(Q:VK)(u_3:XK):Prop
 |mk (m:Nat) (v:V) (o:Option (List Int)) (_:vs=[.int m,v]) (_:WtV K H v o) (_:m<=100) (_:(∀ws,o=some ws->ws.length<=200)) (_:VN m o=true) (_:∀p H',aL H H'->H p=none->H' p=some (.lst ((VP m o).map V.int))->Q (.ref p) H')
def uX(B:Bl mg)(Ct:ħ mg)(jV:Eu K mg)(jr:Dn K mg "is_below" fP tV)(sW:Dn K mg "weights_of" jQ FQ):bf P w K mg base fX 3 sW.f sW.fd FQ (Zm K):=by
 have Ģ:bf P w K mg base fX 2 _ _ _ _:=xZ B jV jr;refine sW.F.ok Lg λdZ A outer s H vs Q E hr h=>?_;obtain⟨m,v,o,rfl,hV,a7q,hw,ok,q⟩:=h;refine⟨_,(aF (dF (aN Ì (pv 1) ql)
   (aD (bJ (kJ ["k"] [none]  (by kernel_rfl) Z (iW Z B.range (J (pv 0) aj)) (λ_ _ _ _ _=>(aO 0 (show(["k"]:List Str).Nodup by decide))) (λ_ _ _ _ _=>gM) λ_ _ _ _ _=>aA)))
   bQ)
   (aF (dF (PW.pt (Iz (aN Lr (bK (cP (K:=K) Z) Z B.len () (J (pv 1) aj)) (pv 0)) (Iw (tM (fW (K:=K) Z (bK (Yw (K:=K) Z Z) Z B.all () (J (kJ ["weight"] [none]  (by kernel_rfl) Z (gk (K:=K) Z (pv 1)) (λ_ _ _ _ _=>(aO 0 (show(["weight"]:List Str).Nodup by decide))) (λ_ _ _ _ _=>gM) λ_ _ _ _ _=>(bw Ģ hr Z jr.m jr.F.kp jr.b .nil cA (J (Oq (v:=.int 1000000000000000000000000000000) Z Ct.vz Ct.vA) (J (pv 0) aj)))) aj)) λ_=>rfl)))))
   (aD Bx)
   bQ)
   (aD (bJ (jY (wu (K:=K) Z) Z B.list () (J (pv 1) aj)))))),?_⟩
 cases o with
 |none =>
  obtain rfl:v=.non:=hV;refine⟨_,Z,Z,_,Z,gZ ?_⟩;refine⟨_,Z,_,Z,(),(),?_⟩;rw[iU];refine Κ (λ_=>some (V.int 1)) () (λi H' N hi s1 hN=>hN H' s1) (λH1 p H2 s1 n2=>q p H2 (s1.trans n2.same) (s1.free n2.fresh) ?_);rw[n2.here];show some (HO.lst _)=some (HO.lst ((List.replicate m (1:Int)).map V.int));rw[Ce (f:=λ_=>some (V.int 1)) (g:=λ_=>V.int 1) (λ_ _=>rfl),List.map_const',rP,List.map_replicate]
 |some ws =>
  obtain⟨a,rfl,hA⟩:=hV;have lw:=hw ws rfl;have ok':=ok;unfold VN at ok';rw[qj,d7,DN]at ok';obtain⟨e1,e2⟩:=ok';refine⟨_,Z,Z,_,Z,cY ⟨_,Z,a,_,Z,.inl hA,_,Z,Z,_,Z,?_⟩⟩;rw[aK,e1,bA rfl];refine cY ⟨_,Z,a,Z,⟨_,hA⟩,O5 btF hA () (λx G5 N hx s5 hN5=>?_) λG5 p6 H6 s5 n6=>?_⟩
  ·obtain⟨y,hy,rfl⟩:=fH.mp hx;exact⟨_,Z,PN,some y,Z,hN5 G5 s5⟩
  rw[a1C]at n6;refine⟨p6,_,_,Z,bN.of n6.here,oM.bls _,?_⟩;have e7:(ws.map λy=>oN PN (some y)).all id=true:=by
   rw[List.all_map,DN];intro x hx;show oN PN (some x)=true;rw[a0S];exact e2 x hx
  rw[e7];refine⟨_,Z,cY ⟨_,Z,a,_,Z,.inl ((s5.trans n6.same).seq hA),λp8 H8 n8=>q p8 H8 (s5.trans (n6.same.trans n8.same)) ((s5.trans n6.same).free n8.fresh) n8.here⟩⟩
def Ū(pg:Addr)(l u:V):List (Str×V):=[("graph",.ref pg),("leaf",l),("whole",u)]
inductive a0T(K:aJ)(C:Addr)(vs:List V)(H:Hp)(Q:VK)(u_3:XK):Prop
 |mk (d dx g t:Addr) (n:Nat) (xs:List V) (l u:V) (_:vs=[.ref d,.ref g,l,u]) (_:H d=some (.ins C dx [])) (_:cQ K H g [.int n,.ref t]) (_:H t=some (.lst xs)) (_:xs.length<=1000) (_:∀pg pt H',Sd d H H'->H pt=none->H' d=some (.ins C dx (Ū pg l u))->H' pg=some (.tup [.int n,.ref pt])->H' pt=some (.lst xs)->Q .non H')
def qD(B:Bl mg)(cF:qC K mg){C:Addr}(cl:Cls K C)(fD:eX K C "graph")(iw:eX K C "leaf")(fO:eX K C "whole"):bf P w K mg base fX 1 cF.bO.f cF.bO.fd Xd (a0T K C):=by
 refine cF.bO.F.ok yg λdZ A outer s H vs Q E hr h=>?_;obtain⟨d,dx,g,t,n,xs,l,u,rfl,hd,hg,ht,lx,q⟩:=h;refine⟨_,(aF (Ah (pv 0) (bB (J (aQ (aP (K:=K) Z) (pv 1) aA) (J (jY (wu (K:=K) Z) Z B.list () (J (aQ (aP (K:=K) Z) (pv 1) aA) aj)) aj))) Z)
   (aF (Ah (pv 0) (pv 2) Z)
   (aD (Ah (pv 0) (pv 3) Z)))),?_⟩
 refine⟨_,Z,g,_,_,V.int n,Z,Z,hg,cu (j:=0) Z,_,Z,g,_,_,V.ref t,Z,Z,hg,cu (j:=1) Z,t,_,Z,.inl (bN.of ht),λpt H1 n1=>⟨(),λpg H2 n2=>?_⟩⟩;have h2:=n2.same _ _ (n1.same _ _ hd);refine⟨_,Z,d,_,_,_,Z,h2,cl,fD,(),?_⟩;generalize hU1:cN H2 d _=U1;have u1:uZ H2 d (.ins C dx (vX "graph" (.ref pg) [])) U1:=by rw[<-hU1];exact uZ.pQ
 refine⟨_,Z,_,Z,d,_,_,_,Z,u1.here,cl,iw,(by show 1<1000;decide),?_⟩;generalize hU2:cN U1 d _=U2;have u2:uZ U1 d (.ins C dx (vX "leaf" l (vX "graph" (.ref pg) []))) U2:=by rw[<-hU2];exact uZ.pQ
 refine⟨_,Z,_,Z,d,_,_,_,Z,u2.here,cl,fO,(by show 2<1000;decide),?_⟩;generalize hU3:cN U2 d _=U3;have u3:uZ U2 d (.ins C dx (Ū pg l u)) U3:=by rw[<-hU3];exact uZ.pQ
 have sr:∀c,c≠d->U3 c=H2 c:=λc hc=>by rw[u3.rest _ hc,u2.rest _ hc,u1.rest _ hc]
 have dt:pt≠d:=λe=>by have:=n1.fresh;grind
 have dg:pg≠d:=λe=>by have:=n2.fresh;rw[e,n1.same _ _ hd]at this;cases this
 exact q pg pt U3 (λc o hc hh=>by rw[sr c hc];exact n2.same _ _ (n1.same _ _ hh)) n1.fresh u3.here (by rw[sr _ dg];exact n2.here) (by rw[sr _ dt];exact n2.same _ _ n1.here)
inductive zK(K:aJ)(C:Addr)(ex:List (Str×V))(n:Nat)(ts:List bY)(ws:List Int)(H:Hp)(d:Addr):Prop
 |mk (dx pg pt xs l u pw:_) (_:H d=some (.ins C dx (Ū pg (.ref l) (.ref u)++(ex++[(("weights" : Str),V.ref pw)])))) (_:H pg=some (.tup [.int n,.ref pt])) (_:H pt=some (.lst xs)) (_:Paired (pX H) xs ts) (_:ts.length<=1000) (_:H l=some (.tup [])) (_:H u=some (.tup [])) (_:H pw=some (.lst (ws.map V.int)))
def VR{H H':Hp}{v:V}{t:Int×Int}(k:pY H H')(h:pX H v t):pX H' v t:=by
 obtain⟨p,e,h⟩:=h;exact⟨p,e,k _ _ h⟩
def zK.keep{C:Addr}{ws:List Int}{H H':Hp}{d:Addr}(a:Nd H H')(h:zK K C ex n ts ws H d):zK K C ex n ts ws H' d:=by
 obtain⟨dx,pg,pt,xs,l,u,pw,h1,h2,h3,h4,h5,h6,h7,h8⟩:=h;exact⟨dx,pg,pt,xs,l,u,pw,a _ _ (λ_ z=>by cases z) (λ_ z=>by cases z) h1,a.tups _ _ h2,a.lst h3,Paired.cC h4 λ_ _ z=>VR a.tups z,h5,a.tups _ _ h6,a.tups _ _ h7,a.lst h8⟩
def zK.ins{K:aJ}{C:Addr}{ex:List (Str×V)}{n:Nat}{ts:List bY}{ws:List Int}{H:Hp}{d:Addr}(hx:∀m,m∈(Jr:List Str)->ex.lookup m=none)(h:zK K C ex n ts ws H d):∃dx fs,H d=some (.ins C dx fs)/\(∀m,m∈(Jr:List Str)->fs.lookup m=none)/\
  (∃a,fs.lookup ("leaf" : Str)=some (.ref a)/\um H a [])/\(∃a,fs.lookup ("whole" : Str)=some (.ref a)/\um H a [])/\∃g,fs.lookup ("graph" : Str)=some g/\uQ K H g n ts:=by
 obtain⟨dx,pg,pt,xs,l,u,pw,h1,h2,h3,h4,h5,h6,h7,h8⟩:=h;refine⟨dx,_,h1,λm hm=>?_,⟨l,Z,h6⟩,⟨u,Z,h7⟩,.ref pg,Z,pg,pt,Z,cQ.of h2,xs,bN.of h3,Paired.cC h4 λ_ _ ⟨p,e,h⟩=>⟨p,e,cQ.of h⟩,h5⟩;have e:=hx m hm;have go:∀m∈(Jr:List Str),(m==("graph" : Str))=false/\(m==("leaf" : Str))=false/\(m==("whole" : Str))=false/\(m==("weights" : Str))=false:=()
 obtain⟨g1,g2,g3,g4⟩:=go m hm;have lk:∀(l1 l2:List (Str×V)),l1.lookup m=none->(l1++l2).lookup m=l2.lookup m:=λl1 l2 h=>by
  grind
 have fq:(Ū pg (.ref l) (.ref u)).lookup m=none:=by
  unfold Ū;grind
 grind
def zK.wts{C:Addr}{ws:List Int}{H:Hp}{d:Addr}(hx:ex.lookup ("weights" : Str)=none)(h:zK K C ex n ts ws H d):∃dx fs pw,H d=some (.ins C dx fs)/\fs.lookup ("weights" : Str)=some (.ref pw)/\H pw=some (.lst (ws.map V.int)):=by
 obtain⟨dx,pg,pt,xs,l,u,pw,h1,h2,h3,h4,h5,h6,h7,h8⟩:=h;refine⟨dx,_,pw,h1,?_,h8⟩;show List.lookup _ (ex++_)=_;clear h1
 induction ex with
 |nil=>rfl
 |cons a l1 ih =>
  rw[Ib]at hx;rw[List.cons_append,Ib];cases c:("weights" : Str)==a.1 with
  |true=>rw[c]at hx;cases hx
  |false=>rw[c]at hx;exact ih hx
def fU(s:dX)(i:Nat):Int:=s.getD i 0
def Ĭ{s:dX}{i:Nat}(h:i<s.length):R6 (s.map V.int) (i:Int)=some (.int (fU s i)):=by
 refine cu ?_;rw[dU,bF h];unfold fU;rw[fM,bF h];rfl
def sy(c:Int)(m:Nat)(s:dX):Prop:=s.length=m/\∀x∈s,0<=x/\x<c
noncomputable def pqC(c:Nat)(ws:List Int):PQ Key where
 leaf:=[]
 whole:=[]
 bt:=λa b=>decide (a<b)
 sh:=su
 jn:=λs _=>[s]
 inn:=λs p _=>(List.range c).map λk:Nat=>(sV s p (k:Int),0)
 tie:=λs a b _=>if fU s a≠fU s b then [(s,0)]else []
 out:=λs p v=>[(wW s p,ws.getD v 0*fU s p)]
 Ok:=sy (c:Int)
noncomputable def pqA(ws:List Int):PQ Key where
 leaf:=[]
 whole:=[]
 bt:=λa b=>decide (b<a)
 sh:=su
 jn:=λs _=>[s]
 inn:=λs p _=>[(sV s p 0,0),(sV s p 1,0)]
 tie:=λs a b _=>if fU s a+fU s b<2 then [(s,0)]else []
 out:=λs p v=>[(wW s p,ws.getD v 0*fU s p)]
 Ok:=sy 2
def uE(s:dX)(a b:Nat):dX:=(List.range s.length).map λk=>if k=a\/k=b then max (fU s k) 1 else fU s k
noncomputable def ū(ws:List Int):PQ Bool where
 leaf:=[]
 whole:=[]
 bt:=λa b=>decide (a<b)
 sh:=λs=>s.map λx=>decide (x=2)
 jn:=λs t=>[List.zipWith max s t]
 inn:=λs p _=>[(sV s p 0,0),(sV s p 2,0)]
 tie:=λs a b _=>if(fU s a=0/\fU s b=2)\/(fU s a=2/\fU s b=0)then [(uE s a b,0)]else [(s,0)]
 out:=λs p v=>if fU s p=0 then []else [(wW s p,if fU s p=2 then ws.getD v 0 else 0)]
 Ok:=sy 3
theorem RJ{P:Program}{w:World}:∀s:dX,Paired (λv (x:Key)=>∀u,cW v u->(fC P w).is x u=true) (s.map V.int) (su s)
 | []=>.nil
 |i::s=>.cons (λu ⟨t,e⟩=>by rw[e,Ug];exact Ie i) (RJ s)
section
variable{C:Addr}{ws:List Int}
def qe{κ:Type} [DecidableEq κ] (d_:Dm K C "is_better" "Question.is_better" fu kW) (pq:PQ κ) (hb:pq.bt=λa b=>decide (a<b)) (At:Hp->Addr->Prop):bf P w K mg base fX 1 d_.f d_.fd kW (Jw pq At):=by
 refine d_.F.ok wR λdZ A outer s H vs Q E hr h=>?_;obtain⟨d,a,b,rfl,hD,q⟩:=h;refine⟨_,(aD (bJ (vW IK (pv 1) (pv 2)))),?_⟩;rw[hb]at q;exact⟨_,Z,_,Z,_,_,Z,Z,q⟩
def Bf(d_:Dm K C "is_better" "Apart.is_better" kY kW)(At:Hp->Addr->Prop):bf P w K mg base fX 1 d_.f d_.fd kW (Jw (pqA ws) At):=by
 refine d_.F.ok Ay λdZ A outer s H vs Q E hr h=>?_;obtain⟨d,a,b,rfl,hD,q⟩:=h;exact⟨_,(aD (bJ (vW Fj (pv 1) (pv 2)))),⟨_,Z,_,Z,_,_,Z,Z,q⟩⟩
def tZ(d_:Dm K C "shared" "Question.shared" gO wH)(pq:PQ Key)(hs:pq.sh=su)(At:Hp->Addr->Prop):bf P w K mg base fX 1 d_.f d_.fd wH (Jx (fC P w) pq At):=by
 refine d_.F.ok Aw λdZ A outer s H vs Q E hr h=>?_;obtain⟨d,a,m,st,rfl,hD,ha,ok,m5,q⟩:=h;refine⟨_,(aD (bJ (pv 1))),?_⟩;exact⟨_,Z,q a H (aL.refl _) ⟨_,ha,by rw[hs];exact RJ st⟩⟩
def uc(d_:Dm K C "joined" "Question.joined" gP kW)(pq:PQ Key)(hj:pq.jn=λs _=>[s])(At:Hp->Addr->Prop):bf P w K mg base fX 1 d_.f d_.fd kW (Jy pq At):=by
 refine d_.F.ok Ax λdZ A outer s H vs Q E hr h=>?_;obtain⟨d,a,b,m,st,t,rfl,hD,ha,hb,ok,ok',m5,sh,q⟩:=h;refine⟨_,(aD (bJ (cG (J (pv 1) aj)))),?_⟩;refine⟨_,Z,(),λp H1 n1=>q p _ H1 n1.same n1.here ?_⟩;rw[hj];exact .cons ⟨a,Z,ha.keep (.of n1.same)⟩ .nil
def CT(B:Bl mg)(c4:c<=4)(cl:Cls K C)(nm:eX K C "many")(d_:Dm K C "put_in" "Colours.put_in" mq iB)(jW:Dn K mg "with_number" eZ wI):bf P w K mg base fX 2 d_.f d_.fd iB (Xl (pqC c ws) (zK K C [("many",.int c)] n ts ws)):=by
 have ĭ:bf P w K mg base fX 1 _ _ _ _:=tY jW;refine d_.F.ok CG λdZ A outer s H vs Q E hr h=>?_;obtain⟨d,a,m,spot,v,st,rfl,hD,ha,ok,m4,sp,q⟩:=h;refine⟨_,(aD (bJ (kJ ["colour","state","spot"] [none,some 1,some 2]  (by kernel_rfl) Z (iW Z B.range (J (yZ (K:=K) Z (pv 0) Z) aj)) (λ_ _ _ _ _=>(aO 0 (show(["colour","state","spot"]:List Str).Nodup by decide))) (λ_ _ _ _ _=>gM) λ_ _ _ _ _=>(bB (J (bw ĭ hr Z jW.m jW.F.kp jW.b .nil cA (J (pv 1) (J (pv 2) (J (pv 0) aj)))) (J aA aj)))))),?_⟩;have l1:st.length=m:=ok.1;obtain⟨dx,pg,pt,xs,l,u,pw,h1,_⟩:=id hD;refine⟨_,Z,d,C,dx,_,.int c,Z,h1,cl,nm,Z,_,Z,(),(),?_⟩;refine xT (n:=c) (λi ys G=>aL H G/\Paired (Ţ G) ys ((List.range i).map λk:Nat=>(sV st spot (k:Int),(0:Int)))) ⟨aL.refl _,.nil⟩ (λi ys G hi ⟨_,p⟩=>?_) (λi ys G hi ⟨sG,p⟩=>?_) (λys G ⟨sG,p⟩ pr hpr=>?_)
 ·rw[aV p,aK,rP];exact eO (cO ())
 ·rw[Int.zero_add];refine⟨_,Z,_,Z,_,Z,a,st,spot,(i:Int),Z,ha.keep (.of sG),(),(),λb G1 s1 hb=>⟨(),λp2 G2 n2=>?_⟩⟩;have s12:=s1.trans n2.same;refine⟨sG.trans s12,?_⟩;rw[vN,dW];exact dH (Paired.cC p λ_ _ h=>h.keep (.of s12)) ⟨p2,b,Z,n2.here,hb.keep (.of n2.same)⟩
 ·have n3:=iQ.pQ (o:=.lst ys) hpr;exact q pr ys _ (sG.trans n3.same) n3.here (Paired.cC p λ_ _ h=>h.keep (.of n3.same))
def Gr(d_:Dm K C "tied" "Colours.tied" oV rZ)(At:Hp->Addr->Prop)(Ti:Int×Int->Prop):bf P w K mg base fX 2 d_.f d_.fd rZ (Xn (pqC c ws) At Ti):=by
 refine d_.F.ok Gk λdZ A outer s H vs Q E hr h=>?_;obtain⟨d,a,p,m,gh,bT,t,st,rfl,hD,ha,ok,m5,o1,o2,ne,ti,hp,q⟩:=h;have l1:st.length=m:=ok.1;refine⟨_,(aD (bJ (oK (aN Lr (aQ (aP (K:=K) Z) (pv 1) (pv 2)) (aQ (aP (K:=K) Z) (pv 1) (pv 3))) (cG (J (bB (J (pv 1) (J aA aj))) aj)) (cG aj)))),⟨_,Z,_,Z,a,_,_,_,Z,Z,cQ.of ha,Ĭ (),_,Z,_,Z,a,_,_,_,Z,Z,cQ.of ha,Ĭ (),Z,_,Z,?_⟩⟩;by_cases c1:fU st gh=fU st bT
 ·rw[bA (show V.int (fU st gh)=V.int (fU st bT) by rw[c1])];refine cY ⟨(),λp1 H1 n1=>q p1 [] H1 n1.same n1.here ?_⟩;show Paired _ _ (if fU st gh≠fU st bT then [(st,(0:Int))]else []);rw[aB (λz=>z c1)];exact .nil
 ·rw[cJ (show ¬V.int (fU st gh)=V.int (fU st bT)from λz=>c1 (V.int.inj z))];refine gZ ⟨_,Z,(),λp1 H1 n1=>⟨(),λp2 H2 n2=>q p2 _ H2 (n1.same.trans n2.same) n2.here ?_⟩⟩;show Paired _ _ (if fU st gh≠fU st bT then [(st,(0:Int))]else []);rw[aG c1];exact .cons ⟨p1,a,Z,n2.same _ _ n1.here,ha.keep (.of (n1.same.trans n2.same))⟩ .nil
def yq(hC:c<=4)(cl:Cls K C)(nw:eX K C "weights")(lw:ws.length=n)(d_:Dm K C "taken_out" "Colours.taken_out" jy iB)(jX:Dn K mg "without_number" cX wJ):bf P w K mg base fX 2 d_.f d_.fd iB (Xm (pqC c ws) (zK K C [("many",.int c)] n ts ws) (λv=>v<n)):=by
 have Į:bf P w K mg base fX 1 _ _ _ _:=pG jX;refine d_.F.ok yh λdZ A outer s H vs Q E hr h=>?_;obtain⟨d,a,m,spot,v,st,rfl,hD,ha,ok,m5,sp,vn,q⟩:=h;have l1:st.length=m:=ok.1;refine⟨_,(aD (bJ (cG (J (bB (J (bw Į hr Z jX.m jX.F.kp jX.b .nil cA (J (pv 1) (J (pv 2) aj))) (J (aZ tQ (aQ (bI (K:=K) Z) (yZ (K:=K) Z (pv 0) Z) (pv 3)) (aQ (aP (K:=K) Z) (pv 1) (pv 2))) aj))) aj)))),?_⟩;obtain⟨dx,fs,pw,h1,hl,hw⟩:=hD.wts rfl;refine⟨_,Z,_,Z,a,st,spot,Z,ha,(),(),λb H1 s1 hb=>?_⟩;have ew:R6 (ws.map V.int) (v:Int)=some (.int (ws.getD v 0)):=by
  refine cu ?_;grind
 have bd : -(2^64)<fU st spot/\fU st spot<2^64:=by
  have hm:fU st spot∈st:=by
   unfold fU;grind
  have:=ok.2 _ hm;have:=hC;omega
 refine⟨_,Z,d,C,dx,fs,.ref pw,Z,s1 _ _ h1,cl,nw,hl,_,Z,pw,_,_,_,Z,Z,bN.of (s1 _ _ hw),ew,_,Z,_,Z,a,_,_,_,Z,Z,cQ.of (s1 _ _ ha),Ĭ (),_,_,Z,Z,.inr bd,(),λp2 H2 n2=>⟨(),λp3 H3 n3=>q p3 _ H3 (s1.trans (n2.same.trans n3.same)) n3.here ?_⟩⟩;exact .cons ⟨p2,b,Z,n3.same _ _ n2.here,hb.keep (.of (n2.same.trans n3.same))⟩ .nil
def Lh(d_:Dm K C "tied" "Apart.tied" sS rZ)(At:Hp->Addr->Prop)(Ti:Int×Int->Prop):bf P w K mg base fX 2 d_.f d_.fd rZ (Xn (pqA ws) At Ti):=by
 refine d_.F.ok Ld λdZ A outer s H vs Q E hr h=>?_;obtain⟨d,a,p,m,gh,bT,t,st,rfl,hD,ha,ok,m5,o1,o2,ne,ti,hp,q⟩:=h;have l1:st.length=m:=ok.1;refine⟨_,(aD (bJ (oK (aN IK (aZ fj (aQ (aP (K:=K) Z) (pv 1) (pv 2)) (aQ (aP (K:=K) Z) (pv 1) (pv 3))) aA) (cG (J (bB (J (pv 1) (J aA aj))) aj)) (cG aj)))),⟨_,Z,_,Z,a,_,_,_,Z,Z,cQ.of ha,Ĭ (),_,Z,_,Z,a,_,_,_,Z,Z,cQ.of ha,Ĭ (),_,_,Z,Z,_,_,Z,Z,_,Z,?_⟩⟩;by_cases c1:fU st gh+fU st bT<2
 ·rw[bA c1];refine gZ ⟨_,Z,(),λp1 H1 n1=>⟨(),λp2 H2 n2=>q p2 _ H2 (n1.same.trans n2.same) n2.here ?_⟩⟩;show Paired _ _ (if fU st gh+fU st bT<2 then [(st,(0:Int))]else []);rw[aG c1];exact .cons ⟨p1,a,Z,n2.same _ _ n1.here,ha.keep (.of (n1.same.trans n2.same))⟩ .nil
 ·rw[cJ c1];refine cY ⟨(),λp1 H1 n1=>q p1 [] H1 n1.same n1.here ?_⟩;show Paired _ _ (if fU st gh+fU st bT<2 then [(st,(0:Int))]else []);rw[aB c1];exact .nil
def Bh(cl:Cls K C)(nw:eX K C "weights")(lw:ws.length=n)(d_:Dm K C "taken_out" "Apart.taken_out" kZ iB)(jX:Dn K mg "without_number" cX wJ):bf P w K mg base fX 2 d_.f d_.fd iB (Xm (pqA ws) (zK K C [] n ts ws) (λv=>v<n)):=by
 have Į:bf P w K mg base fX 1 _ _ _ _:=pG jX;refine d_.F.ok Az λdZ A outer s H vs Q E hr h=>?_;obtain⟨d,a,m,spot,v,st,rfl,hD,ha,ok,m5,sp,vn,q⟩:=h;have l1:st.length=m:=ok.1;refine⟨_,(aD (bJ (cG (J (bB (J (bw Į hr Z jX.m jX.F.kp jX.b .nil cA (J (pv 1) (J (pv 2) aj))) (J (aZ tQ (aQ (bI (K:=K) Z) (yZ (K:=K) Z (pv 0) Z) (pv 3)) (aQ (aP (K:=K) Z) (pv 1) (pv 2))) aj))) aj)))),?_⟩;obtain⟨dx,fs,pw,h1,hl,hw⟩:=hD.wts rfl;refine⟨_,Z,_,Z,a,st,spot,Z,ha,(),(),λb H1 s1 hb=>?_⟩;have ew:R6 (ws.map V.int) (v:Int)=some (.int (ws.getD v 0)):=by
  refine cu ?_;grind
 have bd : -(2^64)<fU st spot/\fU st spot<2^64:=by
  have hm:fU st spot∈st:=by
   unfold fU;grind
  have:=ok.2 _ hm;omega
 exact⟨_,Z,d,C,dx,fs,.ref pw,Z,s1 _ _ h1,cl,nw,hl,_,Z,pw,_,_,_,Z,Z,bN.of (s1 _ _ hw),ew,_,Z,_,Z,a,_,_,_,Z,Z,cQ.of (s1 _ _ ha),Ĭ (),_,_,Z,Z,.inr bd,(),λp2 H2 n2=>⟨(),λp3 H3 n3=>q p3 _ H3 (s1.trans (n2.same.trans n3.same)) n3.here (.cons ⟨p2,b,Z,n3.same _ _ n2.here,hb.keep (.of (n2.same.trans n3.same))⟩ .nil)⟩⟩
def Gs(B:Bl mg)(d_:Dm K C "put_in" "Apart.put_in" oW iB)(jW:Dn K mg "with_number" eZ wI)(At:Hp->Addr->Prop):bf P w K mg base fX 2 d_.f d_.fd iB (Xl (pqA ws) At):=by
 have ĭ:bf P w K mg base fX 1 _ _ _ _:=tY jW;refine d_.F.ok Gm λdZ A outer s H vs Q E hr h=>?_;obtain⟨d,a,m,spot,v,st,rfl,hD,ha,ok,m4,sp,q⟩:=h;have l1:st.length=m:=ok.1;refine⟨_,(aD (bJ (kJ Xf [none,some 1,some 2]  (by kernel_rfl) Z (Cd (K:=K) Z (bB (J aA (J aA aj)))) (λ_ _ _ _ _=>(aO 0 (show(Xf:List Str).Nodup by decide))) (λ_ _ _ _ _=>gM) λ_ _ _ _ _=>(bB (J (bw ĭ hr Z jW.m jW.F.kp jW.b .nil cA (J (pv 1) (J (pv 2) (J (pv 0) aj)))) (J aA aj)))))),⟨(),λpt H1 n1=>⟨pt,Z,⟨_,cQ.of n1.here⟩,PJ (K:=K) (a:=pt) (xs:=[V.int 0,V.int 1]) (λi ys G=>aL H1 G/\Paired (Ţ G) ys ([(sV st spot 0,(0:Int)),(sV st spot 1,0)].take i)) ⟨aL.refl _,.nil⟩ (λi ys G hi ⟨sG,p⟩=>⟨cQ.of (sG _ _ n1.here),?_⟩) (λi x ys G hx ⟨sG,p⟩=>?_) λys G ⟨sG,p⟩ pr hpr=>?_⟩⟩⟩
 ·rw[aV p,gb];exact eO (cO (by show min i 2<=1000;omega))
 ·obtain⟨xx,rfl,e⟩:∃xx:Int,x=V.int xx/\[(sV st spot 0,(0:Int)),(sV st spot 1,0)].take (i+1)=[(sV st spot 0,(0:Int)),(sV st spot 1,0)].take i++[(sV st spot xx,0)]:=by
   rcases i with _|_|i
   ·cases hx;exact⟨0,Z,Z⟩
   ·cases hx;exact⟨1,Z,Z⟩
   ·cases hx
  refine⟨_,Z,_,Z,_,Z,a,st,spot,xx,Z,ha.keep (.of (n1.same.trans sG)),(),(),λb G1 s1 hb=>⟨(),λp2 G2 n2=>?_⟩⟩;have s12:=s1.trans n2.same;refine⟨sG.trans s12,?_⟩;rw[e];exact dH (Paired.cC p λ_ _ h=>h.keep (.of s12)) ⟨p2,b,Z,n2.here,hb.keep (.of n2.same)⟩
 ·have n3:=iQ.pQ (o:=.lst ys) hpr;exact q pr ys _ (n1.same.trans (sG.trans n3.same)) n3.here (Paired.cC p λ_ _ h=>h.keep (.of n3.same))
def Gu(B:Bl mg)(d_:Dm K C "put_in" "Watch.put_in" oZ iB)(jW:Dn K mg "with_number" eZ wI)(At:Hp->Addr->Prop):bf P w K mg base fX 2 d_.f d_.fd iB (Xl (ū ws) At):=by
 have ĭ:bf P w K mg base fX 1 _ _ _ _:=tY jW;refine d_.F.ok Gq λdZ A outer s H vs Q E hr h=>?_;obtain⟨d,a,m,spot,v,st,rfl,hD,ha,ok,m4,sp,q⟩:=h;have l1:st.length=m:=ok.1;refine⟨_,(aD (bJ (kJ Xf [none,some 1,some 2]  (by kernel_rfl) Z (Cd (K:=K) Z (bB (J aA (J aA aj)))) (λ_ _ _ _ _=>(aO 0 (show(Xf:List Str).Nodup by decide))) (λ_ _ _ _ _=>gM) λ_ _ _ _ _=>(bB (J (bw ĭ hr Z jW.m jW.F.kp jW.b .nil cA (J (pv 1) (J (pv 2) (J (pv 0) aj)))) (J aA aj)))))),⟨(),λpt H1 n1=>⟨pt,Z,⟨_,cQ.of n1.here⟩,PJ (K:=K) (a:=pt) (xs:=[V.int 0,V.int 2]) (λi ys G=>aL H1 G/\Paired (Ţ G) ys ([(sV st spot 0,(0:Int)),(sV st spot 2,0)].take i)) ⟨aL.refl _,.nil⟩ (λi ys G hi ⟨sG,p⟩=>⟨cQ.of (sG _ _ n1.here),?_⟩) (λi x ys G hx ⟨sG,p⟩=>?_) λys G ⟨sG,p⟩ pr hpr=>?_⟩⟩⟩
 ·rw[aV p,gb];exact eO (cO (by show min i 2<=1000;omega))
 ·obtain⟨xx,rfl,e⟩:∃xx:Int,x=V.int xx/\[(sV st spot 0,(0:Int)),(sV st spot 2,0)].take (i+1)=[(sV st spot 0,(0:Int)),(sV st spot 2,0)].take i++[(sV st spot xx,0)]:=by
   rcases i with _|_|i
   ·cases hx;exact⟨0,Z,Z⟩
   ·cases hx;exact⟨2,Z,Z⟩
   ·cases hx
  refine⟨_,Z,_,Z,_,Z,a,st,spot,xx,Z,ha.keep (.of (n1.same.trans sG)),(),(),λb G1 s1 hb=>⟨(),λp2 G2 n2=>?_⟩⟩;have s12:=s1.trans n2.same;refine⟨sG.trans s12,?_⟩;rw[e];exact dH (Paired.cC p λ_ _ h=>h.keep (.of s12)) ⟨p2,b,Z,n2.here,hb.keep (.of n2.same)⟩
 ·have n3:=iQ.pQ (o:=.lst ys) hpr;exact q pr ys _ (n1.same.trans (sG.trans n3.same)) n3.here (Paired.cC p λ_ _ h=>h.keep (.of n3.same))
def Bj(cl:Cls K C)(nw:eX K C "weights")(lw:ws.length=n)(d_:Dm K C "taken_out" "Watch.taken_out" lC iB)(jX:Dn K mg "without_number" cX wJ):bf P w K mg base fX 2 d_.f d_.fd iB (Xm (ū ws) (zK K C [] n ts ws) (λv=>v<n)):=by
 have Į:bf P w K mg base fX 1 _ _ _ _:=pG jX;refine d_.F.ok Ba λdZ A outer s H vs Q E hr h=>?_;obtain⟨d,a,m,spot,v,st,rfl,hD,ha,ok,m5,sp,vn,q⟩:=h;have l1:st.length=m:=ok.1;refine⟨_,(aF (dF (aN jE (aQ (aP (K:=K) Z) (pv 1) (pv 2)) aA)
   (aD (bJ (cG aj)))
   bQ)
   (aD (bJ (cG (J (bB (J (bw Į hr Z jX.m jX.F.kp jX.b .nil cA (J (pv 1) (J (pv 2) aj))) (J (oK (aN jE (aQ (aP (K:=K) Z) (pv 1) (pv 2)) aA) (aQ (bI (K:=K) Z) (yZ (K:=K) Z (pv 0) Z) (pv 3)) aA) aj))) aj))))),?_⟩
 obtain⟨dx,fs,pw,h1,hl,hw⟩:=hD.wts rfl;refine⟨_,Z,_,Z,a,_,_,_,Z,Z,cQ.of ha,Ĭ (),Z,_,Z,?_⟩;by_cases c0:fU st spot=0
 ·rw[bA (show V.int (fU st spot)=V.int 0 by rw[c0])];refine gZ ⟨(),λp1 H1 n1=>q p1 [] H1 n1.same n1.here ?_⟩;show Paired _ _ (if fU st spot=0 then []else _);rw[aG c0];exact .nil
 rw[cJ (show ¬V.int (fU st spot)=V.int 0 from λz=>c0 (V.int.inj z))];refine cY ⟨_,Z,_,Z,a,st,spot,Z,ha,(),(),λb H1 s1 hb=>?_⟩;have ew:R6 (ws.map V.int) (v:Int)=some (.int (ws.getD v 0)):=by
  refine cu ?_;grind
 refine⟨_,Z,_,Z,a,_,_,_,Z,Z,cQ.of (s1 _ _ ha),Ĭ (),Z,_,Z,?_⟩;have fin:∀x:Int,x=(if fU st spot=2 then ws.getD v 0 else 0)->∀p2 H2,iQ H1 p2 (.tup [.ref b,.int x]) H2->∀p3 H3,iQ H2 p3 (.lst [.ref p2]) H3->Q (.ref p3) H3:=λx ex p2 H2 n2 p3 H3 n3=>by
  refine q p3 _ H3 (s1.trans (n2.same.trans n3.same)) n3.here ?_;show Paired _ _ (if fU st spot=0 then []else [(wW st spot,if fU st spot=2 then ws.getD v 0 else 0)]);rw[aB c0,<-ex];exact .cons ⟨p2,b,Z,n3.same _ _ n2.here,hb.keep (.of (n2.same.trans n3.same))⟩ .nil
 by_cases c2:fU st spot=2
 ·rw[bA (show V.int (fU st spot)=V.int 2 by rw[c2])];exact gZ ⟨_,Z,d,C,dx,fs,.ref pw,Z,s1 _ _ h1,cl,nw,hl,_,Z,pw,_,_,_,Z,Z,bN.of (s1 _ _ hw),ew,(),λp2 H2 n2=>⟨(),λp3 H3 n3=>fin _ (by rw[aG c2]) p2 H2 n2 p3 H3 n3⟩⟩
 ·rw[cJ (show ¬V.int (fU st spot)=V.int 2 from λz=>c2 (V.int.inj z))];exact cY ⟨(),λp2 H2 n2=>⟨(),λp3 H3 n3=>fin _ () p2 H2 n2 p3 H3 n3⟩⟩
end
end K
namespace Te
open PyProof.Rows
open AutoSeq1 (wpAny_loadPart')
variable{Q:Value->Shared->Prop}
section
variable{prog:Program}{w:World}{A:Around}{E:Value->Shared->Prop}{s:Shared}{q t:Addr}{i:Nat}{ys:Array Value}
def nref(t:Addr):¬((Value.ref t==Value.none)=true):=dh
def more{y:Value}(hq:s.heap.IsTupleIter q t i)(ht:s.heap.IsTuple t ys)(hy:ys[i]?=some y)
  (k:∀g,g.IsTupleIter q t (i+1)->Heap.SameBut q s.heap g->Q y { s with heap:=g}):wpAny (model prog w) A (Builtin.SmallTypes.nextOf (.ref q)) Q E s:=by
 have ty:=hq.typeIs;obtain⟨oq,g1,g2,g3⟩:=hq;obtain⟨ot,g4,_,m,g5⟩:=ht;unfold Builtin.SmallTypes.nextOf;refine M (oE (name:=Str.ofString "__next__") ty M5 (gF M5 ty Z0 ((show wpAny _ _ (field (.ref q) 0 >>= _) _ _ s from M (gq g1 g3 (x:=.ref t) Z ((show wpAny _ _ (if(Value.ref t==Value.none)=true then _ else _) _ _ s from ?_))))) (ZX _)));rw[aB (nref t)];refine(show wpAny _ _ (field (.ref q) 1 >>= _) _ _ s from M (gq g1 g3 (x:=.int i 0) Z ((show wpAny _ _ (seqItems? (.ref t) >>= _) _ _ s from M (oJ g4 g5 ?_)))));simp only[Int.toNat_natCast,hy];refine M (wpAny_setField g1 g3 (by simp) (aq ⟨y,Z,aq (k _ ⟨_,zW _ g1 (Obj.isFreed_of_fields (Obj.data_mapFields g3 _)),(Obj.cls_mapFields ..).trans g2,?_⟩ (rO ..))⟩));rw[Obj.data_mapFields g3];simp[rawInt]
def PX(hh:A.handled=none)(hq:s.heap.IsTupleIter q t i)(ht:s.heap.IsTuple t ys)(hy:ys[i]?=none)
  (k:∀g e,Heap.ExtBut q s.heap g->(∃o,g.get? e=some o/\o.cls=.type "StopIteration")->E (.ref e) { s with heap:=g}):wpAny (model prog w) A (Builtin.SmallTypes.nextOf (.ref q)) Q E s:=by
 have ty:=hq.typeIs;obtain⟨oq,g1,g2,g3⟩:=hq;obtain⟨ot,g4,_,m,g5⟩:=ht;unfold Builtin.SmallTypes.nextOf;refine M (oE (name:=Str.ofString "__next__") ty M5 (gF M5 ty Z0 ((show wpAny _ _ (field (.ref q) 0 >>= _) _ _ s from M (gq g1 g3 (x:=.ref t) Z ((show wpAny _ _ (if(Value.ref t==Value.none)=true then _ else _) _ _ s from ?_))))) (ZX _)));rw[aB (nref t)];refine(show wpAny _ _ (field (.ref q) 1 >>= _) _ _ s from M (gq g1 g3 (x:=.int i 0) Z ((show wpAny _ _ (seqItems? (.ref t) >>= _) _ _ s from M (oJ g4 g5 ?_)))));simp only[Int.toNat_natCast,hy];refine M (kE (M (wpAny_setField g1 g3 (by simp) (show wpAny _ _ (newExc (.type "StopIteration") [] >>= _) _ _ _ from M ?_))));simp only[newExc,newTuple];refine M (j8 (M (m:=firstArgMember _ _) (Il (a:=Value.none) (by first|rfl|(simp only[firstArgMember];rfl)) (j8 ?_ (by size_fits)))) (by size_fits));simp only[raiseNew];refine M (Oe ?_);first
  |rw[show A.in1.handled=none from hh]
  |rw[hh]
 refine M (aq (Oi (k _ _ (((rO ..).extBut.push _).push _) ⟨_,bW _ Z,Z⟩)))
def keepI{h h':Heap}(x:h.IsTupleIter q t i)(k:∀o,h.get? q=some o->h'.get? q=some o):h'.IsTupleIter q t i:=by
 obtain⟨o,e,r⟩:=x;exact⟨o,k o e,r⟩
def zL{h h':Heap}(x:h.IsTuple t ys)(k:∀o,h.get? t=some o->h'.get? t=some o):h'.IsTuple t ys:=by
 obtain⟨o,e,r⟩:=x;exact⟨o,k o e,r⟩
def draws(hh:A.handled=none)(q t:Addr)(ne:t≠q)(ys:Array Value):Draws prog w A q [q,t] ys.size (λj v=>ys[j]?=some v) (λj h=>h.IsTupleIter q t j/\h.IsTuple t ys) where
 live:=λ_ _ st=>by
  obtain⟨⟨o,e,_⟩,_⟩:=st
  exact⟨o,e⟩
 frame:=λ_ _ _ st k=>⟨keepI st.1 λo e=>k q (by simp) o e,zL st.2 λo e=>k t (by simp) o e⟩
 item:=λj s Q E lt st k=>more st.1 st.2 (y:=ys[j]) (by simp[lt]) λg hg sb=>k _ g s.toks (by simp[lt]) ⟨hg,zL st.2 λo e=>sb.extBut _ _ ne e⟩ sb
 done:=λs Q E st k=>PX hh st.1 st.2 (by simp) k
end
set_option tactic.hygienic true in
def į(t:Addr)(ys:Array Value)(m:Nat)(dct:Option Addr)(sl:Array (Option Value)) :
  Meets (Builtin.«enumerate.__new__» ⟨[.type "enumerate",.ref t],[]⟩) (λ_ R s=>s.heap.get? t=some { cls:=.type "tuple",dict:=dct,data:=.seq ys m,slots:=sl}/\
   R (.ok (.ret (.ref (s.heap.push { cls:=.type "tuple_iterator",data:=.fields #[.ref t,.int 0 0]}).objs.size))) { s with heap:=(s.heap.push { cls:=.type "tuple_iterator",data:=.fields #[.ref t,.int 0 0]}).push { cls:=.type "enumerate",data:=.fields #[.none,.bool false,.ref s⁻¹,rawInt 0,.none,.none]}}) :=
 .of_wp λprog w A R s h=>by
  obtain⟨hp,g,d,tk,os⟩:=s;obtain⟨hl,h⟩:=h;have sub:=sub_enumerate;have hT:Heap.IsTuple (Shared.heap ⟨hp,g,d,tk,os⟩) t ys:=⟨_,hl,Z,m,Z⟩
  wp_walk using Ac hl
  refine wpAny_stack_any λst=>aq ?_;split
  ·rename_i c _ _ _ _ _;cases(c==Value.type "enumerate")<;>(wp_walk using Ac hl,Dw hT;exact⟨_,Z,h⟩)
  ·wp_walk using Ac hl,Dw hT
   exact⟨_,Z,h⟩
section
variable{prog:Program}{w:World}{A:Around}{E:Value->Shared->Prop}{s:Shared}
def Zn{t:Addr}{ys:Array Value}(hT:s.heap.IsTuple t ys)
  (h:∀g,IsEnum g (s⁻¹+1) s⁻¹ 0 .none->g.IsTupleIter s⁻¹ t 0->(∀b o,s.heap.get? b=some o->g.get? b=some o)->Q (.ref (s⁻¹+1)) { s with heap:=g}) :
  wpAny (model prog w) A (call (.type "enumerate") [.ref t]) Q E s:=by
 obtain⟨⟨c,dct,dt,sl⟩,hl,hc,n,hd⟩:=hT;replace hc:c=.type "tuple" := hc;replace hd:dt=.seq ys n:=hd;subst hc hd;refine callType_new PySem.F.called_enumerate () (PySem.F.typeCall_enumerate_1 _) (PySem.F.newCall_enumerate_1 _) (λobj=>PySem.F.args_object_init_2 obj _) PySem.F.entry_enumerate_new (į t ys n dct sl) ⟨hl,?_⟩;have sz:(s.heap.push { cls:=.type "tuple_iterator",data:=.fields #[.ref t,.int 0 0]}).objs.size=s⁻¹+1:=kh ..;show _/\_;rw[sz];have he:IsEnum ((s.heap.push { cls:=.type "tuple_iterator",data:=.fields #[.ref t,.int 0 0]}).push { cls:=.type "enumerate",data:=.fields #[.none,.bool false,.ref s⁻¹,rawInt 0,.none,.none]}) (s⁻¹+1) s⁻¹ 0 .none:=by
  have:=bW (s.heap.push { cls:=.type "tuple_iterator",data:=.fields #[.ref t,.int 0 0]}) (o:={ cls:=.type "enumerate",data:=.fields #[.none,.bool false,.ref s⁻¹,rawInt 0,.none,.none]}) rfl;rw[sz]at this;exact this
 exact⟨⟨_,he,Z⟩,h _ he ⟨_,bL _ (bW _ Z),Z,Z⟩ λb o x=>bL _ (bL _ x)⟩
end
end Te
namespace L2
open PyProof.Rows
variable{K:aJ}
def a3v(K:aJ)(a:Addr):It :=
 ⟨λi H=>∃xs x,cQ K H a xs/\xs[i]?=some x,λi H x H'=>∃p y,x=.ref p/\iQ H p (.tup [.int i,y]) H'/\∀xs,cQ K H a xs->xs[i]?=some y,λi H=>∃xs,cQ K H a xs/\xs.length=i⟩
def Mv{h:Heap}{a it:Addr}{ys:Array Value}{i:Nat}(ht:h.IsTuple a ys)(hi:h.IsTupleIter it a i):a≠it:=λz=>by
 obtain⟨o,e,c,_⟩:=ht;obtain⟨o',e',c',_⟩:=hi;grind
def V0{P:Program}{w:World}{elts:List Expr}{k:Nat}{pos:Pos}(a it e:Addr)(hei:e≠it):Turn P w K (.Tuple elts k pos) (a3v K a) [e,it] e (λi h=>(∃old,IsEnum h e it i old)/\h.IsTupleIter it a i) where
 mem:=by simp
 obj:=λi h st b hb=>by
  obtain⟨⟨old,he⟩,hit⟩:=st
  rcases bZ.mp hb with rfl|hb
  ·grind
  ·rw[bG.mp hb]
   obtain⟨o,e1,c,d⟩:=hit
   grind
 keep:=λi h h' st kk=>by
  obtain⟨⟨old,he⟩,hit⟩:=st
  exact⟨⟨old,kk e (by simp) _ he⟩,Te.keepI hit λo q=>kk it (by simp) o q⟩
 item:=by
  intro X hP hw hK hc i Y s σ H E I hf st hg
  subst hP hw hK
  obtain⟨xs,x,hq,hx⟩:=hg
  obtain⟨bV,rv,pl,hz⟩:=I.tuple hq
  have pl:s.heap.IsTuple a bV.toArray:=pl
  obtain⟨u,hu,ru⟩:=rv.get hx
  obtain⟨⟨old,he⟩,hit⟩:=st
  have hlt:i<bV.toArray.size:=by
   grind
  have hea:e≠a:=λz=>by
   obtain⟨o,e1,c,_⟩:=pl
   grind
  refine wpAny_pyNext_enum_itemD (Te.draws (show X.A.in1.handled=none from I.ok.hd hc) it a (Mv pl hit) bV.toArray) he ⟨hit,pl⟩ hlt hei () λu' h' tk hu' ho hst hT hsz hk=>?_
  have eu:u'=u:=by
   have:bV[i]?=some u':=by simpa using hu'
   rw[hu]at this
   exact(dB this).symm
  subst eu
  refine⟨_,Z,Z6 ho λh2 he2 hs2=>?_⟩
  have eT:s⁻¹≠e:=gG (aY he)
  have iT:s⁻¹≠it:=by
   obtain⟨o,e1,_⟩:=hit
   exact gG (aY e1)
  have hT2:h2.get? s⁻¹=some { cls:=.type "tuple",data:=.seq #[.int i tk,u']}:=(hs2.2 _ eT).trans hT
  have kp:∀b o,b∉[e,it]->s.heap.get? b=some o->h2.get? b=some o:=λb o hb q=>by
   simp only[List.mem_cons,List.not_mem_nil,or_false,not_or]at hb
   exact(hs2.2 b hb.1).trans (hk b o hb.1 hb.2 q)
  have I1:bH X Y σ H { s with heap:=h2,toks:=tk+1}:=(yX I [e,it] (λc hc=>hf c hc) kp).tok (tk+1)
  have hfree:H s⁻¹=none:=I.hok.fresh (aM _)
  have I2:bH X Y σ (cN H s⁻¹ (.tup [.int i,x])) { s with heap:=h2,toks:=tk+1}:=by
   refine bH.track I1 hfree I.sz (gG I.lt) (λy c q=>?_) (λp hp=>b7 (aY (I.pin p hp).1)) ⟨(by show 2<=sizeLine;decide),[.int i tk,u'],.cons ⟨_,Z⟩ (.cons ru .nil),⟨_,hT2,Z,_,Z⟩⟩
   obtain⟨v,oc,q1,_⟩:=I.cell y c q
   exact b7 (aY q1)
  refine⟨.ref s⁻¹,_,I2,Z,⟨_,x,Z,iQ.pQ hfree,λys hy=>by rw[I.yQ hy hq];exact hx⟩,⟨⟨u',?_⟩,Te.keepI hst.1 λo q=>(hs2.2 it (Ne.symm hei)).trans q⟩,λb hb=>?_⟩
  ·grind
  ·have f0:=(hf b hb).1
   rw[aW ?_]
   ·exact f0
   grind
 done:=by
  intro X hP hw hK hc i Y s σ H E I hf st hg
  subst hP hw hK
  obtain⟨xs,hq,hx⟩:=hg
  obtain⟨bV,rv,pl,hz⟩:=I.tuple hq
  have pl:s.heap.IsTuple a bV.toArray:=pl
  obtain⟨⟨old,he⟩,hit⟩:=st
  obtain⟨g0,g1,g2,g3,g4,g5⟩:=hf it (by simp)
  have hl:bV.toArray.size=i:=by rw[gn,<-hx];exact rv.length.symm
  exact wpAny_pyNext_enum_endD (Te.draws (show X.A.in1.handled=none from I.ok.hd hc) it a (Mv pl hit) bV.toArray) he ⟨(),pl⟩ λh' eb=>⟨Z,I.turned (t':=s.toks) (λb o hb q=>eb b o hb q) g0 g1 g3 g4 g5⟩
 self:=λ_ _ _ _ _ st h=>by
  obtain⟨⟨old,he⟩,_⟩:=st
  exact Nz he h
section
variable{X:Cx}
def a3w(K:aJ)(ta:TA):TI:=λσ H R=>ta σ H λvs H1=>∃a,vs=[.ref a]/\(∃xs,cQ K H1 a xs)/\R (a3v K a) H1
def İ{elts:List Expr}{k:Nat}{tpos:Pos}{l:Expr}{ta:TA}{p pos:Pos}(e0:X.K=K)(hg:Gl X "enumerate")(hm:X.mg "enumerate" = none)(ha:PA X [l] ta)(hs:@&(starEach [l] X.env=[(false,eval l X.env)])) :
  PI X (.Tuple elts k tpos) (.Call (.Name "enumerate" p) [l] [] pos) (a3w K ta):=by
 subst e0;intro Y s σ H R I h;refine xq (vU I hg hm boot_enumerate (zQ (jG (ha pos Y s σ H _ I h) λus s1 ⟨vs,H1,I1,r1,q1⟩=>?_) hs (by rfl)));obtain⟨a,e,⟨xs,hq⟩,q⟩:=q1;subst e;obtain⟨u,rfl,ru⟩:=vals1 r1;cases ru;obtain⟨bV,rv,pl,hz⟩:=I1.tuple hq;refine Te.Zn (show s1.heap.IsTuple a bV.toArray from pl) λh' he hit hk=>Nz he ?_;have I2:bH X Y σ H1 { s1 with heap:=h'}:=I1.kept (t':=s1.toks) hk;refine⟨s1⁻¹+1,[s1⁻¹+1,s1⁻¹],_,_,H1,Z,I2,V0 a s1⁻¹ (s1⁻¹+1) (gG (xu _)),⟨⟨_,he⟩,hit⟩,λb hb=>?_,q⟩;have hb':s1⁻¹<=b:=by
  grind
 exact I1.Gf hb' (I1.hok.fresh hb')
end
def ı{a:Addr}{xs:List V}{ix:List (Option Nat)}{g:TG}{tt:TT}{te:TE}{σ:St}{H1:Hp}{Q:VK}(Pv:Nat->List V->Hp->Prop)(h0:Pv 0 [] H1)(hl:∀i ys H,i<=xs.length->Pv i ys H->cQ K H a xs/\ys.length<=sizeLine)
  (hs:∀(i:Nat) x ys H p H0,xs[i]?=some x->Pv i ys H->iQ H p (.tup [.int i,x]) H0->g (.ref p) (qM ix σ) H0 λσ2 H2=>tt σ2 H2 λb H3=>if b=true then te σ2 H3 λv H4=>Pv (i+1) (ys++[v]) H4 else Pv (i+1) ys H3)
  (hd:∀ys H,Pv xs.length ys H->∀p,H p=none->Q (.ref p) (cN H p (.lst ys))):nF ix g tt te σ H1 Q (a3v K a):=by
 refine⟨λi m ys H=>m=xs.length-i/\i<=xs.length/\Pv i ys H,⟨xs.length,by simp,dw _,h0⟩,?_⟩;rintro i m ys H ⟨rfl,hi,p⟩;obtain⟨q,z⟩:=hl i ys H hi p;by_cases hlt:i<xs.length
 ·refine .inr ⟨⟨xs,xs[i],q,by simp[hlt]⟩,z,Pv (i+1),λys' H' p'=>⟨xs.length-(i+1),(),Z,hlt,p'⟩,λx H' y=>?_⟩;obtain⟨pp,y0,rfl,nw,ex⟩:=y;exact hs i y0 ys H pp H' (ex xs q) p nw
 ·have e:i=xs.length:=()
  subst e;exact .inl ⟨⟨xs,q,Z⟩,z,hd ys H p⟩
end L2
namespace Tz
open PyProof.Rows
variable{a z I Z96 b i1 i2:Addr}{f0 f1 x:Value}{k:Nat}{xs ys:Array Value}{Q:Value->Shared->Prop}
abbrev Zo(h:Heap)(z I Z96:Addr)(f0 f1:Value):Prop:=h.get? z=some { cls:=.type "zip",dict:=none,data:=.fields #[f0,f1,.bool false,.ref I,.ref Z96],slots:=#[]}
abbrev Po(h:Heap)(T:Addr)(a b:Value):Prop:=h.get? T=some { cls:=.type "tuple",data:=.seq #[a,b]}
section
variable{Z98:Model}{prog:Program}{w:World}{A:Around}{E:Value->Shared->Prop}{s:Shared}
def alive{Q:Option Obj->Shared->Prop}(h:Q (s.heap.get? a) s):wpAny Z98 A (loadIfAlive a) Q E s:=λ_ _ _=>h
def Xy{Q:Bool->Shared->Prop}(hz:Zo s.heap z I Z96 f0 f1)(hf:f0=.none\/∃T:Nat,f0=rawInt (T:Int))(yes:Q true s)(no:∀g b,Zo g z I Z96 f0 b->Heap.SameBut z s.heap g->Q false { s with heap:=g}) :
  wpAny (model prog w) A (Builtin.SmallTypes.ownedTupleIsFree (.ref z)) Q E s:=by
 unfold Builtin.SmallTypes.ownedTupleIsFree;refine M (gq hz Z (x:=f0) Z ?_);rcases hf with rfl|⟨T,rfl⟩
 ·exact aq yes
 ·show wpAny _ _ (loadIfAlive _ >>= _) _ _ s;refine M (alive ?_);cases c:s.heap.get? ((T:Int).toNat)with
  |none=>exact aq yes
  |some o =>
   show wpAny _ _ (field (.ref z) 1 >>= _) _ _ s;refine M (gq hz Z (x:=f1) Z ?_);by_cases e:(f1 != Value.bool true)=true
   ·rw[aG e];refine M (iR hz (by simp) λg hg sb=>aq (no g _ hg sb))
   ·rw[aB e];exact M (aq (aq (no s.heap f1 hz ⟨Z,λ_ _=>rfl⟩)))
def Fr0(f0:Value):Prop:=f0=.none\/∃T:Nat,f0=rawInt (T:Int)
def Xz{T:Addr}{a b:Value}{Q:Unit->Shared->Prop}(hT:Po s.heap T a b)
  (h:∀g,g.get? T=some { cls:=.type "tuple",data:=.seq ((#[a,b]:Array Value).setIfInBounds k x)}->Heap.SameBut T s.heap g->Q ⟨⟩ { s with heap:=g}):wpAny (model prog w) A (updateSeq T (·.setIfInBounds k x)) Q E s:=wpAny_updateSeq_pair hT h
def item{y c d:Value}(D:ZipApart z I Z96 i1 i2 a b)(hz:Zo s.heap z I Z96 f0 f1)(hf:Fr0 f0)(hI:Po s.heap I (.ref i1) (.ref i2))(hO:Po s.heap Z96 c d)
  (h1:s.heap.IsTupleIter i1 a k) (h2:s.heap.IsTupleIter i2 b k) (t1:s.heap.IsTuple a xs) (t2:s.heap.IsTuple b ys) (hx:xs[k]?=some x) (hy:ys[k]?=some y)
  (hQ:∀g,(∃e0 e1,Zo g z I Z96 e0 e1/\Fr0 e0)->(∃c d,Po g Z96 c d)->g.IsTupleIter i1 a (k+1)->g.IsTupleIter i2 b (k+1)->Po g s⁻¹ x y->(∀c o,c≠z->c≠Z96->c≠i1->c≠i2->s.heap.get? c=some o->g.get? c=some o)->Q (.ref s⁻¹) { s with heap:=g}) :
  wpAny (model prog w) A (Builtin.«zip.__next__» ⟨[.ref z],[]⟩) (λfin s'=>∃v,fin=.done (.ret v)/\Q v s') E s:=by
 refine(show wpAny _ _ (field (.ref z) 2 >>= _) _ _ _ from M (gq hz Z (x:=.bool false) Z ((show wpAny _ _ (field (.ref z) 3 >>= _) _ _ _ from M (gq hz Z (x:=.ref I) Z (M (oJ hI Z ((show wpAny _ _ (Builtin.SmallTypes.ownedTupleIsFree (.ref z) >>= _) _ _ _ from M (Xy hz hf ?_ λg0 b0 hz0 sb0=>?_))))))))))
 ·simp only[if_true];refine M (kE (M (gq hz Z (x:=.ref Z96) Z (M (iR hz (by simp) λg1 hz1 Eg=>M ?_)))));replace hz1:Zo g1 z I Z96 .ellipsis f1:=hz1;simp only[List.zipIdx_cons,List.zipIdx_nil,List.forIn_cons,List.forIn_nil];refine M (M (Ae ((show wpAny _ _ (Builtin.SmallTypes.nextOf (.ref i1) >>= _) _ _ _ from M (Te.more (Te.keepI h1 λo e=>Eg.extBut _ _ D.i1z e) (Te.zL t1 λo e=>Eg.extBut _ _ D.l1z e) hx λg2 k1 Q7=>aq ?_)))));have hO2:Po g2 Z96 c d:=Q7.extBut _ _ D.TOi1 (Eg.extBut _ _ D.TOz hO);refine M (oJ hO2 Z (M (Xz hO2 λg3 hO3 YK=>M (xO (aq (M (M (Ae ?_))))))));replace hO3:Po g3 Z96 x d:=hO3;have st:∀c' o,c'≠z->c'≠i1->c'≠Z96->s.heap.get? c'=some o->g3.get? c'=some o:=λc' o n1 n2 n3 e=>YK.extBut _ _ n3 (Q7.extBut _ _ n2 (Eg.extBut _ _ n1 e));refine(show wpAny _ _ (Builtin.SmallTypes.nextOf (.ref i2) >>= _) _ _ _ from M (Te.more (Te.keepI h2 λo e=>st _ _ D.i2z D.i12.symm D.TOi2.symm e) (Te.zL t2 λo e=>st _ _ D.l2z D.l2i1 D.l2TO e) hy λg4 k2 Ĵ=>aq ?_));have hO4:Po g4 Z96 x d:=Ĵ.extBut _ _ D.TOi2 hO3;refine M (oJ hO4 Z (M (Xz hO4 λg5 hO5 sb5=>M (xO (aq (aq ?_))))));replace hO5:Po g5 Z96 x y:=hO5;refine M (oJ hO5 Z (M (Ih ?_)));have sz:g5.objs.size=s⁻¹:=by rw[sb5.1,Ĵ.1,YK.1,Q7.1,Eg.1]
  have hz5:Zo g5 z I Z96 .ellipsis f1:=sb5.extBut _ _ D.TOz.symm (Ĵ.extBut _ _ D.i2z.symm (YK.extBut _ _ D.TOz.symm (Q7.extBut _ _ D.i1z.symm hz1)));have st5:∀c' o,c'≠z->c'≠Z96->c'≠i1->c'≠i2->s.heap.get? c'=some o->g5.get? c'=some o:=λc' o n1 n2 n3 n4 e=>sb5.extBut _ _ n2 (Ĵ.extBut _ _ n4 (st c' o n1 n3 n2 e));have k1':g5.IsTupleIter i1 a (k+1):=Te.keepI k1 λo e=>sb5.extBut _ _ D.TOi1.symm (Ĵ.extBut _ _ D.i12 (YK.extBut _ _ D.TOi1.symm e));have k2':g5.IsTupleIter i2 b (k+1):=Te.keepI k2 λo e=>sb5.extBut _ _ D.TOi2.symm e;have zl:z<g5.objs.size:=aY hz5;refine(show wpAny _ _ (Builtin.SmallTypes.ownedTupleHandOut (.ref z) (.ref g5.objs.size) >>= _) _ _ _ from M ?_);unfold Builtin.SmallTypes.ownedTupleHandOut;have hz6:Zo (g5.push { cls:=.type "tuple",data:=.seq #[x,y]}) z I Z96 .ellipsis f1:=bL _ hz5;refine M (iR hz6 (by simp) λg7 hz7 sb7=>?_);replace hz7:Zo g7 z I Z96 (rawInt g5.objs.size) f1:=hz7;refine iR hz7 (by simp) λg8 hz8 sb8=>?_;replace hz8:Zo g8 z I Z96 (rawInt g5.objs.size) (.bool false):=hz8;have up:∀c' o,c'≠z->g5.get? c'=some o->g8.get? c'=some o:=λc' o n1 e=>sb8.extBut _ _ n1 (sb7.extBut _ _ n1 (bL _ e));have hT8:Po g8 g5.objs.size x y:=sb8.extBut _ _ (gG zl) (sb7.extBut _ _ (gG zl) (bW _ Z));refine aq ⟨_,Z,?_⟩;show Q (.ref g5.objs.size) _;rw[sz]at hT8 ⊢;exact hQ g8 ⟨_,_,hz8,.inr ⟨_,Z⟩⟩ ⟨_,_,up _ _ D.TOz hO5⟩ (Te.keepI k1' λo e=>up _ o D.i1z e) (Te.keepI k2' λo e=>up _ o D.i2z e) hT8 λc' o n1 n2 n3 n4 e=>up c' o n1 (st5 c' o n1 n2 n3 n4 e)
 ·rw[aB dh];refine(show wpAny _ _ (forIn (#[Value.ref i1,Value.ref i2]:Array Value) _ _ >>= _) _ _ _ from ?_);rw[<-Tq];simp only[List.forIn_cons,List.forIn_nil];refine M (M (M (fG ((show wpAny _ _ (Builtin.SmallTypes.nextOf (.ref i1) >>= _) _ _ _ from M (Te.more (Te.keepI h1 λo e=>sb0.extBut _ _ D.i1z e) (Te.zL t1 λo e=>sb0.extBut _ _ D.l1z e) hx λg2 k1 Q7=>aq (aq (M (M (fG ?_))))))))));have st:∀c' o,c'≠z->c'≠i1->s.heap.get? c'=some o->g2.get? c'=some o:=λc' o n1 n2 e=>Q7.extBut _ _ n2 (sb0.extBut _ _ n1 e);refine(show wpAny _ _ (Builtin.SmallTypes.nextOf (.ref i2) >>= _) _ _ _ from M (Te.more (Te.keepI h2 λo e=>st _ _ D.i2z D.i12.symm e) (Te.zL t2 λo e=>st _ _ D.l2z D.l2i1 e) hy λg4 k2 Ĵ=>aq (aq (aq ?_))));refine M (Ih ?_ (show 2<=sizeLine by decide));have sz:g4.objs.size=s⁻¹:=by rw[Ĵ.1,Q7.1,sb0.1]
  have hz4:Zo g4 z I Z96 f0 b0:=Ĵ.extBut _ _ D.i2z.symm (Q7.extBut _ _ D.i1z.symm hz0);have hO4:Po g4 Z96 c d:=Ĵ.extBut _ _ D.TOi2 (st _ _ D.TOz D.TOi1 hO);have k1':g4.IsTupleIter i1 a (k+1):=Te.keepI k1 λo e=>Ĵ.extBut _ _ D.i12 e;have up:∀c' o,g4.get? c'=some o->(g4.push { cls:=.type "tuple",data:=.seq #[x,y]}).get? c'=some o:=λc' o e=>bL _ e;have hT:Po (g4.push { cls:=.type "tuple",data:=.seq #[x,y]}) g4.objs.size x y:=bW _ rfl;refine aq ⟨_,Z,?_⟩;show Q (.ref g4.objs.size) _;rw[sz]at hT ⊢;exact hQ _ ⟨_,_,up _ _ hz4,hf⟩ ⟨_,_,up _ _ hO4⟩ (Te.keepI k1' λo e=>up _ o e) (Te.keepI k2 λo e=>up _ o e) hT λc' o n1 n2 n3 n4 e=>up c' o (Ĵ.extBut _ _ n4 (st c' o n1 n3 e))
def ended{Q:Fin->Shared->Prop}(hh:A.handled=none)(D:ZipApart z I Z96 i1 i2 a b)(hz:Zo s.heap z I Z96 f0 f1)(hf:Fr0 f0)(hI:Po s.heap I (.ref i1) (.ref i2))
  (h1:s.heap.IsTupleIter i1 a k) (t1:s.heap.IsTuple a xs) (hx:xs[k]?=none)
  (hE:∀g e,(∀c o,c≠z->c≠Z96->c≠i1->c≠i2->s.heap.get? c=some o->g.get? c=some o)->(∃o,g.get? e=some o/\o.cls=.type "StopIteration")->E (.ref e) { s with heap:=g}) :
  wpAny (model prog w) A (Builtin.«zip.__next__» ⟨[.ref z],[]⟩) Q E s:=by
 refine(show wpAny _ _ (field (.ref z) 2 >>= _) _ _ _ from M (gq hz Z (x:=.bool false) Z ((show wpAny _ _ (field (.ref z) 3 >>= _) _ _ _ from M (gq hz Z (x:=.ref I) Z (M (oJ hI Z ((show wpAny _ _ (Builtin.SmallTypes.ownedTupleIsFree (.ref z) >>= _) _ _ _ from M (Xy hz hf ?_ λg0 b0 hz0 sb0=>?_))))))))))
 ·simp only[if_true];refine M (kE (M (gq hz Z (x:=.ref Z96) Z (M (iR hz (by simp) λg1 hz1 Eg=>M ?_)))));replace hz1:Zo g1 z I Z96 .ellipsis f1:=hz1;simp only[List.zipIdx_cons,List.zipIdx_nil,List.forIn_cons,List.forIn_nil];refine M (M (Ae ((show wpAny _ _ (Builtin.SmallTypes.nextOf (.ref i1) >>= _) _ _ _ from M (Te.PX hh (Te.keepI h1 λo e=>Eg.extBut _ _ D.i1z e) (Te.zL t1 λo e=>Eg.extBut _ _ D.l1z e) hx λg2 e2 Q7 st2=>?_)))));obtain⟨oe,hoe,hce⟩:=st2;have hz2:Zo g2 z I Z96 .ellipsis f1:=Q7 _ _ D.i1z.symm hz1;have nez:e2≠z:=λv=>by
   grind
  exact iR hz2 (by simp) λg3 _ YK=>hE g3 e2 (λc' o n1 _ n3 _ v=>YK.extBut _ _ n1 (Q7 _ _ n3 (Eg.extBut _ _ n1 v))) ⟨oe,YK.extBut _ _ nez hoe,hce⟩
 ·rw[aB dh];refine(show wpAny _ _ (forIn (#[Value.ref i1,Value.ref i2]:Array Value) _ _ >>= _) _ _ _ from ?_);rw[<-Tq];simp only[List.forIn_cons,List.forIn_nil];exact M (M (M (fG ((show wpAny _ _ (Builtin.SmallTypes.nextOf (.ref i1) >>= _) _ _ _ from M (Te.PX hh (Te.keepI h1 λo e=>sb0.extBut _ _ D.i1z e) (Te.zL t1 λo e=>sb0.extBut _ _ D.l1z e) hx λg2 e2 Q7 st2=>hE g2 e2 (λc' o n1 _ n3 _ v=>Q7 _ _ n3 (sb0.extBut _ _ n1 v)) st2))))))
def next_item{y c d:Value}{Q:Option Value->Shared->Prop}(D:ZipApart z I Z96 i1 i2 a b)(hz:Zo s.heap z I Z96 f0 f1)(hf:Fr0 f0)(hI:Po s.heap I (.ref i1) (.ref i2))(hO:Po s.heap Z96 c d)
  (h1:s.heap.IsTupleIter i1 a k) (h2:s.heap.IsTupleIter i2 b k) (t1:s.heap.IsTuple a xs) (t2:s.heap.IsTuple b ys) (hx:xs[k]?=some x) (hy:ys[k]?=some y)
  (hQ:∀g,(∃e0 e1,Zo g z I Z96 e0 e1/\Fr0 e0)->(∃c d,Po g Z96 c d)->g.IsTupleIter i1 a (k+1)->g.IsTupleIter i2 b (k+1)->Po g s⁻¹ x y->(∀c o,c≠z->c≠Z96->c≠i1->c≠i2->s.heap.get? c=some o->g.get? c=some o)->Q (some (.ref s⁻¹)) { s with heap:=g}) :
  wpAny (model prog w) A (pyNext (.ref z)) Q E s:=by
 have ty:s.TypeIs (.ref z) "zip" :=⟨_,hz,Z⟩;unfold pyNext;exact M (tK (oE (name:=Str.ofString "__next__") ty Nr (gF Nr ty PySem.F.entry_zip_next (item D hz hf hI hO h1 h2 t1 t2 hx hy λg a1 a2 a3 a4 a5 a6=>aq (hQ g a1 a2 a3 a4 a5 a6)) (PySem.F.args_zip_next_1 _))))
def next_end{Q:Option Value->Shared->Prop}(hh:A.handled=none)(D:ZipApart z I Z96 i1 i2 a b)(hz:Zo s.heap z I Z96 f0 f1)(hf:Fr0 f0)(hI:Po s.heap I (.ref i1) (.ref i2))
  (h1:s.heap.IsTupleIter i1 a k) (t1:s.heap.IsTuple a xs) (hx:xs[k]?=none) (hQ:∀g,(∀c o,c≠z->c≠Z96->c≠i1->c≠i2->s.heap.get? c=some o->g.get? c=some o)->Q none { s with heap:=g}):wpAny (model prog w) A (pyNext (.ref z)) Q E s:=by
 have ty:s.TypeIs (.ref z) "zip" :=⟨_,hz,Z⟩;unfold pyNext;refine M (tK (oE (name:=Str.ofString "__next__") ty Nr (gF Nr ty PySem.F.entry_zip_next (ended hh D hz hf hI h1 t1 hx λg e fr st=>?_) (PySem.F.args_zip_next_1 _))));obtain⟨o,ho,hc⟩:=st;exact M (vM (T:="StopIteration") (b:=true) ⟨o,ho,hc⟩ Ii (aq (hQ _ fr)))
def Mw(hz:Zo s.heap z I Z96 f0 f1)(h:Q (.ref z) s):wpAny (model prog w) A (pyIter (.ref z)) Q E s:=by
 have ty:s.TypeIs (.ref z) "zip" :=⟨_,hz,Z⟩;exact Ia ty PySem.F.slot_zip_iter (gF PySem.F.slot_zip_iter ty PySem.F.entry_zip_iter (show wpAny _ _ (ret (.ref z)) _ _ s from aq ⟨_,Z,"zip",_,ty,PySem.F.slot_zip_next.lookup,h⟩) (PySem.F.args_zip_iter_1 _))
end
abbrev z1(h:Heap)(a:Addr):Heap:=h.push { cls:=.type "tuple_iterator",data:=.fields #[.ref a,.int 0 0]}
abbrev z2(h:Heap)(a b:Addr):Heap:=(z1 h a).push { cls:=.type "tuple_iterator",data:=.fields #[.ref b,.int 0 0]}
abbrev z3(h:Heap)(a b:Addr):Heap:=(z2 h a b).push { cls:=.type "tuple",data:=.seq #[.ref h.objs.size,.ref (z1 h a).objs.size]}
abbrev z4(h:Heap)(a b:Addr):Heap:=(z3 h a b).push { cls:=.type "tuple",data:=.seq #[.none,.none]}
abbrev z5(h:Heap)(a b:Addr):Heap:=(z4 h a b).push { cls:=.type "zip",data:=.fields #[.none,.bool false,.bool false,.ref (z2 h a b).objs.size,.ref (z3 h a b).objs.size]}
def a0U(a b:Addr)(xs ys:Array Value):Meets (Builtin.«zip.__new__» ⟨[.type "zip",.ref a,.ref b],[]⟩) (λ_ R s=>s.heap.IsTuple a xs/\s.heap.IsTuple b ys/\R (.ok (.ret (.ref (z4 s.heap a b).objs.size))) { s with heap:=z5 s.heap a b}) :=
 .of_wp λprog w A R s h=>by
  obtain⟨hp,g,d,tk,os⟩:=s;obtain⟨ha,hb,h⟩:=h;have sub:=sub_zip;have hA:Heap.IsTuple (Shared.heap ⟨hp,g,d,tk,os⟩) a xs:=ha;have hB:Heap.IsTuple (Shared.heap ⟨hp.push { cls:=.type "tuple_iterator",data:=.fields #[.ref a,.int 0 0]},g,d,tk,os⟩) b ys:=Te.zL hb λo e=>bL _ e
  wp_walk using Dw hA,Dw hB
  exact⟨_,Z,h⟩
section
variable{prog:Program}{w:World}{A:Around}{E:Value->Shared->Prop}{s:Shared}
def ĵ(ha:s.heap.IsTuple a xs)(hb:s.heap.IsTuple b ys)
  (h:∀g,Zo g (s⁻¹+4) (s⁻¹+2) (s⁻¹+3) .none (.bool false)->Po g (s⁻¹+2) (.ref s⁻¹) (.ref (s⁻¹+1))->Po g (s⁻¹+3) .none .none->g.IsTupleIter s⁻¹ a 0->g.IsTupleIter (s⁻¹+1) b 0->(∀c o,s.heap.get? c=some o->g.get? c=some o)->Q (.ref (s⁻¹+4)) { s with heap:=g}) :
  wpAny (model prog w) A (call (.type "zip") [.ref a,.ref b]) Q E s:=by
 refine callType_new PySem.F.called_zip () (PySem.F.typeCall_zip_2 _ _) (PySem.F.newCall_zip_2 _ _) (λobj=>PySem.F.args_object_init_3 obj _ _) PySem.F.entry_zip_new (a0U a b xs ys) ⟨ha,hb,?_⟩;have e1:(z1 s.heap a).objs.size=s⁻¹+1:=kh ..;have e2:(z2 s.heap a b).objs.size=s⁻¹+2:=by rw[kh,e1]
 have e3:(z3 s.heap a b).objs.size=s⁻¹+3:=by rw[kh,e2]
 have e4:(z4 s.heap a b).objs.size=s⁻¹+4:=by rw[kh,e3]
 have up:=λ(h:Heap) (u:Obj) (c:Addr) (o:Obj) (e:h.get? c=some o)=>bL u e;have k5:(z5 s.heap a b).get? (z4 s.heap a b).objs.size=some _:=bW _ rfl;have k4:(z5 s.heap a b).get? (z3 s.heap a b).objs.size=some _:=up _ _ _ _ (bW _ Z);have k3:(z5 s.heap a b).get? (z2 s.heap a b).objs.size=some _:=up _ _ _ _ (up _ _ _ _ (bW _ Z));have k2:(z5 s.heap a b).get? (z1 s.heap a).objs.size=some _:=up _ _ _ _ (up _ _ _ _ (up _ _ _ _ (bW _ Z)));have k1:(z5 s.heap a b).get? s⁻¹=some _:=up _ _ _ _ (up _ _ _ _ (up _ _ _ _ (up _ _ _ _ (bW _ Z))));show _/\_;rw[e2,e3,e4]at k5;rw[e1,e2]at k3;rw[e3]at k4;rw[e1]at k2;rw[e4];exact⟨⟨_,k5,Z⟩,h _ k5 k3 k4 ⟨_,k1,Z,Z⟩ ⟨_,k2,Z,Z⟩ λc o x=>up _ _ _ _ (up _ _ _ _ (up _ _ _ _ (up _ _ _ _ (up _ _ _ _ x))))⟩
end
end Tz
namespace L2
open PyProof.Rows
variable{K:aJ}
def a3x(K:aJ)(a b:Addr):It :=
 ⟨λi H=>∃xs ys x y,cQ K H a xs/\cQ K H b ys/\xs[i]?=some x/\ys[i]?=some y,
 λi H v H'=>∃p x y,v=.ref p/\iQ H p (.tup [x,y]) H'/\(∀xs,cQ K H a xs->xs[i]?=some x)/\∀ys,cQ K H b ys->ys[i]?=some y,
 λi H=>∃xs,cQ K H a xs/\xs.length<=i⟩
def Zq{P:Program}{w:World}{nm:Str}{pos:Pos}(a b z TI TO i1 i2:Addr)(D:ZipApart z TI TO i1 i2 a b) :
  Turn P w K (.Name nm pos) (a3x K a b) [z,TI,TO,i1,i2] z (λi h=>(∃f0 f1,Tz.Zo h z TI TO f0 f1/\Tz.Fr0 f0)/\Tz.Po h TI (.ref i1) (.ref i2)/\(∃x y,Tz.Po h TO x y)/\h.IsTupleIter i1 a i/\h.IsTupleIter i2 b i) where
 mem:=by simp
 obj:=λi h st c hc=>by
  obtain⟨⟨f0,f1,hz,_⟩,hTI,⟨x,y,hTO⟩,⟨o1,e1,c1,d1⟩,⟨o2,e2,c2,d2⟩⟩:=st
  grind
 keep:=λi h h' st kk=>by
  obtain⟨⟨f0,f1,hz,ff⟩,hTI,⟨x,y,hTO⟩,h1,h2⟩:=st
  exact⟨⟨f0,f1,kk z (by simp) _ hz,ff⟩,kk TI (by simp) _ hTI,⟨x,y,kk TO (by simp) _ hTO⟩,Te.keepI h1 λo q=>kk i1 (by simp) o q,Te.keepI h2 λo q=>kk i2 (by simp) o q⟩
 item:=by
  intro X hP hw hK hc i Y s σ H E I hf st hg
  subst hP hw hK
  obtain⟨xs,ys,x,y,hq1,hq2,hx,hy⟩:=hg
  obtain⟨Rj,rv1,Y8,hz1⟩:=I.tuple hq1
  obtain⟨its2,rv2,pl2,hz2⟩:=I.tuple hq2
  obtain⟨u1,hu1,ru1⟩:=rv1.get hx
  obtain⟨u2,hu2,š⟩:=rv2.get hy
  obtain⟨⟨f0,f1,hz,ff⟩,hTI,⟨x0,y0,hTO⟩,h1,h2⟩:=st
  refine Tz.next_item D hz ff hTI hTO h1 h2 (show s.heap.IsTuple a Rj.toArray from Y8) (show s.heap.IsTuple b its2.toArray from pl2) (x:=u1) (y:=u2) () () λh3 a1 a2 a3 a4 a5 hk=>?_
  refine⟨_,Z,aq ?_⟩
  have lt:∀{c o},s.heap.get? c=some o->s⁻¹≠c:=λe=>gG (aY e)
  have nz:=lt hz
  have nTI:=lt hTI
  have nTO:=lt hTO
  have n1:s⁻¹≠i1:=by obtain⟨_,e,_⟩:=h1;exact lt e
  have n2:s⁻¹≠i2:=by obtain⟨_,e,_⟩:=h2;exact lt e
  have kp:∀c o,c∉[z,TO,i1,i2]->s.heap.get? c=some o->h3.get? c=some o:=λc o hc q=>by
   grind
  have I1:bH X Y σ H { s with heap:=h3}:=yX I [z,TO,i1,i2] (λc hc=>hf c ()) kp
  have hfree:H s⁻¹=none:=I.hok.fresh (aM _)
  have I2:bH X Y σ (cN H s⁻¹ (.tup [x,y])) { s with heap:=h3}:=by
   refine bH.track I1 hfree I.sz (gG I.lt) (λy c q=>?_) (λp hp=>b7 (aY (I.pin p hp).1)) ⟨(by show 2<=sizeLine;decide),[u1,u2],.cons ru1 (.cons š .nil),⟨_,a5,Z,_,Z⟩⟩
   obtain⟨v,oc,q1,_⟩:=I.cell y c q
   exact b7 (aY q1)
  refine⟨.ref s⁻¹,_,I2,Z,⟨_,x,y,Z,iQ.pQ hfree,λxs' hy'=>by rw[I.yQ hy' hq1];exact hx,λys' hy'=>by rw[I.yQ hy' hq2];exact hy⟩,
   ⟨a1,hk TI _ D.TIz D.TITO D.TIi1 D.TIi2 hTI,a2,a3,a4⟩,λc hc=>?_⟩
  have f0:=(hf c hc).1
  rw[aW ?_]
  ·exact f0
  grind
 done:=by
  intro X hP hw hK hc i Y s σ H E I hf st hg
  subst hP hw hK
  obtain⟨xs,hq1,hl⟩:=hg
  obtain⟨Rj,rv1,Y8,hz1⟩:=I.tuple hq1
  have l1:=rv1.length
  obtain⟨⟨f0,f1,hz,ff⟩,hTI,⟨x0,y0,hTO⟩,h1,h2⟩:=st
  refine Tz.next_end (I.ok.hd hc) D hz ff hTI h1 (show s.heap.IsTuple a Rj.toArray from Y8) (by simp;omega) λh' hk=>⟨Z,yX I [z,TO,i1,i2] (λc hc=>hf c ()) λc o hc q=>?_⟩
  grind
 self:=λ_ _ _ _ _ st h=>by
  obtain⟨⟨f0,f1,hz,ff⟩,_⟩:=st
  exact Tz.Mw hz h
section
variable{X:Cx}
def a5H(K:aJ)(ta:TA):TI:=λσ H R=>ta σ H λvs H1=>∃a b,vs=[.ref a,.ref b]/\(∃xs,cQ K H1 a xs)/\(∃ys,cQ K H1 b ys)/\R (a3x K a b) H1
def a0V{nm:Str}{tpos:Pos}{l m:Expr}{ta:TA}{p pos:Pos}(e0:X.K=K)(hg:Gl X "zip")(hm:X.mg "zip" = none)(ha:PA X [l,m] ta)(hs:@&(starEach [l,m] X.env=[(false,eval l X.env),(false,eval m X.env)]))(hs2:@&(starEach [m] X.env=[(false,eval m X.env)])) :
  PI X (.Name nm tpos) (.Call (.Name "zip" p) [l,m] [] pos) (a5H K ta):=by
 subst e0;intro Y s σ H R I h;refine xq (vU I hg hm boot_zip ?_);refine zQ (jG (ha pos Y s σ H _ I h) λus s1 ⟨vs,H1,I1,r1,q1⟩=>?_) (by rw[hs,hs2]) (by rw[hs2];rfl);obtain⟨a,b,e,⟨xs,hq1⟩,⟨ys,hq2⟩,q⟩:=q1;subst e;obtain⟨u1,u2,rfl,r1,r2⟩:=vals2 r1;cases r1;cases r2;obtain⟨Rj,rv1,Y8,hz1⟩:=I1.tuple hq1;obtain⟨its2,rv2,pl2,hz2⟩:=I1.tuple hq2;have pa:s1.heap.IsTuple a Rj.toArray:=Y8;have pb:s1.heap.IsTuple b its2.toArray:=pl2;refine Tz.ĵ pa pb λh' hz hTI hTO h1 h2 hk=>Tz.Mw hz ?_;have I2:bH X Y σ H1 { s1 with heap:=h'}:=I1.kept (t':=s1.toks) hk;have la:a<s1⁻¹:=by obtain⟨o,e,_⟩:=pa;exact aY e
 have lb:b<s1⁻¹:=by obtain⟨o,e,_⟩:=pb;exact aY e
 refine⟨s1⁻¹+4,[s1⁻¹+4,s1⁻¹+2,s1⁻¹+3,s1⁻¹,s1⁻¹+1],_,_,H1,Z,I2,Zq a b _ _ _ _ _ (zipApart_new la lb),⟨⟨_,_,hz,.inl Z⟩,hTI,⟨_,_,hTO⟩,h1,h2⟩,λc hc=>?_,q⟩;have hb':s1⁻¹<=c:=by
  grind
 exact I1.Gf hb' (I1.hok.fresh hb')
end
def a0W{a b:Addr}{xs ys:List V}{ix:List (Option Nat)}{g:TG}{tt:TT}{te:TE}{σ:St}{H1:Hp}{Q:VK}(el:xs.length=ys.length)(Pv:Nat->List V->Hp->Prop)(h0:Pv 0 [] H1)(hl:∀i us H,i<=xs.length->Pv i us H->cQ K H a xs/\cQ K H b ys/\us.length<=sizeLine)
  (hs:∀(i:Nat) x y us H p H0,xs[i]?=some x->ys[i]?=some y->Pv i us H->iQ H p (.tup [x,y]) H0->g (.ref p) (qM ix σ) H0 λσ2 H2=>tt σ2 H2 λb H3=>if b=true then te σ2 H3 λv H4=>Pv (i+1) (us++[v]) H4 else Pv (i+1) us H3)
  (hd:∀us H,Pv xs.length us H->∀p,H p=none->Q (.ref p) (cN H p (.lst us))):nF ix g tt te σ H1 Q (a3x K a b):=by
 refine⟨λi m us H=>m=xs.length-i/\i<=xs.length/\Pv i us H,⟨xs.length,by simp,dw _,h0⟩,?_⟩;rintro i m us H ⟨rfl,hi,p⟩;obtain⟨q,q2,z⟩:=hl i us H hi p;by_cases hlt:i<xs.length
 ·refine .inr ⟨⟨xs,ys,xs[i],ys[i],q,q2,by simp[hlt],by simp[el▸hlt]⟩,z,Pv (i+1),λys' H' p'=>⟨xs.length-(i+1),(),Z,hlt,p'⟩,λx H' y=>?_⟩;obtain⟨pp,x0,y0,rfl,nw,ex,ey⟩:=y;exact hs i x0 y0 us H pp H' (ex xs q) (ey ys q2) p nw
 ·have e:i=xs.length:=()
  subst e;exact .inl ⟨⟨xs,q,aM _⟩,z,hd us H p⟩
end L2
namespace Tm
open PyProof.Rows
section
variable{prog:Program}{w:World}{A:Around}{E:Value->Shared->Prop}{s:Shared}{t:Addr}{xs:Array (Int×Tok)}
def a0X{Q:Value->Shared->Prop}(hh:A.handled=none)(ht:s.heap.IsTuple t (intItems xs))(hne:0<xs.size)
  (h:∀v g tk,(intItems xs)[argBest (λi j=>decide (numAt xs i>numAt xs j)) (xs.size-1)]?=some v->(∀b o,s.heap.get? b=some o->g.get? b=some o)->Q v { s with heap:=g,toks:=tk}):wpAny (model prog w) A (call (.builtin "max") [.ref t]) Q E s:=by
 have lt:t<s⁻¹:=by
  obtain⟨_,e,_⟩:=ht;exact aY e
 refine call_max_walk (Dw ht ⟨s⁻¹,[s⁻¹,t],[s⁻¹],_,_,_,_,Z,Walks.tuple (A:=A.in1) hh _ t (b7 lt) (intItems xs),⟨⟨_,bW _ Z,Z,Z⟩,Te.zL ht λo e=>bL _ e⟩,λb hb=>?_,by simpa [intItems]using hne,CmpOf.ints_gt (numAt xs) (λ_ _=>intItems_at),λv g tk hP hk=>?_⟩)
 ·show b<(s.heap.push _).objs.size;rw[kh];grind
 ·refine h v g tk (by simpa [intItems]using hP) λb o e=>hk b o (λhm=>?_) (bL _ e);rw[bG.mp hm]at e;exact absurd (aY e) (xK _)
end
end Tm
namespace L2
open PyProof.Rows
section
variable{X:Cx}{K:aJ}
inductive a5I(K:aJ)(xs:List V)(H:Hp)(Q:VK):Prop
 |mk (p ns:_) (_:xs=[.ref p]) (_:cQ K H p (List.map V.int ns)) (_:0<ns.length) (_:∀Z98,Z98∈ns->(∀a∈ns,a<=Z98)->Q (.int Z98) H)
def Zr(e:X.K=K)(cm:X.calm=true):jT X (.builtin "max") (a5I K):=by
 subst e;intro Y s σ H xs us Q I r h;obtain⟨p,ns,rfl,hL,hne,q⟩:=h;obtain⟨u,rfl,rx⟩:=vals1 r;cases rx;obtain⟨bV,r',pl,hz⟩:=I.tuple hL;have pl:s.heap.IsTuple p bV.toArray:=pl;have hi:=ints_of r';have hlen:=hi.length;obtain⟨zs,ez⟩:=hi.allInts.items;have hsz:0<zs.size:=by
  have:=congrArg Array.size ez;rw[gn]at this;have e2:(intItems zs).size=zs.size:=by simp[intItems]
  omega
 have en:zs.toList.map (·.1)=ns:=by
  rw[<-nums_intItems,<-ez];exact hi.numsOf
 refine Tm.a0X (xs:=zs) (I.ok.hd cm) () hsz λv h' tk hv hk=>?_;obtain⟨t,rfl⟩:=intItems_at hv;obtain⟨h1,h2⟩:=argBest_gt (numAt zs) (zs.size-1);refine⟨.int _,H,I.kept hk,⟨t,Z⟩,q _ ?_ λa ha=>?_⟩
 ·rw[numAt_eq,<-en];exact getD_mem (by rw[aK,vI];omega)
 ·rw[<-en]at ha;obtain⟨j,hj,rfl⟩:=mem_getD ha;rw[aK,vI]at hj;rw[<-numAt_eq];exact h2 j ()
end
end L2
namespace K
open L2 Lw Bg
variable{K:aJ}{P:Program}{w:World}{mg:Str->Option Value}{base:Heap}{T:cI}{wd j':Nat}{E G us:List Int}{σ:St}{α:Type}{B:List bY}{g:TG}
def in2{x a b:Int}:inV (V.int x) [V.int a,V.int b]=true↔x=a\/x=b:=by
 show(Ö (V.int a) (V.int x)||(Ö (V.int b) (V.int x)||false))=true↔_;show((a==x)||((b==x)||false))=true↔_;grind
theorem Mx{P:Program}{w:World}:∀bs:List Bool,Paired (λv (x:Bool)=>∀u,cW v u->(Dk.Jp P w).is x u=true) (bs.map V.bl) bs
 | []=>.nil
 |b::bs=>.cons (λu e=>by
   have e:u=Value.bool b:=e
   rw[e]
   exact Ie b) (Mx bs)
section
variable{C:Addr}{ex:List (Str×V)}{n:Nat}{ts:List bY}{ws:List Int}
def Gv(B:Bl mg)(d_:Dm K C "shared" "Watch.shared" oX wH)(At:Hp->Addr->Prop):bf P w K mg base fX 1 d_.f d_.fd wH (Jx (Dk.Jp P w) (ū ws) At):=by
 refine d_.F.ok Gn λdZ A outer s H vs Q E hr h=>?_;obtain⟨d,a,m,st,rfl,hD,ha,ok,m5,q⟩:=h;have l1:st.length=m:=ok.1;refine⟨_,(aD (bJ (jY uN Z B.tuple () (J (kJ ["number"] [none]  (by kernel_rfl) Z (Cd (K:=K) Z (pv 1)) (λ_ _ _ _ _=>(aO 0 (show(["number"]:List Str).Nodup by decide))) (λ_ _ _ _ _=>gM) λ_ _ _ _ _=>(vW jE (pv 0) aA)) aj)))),⟨_,Z,a,Z,⟨_,cQ.of ha⟩,?_⟩⟩;refine PJ (K:=K) (a:=a) (xs:=st.map V.int) (λi ys G=>G=H/\ys=((st.take i).map λx=>decide (x=2)).map V.bl) ⟨Z,Z⟩ (λi ys G hi ⟨e,ey⟩=>⟨by rw[e];exact cQ.of ha,?_⟩) (λi x ys G hx ⟨e,ey⟩=>?_) (λys G ⟨e,ey⟩ pr hpr=>?_)
 ·rw[ey,aK,aK,gb];exact eO (cO ())
 ·subst e;rw[dU]at hx;obtain⟨y,hy,rfl⟩:=oF.mp hx;refine⟨_,Z,Z,Z,?_⟩;rw[ey,nA,hy,dW,dW];congr 1;show [V.bl (decide (V.int y=V.int 2))]=[V.bl (decide (y=2))];congr 2;exact N7.mpr ⟨λz=>V.int.inj z,λz=>by rw[z]⟩
 ·subst e;rw[aK,je]at ey;have n1:=iQ.pQ (o:=.lst ys) hpr;generalize cN G pr (.lst ys)=G1 at n1 ⊢;refine⟨pr,ys,Z,.inl ⟨bN.of n1.here,λl hl=>?_⟩⟩;have n2:=iQ.pQ (o:=.tup ys) hl;refine q l _ (n1.same.trans n2.same) ⟨ys,n2.here,?_⟩;rw[ey];exact Mx _
def Gw(B:Bl mg)(Bz:mg "zip" = none)(d_:Dm K C "joined" "Watch.joined" oY kW)(At:Hp->Addr->Prop):bf P w K mg base fX 1 d_.f d_.fd kW (Jy (ū ws) At):=by
 refine d_.F.ok Gp λdZ A outer s H vs Q E hr h=>?_;obtain⟨d,a,b,m,st,t,rfl,hD,ha,hb,ok,ok',m5,sh,q⟩:=h;have l1:st.length=m:=ok.1;have l2:t.length=m:=ok'.1;refine⟨_,(aD (bJ (cG (J (jY uN Z B.tuple () (J (kJ ["pair"] [none]  (by kernel_rfl) Z (a0V (K:=K) Z Z Bz (J (pv 1) (J (pv 2) aj))) (λ_ _ _ _ _=>(aO 0 (show(["pair"]:List Str).Nodup by decide))) (λ_ _ _ _ _=>gM) λ_ _ _ _ _=>(bK (Zr (K:=K) Z Z) Z B.max () (J (pv 0) aj))) aj)) aj)))),⟨_,Z,_,Z,a,b,Z,⟨_,cQ.of ha⟩,⟨_,cQ.of hb⟩,?_⟩⟩;have lz:(List.zipWith max st t).length=m:=()
 refine a0W (K:=K) (a:=a) (b:=b) (xs:=st.map V.int) (ys:=t.map V.int) () (λi us G=>aL H G/\us=((List.zipWith max st t).take i).map V.int) ⟨aL.refl _,Z⟩ (λi us G hi ⟨sG,ey⟩=>⟨cQ.of (sG _ _ ha),cQ.of (sG _ _ hb),?_⟩) (λi x y us G p G0 hx hy ⟨sG,ey⟩ nw=>?_) (λus G ⟨sG,ey⟩ pr hpr=>?_)
 ·rw[ey,aK,gb];exact eO (cO ())
 ·rw[dU]at hx hy;obtain⟨x',hx',rfl⟩:=oF.mp hx;obtain⟨y',hy',rfl⟩:=oF.mp hy;refine⟨_,Z,p,[x',y'],Z,cQ.of nw.here,(by show 0<2;decide),λZ98 hM hb'=>⟨sG.trans nw.same,?_⟩⟩;have eM:Z98=max x' y':=by
   have h1:=hb' x' (aU ..);have h2:=hb' y' (bC _ (aU ..));grind
  have ez:(List.zipWith max st t)[i]?=some Z98:=by
   rw[List.getElem?_zipWith,hx',hy',eM]
  rw[ey,nA,ez,dW];rfl
 ·rw[aK,l1,<-lz,je]at ey;have n1:=iQ.pQ (o:=.lst us) hpr;generalize cN G pr (.lst us)=G1 at n1 ⊢;refine⟨pr,us,Z,.inl ⟨bN.of n1.here,λl hl=>?_⟩⟩;have n2:=iQ.pQ (o:=.tup us) hl;generalize cN G1 l (.tup us)=G2 at n2 ⊢;refine⟨(),λp3 G3 n3=>q p3 _ G3 (sG.trans (n1.same.trans (n2.same.trans n3.same))) n3.here (.cons ⟨l,Z,?_⟩ .nil)⟩;show G3 l=some (.tup ((List.zipWith max st t).map V.int));rw[<-ey];exact n3.same _ _ n2.here
def Li(B:Bl mg)(d_:Dm K C "tied" "Watch.tied" pB rZ)(At:Hp->Addr->Prop)(Ti:Int×Int->Prop):bf P w K mg base fX 1 d_.f d_.fd rZ (Xn (ū ws) At Ti):=by
 refine d_.F.ok Le λdZ A outer s H vs Q E hr h=>?_;obtain⟨d,a,p,m,gh,bT,t,st,rfl,hD,ha,ok,m5,o1,o2,ne,ti,hp,q⟩:=h;have l1:st.length=m:=ok.1;have hu:(A.deeper (PyProof.Rows.envOfC "Watch.tied" (aH pB) s⁻¹ d_.f dZ)).units+64<cLine:=by have:=hr.un;omega
 refine⟨_,(aF (dF (aN (O4 (K:=K) Z hu) (bK (Cr (K:=K) Z) Z B.sorted () (J (cG (J (aQ (aP (K:=K) Z) (pv 1) (pv 2)) (J (aQ (aP (K:=K) Z) (pv 1) (pv 3)) aj))) aj)) (cG (J aA (J aA aj))))
   (aD (bJ (cG (J (bB (J (pv 1) (J aA aj))) aj))))
   bQ)
   (aD (bJ (cG (J (bB (J (jY uN Z B.tuple () (J (kJ ["k","number","one","other"] [none,none,some 2,some 3]  (by kernel_rfl) Z (İ (K:=K) Z Z B.enumerate (J (pv 1) aj)) (λ_ _ _ _ _=>(jO (K:=K) (n:=2) Z Z (b8 (aO 0 (show(["k","number","one","other"]:List Str).Nodup by decide)) (b8 (aO 1 (show(["k","number","one","other"]:List Str).Nodup by decide)) jw)))) (λ_ _ _ _ _=>gM) λ_ _ _ _ _=>(oK (aN (Θ (K:=K) Z) (pv 0) (bB (J (pv 2) (J (pv 3) aj))) (by with_unfolding_all rfl)) (bK (Yh Z) Z B.max () (J (pv 1) (J aA aj))) (pv 1))) aj)) (J aA aj))) aj))))),?_⟩
 refine⟨_,Z,_,Z,a,_,_,_,Z,Z,cQ.of ha,Ĭ (),_,Z,_,Z,a,_,_,_,Z,Z,cQ.of ha,Ĭ (),(),λp1 H1 n1=>?_⟩;refine⟨p1,[fU st gh,fU st bT],Z,bN.of n1.here,by show 2<64;decide,λp2 H2 zs n2 pm sd=>?_⟩;refine⟨(),λp3 H3 n3=>?_⟩;have wC:=n1.same.trans (n2.same.trans n3.same);refine⟨_,_,.lst (bN.of (n3.same _ _ n2.here)) (uP.ints zs),.lst (bN.of (show H3 p3=some (.lst ([0,2].map V.int))from n3.here)) (uP.ints [0,2]),shaped_ints zs,shaped_ints _,_,Z,?_⟩;rw[Je];have key:zs=[0,2]↔((fU st gh=0/\fU st bT=2)\/(fU st gh=2/\fU st bT=0)):=by
  constructor
  ·intro e;have pm:=pm;rw[e]at pm;have m1:fU st gh∈([0,2]:List Int):=pm.mem_iff.mpr (aU ..);have m2:fU st bT∈([0,2]:List Int):=pm.mem_iff.mpr (bC _ (aU ..));have m3:(0:Int)∈[fU st gh,fU st bT]:=pm.mem_iff.mp (aU ..);have m4:(2:Int)∈[fU st gh,fU st bT]:=pm.mem_iff.mp (bC _ (aU ..));simp only[List.mem_cons,List.not_mem_nil,or_false]at m1 m2 m3 m4;omega
  ·intro h;have ln:=pm.length_eq
   match zs,ln,pm,sd with
   | [x,y],_,pm,sd =>
    have hxy:x<=y:=(zY.mp sd).1 y (bG.mpr Z);have m1:x∈[fU st gh,fU st bT]:=pm.mem_iff.mp (aU ..);have m2:y∈[fU st gh,fU st bT]:=pm.mem_iff.mp (bC _ (aU ..));have m3:fU st gh∈[x,y]:=pm.mem_iff.mpr (aU ..);have m4:fU st bT∈[x,y]:=pm.mem_iff.mpr (bC _ (aU ..));simp only[List.mem_cons,List.not_mem_nil,or_false]at m1 m2 m3 m4;have e1:x=0:=()
    have e2:y=2:=()
    rw[e1,e2]
 by_cases c:(fU st gh=0/\fU st bT=2)\/(fU st gh=2/\fU st bT=0)
 ·rw[bA (key.mpr c)];refine cY ⟨_,Z,a,Z,⟨_,cQ.of (wC _ _ ha)⟩,?_⟩;have ll:(uE st gh bT).length=m:=by unfold uE;rw[aK,rP];exact l1
  refine ı (K:=K) (a:=a) (xs:=st.map V.int) (λi us G=>aL H3 G/\us=((uE st gh bT).take i).map V.int) ⟨aL.refl _,Z⟩ (λi us G hi ⟨sG,ey⟩=>⟨cQ.of (sG _ _ (wC _ _ ha)),?_⟩) (λi x us G pp G0 hx ⟨sG,ey⟩ nw=>?_) (λus G ⟨sG,ey⟩ pr hpr=>?_)
  ·rw[ey,aK,gb];exact eO (cO ())
  ·rw[dU]at hx;obtain⟨x',hx',rfl⟩:=oF.mp hx;have il:i<st.length:=(fL.mp hx').1;have ea:fU st i=x':=by
    unfold fU;rw[fM,hx'];rfl
   refine⟨pp,_,Z,cQ.of nw.here,Z,_,_,Z,_,_,Z,Z,?_⟩;refine⟨_,Z,_,Z,_,Z,(),λp4 G4 n4=>⟨p4,_,Z,.inr (cQ.of n4.here),Z,Z,_,Z,?_⟩⟩;have s4:=sG.trans (nw.same.trans n4.same);have el:(uE st gh bT)[i]?=some (if i=gh\/i=bT then max x' 1 else x'):=by
    unfold uE;rw[dU,Nv il,<-ea];rfl
   have nx:∀z:Int,z=(if i=gh\/i=bT then max x' 1 else x')->us++[V.int z]=((uE st gh bT).take (i+1)).map V.int:=λz hz=>by
    rw[ey,nA,el,dW,hz];rfl
   by_cases ci:i=gh\/i=bT
   ·rw[show(if false=true then !inV (V.int (i:Int)) [V.int (gh:Int),V.int (bT:Int)]else inV (V.int (i:Int)) [V.int (gh:Int),V.int (bT:Int)])=true by
     rw[aB dh];exact in2.mpr ()]
    refine gZ ⟨_,Z,_,_,Z,s4,nx _ ?_⟩;rw[aG ci];by_cases c1:(1:Int)>x'
    ·rw[aG c1];omega
    ·rw[aB c1];omega
   ·rw[show(if false=true then !inV (V.int (i:Int)) [V.int (gh:Int),V.int (bT:Int)]else inV (V.int (i:Int)) [V.int (gh:Int),V.int (bT:Int)])=false by
     rw[aB dh];exact xr.mpr (λz=>ci (by have:=in2.mp z;omega))]
    exact cY ⟨_,Z,s4,nx _ (by rw[aB ci])⟩
  ·rw[aK,l1,<-ll,je]at ey;have m1:=iQ.pQ (o:=.lst us) hpr;generalize cN G pr (.lst us)=G1 at m1 ⊢;refine⟨pr,us,Z,.inl ⟨bN.of m1.here,λl hl=>?_⟩⟩;have m2:=iQ.pQ (o:=.tup us) hl;generalize cN G1 l (.tup us)=G2 at m2 ⊢;refine⟨(),λp4 G3 m3=>⟨(),λp5 G4 m4=>q p5 _ G4 (wC.trans (sG.trans (m1.same.trans (m2.same.trans (m3.same.trans m4.same))))) m4.here ?_⟩⟩;show Paired _ _ (if(fU st gh=0/\fU st bT=2)\/(fU st gh=2/\fU st bT=0)then [(uE st gh bT,(0:Int))]else [(st,0)]);rw[aG c];refine .cons ⟨p4,l,Z,m4.same _ _ m3.here,?_⟩ .nil;show G4 l=some (.tup ((uE st gh bT).map V.int));rw[<-ey];exact m4.same _ _ (m3.same _ _ m2.here)
 ·rw[cJ (λz=>c (key.mp z))];refine gZ ⟨_,Z,(),λp4 H4 n4=>⟨(),λp5 H5 n5=>q p5 _ H5 (wC.trans (n4.same.trans n5.same)) n5.here ?_⟩⟩;show Paired _ _ (if(fU st gh=0/\fU st bT=2)\/(fU st gh=2/\fU st bT=0)then [(uE st gh bT,(0:Int))]else [(st,0)]);rw[aB c];exact .cons ⟨p4,a,Z,n5.same _ _ n4.here,ha.keep (.of (wC.trans (n4.same.trans n5.same)))⟩ .nil
end
def Kpt(H H' G:Hp):Prop:=∀c u,(H c=none\/∀ys,u≠.lst ys)->H' c=some u->G c=some u
def zK.own{C:Addr}{ex:List (Str×V)}{n:Nat}{ts:List bY}{ws:List Int}{H H' G:Hp}{d dx pg pt l u pw:Addr}{xs:List V}(h1:H' d=some (.ins C dx (Ū pg (.ref l) (.ref u)++(ex++[(("weights" : Str),V.ref pw)]))))(h2:H' pg=some (.tup [.int n,.ref pt]))(f3:H pt=none)(h3:H' pt=some (.lst xs))(h4:Paired (pX H') xs ts)(h5:ts.length<=1000)(h6:H' l=some (.tup []))(h7:H' u=some (.tup []))(f8:H pw=none)(h8:H' pw=some (.lst (ws.map V.int)))(k:Kpt H H' G):zK K C ex n ts ws G d :=
 ⟨dx,pg,pt,xs,l,u,pw,k _ _ (.inr λ_ z=>by cases z) h1,k _ _ (.inr λ_ z=>by cases z) h2,k _ _ (.inl f3) h3,Paired.cC h4 λ_ _ ⟨p,e,h⟩=>⟨p,e,k _ _ (.inr λ_ z=>by cases z) h⟩,h5,k _ _ (.inr λ_ z=>by cases z) h6,k _ _ (.inr λ_ z=>by cases z) h7,k _ _ (.inl f8) h8⟩
inductive XC(K:aJ)(C:Addr)(vs:List V)(H:Hp)(Q:VK)(u_3:XK):Prop
 |mk (d dx g t:Addr) (n:Nat) (xs:List V) (ts:List bY) (v:V) (o:Option (List Int)) (_:vs=[.ref d,.ref g,v]) (_:H d=some (.ins C dx [])) (_:cQ K H g [.int n,.ref t]) (_:H t=some (.lst xs)) (_:Paired (pX H) xs ts) (_:ts.length<=1000) (_:n<=100) (_:WtV K H v o) (_:(∀ws,o=some ws->ws.length<=200)) (_:VN n o=true) (_:∀H',Sd d H H'->(∀G,Kpt H H' G->zK K C [] n ts (VP n o) G d)->Q .non H')
inductive a0Y(K:aJ)(C:Addr)(vs:List V)(H:Hp)(Q:VK)(u_3:XK):Prop
 |mk (d dx g t:Addr) (n c:Nat) (xs:List V) (ts:List bY) (v:V) (o:Option (List Int)) (_:vs=[.ref d,.ref g,.int c,v]) (_:c<=4) (_:H d=some (.ins C dx [])) (_:cQ K H g [.int n,.ref t]) (_:H t=some (.lst xs)) (_:Paired (pX H) xs ts) (_:ts.length<=1000) (_:n<=100) (_:WtV K H v o) (_:(∀ws,o=some ws->ws.length<=200)) (_:VN n o=true) (_:∀H',Sd d H H'->(∀G,Kpt H H' G->zK K C [("many",.int c)] n ts (VP n o) G d)->Q .non H')
def Sd.a7a{d C dx:Addr}{fs:List (Str×V)}{H H':Hp}{a:Addr}{xs:List V}(e:Sd d H H')(hd:H d=some (.ins C dx fs))(h:bN K H a xs):bN K H' a xs:=by
 rcases h with(h|⟨o,h⟩)|h
 ·exact .inl (.inl (e _ _ (λz=>by grind) h))
 ·exact .inl (.inr ⟨o,e _ _ (λz=>by grind) h⟩)
 ·exact .inr h
def Sd.tupI{d C dx:Addr}{fs:List (Str×V)}{H H':Hp}{a:Addr}{xs:List V}(e:Sd d H H')(hd:H d=some (.ins C dx fs))(h:cQ K H a xs):cQ K H' a xs:=by
 rcases h with(h|⟨o,h⟩)|h
 ·exact .inl (.inl (e _ _ (λz=>by grind) h))
 ·exact .inl (.inr ⟨o,e _ _ (λz=>by grind) h⟩)
 ·exact .inr h
def Sd.wtI{d C dx:Addr}{fs:List (Str×V)}{H H':Hp}(e:Sd d H H')(hd:H d=some (.ins C dx fs)):∀{v:V}{o:Option (List Int)},WtV K H v o->WtV K H' v o
 |_,none,h=>h
 |_,some _,⟨a,e1,h⟩=>⟨a,e1,e.a7a hd h⟩
def Sd.a3y{d C dx:Addr}{fs:List (Str×V)}{H H':Hp}(e:Sd d H H')(hd:H d=some (.ins C dx fs)){v:V}{t:Int×Int}(h:pX H v t):pX H' v t:=by
 obtain⟨p,e1,h⟩:=h;exact⟨p,e1,e _ _ (λz=>by grind) h⟩
def Lj(B:Bl mg)(Ct:ħ mg)(cF:qC K mg)(dG:CN K mg)(jV:Eu K mg)(jr:Dn K mg "is_below" fP tV)(sW:Dn K mg "weights_of" jQ FQ):bf P w K mg base fX 5 dG.bO.f dG.bO.fd FP (XC K dG.C):=by
 have gQ:bf P w K mg base fX 4 _ _ _ _:=(qD B cF dG.cl dG.fD dG.iw dG.fO).mono ();have Ķ:bf P w K mg base fX 4 _ _ _ _:=(uX B Ct jV jr sW).mono ();refine dG.bO.F.ok CJ (λvs H Q E h=>?_) (λdZ A outer s H vs Q E hr h=>?_)
 ·obtain⟨d,dx,g,t,n,xs,ts,v,o,rfl,_⟩:=h;rfl
 obtain⟨d,dx,g,t,n,xs,ts,v,o,rfl,hd,hg,ht,pT,lT,n1,hV,hw,ok,q⟩:=h;refine⟨_,(aF (gA (Pr Z cF.m cF.uD gQ hr cF.bO.b .nil cA (J (pv 0) (J (pv 1) (J (bB aj) (J (bB aj) aj))))))
   (aD (Ah (pv 0) (bw Ķ hr Z sW.m sW.F.kp sW.b .nil cA (J (aQ (aP (K:=K) Z) (pv 1) aA) (J (pv 2) aj))) Z))),?_⟩
 refine⟨_,Z,_,Z,(),λp1 H1 m1=>⟨(),λp2 H2 m2=>?_⟩⟩;have s2:aL H H2:=m1.same.trans m2.same;have lx:xs.length<=1000:=by rw[aV pT];exact lT
 refine⟨d,dx,g,t,n,xs,.ref p1,.ref p2,Z,s2 _ _ hd,s2.wj hg,s2 _ _ ht,lx,λpg pt H3 s3 ft h3d h3g h3t=>?_⟩;have e3:Sd d H H3:=λc o hc hh=>s3 c o hc (s2 _ _ hh);have np1:p1≠d:=λe=>by have:=m1.fresh;grind
 have np2:p2≠d:=λe=>by have:=m2.fresh;rw[e,m1.same _ _ hd]at this;cases this
 have h3l:H3 p1=some (.tup []):=s3 _ _ np1 (m2.same _ _ m1.here);have h3u:H3 p2=some (.tup []):=s3 _ _ np2 m2.here;refine⟨_,Z,g,_,_,V.int n,Z,Z,e3.tupI hd hg,cu (j:=0) Z,_,Z,n,v,o,Z,e3.wtI hd hV,n1,hw,ok,λpw H4 s4 f4 h4=>?_⟩;refine⟨_,Z,d,_,_,_,Z,s4 _ _ h3d,dG.cl,dG.fB,(by show 3<1000;decide),?_⟩;generalize hU:cN H4 d _=U;have u1:uZ H4 d (.ins dG.C dx (Ū pg (.ref p1) (.ref p2)++([]++[(("weights" : Str),V.ref pw)]))) U:=by rw[<-hU];exact uZ.pQ
 have up:∀c u,c≠d->H3 c=some u->U c=some u:=λc u hc e=>by rw[u1.rest c hc];exact s4 _ _ e
 have nd:∀c u,(∀dx fs,u≠.ins dG.C dx fs)->H3 c=some u->c≠d:=λc u hn e z=>by grind
 have dpw:pw≠d:=λe=>by grind
 have fw:H pw=none:=by
  cases hh:H pw with
  |none=>rfl
  |some u =>
   have:=e3 pw u (λz=>by rw[z,h3d]at f4;cases f4) hh;rw[f4]at this;cases this
 have pT4:Paired (pX U) xs ts:=Paired.cC pT λ_ _ h=>by
  obtain⟨pp,e1,e2⟩:=e3.a3y hd h;exact⟨pp,e1,up _ _ (nd _ _ (λ_ _ z=>by cases z) e2) e2⟩
 exact q U (λc u hc e=>up c u hc (e3 c u hc e)) λG k=>zK.own u1.here (up _ _ (nd _ _ (λ_ _ z=>by cases z) h3g) h3g) (s2.free ft) (up _ _ (nd _ _ (λ_ _ z=>by cases z) h3t) h3t) pT4 lT (up _ _ np1 h3l) (up _ _ np2 h3u) fw (by rw[u1.rest _ dpw];exact h4) k
def Lk(B:Bl mg)(Ct:ħ mg)(cF:qC K mg)(dz:CP K mg)(jV:Eu K mg)(jr:Dn K mg "is_below" fP tV)(sW:Dn K mg "weights_of" jQ FQ):bf P w K mg base fX 5 dz.bO.f dz.bO.fd FP (XC K dz.C):=by
 have gQ:bf P w K mg base fX 4 _ _ _ _:=(qD B cF dz.cl dz.fD dz.iw dz.fO).mono ();have Ķ:bf P w K mg base fX 4 _ _ _ _:=(uX B Ct jV jr sW).mono ();refine dz.bO.F.ok CK (λvs H Q E h=>?_) (λdZ A outer s H vs Q E hr h=>?_)
 ·obtain⟨d,dx,g,t,n,xs,ts,v,o,rfl,_⟩:=h;rfl
 obtain⟨d,dx,g,t,n,xs,ts,v,o,rfl,hd,hg,ht,pT,lT,n1,hV,hw,ok,q⟩:=h;refine⟨_,(aF (gA (Pr Z cF.m cF.uD gQ hr cF.bO.b .nil cA (J (pv 0) (J (pv 1) (J (bB aj) (J (bB aj) aj))))))
   (aD (Ah (pv 0) (bw Ķ hr Z sW.m sW.F.kp sW.b .nil cA (J (aQ (aP (K:=K) Z) (pv 1) aA) (J (pv 2) aj))) Z))),?_⟩
 refine⟨_,Z,_,Z,(),λp1 H1 m1=>⟨(),λp2 H2 m2=>?_⟩⟩;have s2:aL H H2:=m1.same.trans m2.same;have lx:xs.length<=1000:=by rw[aV pT];exact lT
 refine⟨d,dx,g,t,n,xs,.ref p1,.ref p2,Z,s2 _ _ hd,s2.wj hg,s2 _ _ ht,lx,λpg pt H3 s3 ft h3d h3g h3t=>?_⟩;have e3:Sd d H H3:=λc o hc hh=>s3 c o hc (s2 _ _ hh);have np1:p1≠d:=λe=>by have:=m1.fresh;grind
 have np2:p2≠d:=λe=>by have:=m2.fresh;rw[e,m1.same _ _ hd]at this;cases this
 have h3l:H3 p1=some (.tup []):=s3 _ _ np1 (m2.same _ _ m1.here);have h3u:H3 p2=some (.tup []):=s3 _ _ np2 m2.here;refine⟨_,Z,g,_,_,V.int n,Z,Z,e3.tupI hd hg,cu (j:=0) Z,_,Z,n,v,o,Z,e3.wtI hd hV,n1,hw,ok,λpw H4 s4 f4 h4=>?_⟩;refine⟨_,Z,d,_,_,_,Z,s4 _ _ h3d,dz.cl,dz.fB,(by show 3<1000;decide),?_⟩;generalize hU:cN H4 d _=U;have u1:uZ H4 d (.ins dz.C dx (Ū pg (.ref p1) (.ref p2)++([]++[(("weights" : Str),V.ref pw)]))) U:=by rw[<-hU];exact uZ.pQ
 have up:∀c u,c≠d->H3 c=some u->U c=some u:=λc u hc e=>by rw[u1.rest c hc];exact s4 _ _ e
 have nd:∀c u,(∀dx fs,u≠.ins dz.C dx fs)->H3 c=some u->c≠d:=λc u hn e z=>by grind
 have dpw:pw≠d:=λe=>by grind
 have fw:H pw=none:=by
  cases hh:H pw with
  |none=>rfl
  |some u =>
   have:=e3 pw u (λz=>by rw[z,h3d]at f4;cases f4) hh;rw[f4]at this;cases this
 have pT4:Paired (pX U) xs ts:=Paired.cC pT λ_ _ h=>by
  obtain⟨pp,e1,e2⟩:=e3.a3y hd h;exact⟨pp,e1,up _ _ (nd _ _ (λ_ _ z=>by cases z) e2) e2⟩
 exact q U (λc u hc e=>up c u hc (e3 c u hc e)) λG k=>zK.own u1.here (up _ _ (nd _ _ (λ_ _ z=>by cases z) h3g) h3g) (s2.free ft) (up _ _ (nd _ _ (λ_ _ z=>by cases z) h3t) h3t) pT4 lT (up _ _ np1 h3l) (up _ _ np2 h3u) fw (by rw[u1.rest _ dpw];exact h4) k
def Gx(B:Bl mg)(Ct:ħ mg)(cF:qC K mg)(bR:vB K mg)(jV:Eu K mg)(jr:Dn K mg "is_below" fP tV)(sW:Dn K mg "weights_of" jQ FQ):bf P w K mg base fX 5 bR.bO.f bR.bO.fd Xe (a0Y K bR.C):=by
 have gQ:bf P w K mg base fX 4 _ _ _ _:=(qD B cF bR.cl bR.fD bR.iw bR.fO).mono ();have Ķ:bf P w K mg base fX 4 _ _ _ _:=(uX B Ct jV jr sW).mono ();have Ģ:bf P w K mg base fX 4 _ _ _ _:=(xZ B jV jr).mono ();refine bR.bO.F.ok zx (λvs H Q E h=>?_) (λdZ A outer s H vs Q E hr h=>?_)
 ·obtain⟨d,dx,g,t,n,c,xs,ts,v,o,rfl,_⟩:=h;rfl
 obtain⟨d,dx,g,t,n,c,xs,ts,v,o,rfl,c4,hd,hg,ht,pT,lT,n1,hV,hw,ok,q⟩:=h;refine⟨_,(aF (dF (tM (fW (K:=K) Z (bw Ģ hr Z jr.m jr.F.kp jr.b .nil cA (J (aZ fj (Oq (v:=.int 4) Z Ct.yd Ct.ye) aA) (J (pv 2) aj))) λ_=>rfl))
   (aD Bx)
   bQ)
   (aF (gA (Pr Z cF.m cF.uD gQ hr cF.bO.b .nil cA (J (pv 0) (J (pv 1) (J (bB aj) (J (bB aj) aj))))))
   (aF (Ah (pv 0) (pv 2) Z)
   (aD (Ah (pv 0) (bw Ķ hr Z sW.m sW.F.kp sW.b .nil cA (J (aQ (aP (K:=K) Z) (pv 1) aA) (J (pv 3) aj))) Z))))),?_⟩
 have bl:oN (4+1) (some (c:Int))=true:=bA (show 0<=(c:Int)/\(c:Int)<4+1 by omega);refine⟨_,_,Z,Z,_,Z,4+1,some (c:Int),Z,?_⟩;rw[bl];refine⟨_,Z,cY ⟨_,Z,_,Z,(),λp1 H1 m1=>⟨(),λp2 H2 m2=>?_⟩⟩⟩;have s2:aL H H2:=m1.same.trans m2.same;have lx:xs.length<=1000:=by rw[aV pT];exact lT
 refine⟨d,dx,g,t,n,xs,.ref p1,.ref p2,Z,s2 _ _ hd,s2.wj hg,s2 _ _ ht,lx,λpg pt H3 s3 ft h3d h3g h3t=>?_⟩;have e3:Sd d H H3:=λc o hc hh=>s3 c o hc (s2 _ _ hh);have np1:p1≠d:=λe=>by have:=m1.fresh;grind
 have np2:p2≠d:=λe=>by have:=m2.fresh;rw[e,m1.same _ _ hd]at this;cases this
 have h3l:H3 p1=some (.tup []):=s3 _ _ np1 (m2.same _ _ m1.here);have h3u:H3 p2=some (.tup []):=s3 _ _ np2 m2.here;refine⟨_,Z,_,Z,d,_,_,_,Z,h3d,bR.cl,bR.JX,(by show 3<1000;decide),?_⟩;generalize hU0:cN H3 d _=U0;have u0:uZ H3 d (.ins bR.C dx (Ū pg (.ref p1) (.ref p2)++[(("many" : Str),V.int c)])) U0:=by rw[<-hU0];exact uZ.pQ
 have e4:Sd d H U0:=λc' u hc hh=>by rw[u0.rest c' hc];exact e3 c' u hc hh
 refine⟨_,Z,g,_,_,V.int n,Z,Z,e4.tupI hd hg,cu (j:=0) Z,_,Z,n,v,o,Z,e4.wtI hd hV,n1,hw,ok,λpw H4 s4 f4 h4=>?_⟩;refine⟨_,Z,d,_,_,_,Z,s4 _ _ u0.here,bR.cl,bR.fB,(by show 4<1000;decide),?_⟩;generalize hU:cN H4 d _=U;have u1:uZ H4 d (.ins bR.C dx (Ū pg (.ref p1) (.ref p2)++([(("many" : Str),V.int c)]++[(("weights" : Str),V.ref pw)]))) U:=by rw[<-hU];exact uZ.pQ
 have up:∀c' u,c'≠d->H3 c'=some u->U c'=some u:=λc' u hc e=>by
  rw[u1.rest c' hc];refine s4 _ _ ?_;rw[u0.rest c' hc];exact e
 have nd:∀c' u,(∀dx fs,u≠.ins bR.C dx fs)->H3 c'=some u->c'≠d:=λc' u hn e z=>by grind
 have dpw:pw≠d:=λe=>by rw[e,u0.here]at f4;cases f4
 have fw:H pw=none:=by
  cases hh:H pw with
  |none=>rfl
  |some u =>
   have:=e4 pw u (λz=>by rw[z,u0.here]at f4;cases f4) hh;rw[f4]at this;cases this
 have pT4:Paired (pX U) xs ts:=Paired.cC pT λ_ _ h=>by
  obtain⟨pp,e1,e2⟩:=e3.a3y hd h;exact⟨pp,e1,up _ _ (nd _ _ (λ_ _ z=>by cases z) e2) e2⟩
 exact q U (λc' u hc e=>up c' u hc (e3 c' u hc e)) λG k=>zK.own u1.here (up _ _ (nd _ _ (λ_ _ z=>by cases z) h3g) h3g) (s2.free ft) (up _ _ (nd _ _ (λ_ _ z=>by cases z) h3t) h3t) pT4 lT (up _ _ np1 h3l) (up _ _ np2 h3u) fw (by rw[u1.rest _ dpw];exact h4) k
def Zt(c:Nat):∀m,m∈(Jr:List Str)->([(("many" : Str),V.int (c:Int))]).lookup m=none:=λm hm=>by
 have go:∀m∈(Jr:List Str),(m==("many" : Str))=false:=()
 rw[Ib,go m hm];rfl
noncomputable def a3z(B:Bl mg)(D:vB K mg){c:Nat}(c4:c<=4)(n:Nat)(ts:List bY)(ws:List Int)(lw:ws.length=n)(jW:Dn K mg "with_number" eZ wI)(jX:Dn K mg "without_number" cX wJ):Hg P w K mg base Key where
 C:=D.C
 cl:=D.cl
 knd:=fC P w
 pq:=pqC c ws
 At:=zK K D.C [("many",.int c)] n ts ws
 Pl:=λv=>v<n
 Ti:=λ_=>True
 n:=n
 ts:=ts
 keep:=λa h=>zK.keep a h
 ins:=λh=>zK.ins (Zt c) h
 iw:=D.iw
 fO:=D.fO
 fD:=D.fD
 nY:=⟨_,_,D.eG.mt,D.eG.b,(qe D.eG _ Z _).mono ()⟩
 qR:=⟨_,_,D.jb.mt,D.jb.b,(tZ D.jb _ Z _).mono ()⟩
 vg:=⟨_,_,D.jc.mt,D.jc.b,(uc D.jc _ Z _).mono ()⟩
 vh:=⟨_,_,D.jd.mt,D.jd.b,(CT B c4 D.cl D.JX D.jd jW).mono ()⟩
 nZ:=⟨_,_,D.eN.mt,D.eN.b,(yq c4 D.cl D.fB lw D.eN jX).mono ()⟩
 En:=⟨_,_,D.pC.mt,D.pC.b,(Gr D.pC _ _).mono ()⟩
noncomputable def a3A(B:Bl mg)(D:CN K mg)(n:Nat)(ts:List bY)(ws:List Int)(lw:ws.length=n)(jW:Dn K mg "with_number" eZ wI)(jX:Dn K mg "without_number" cX wJ):Hg P w K mg base Key where
 C:=D.C
 cl:=D.cl
 knd:=fC P w
 pq:=pqA ws
 At:=zK K D.C [] n ts ws
 Pl:=λv=>v<n
 Ti:=λ_=>True
 n:=n
 ts:=ts
 keep:=λa h=>zK.keep a h
 ins:=λh=>zK.ins (λ_ _=>rfl) h
 iw:=D.iw
 fO:=D.fO
 fD:=D.fD
 nY:=⟨_,_,D.eG.mt,D.eG.b,(Bf D.eG _).mono ()⟩
 qR:=⟨_,_,D.jb.mt,D.jb.b,(tZ D.jb _ Z _).mono ()⟩
 vg:=⟨_,_,D.jc.mt,D.jc.b,(uc D.jc _ Z _).mono ()⟩
 vh:=⟨_,_,D.jd.mt,D.jd.b,(Gs B D.jd jW _).mono ()⟩
 nZ:=⟨_,_,D.eN.mt,D.eN.b,(Bh D.cl D.fB lw D.eN jX).mono ()⟩
 En:=⟨_,_,D.pC.mt,D.pC.b,(Lh D.pC _ _).mono ()⟩
noncomputable def a3B(B:Bl mg)(Bz:mg "zip" = none)(D:CP K mg)(n:Nat)(ts:List bY)(ws:List Int)(lw:ws.length=n)(jW:Dn K mg "with_number" eZ wI)(jX:Dn K mg "without_number" cX wJ):Hg P w K mg base Bool where
 C:=D.C
 cl:=D.cl
 knd:=Dk.Jp P w
 pq:=ū ws
 At:=zK K D.C [] n ts ws
 Pl:=λv=>v<n
 Ti:=λ_=>True
 n:=n
 ts:=ts
 keep:=λa h=>zK.keep a h
 ins:=λh=>zK.ins (λ_ _=>rfl) h
 iw:=D.iw
 fO:=D.fO
 fD:=D.fD
 nY:=⟨_,_,D.eG.mt,D.eG.b,(qe D.eG _ Z _).mono ()⟩
 qR:=⟨_,_,D.jb.mt,D.jb.b,(Gv B D.jb _).mono ()⟩
 vg:=⟨_,_,D.jc.mt,D.jc.b,(Gw B Bz D.jc _).mono ()⟩
 vh:=⟨_,_,D.jd.mt,D.jd.b,(Gu B D.jd jW _).mono ()⟩
 nZ:=⟨_,_,D.eN.mt,D.eN.b,(Bj D.cl D.fB lw D.eN jX).mono ()⟩
 En:=⟨_,_,D.pC.mt,D.pC.b,(Li B D.pC _ _).mono ()⟩
namespace Go
theorem wD:∀{xs ys:List Int},xs.Pairwise (· < ·)->ys.Pairwise (· < ·)->(∀v,v∈xs↔v∈ys)->xs=ys
 | [],[],_,_,_=>rfl
 | [],y::ys,_,_,h=>absurd ((h y).mpr aU) dO
 |x::xs,[],_,_,h=>absurd ((h x).mp aU) dO
 |x::xs,y::ys,hx,hy,h=>by
  rw[zY]at hx hy
  have e:x=y:=by
   rcases bZ.mp ((h x).mp aU)with h1|h1
   ·exact h1
   ·rcases bZ.mp ((h y).mpr aU)with h2|h2
    ·exact h2.symm
    ·have a:=hy.1 x h1
     have b:=hx.1 y h2
     omega
  subst e
  rw[wD hx.2 hy.2 λv=>⟨λhv=>?_,λhv=>?_⟩]
  ·grind
  grind
end Go
structure CV{κ:Type}(pq:PQ κ):Prop where
 leaf:pq.Ok 0 pq.leaf
 inn:∀{m s p v},pq.Ok m s->p<=m->(pq.inn s p v).length<=4/\∀x∈pq.inn s p v,pq.Ok (m+1) x.1
 tie:∀{m s a b t},pq.Ok m s->a<m->b<m->(pq.tie s a b t).length<=4/\∀x∈pq.tie s a b t,pq.Ok m x.1
 out:∀{m s p v},pq.Ok (m+1) s->p<m+1->(pq.out s p v).length<=4/\∀x∈pq.out s p v,pq.Ok m x.1
 jn:∀{m s t},pq.Ok m s->pq.Ok m t->(pq.jn s t).length<=4/\∀x∈pq.jn s t,pq.Ok m x
 fin:∀{m:Nat}{l:List dX},m<=4->l.Nodup->(∀s∈l,pq.Ok m s)->l.length<=900
def dM(T:cI):Nat:=(T.map λx=>x.2.m.natAbs).sum
structure zM{κ:Type}(pq:PQ κ)(m:Nat)(T:cI):Prop where
 nd:(T.map (·.1)).Nodup
 ok:∀x∈T,pq.Ok m x.1
def zM.nil{κ:Type}{pq:PQ κ}{m:Nat}:zM pq m []:=⟨Ad,λ_ h=>absurd h dO⟩
def zM.len{κ:Type}{pq:PQ κ}(pk:CV pq){m:Nat}(h:zM pq m T)(m4:m<=4):T.length<=900:=by
 have:=pk.fin m4 h.nd (λs hs=>by
  obtain⟨x,hx,rfl⟩:=fH.mp hs;exact h.ok x hx)
 rw[aK]at this;exact this
def Zu(T:cI)(s:dX)(r:gJ):(qQ T s r).map (·.1)=if(T.any λx=>decide (x.1=s))=true then T.map (·.1)else T.map (·.1)++[s]:=by
 unfold qQ;split
 ·rw[nC];refine xj λx _=>?_;grind
 grind
set_option tactic.hygienic true in
def a0Z{κ:Type}{pq:PQ κ}{m:Nat}{s:dX}{r:gJ}(h:zM pq m T)(hs:pq.Ok m s):zM pq m (qQ T s r):=by
 have e:=Zu T s r;refine⟨?_,λx hx=>?_⟩
 ·rw[e];split
  ·exact h.nd
  ·rename_i c;refine vL.mpr ⟨h.nd,zT _ _,λa ha b hb ab=>?_⟩;grind
 ·have:x.1∈(qQ T s r).map (·.1):=fH.mpr ⟨x,hx,Z⟩;rw[e]at this;split at this
  ·obtain⟨y,hy,ey⟩:=fH.mp this;rw[<-ey];exact h.ok y hy
  ·rcases cH.mp this with z|z
   ·obtain⟨y,hy,ey⟩:=fH.mp z;rw[<-ey];exact h.ok y hy
   grind
def XD{κ:Type}{pq:PQ κ}{bt:Int->Int->Bool}{m:Nat}{s:dX}{r:gJ}(h:zM pq m T)(hs:pq.Ok m s):zM pq m (nU bt T s r):=by
 unfold nU;split<;>exact a0Z h hs
def XF{s:dX}{r:gJ}(nd:(T.map (·.1)).Nodup):dM (qQ T s r)+((Al T s).map λo=>o.m.natAbs).getD 0=dM T+r.m.natAbs:=by
 induction T with
 |nil=>exact Nat.add_comm (r.m.natAbs+0) 0
 |cons x T ih =>
  rw[cL,jB]at nd;have ih:=ih nd.2;unfold qQ Al at ih ⊢;by_cases c:x.1=s
  ·rw[tH,bA c,Bool.true_or,aG Z,uI (by exact bA c)];have e:(T.map λy=>if y.1=s then(y.1,r)else y)=T:=by
    have:∀y∈T,(λy:dX×gJ=>if y.1=s then(y.1,r)else y) y=id y:=λy hy=>aB λz=>nd.1 (fH.mpr ⟨y,hy,z.trans c.symm⟩);rw[xj this,List.map_id]
   rw[cL,aG c,e];unfold dM;rw[cL,cL,vP,vP];show r.m.natAbs+_+x.2.m.natAbs=_;omega
  ·rw[tH,cJ c,Bool.false_or,uJ (by exact λz=>c (gV z))];by_cases d:(T.any λy=>decide (y.1=s))=true
   ·rw[aG d]at ih ⊢;rw[cL,aB c];unfold dM at ih ⊢;rw[cL,cL,vP,vP];omega
   ·rw[aB d]at ih ⊢;unfold dM at ih ⊢;rw[List.cons_append,cL,cL,vP,vP];omega
set_option tactic.hygienic true in
def RK{bt:Int->Int->Bool}{s:dX}{r:gJ}(nd:(T.map (·.1)).Nodup):dM (nU bt T s r)<=dM T+r.m.natAbs:=by
 unfold nU;split
 ·rename_i e;have:=XF (s:=s) (r:=r) nd;omega
 ·rename_i o e;have:=XF (s:=s) (r:=⟨o.m+r.m,(wK bt r o).b,(wK bt r o).src⟩) nd;rw[e]at this;have h2:(o.m+r.m).natAbs<=o.m.natAbs+r.m.natAbs:=Int.natAbs_add_le _ _;have e3:((some o).map λo:gJ=>o.m.natAbs).getD 0=o.m.natAbs:=rfl;rw[e3]at this;show dM (qQ T s _)<=_;have:dM (qQ T s ⟨o.m+r.m,(wK bt r o).b,(wK bt r o).src⟩)+o.m.natAbs=dM T+(o.m+r.m).natAbs:=this;omega
section
variable{κ:Type} [DecidableEq κ]
theorem Bk{pq:PQ κ}{bt:Int->Int->Bool}{m:Nat}{old:dX}{row:gJ}:∀{l:List (dX×Int)}{T:cI},zM pq m T->(∀x∈l,pq.Ok m x.1)->zM pq m (oR bt old row l T)/\dM (oR bt old row l T)<=dM T+l.length*row.m.natAbs
 | [],T,h,_=>⟨h,by show dM T<=dM T+0*_;omega⟩
 |x::l,T,h,hl=>by
  have h1:zM pq m (nU bt T x.1 ⟨row.m,row.b+x.2,[old]⟩):=XD h (hl x (aU ..))
  have s1:=RK (bt:=bt) (s:=x.1) (r:=⟨row.m,row.b+x.2,[old]⟩) h.nd
  have s1:dM (nU bt T x.1 ⟨row.m,row.b+x.2,[old]⟩)<=dM T+row.m.natAbs:=s1
  obtain⟨h2,s2⟩:=Bk (bt:=bt) (old:=old) (row:=row) h1 (λy hy=>hl y (bC _ hy))
  refine⟨h2,cV s2 ?_⟩
  rw[jJ,Nat.succ_mul]
  omega
theorem J7{pq:PQ κ}{jZ:bU}{B:List Int}{m m':Nat}:∀{S T:cI},zM pq m' T->(∀x∈S,pq.Ok m x.1)->(∀s,pq.Ok m s->(Vv pq s jZ B).length<=4/\∀x∈Vv pq s jZ B,pq.Ok m' x.1)->zM pq m' (nH pq jZ B S T)/\dM (nH pq jZ B S T)<=dM T+4*dM S
 | [],T,h,_,_=>⟨h,by show dM T<=dM T+_;omega⟩
 |x::S,T,h,hS,hb=>by
  obtain⟨l4,ob⟩:=hb x.1 (hS x (aU ..))
  obtain⟨h1,s1⟩:=Bk (bt:=pq.bt) (old:=x.1) (row:=x.2) h ob
  obtain⟨h2,s2⟩:=J7 h1 (λy hy=>hS y (bC _ hy)) hb
  refine⟨h2,cV s2 ?_⟩
  have e:dM (x::S)=x.2.m.natAbs+dM S:=by unfold dM;grind
  rw[e]
  have:(Vv pq x.1 jZ B).length*x.2.m.natAbs<=4*x.2.m.natAbs:=Nat.mul_le_mul_right _ l4
  omega
def Zv{pq:PQ κ}(pk:CV pq){jZ:bU}{B:List Int}{m m':Nat}(m4:m'<=4){S:cI}(hS:∀x∈S,pq.Ok m x.1)(hb:∀s,pq.Ok m s->(Vv pq s jZ B).length<=4/\∀x∈Vv pq s jZ B,pq.Ok m' x.1):a3g pq jZ B S []:=by
 intro i hi x hx j hj;have h1:=(J7 (pq:=pq) (jZ:=jZ) (B:=B) (m:=m) (m':=m') (S:=S.take i) zM.nil (λy hy=>hS y (lE hy)) hb).1;obtain⟨_,ob⟩:=hb x.1 (hS x (jz hx));have h2:=(Bk (bt:=pq.bt) (old:=x.1) (row:=x.2) (l:=(Vv pq x.1 jZ B).take j) h1 λy hy=>ob y (lE hy)).1;have:=h2.len pk m4;omega
theorem J8{pq:PQ κ}{bt:Int->Int->Bool}{m:Nat}{gh bT:dX}{row more:gJ}:∀{l:List dX}{T:cI},zM pq m T->(∀x∈l,pq.Ok m x)->zM pq m (zH bt gh bT row more l T)/\dM (zH bt gh bT row more l T)<=dM T+l.length*(row.m.natAbs*more.m.natAbs)
 | [],T,h,_=>⟨h,by show dM T<=dM T+0*_;omega⟩
 |x::l,T,h,hl=>by
  have h1:zM pq m (nU bt T x ⟨row.m*more.m,row.b+more.b,[gh,bT]⟩):=XD h (hl x (aU ..))
  have s1:=RK (bt:=bt) (s:=x) (r:=⟨row.m*more.m,row.b+more.b,[gh,bT]⟩) h.nd
  have s1:dM (nU bt T x ⟨row.m*more.m,row.b+more.b,[gh,bT]⟩)<=dM T+(row.m*more.m).natAbs:=s1
  rw[Int.natAbs_mul]at s1
  obtain⟨h2,s2⟩:=J8 (bt:=bt) (gh:=gh) (bT:=bT) (row:=row) (more:=more) h1 (λy hy=>hl y (bC _ hy))
  refine⟨h2,cV s2 ?_⟩
  rw[jJ,Nat.succ_mul]
  omega
theorem J9{pq:PQ κ}(pk:CV pq){m:Nat}{gh:dX}{row:gJ}(oo:pq.Ok m gh):∀{A T:cI},zM pq m T->(∀x∈A,pq.Ok m x.1)->zM pq m (zJ pq gh row A T)/\dM (zJ pq gh row A T)<=dM T+4*(row.m.natAbs*dM A)
 | [],T,h,_=>⟨h,by show dM T<=dM T+_;omega⟩
 |x::A,T,h,hA=>by
  obtain⟨l4,oj⟩:=pk.jn oo (hA x (aU ..))
  obtain⟨h1,s1⟩:=J8 (bt:=pq.bt) (gh:=gh) (bT:=x.1) (row:=row) (more:=x.2) h oj
  obtain⟨h2,s2⟩:=J9 pk oo (row:=row) h1 (λy hy=>hA y (bC _ hy))
  refine⟨h2,cV s2 ?_⟩
  have e:dM (x::A)=x.2.m.natAbs+dM A:=by unfold dM;grind
  rw[e,Nat.mul_add]
  have:=Nat.mul_le_mul_right (row.m.natAbs*x.2.m.natAbs) l4
  omega
theorem sum_filter(p:dX×gJ->Bool):∀A:cI,dM (A.filter p)<=dM A
 | []=>aM _
 |x::A=>by
  have ih:=sum_filter p A
  have e:dM (x::A)=x.2.m.natAbs+dM A:=by unfold dM;grind
  by_cases c:p x=true
  ·rw[Sy c]
   have e':dM (x::A.filter p)=x.2.m.natAbs+dM (A.filter p):=by unfold dM;grind
   omega
  grind
theorem P0{pq:PQ κ}(pk:CV pq){m:Nat}{A:cI}(hA:∀x∈A,pq.Ok m x.1):∀{S T:cI},zM pq m T->(∀x∈S,pq.Ok m x.1)->zM pq m (wL pq A S T)/\dM (wL pq A S T)<=dM T+4*(dM S*dM A)
 | [],T,h,_=>⟨h,by show dM T<=dM T+_;omega⟩
 |x::S,T,h,hS=>by
  have hA':∀y∈qw pq x.1 A,pq.Ok m y.1:=λy hy=>hA y (lG.mp hy).1
  obtain⟨h1,s1⟩:=J9 pk (hS x (aU ..)) (row:=x.2) h hA'
  obtain⟨h2,s2⟩:=P0 pk hA h1 (λy hy=>hS y (bC _ hy))
  refine⟨h2,cV s2 ?_⟩
  have e:dM (x::S)=x.2.m.natAbs+dM S:=by unfold dM;grind
  rw[e,Nat.add_mul]
  have f:dM (qw pq x.1 A)<=dM A:=sum_filter _ A
  have:=Nat.mul_le_mul_left x.2.m.natAbs f
  omega
def ķ{pq:PQ κ}(pk:CV pq){m:Nat}(m4:m<=4){A S:cI}(hA:∀x∈A,pq.Ok m x.1)(hS:∀x∈S,pq.Ok m x.1):a3j pq A S []:=by
 intro i x hx j y hy l hl;have h1:=(P0 pk hA (S:=S.take i) zM.nil λz hz=>hS z (lE hz)).1;have ox:=hS x (jz hx);have h2:=(J9 pk ox (row:=x.2) (A:=(qw pq x.1 A).take j) h1 λz hz=>hA z (lG.mp (lE hz)).1).1;have oy:=hA y (lG.mp (jz hy)).1;have h3:=(J8 (bt:=pq.bt) (gh:=x.1) (bT:=y.1) (row:=x.2) (more:=y.2) (l:=(pq.jn x.1 y.1).take l) h2 λz hz=>(pk.jn ox oy).2 z (lE hz)).1;have:=h3.len pk m4;omega
end
namespace Go
def getD_at{ss:List bU}{i:Nat}{s:bU}(h:ss[i]?=some s):ss.getD i .leaf=s:=by
 rw[fM,h];rfl
section
variable{n:Nat}{ts:List bY}{ss:List bU}
def Ka{i:Nat}{s:bU}(h:ss[i]?=some s)(g1:(aX n ts ss i).2=true)(g2:(aX n ts ss (i+1)).2=true):∃b,pZ n ts (ss.take i) s (sE s (aX n ts ss i).1)=some b/\s.need<=(aX n ts ss i).1.pile.length/\(aX n ts ss (i+1)).1=⟨(aX n ts ss i).1.aR++[b],(aX n ts ss i).1.dJ++[(aX n ts ss i).1.pile.drop (dR s (aX n ts ss i).1)],(aX n ts ss i).1.pile.take (dR s (aX n ts ss i).1)++[i]⟩:=by
 rw[RG,aG g1]at g2 ⊢;cases d:qU n ts ss i (aX n ts ss i).1 with
 |none=>grind
 |some r =>
  unfold qU at d;rw[getD_at h]at d;by_cases c:s.need<=(aX n ts ss i).1.pile.length
  ·rw[aG c]at d;obtain⟨b,hb,er⟩:=oF.mp d;exact⟨b,hb,c,er.symm⟩
  ·rw[aB c]at d;cases d
theorem XH(go:∀i,i<=ss.length->(aX n ts ss i).2=true)(cZ:n<=10){k:Nat}{s:bU}(h:ss[k]?=some s):∀j,k+1<=j->j<=ss.length->(aX n ts ss j).1.dJ.getD k []=(aX n ts ss k).1.pile.drop (dR s (aX n ts ss k).1)
 |0,h1,_=>absurd h1 ()
 |j+1,h1,h2=>by
  have kl:=(fL.mp h).1
  obtain⟨b,_,_,e⟩:=Ka (n:=n) (ts:=ts) (s:=ss[j]'()) (bF ()) (go j ()) (go (j+1) h2)
  have I:=jx cZ (go j ())
  rw[e]
  show((aX n ts ss j).1.dJ++[_]).getD k []=_
  by_cases c:j=k
  ·subst c
   rw[fM,wZ (by rw[I.fl];omega),I.fl,Ag]
   grind
  ·rw[fM,zR (by rw[I.fl];omega),<-fM]
   exact XH go cZ h j () ()
abbrev gR(n:Nat)(ts:List bY)(ss:List bU)(k:Nat):List Int:=(cD n ts ss).aR.getD k []
abbrev qX(n:Nat)(ts:List bY)(ss:List bU)(k:Nat):List Nat:=(cD n ts ss).dJ.getD k []
theorem V1(go:∀i,i<=ss.length->(aX n ts ss i).2=true)(cZ:n<=10){k:Nat}:∀j,k+1<=j->j<=ss.length->(aX n ts ss j).1.aR.getD k []=(aX n ts ss (k+1)).1.aR.getD k []
 |0,h1,_=>absurd h1 ()
 |j+1,h1,h2=>by
  by_cases c:j=k
  ·rw[c]
  obtain⟨b,_,_,e⟩:=Ka (n:=n) (ts:=ts) (s:=ss[j]'()) (bF ()) (go j ()) (go (j+1) h2)
  have I:=jx cZ (go j ())
  rw[e]
  show((aX n ts ss j).1.aR++[_]).getD k []=_
  rw[fM,zR (by rw[I.tl];omega),<-fM]
  exact V1 go cZ j () ()
def Qa(go:∀i,i<=ss.length->(aX n ts ss i).2=true)(cZ:n<=10){k j:Nat}(h1:k+1<=j)(h2:j<=ss.length):(aX n ts ss j).1.aR.getD k []=gR n ts ss k:=by
 rw[V1 go cZ j h1 h2];exact(V1 go cZ ss.length () (aM _)).symm
structure StE(n:Nat)(ts:List bY)(ss:List bU)(k:Nat)(s:bU):Prop where
 bh:pZ n ts (ss.take k) s ((qX n ts ss k).map (gR n ts ss))=some (gR n ts ss k)
 len:(qX n ts ss k).length=s.need
 lt:∀j∈qX n ts ss k,j<k
 pile:(aX n ts ss (k+1)).1.pile=(aX n ts ss k).1.pile.take (dR s (aX n ts ss k).1)++[k]
 feed:qX n ts ss k=(aX n ts ss k).1.pile.drop (dR s (aX n ts ss k).1)
def Bm(go:∀i,i<=ss.length->(aX n ts ss i).2=true)(cZ:n<=10){k:Nat}{s:bU}(h:ss[k]?=some s):StE n ts ss k s:=by
 have kl:=(fL.mp h).1;obtain⟨b,hb,hn,e⟩:=Ka (n:=n) (ts:=ts) h (go k ()) (go (k+1) ());have I:=jx cZ (go k ());have ef:qX n ts ss k=(aX n ts ss k).1.pile.drop (dR s (aX n ts ss k).1):=XH go cZ h ss.length () (aM _);have lt:∀j∈qX n ts ss k,j<k:=λj hj=>by
  rw[ef]at hj;exact I.lt j (vG hj)
 have eu:sE s (aX n ts ss k).1=(qX n ts ss k).map (gR n ts ss):=by
  unfold sE;rw[<-ef];exact xj λj hj=>Qa go cZ (lt j hj) ()
 have eb:gR n ts ss k=b:=by
  rw[<-Qa go cZ (Nat.le_refl (k+1)) (),e];show((aX n ts ss k).1.aR++[b]).getD k []=b;rw[fM,wZ (by rw[I.tl];omega),I.tl,Ag];rfl
 refine⟨by rw[eb,<-eu];exact hb,?_,lt,by rw[e],ef⟩;rw[ef,j9];unfold dR;omega
def wF(p:Int->Bool):(Qv p).Pairwise (· < ·):=by
 unfold Qv;refine HS _ ?_;rw[Aa];exact List.pairwise_lt_range.imp λh=>by omega
def V2{l:List α}(h:l.length=1):∃i,l=[i]:=by
 rcases l with _|⟨i,_|⟨j,l⟩⟩
 ·cases h
 ·grind
 ·cases h
def two_of{l:List α}(h:l.length=2):∃i j,l=[i,j]:=by
 rcases l with _|⟨i,_|⟨j,_|⟨x,l⟩⟩⟩
 ·cases h
 ·cases h
 ·grind
 ·cases h
inductive StB(n:Nat)(ts:List bY)(ss:List bU)(k:Nat):bU->Prop
 |leaf:qX n ts ss k=[]->gR n ts ss k=[]->StB n ts ss k .leaf
 |inn {i v}:qX n ts ss k=[i]->i<k->0<=v->v<(n:Int)->v∉gR n ts ss i->gR n ts ss k=gj (gR n ts ss i) [v]->bU.out v∉ss.take k->StB n ts ss k (.inn v)
 |tie {i a b}:qX n ts ss k=[i]->i<k->(a,b)∈ts->a∈gR n ts ss i->b∈gR n ts ss i->gR n ts ss k=gR n ts ss i->StB n ts ss k (.tie a b)
 |out {i v}:qX n ts ss k=[i]->i<k->v∈gR n ts ss i->gR n ts ss k=mV (gR n ts ss i) [v]->bU.out v∉ss.take k->StB n ts ss k (.out v)
 |join {i j}:qX n ts ss k=[i,j]->i<k->j<k->gR n ts ss i=gR n ts ss j->gR n ts ss k=gR n ts ss i->StB n ts ss k .join
set_option tactic.hygienic true in
def a00{k:Nat}{s:bU}(S:StE n ts ss k s):StB n ts ss k s:=by
 have hb:=S.bh;cases s with
 |leaf=>exact .leaf (Nj.mp S.len) (dB hb).symm
 |inn v =>
  obtain⟨i,ei⟩:=V2 S.len;have lt:=S.lt i ();rw[ei]at hb;unfold pZ at hb;dsimp only at hb;split at hb
  ·rename_i c;exact .inn ei lt c.1.1 c.1.2 c.2.1 (dB hb).symm c.2.2
  ·cases hb
 |tie a b =>
  obtain⟨i,ei⟩:=V2 S.len;have lt:=S.lt i ();rw[ei]at hb;unfold pZ at hb;dsimp only at hb;split at hb
  ·rename_i c;have c2:mV [a,b] (gR n ts ss i)=[]:=c.2.1;have mm:∀x∈[a,b],x∈gR n ts ss i:=λx hx=>by
    cases d:decide (x∈gR n ts ss i)with
    |true=>grind
    |false =>
     have:x∈mV [a,b] (gR n ts ss i):=lG.mpr ⟨hx,by rw[d];rfl⟩;grind
   exact .tie ei lt c.1 (mm a (by simp)) (mm b (by simp)) (dB hb).symm
  ·cases hb
 |out v =>
  obtain⟨i,ei⟩:=V2 S.len;have lt:=S.lt i ();rw[ei]at hb;unfold pZ at hb;dsimp only at hb;split at hb
  ·rename_i c;exact .out ei lt c.1 (dB hb).symm c.2
  ·cases hb
 |join =>
  obtain⟨i,j,ei⟩:=two_of S.len;have lt:=S.lt i (by rw[ei];simp);have lt':=S.lt j (by rw[ei];simp);rw[ei]at hb;unfold pZ at hb;dsimp only at hb;split at hb
  ·rename_i c;exact .join ei lt lt' c (dB hb).symm
  ·cases hb
def RL(cZ:n<=10)(all:∀(k:Nat) (s:bU),ss[k]?=some s->StB n ts ss k s):∀k,k<ss.length->(gR n ts ss k).Pairwise (· < ·)/\∀v∈gR n ts ss k,0<=v/\v<(n:Int):=by
 intro k
 induction k using Nat.strongRecOn with
 |_ k ih =>
  intro kl;have S:=all k _ (bF kl);generalize ss[k]=s at S;cases S with
  |leaf _ e=>rw[e];exact⟨.nil,λv h=>absurd h dO⟩
  | @inn i v _ lt v0 vn _ e _ =>
   rw[e];refine⟨wF _,λx hx=>?_⟩;have:=(yW.mp hx).2.2;rcases gV this with h|h
   ·exact(ih i lt ()).2 x h
   ·rw[bG.mp h];exact⟨v0,vn⟩
  | @tie i a b _ lt _ _ _ e=>rw[e];exact ih i lt ()
  | @out i v _ lt _ e _ =>
   rw[e];have:=ih i lt ();exact⟨this.1.filter _,λx hx=>this.2 x (lG.mp hx).1⟩
  | @join i j _ lt _ _ e=>rw[e];exact ih i lt ()
def sZ(cZ:n<=10){p q:List Int}(hp:∀v∈p,0<=v/\v<(n:Int))(hq:∀v∈q,0<=v/\v<(n:Int)){v:Int}:v∈gj p q↔v∈p\/v∈q:=by
 refine⟨λh=>gV (yW.mp h).2.2,λh=>yW.mpr ?_⟩;grind
def zp(cZ:n<=10){p q:List Int}(ap:p.Pairwise (· < ·))(hp:∀v∈p,0<=v/\v<(n:Int))(h:∀v∈q,v∈p):gj p q=p/\gj q p=p:=by
 have hq:=λv hv=>hp v (h v hv);refine⟨wD (wF _) ap λv=>?_,wD (wF _) ap λv=>?_⟩
 ·rw[sZ cZ hp hq];exact⟨λz=>z.elim id (h v),.inl⟩
 ·rw[sZ cZ hq hp];exact⟨λz=>z.elim (h v) id,.inr⟩
def zN{b:List Int}(h:b.Pairwise (· < ·)):b.Nodup:=h.imp λh=>by omega
def a01(cZ:n<=10){p:List Int}{v:Int}(ap:p.Pairwise (· < ·))(hp:∀v∈p,0<=v/\v<(n:Int))(hv:0<=v/\v<(n:Int))(h:v∉p):(gj p [v]).length=p.length+1:=by
 have:(gj p [v]).Perm (v::p):=(Hx (zN (wF _)) (jB.mpr ⟨h,zN ap⟩)).mpr λx=>by
  show x∈gj p [v]↔_;rw[show x∈gj p [v]↔x∈p\/x∈[v]from sZ cZ hp (λy hy=>by rw[bG.mp hy];exact hv)];simp[or_comm]
 rw[this.length_eq];rfl
def a02{p:List Int}{v:Int}(ap:p.Pairwise (· < ·))(h:v∈p):(mV p [v]).length+1=p.length:=by
 have:(mV p [v]).Perm (p.erase v):=(Hx ((zN ap).filter _) ((zN ap).erase v)).mpr λx=>by
  rw[(zN ap).mem_erase_iff,lG];simp[and_comm]
 rw[this.length_eq,List.length_erase_of_mem h];grind
theorem RM(go:∀i,i<=ss.length->(aX n ts ss i).2=true)(cZ:n<=10):∀i,i<=ss.length->(aX n ts ss i).1.pile.Pairwise (· < ·)
 |0,_=>.nil
 |i+1,il=>by
  have S:=Bm (n:=n) (ts:=ts) go cZ (List.getElem?_eq_getElem (show i<ss.length by omega))
  have I:=jx cZ (go i ())
  rw[S.pile]
  refine S9.mpr ⟨(RM go cZ i ()).sublist (Ny _ _),zT _ _,λa ha b hb=>?_⟩
  rw[bG.mp hb]
  exact I.lt a (lE ha)
end
end Go
namespace Go
section
variable{κ:Type} [DecidableEq κ]
variable{n:Nat}{ts:List bY}{ss:List bU}
abbrev zE(pq:PQ κ)(n:Nat)(ts:List bY)(ss:List bU)(k:Nat):List cI:=La pq ss (cD n ts ss).aR (cD n ts ss).dJ k
def Qc(pq:PQ κ){k j:Nat}(h:j<k):(zE pq n ts ss (k+1)).getD j []=(zE pq n ts ss k).getD j []:=by
 show(zE pq n ts ss k++[_]).getD j []=_;rw[fM,zR (by rw[mX];exact h),<-fM]
def Qd(pq:PQ κ)(k:Nat):(zE pq n ts ss (k+1)).getD k []=K9 pq (cD n ts ss).aR (zE pq n ts ss k) (ss.getD k .leaf) (gR n ts ss k) (qX n ts ss k):=by
 show(zE pq n ts ss k++[_]).getD k []=_;rw[fM,wZ (by rw[mX];grind),mX,Ag];rfl
theorem Qe(pq:PQ κ){j:Nat}:∀{k:Nat},j<k->(zE pq n ts ss k).getD j []=(zE pq n ts ss (j+1)).getD j []
 |0,h=>absurd h (xG _)
 |k+1,h=>by
  by_cases c:j=k
  ·rw[c]
  ·rw[Qc pq (show j<k by omega)]
   exact Qe pq ()
structure GoI(pq:PQ κ)(n:Nat)(ts:List bY)(ss:List bU)(k:Nat):Prop where
 ok:∀j,j<k->zM pq (gR n ts ss j).length ((zE pq n ts ss k).getD j [])
 cost:∃c:Nat->Nat,(∀j,j<k->dM ((zE pq n ts ss k).getD j [])<=16^c j)/\((aX n ts ss k).1.pile.map c).sum<=k
theorem Ĺ{c:Nat->Nat}:∀{l:List Nat}{i:Nat},i∈l->c i<=(l.map c).sum
 |a::l,i,h=>by
  rw[cL,vP]
  rcases bZ.mp h with h|h
  ·rw[h];omega
  ·have:=Ĺ (c:=c) h
   omega
theorem a5J:∀{T:cI}{x:dX×gJ},x∈T->x.2.m.natAbs<=dM T
 |y::T,x,h=>by
  have e:dM (y::T)=y.2.m.natAbs+dM T:=by unfold dM;grind
  rw[e]
  rcases bZ.mp h with h|h
  ·rw[h];omega
  ·have:=a5J h
   omega
def RN{c:Nat}(h:dM T<=16^c)(l:c<=800):JH T:=λx hx=>by
 have h1:=a5J hx;have e:(16:Nat)^c=2^(4*c):=by rw[Nat.pow_mul]
 have:(2:Nat)^(4*c)<2^4000:=Nat.pow_lt_pow_right () ();omega
def Ao{B:List Int}{v:Int}(h:v∈B):B.idxOf v<B.length:=Nf h
def Kc(Qn:Hg P w K mg base κ)(pk:CV Qn.pq){aR:List (List Int)}{iV:List cI}{jZ:bU}{bh:List Int}{i:Nat}(nj:jZ≠.join)(il:i<iV.length)(hT:zM Qn.pq (aR.getD i []).length (iV.getD i []))(m4:(aR.getD i []).length<=4)(b4:bh.length<=4)(fit:Hi Qn jZ (gj bh (aR.getD i [])) (aR.getD i []).length)
  (hb:∀s,Qn.pq.Ok (aR.getD i []).length s->(Vv Qn.pq s jZ (gj bh (aR.getD i []))).length<=4/\∀x∈Vv Qn.pq s jZ (gj bh (aR.getD i [])),Qn.pq.Ok bh.length x.1):Aq Qn aR iV jZ bh [i]/\zM Qn.pq bh.length (K9 Qn.pq aR iV jZ bh [i])/\dM (K9 Qn.pq aR iV jZ bh [i])<=4*dM (iV.getD i []):=by
 have l9:=hT.len pk m4;obtain⟨h1,h2⟩:=J7 (pq:=Qn.pq) (jZ:=jZ) (B:=gj bh (aR.getD i [])) (S:=iV.getD i []) zM.nil hT.ok hb;refine⟨⟨nj,il,hT.ok,fit,(),Zv pk b4 hT.ok hb⟩,h1,?_⟩;have e:dM []=0:=rfl;rw[e,Nat.zero_add]at h2;exact h2
def two_step(Qn:Hg P w K mg base κ)(pk:CV Qn.pq){aR:List (List Int)}{iV:List cI}{bh:List Int}{i j m ci cj:Nat}(il:i<iV.length)(jl:j<iV.length)(nij:i≠j)(em:bh.length=m)(m4:m<=4)(hi:zM Qn.pq m (iV.getD i []))(hj:zM Qn.pq m (iV.getD j []))(si:dM (iV.getD i [])<=16^ci)(sj:dM (iV.getD j [])<=16^cj)(li:ci<=800)(lj:cj<=800):Aq Qn aR iV .join bh [i,j]/\zM Qn.pq bh.length (K9 Qn.pq aR iV .join bh [i,j])/\dM (K9 Qn.pq aR iV .join bh [i,j])<=4*(dM (iV.getD i [])*dM (iV.getD j [])):=by
 have l1:=hi.len pk m4;have l2:=hj.len pk m4;obtain⟨h1,h2⟩:=P0 pk (A:=iV.getD j []) hj.ok (S:=iV.getD i []) zM.nil hi.ok;refine⟨⟨Z,il,jl,nij,m,(),hi.ok,hj.ok,hj.nd,(),l2,RN si li,RN sj lj,ķ pk m4 hj.ok hi.ok⟩,by rw[em];exact h1,?_⟩;have e:dM []=0:=rfl;rw[e,Nat.zero_add]at h2;exact h2
def pow_step{c x:Nat}(h:x<=16^c):4*x<=16^(1+c):=by
 grind
def XJ(Qn:Hg P w K mg base κ)(pk:CV Qn.pq)(hPl:∀k:Nat,k<Qn.n->Qn.Pl k)(hTi:∀t∈Qn.ts,Qn.Ti t)(ne:∀t∈Qn.ts,t.1≠t.2)(cZ:Qn.n<=10)(l8:ss.length<=800)(qJ:Bt Qn.n Qn.ts ss (cD Qn.n Qn.ts ss)=.ok)(b4:∀b∈(cD Qn.n Qn.ts ss).aR,b.length<=4){k:Nat}(kl:k<ss.length)(I:GoI Qn.pq Qn.n Qn.ts ss k):Aq Qn (cD Qn.n Qn.ts ss).aR (zE Qn.pq Qn.n Qn.ts ss k) (ss.getD k .leaf) (gR Qn.n Qn.ts ss k) (qX Qn.n Qn.ts ss k)/\GoI Qn.pq Qn.n Qn.ts ss (k+1):=by
 have go:=Ĩ cZ qJ;have RI:=zf cZ qJ;have all:∀(k:Nat) (s:bU),ss[k]?=some s->StB Qn.n Qn.ts ss k s:=λk s h=>a00 (Bm go cZ h);have tp:=RL cZ all;have t4:∀j,j<ss.length->(gR Qn.n Qn.ts ss j).length<=4:=λj hj=>by
  have hl:j<(cD Qn.n Qn.ts ss).aR.length:=by rw[RI.tl];exact hj
  have e:gR Qn.n Qn.ts ss j=(cD Qn.n Qn.ts ss).aR[j]:=by
   show(cD Qn.n Qn.ts ss).aR.getD j []=_;rw[fM,bF hl];rfl
  rw[e];exact b4 _ (mJ hl)
 have hs:=bF kl;have S:=Bm (n:=Qn.n) (ts:=Qn.ts) go cZ hs;have SB:=a00 S;have es:=getD_at hs;obtain⟨c,hc,hsum⟩:=I.cost;have c8:∀i∈qX Qn.n Qn.ts ss k,c i<=800:=λi hi=>by
  have:c i<=_:=Ĺ (c:=c) (l:=(aX Qn.n Qn.ts ss k).1.pile) (by rw[S.feed]at hi;exact vG hi);omega
 suffices h:Aq Qn (cD Qn.n Qn.ts ss).aR (zE Qn.pq Qn.n Qn.ts ss k) (ss.getD k .leaf) (gR Qn.n Qn.ts ss k) (qX Qn.n Qn.ts ss k)/\zM Qn.pq (gR Qn.n Qn.ts ss k).length (K9 Qn.pq (cD Qn.n Qn.ts ss).aR (zE Qn.pq Qn.n Qn.ts ss k) (ss.getD k .leaf) (gR Qn.n Qn.ts ss k) (qX Qn.n Qn.ts ss k))/\dM (K9 Qn.pq (cD Qn.n Qn.ts ss).aR (zE Qn.pq Qn.n Qn.ts ss k) (ss.getD k .leaf) (gR Qn.n Qn.ts ss k) (qX Qn.n Qn.ts ss k))<=16^(1+((qX Qn.n Qn.ts ss k).map c).sum) by
  obtain⟨h1,h2,h3⟩:=h;refine⟨h1,⟨λj hj=>?_,λj=>if j=k then 1+((qX Qn.n Qn.ts ss k).map c).sum else c j,λj hj=>?_,?_⟩⟩
  ·by_cases e:j=k
   ·rw[e,Qd];exact h2
   ·rw[Qc _ ()];exact I.ok j ()
  ·show dM _<=16^(if j=k then 1+((qX Qn.n Qn.ts ss k).map c).sum else c j);by_cases e:j=k
   ·rw[aG e,e,Qd];exact h3
   ·rw[aB e,Qc _ ()];exact hc j ()
  ·have Z97:=jx cZ (go k ());rw[S.pile,dW,List.sum_append];have e1:((aX Qn.n Qn.ts ss k).1.pile.take (dR ss[k] (aX Qn.n Qn.ts ss k).1)).map (λj=>if j=k then 1+((qX Qn.n Qn.ts ss k).map c).sum else c j)=((aX Qn.n Qn.ts ss k).1.pile.take (dR ss[k] (aX Qn.n Qn.ts ss k).1)).map c:=xj λj hj=>aB (by have:=Z97.lt j (lE hj);omega);have e2:([k].map λj=>if j=k then 1+((qX Qn.n Qn.ts ss k).map c).sum else c j).sum=1+((qX Qn.n Qn.ts ss k).map c).sum:=by
    show(if k=k then 1+((qX Qn.n Qn.ts ss k).map c).sum else c k)+0=_;rw[aG Z,Nat.add_zero]
   rw[e1,e2,S.feed];have e3:((aX Qn.n Qn.ts ss k).1.pile.map c).sum=(((aX Qn.n Qn.ts ss k).1.pile.take (dR ss[k] (aX Qn.n Qn.ts ss k).1)).map c).sum+(((aX Qn.n Qn.ts ss k).1.pile.drop (dR ss[k] (aX Qn.n Qn.ts ss k).1)).map c).sum:=by
    rw[<-List.sum_append,<-dW,xg]
   omega
 rw[es];have lk:(zE Qn.pq Qn.n Qn.ts ss k).length=k:=mX _ _ _ _ k;have pa:=RM (n:=Qn.n) (ts:=Qn.ts) go cZ k ();have fd:=S.feed;obtain⟨ak,bk⟩:=tp k kl;have k4:=t4 k kl;generalize ss[k]=s at SB fd ⊢;cases SB with
 |leaf ef et =>
  rw[ef,et];refine⟨trivial,⟨zT _ _,λx hx=>?_⟩,by show 1<=16^1;decide⟩;rw[bG.mp hx];exact pk.leaf
 | @inn i v ef lt v0 vn nv et _ =>
  obtain⟨ai,bi⟩:=tp i ();have ci:=hc i lt;have e1:gj (gR Qn.n Qn.ts ss k) (gR Qn.n Qn.ts ss i)=gR Qn.n Qn.ts ss k:=(zp cZ ak bk λx hx=>by rw[et];exact(sZ cZ bi λy hy=>by rw[bG.mp hy];exact⟨v0,vn⟩).mpr (.inl hx)).1;have e2:(gR Qn.n Qn.ts ss k).length=(gR Qn.n Qn.ts ss i).length+1:=by rw[et];exact a01 cZ ai bi ⟨v0,vn⟩ nv
  have vk:v∈gR Qn.n Qn.ts ss k:=by rw[et];exact(sZ cZ bi λy hy=>by rw[bG.mp hy];exact⟨v0,vn⟩).mpr (.inr (List.mem_singleton_self v))
  rw[ef];obtain⟨h1,h2,h3⟩:=Kc Qn pk (aR:=(cD Qn.n Qn.ts ss).aR) (iV:=zE Qn.pq Qn.n Qn.ts ss k) (jZ:=.inn v) (bh:=gR Qn.n Qn.ts ss k) (i:=i) (λz=>by cases z) () (I.ok i lt) (t4 i ()) k4 (by
   rw[e1];exact⟨⟨v.toNat,()⟩,vk,e2,t4 i ()⟩) (λs hs=>by
   rw[e1];have q:(gR Qn.n Qn.ts ss k).idxOf v<(gR Qn.n Qn.ts ss i).length+1:=by rw[<-e2];exact Ao vk
   obtain⟨g1,g2⟩:=pk.inn (p:=(gR Qn.n Qn.ts ss k).idxOf v) (v:=v.toNat) hs (Nat.le_of_lt_succ q);exact⟨g1,λx hx=>by rw[e2];exact g2 x hx⟩)
  exact⟨h1,h2,cV h3 (pow_step (by rw[Tr,Tt];exact ci))⟩
 | @tie i a b ef lt ht ma mb et =>
  obtain⟨ai,bi⟩:=tp i ();have ci:=hc i lt;have e1:gj (gR Qn.n Qn.ts ss k) (gR Qn.n Qn.ts ss i)=gR Qn.n Qn.ts ss i:=by rw[et];exact(zp cZ ai bi λ_ h=>h).1
  rw[ef];obtain⟨h1,h2,h3⟩:=Kc Qn pk (aR:=(cD Qn.n Qn.ts ss).aR) (iV:=zE Qn.pq Qn.n Qn.ts ss k) (jZ:=.tie a b) (bh:=gR Qn.n Qn.ts ss k) (i:=i) (λz=>by cases z) () (I.ok i lt) (t4 i ()) k4 (by
   rw[e1];exact⟨ma,mb,ne _ ht,Z,Nat.le_succ_of_le (t4 i ()),hTi _ ht⟩) (λs hs=>by
   rw[e1,et];exact pk.tie hs (Ao ma) (Ao mb))
  exact⟨h1,h2,cV h3 (pow_step (by rw[Tr,Tt];exact ci))⟩
 | @out i v ef lt mv et _ =>
  obtain⟨ai,bi⟩:=tp i ();have ci:=hc i lt;have e1:gj (gR Qn.n Qn.ts ss k) (gR Qn.n Qn.ts ss i)=gR Qn.n Qn.ts ss i:=(zp cZ ai bi λx hx=>by rw[et]at hx;exact(lG.mp hx).1).2;have e2:(gR Qn.n Qn.ts ss k).length+1=(gR Qn.n Qn.ts ss i).length:=by rw[et];exact a02 ai mv
  have bv:=bi v mv;rw[ef];obtain⟨h1,h2,h3⟩:=Kc Qn pk (aR:=(cD Qn.n Qn.ts ss).aR) (iV:=zE Qn.pq Qn.n Qn.ts ss k) (jZ:=.out v) (bh:=gR Qn.n Qn.ts ss k) (i:=i) (λz=>by cases z) () (I.ok i lt) (t4 i ()) k4 (by
   rw[e1];exact⟨⟨v.toNat,(),hPl _ ()⟩,mv,Z,Nat.le_succ_of_le (t4 i ())⟩) (λs hs=>by
   rw[e1];have hs':Qn.pq.Ok ((gR Qn.n Qn.ts ss k).length+1) s:=by rw[e2];exact hs
   exact pk.out hs' (by rw[e2];exact Ao mv))
  exact⟨h1,h2,cV h3 (pow_step (by rw[Tr,Tt];exact ci))⟩
 | @join i j ef lt lt' eij et =>
  have nij:i≠j:=λz=>by
   have pd:=pa.sublist (List.drop_sublist (dR .join (aX Qn.n Qn.ts ss k).1) _);rw[<-fd,ef]at pd;have:=(zY.mp pd).1 j (List.mem_singleton_self j);omega
  have ci:=hc i lt;have cj:=hc j lt';have c1:=c8 i (by rw[ef];simp);have c2:=c8 j (by rw[ef];simp);have oi:=I.ok i lt;have oj:=I.ok j lt';rw[<-et]at oi;rw[<-eij,<-et]at oj;rw[ef];obtain⟨h1,h2,h3⟩:=two_step Qn pk (aR:=(cD Qn.n Qn.ts ss).aR) (iV:=zE Qn.pq Qn.n Qn.ts ss k) (bh:=gR Qn.n Qn.ts ss k) () () nij Z k4 oi oj ci cj c1 c2;refine⟨h1,h2,cV h3 (pow_step ?_)⟩;have e4:([i,j].map c).sum=c i+c j:=by
   show c i+(c j+0)=_;omega
  rw[e4,Nat.pow_add];exact Nat.mul_le_mul ci cj
theorem V3(Qn:Hg P w K mg base κ)(pk:CV Qn.pq)(hPl:∀k:Nat,k<Qn.n->Qn.Pl k)(hTi:∀t∈Qn.ts,Qn.Ti t)(ne:∀t∈Qn.ts,t.1≠t.2)(cZ:Qn.n<=10)(l8:ss.length<=800)(qJ:Bt Qn.n Qn.ts ss (cD Qn.n Qn.ts ss)=.ok)(b4:∀b∈(cD Qn.n Qn.ts ss).aR,b.length<=4):∀k,k<=ss.length->GoI Qn.pq Qn.n Qn.ts ss k
 |0,_=>⟨λj h=>absurd h (xG _),λ_=>0,λj h=>absurd h (xG _),aM _⟩
 |k+1,h=>(XJ Qn pk hPl hTi ne cZ l8 qJ b4 () (V3 Qn pk hPl hTi ne cZ l8 qJ b4 k ())).2
def QZ(Qn:Hg P w K mg base κ)(pk:CV Qn.pq)(hPl:∀k:Nat,k<Qn.n->Qn.Pl k)(hTi:∀t∈Qn.ts,Qn.Ti t)(ne:∀t∈Qn.ts,t.1≠t.2)(cZ:Qn.n<=10)(l8:ss.length<=800)(qJ:Bt Qn.n Qn.ts ss (cD Qn.n Qn.ts ss)=.ok)(b4:∀b∈(cD Qn.n Qn.ts ss).aR,b.length<=4) :
  (∀k,k<ss.length->Aq Qn (cD Qn.n Qn.ts ss).aR (La Qn.pq ss (cD Qn.n Qn.ts ss).aR (cD Qn.n Qn.ts ss).dJ k) (ss.getD k .leaf) ((cD Qn.n Qn.ts ss).aR.getD k []) ((cD Qn.n Qn.ts ss).dJ.getD k []))/\
  (∀T∈La Qn.pq ss (cD Qn.n Qn.ts ss).aR (cD Qn.n Qn.ts ss).dJ ss.length,T.length<=900/\(T.map (·.1)).Nodup):=by
 have A:=V3 Qn pk hPl hTi ne cZ l8 qJ b4;refine⟨λk hk=>(XJ Qn pk hPl hTi ne cZ l8 qJ b4 hk (A k ())).1,λT hT=>?_⟩;obtain⟨j,hj,e⟩:=rN hT;rw[mX]at hj;have h:=(A ss.length (aM _)).ok j hj;have e2:(zE Qn.pq Qn.n Qn.ts ss ss.length).getD j []=T:=by
  rw[fM,bF (by rw[mX];exact hj),<-e];rfl
 rw[e2]at h;have RI:=zf cZ qJ;have hl:j<(cD Qn.n Qn.ts ss).aR.length:=by rw[RI.tl];exact hj
 refine⟨h.len pk ?_,h.nd⟩;show((cD Qn.n Qn.ts ss).aR.getD j []).length<=4;rw[fM,bF hl];exact b4 _ (mJ hl)
end
end Go
namespace Go
def codeS:dX->Nat
 | []=>0
 |x::s=>x.toNat+4*codeS s
theorem XM{c:Int}(c4:c<=4):∀{m:Nat}{s:dX},sy c m s->codeS s<4^m
 |_,[],⟨rfl,_⟩=>by decide
 |_,x::s,⟨rfl,h⟩=>by
  have h1:=h x (aU ..)
  have h2:=XM c4 (m:=s.length) (s:=s) ⟨Z,λy hy=>h y (bC _ hy)⟩
  show x.toNat+4*codeS s<4^(s.length+1)
  rw[Nat.pow_succ]
  omega
theorem code_inj{c:Int}(c4:c<=4):∀{m:Nat}{s t:dX},sy c m s->sy c m t->codeS s=codeS t->s=t
 |_,[],[],_,_,_=>rfl
 |_,[],y::t,⟨h,_⟩,⟨h',_⟩,_=>by grind
 |_,x::s,[],⟨h,_⟩,⟨h',_⟩,_=>by grind
 |_,x::s,y::t,⟨h,a⟩,⟨h',b⟩,e=>by
  have e:x.toNat+4*codeS s=y.toNat+4*codeS t:=e
  have h1:=a x (aU ..)
  have h2:=b y (aU ..)
  have lt:t.length=s.length:=by
   grind
  have e1:x=y:=()
  have e2:s=t:=code_inj c4 (m:=s.length) ⟨Z,λz hz=>a z (bC _ hz)⟩ ⟨lt,λz hz=>b z (bC _ hz)⟩ ()
  rw[e1,e2]
theorem ĺ{α β:Type}{f:α->β}:∀{l:List α},l.Nodup->(∀a∈l,∀b∈l,f a=f b->a=b)->(l.map f).Nodup
 | [],_,_=>Ad
 |a::l,nd,h=>by
  rw[jB]at nd
  rw[cL,jB]
  refine⟨λz=>?_,ĺ nd.2 λx hx y hy=>h x (bC _ hx) y (bC _ hy)⟩
  grind
def Ho{c:Int}(c4:c<=4){m:Nat}{l:List dX}(m4:m<=4)(nd:l.Nodup)(h:∀s∈l,sy c m s):l.length<=900:=by
 have h1:=JN (m:=4^m) (ĺ (f:=codeS) nd λa ha b hb=>code_inj c4 (h a ha) (h b hb)) (λx hx=>by
  obtain⟨s,hs,rfl⟩:=fH.mp hx;exact XM c4 (h s hs))
 rw[aK]at h1;have h2:4^m<=4^4:=Nat.pow_le_pow_right () m4;grind
def Kd{c:Int}{m p:Nat}{s:dX}{x:Int}(h:sy c m s)(hp:p<=m)(hx:0<=x/\x<c):sy c (m+1) (sV s p x):=by
 obtain⟨h1,h2⟩:=h;refine⟨?_,λy hy=>?_⟩
 ·show(s.take p++([x]++s.drop p)).length=m+1;grind
 ·rcases cH.mp (show y∈s.take p++([x]++s.drop p)from hy)with z|z
  ·exact h2 y (lE z)
  ·rcases cH.mp z with z|z
   ·rw[bG.mp z];exact hx
   ·exact h2 y (vG z)
def V4{c:Int}{m p:Nat}{s:dX}(h:sy c (m+1) s)(hp:p<m+1):sy c m (wW s p):=by
 obtain⟨h1,h2⟩:=h;refine⟨?_,λy hy=>?_⟩
 ·show(s.take p++s.drop (p+1)).length=m;grind
 ·rcases cH.mp (show y∈s.take p++s.drop (p+1)from hy)with z|z
  ·exact h2 y (lE z)
  ·exact h2 y (vG z)
def V5(c:Int):sy c 0 []:=⟨Z,λ_ h=>absurd h dO⟩
def XQ{c:Int}{m i:Nat}{s:dX}(h:sy c m s)(hi:i<m):0<=fU s i/\fU s i<c:=by
 have l:i<s.length:=by rw[h.1];exact hi
 unfold fU;rw[fM,bF l];exact h.2 _ (mJ l)
def a03{m a b:Nat}{s:dX}(h:sy 3 m s):sy 3 m (uE s a b):=by
 refine⟨by unfold uE;rw[aK,rP];exact h.1,λy hy=>?_⟩;obtain⟨k,hk,rfl⟩:=fH.mp hy;have:=XQ h (i:=k) (by rw[<-h.1];exact mK.mp hk);split
 ·omega
 ·exact this
theorem Ļ:∀{m:Nat}{s t:dX},sy 3 m s->sy 3 m t->sy 3 m (List.zipWith max s t)
 |_,[],_,⟨rfl,_⟩,_=>⟨Z,λ_ h=>absurd h dO⟩
 |_,x::s,[],⟨h,_⟩,⟨h',_⟩=>by grind
 |_,x::s,y::t,⟨rfl,a⟩,⟨h',b⟩=>by
  have lt:t.length=s.length:=by
   grind
  obtain⟨l,g⟩:=Ļ (m:=s.length) (s:=s) (t:=t) ⟨Z,λz hz=>a z (bC _ hz)⟩ ⟨lt,λz hz=>b z (bC _ hz)⟩
  refine⟨(),λz hz=>?_⟩
  rcases bZ.mp (show z∈max x y::List.zipWith max s t from hz)with e|e
  ·have:=a x (aU ..)
   have:=b y (aU ..)
   rw[e]
   omega
  ·exact g z e
def Bo{c:Int}{m:Nat}{s:dX}{a:Int}(h:sy c m s):[(s,a)].length<=4/\∀x∈[(s,a)],sy c m x.1:=⟨by show 1<=4;decide,λx hx=>by rw[bG.mp hx];exact h⟩
def ļ{c:Int}{m:Nat}:([]:List (dX×Int)).length<=4/\∀x∈([]:List (dX×Int)),sy c m x.1:=⟨dw _,λx hx=>absurd hx dO⟩
def RQ{c:Int}{m:Nat}{s t:dX}{a b:Int}(h:sy c m s)(h':sy c m t):[(s,a),(t,b)].length<=4/\∀x∈[(s,a),(t,b)],sy c m x.1:=⟨by show 2<=4;decide,λx hx=>by
 rcases bZ.mp hx with e|e
 ·rw[e];exact h
 ·rw[bG.mp e];exact h'⟩
def okC{c:Nat}(c4:c<=4)(ws:List Int):CV (pqC c ws) where
 leaf:=V5 _
 inn:=λ{m s p v} h hp=>by
  refine⟨by show((List.range c).map _).length<=4;rw[aK,rP];exact c4,λx hx=>?_⟩
  obtain⟨k,hk,rfl⟩:=fH.mp (show x∈(List.range c).map _ from hx)
  have:=mK.mp hk
  exact Kd h hp ⟨(),()⟩
 tie:=λ{m s a b t} h ha hb=>by
  show(if fU s a≠fU s b then [(s,(0:Int))]else []).length<=4/\∀x∈(if fU s a≠fU s b then [(s,(0:Int))]else []),sy c m x.1
  split
  ·exact Bo h
  ·exact ļ
 out:=λh hp=>Bo (V4 h hp)
 jn:=λ{m s t} h _=>⟨by show 1<=4;decide,λx hx=>by rw[bG.mp (show x∈[s]from hx)];exact h⟩
 fin:=λm4 nd h=>Ho (c:=(c:Int)) () m4 nd h
def okA(ws:List Int):CV (pqA ws) where
 leaf:=V5 _
 inn:=λh hp=>RQ (Kd h hp ⟨(),()⟩) (Kd h hp ⟨(),()⟩)
 tie:=λ{m s a b t} h ha hb=>by
  show(if fU s a+fU s b<2 then [(s,(0:Int))]else []).length<=4/\∀x∈(if fU s a+fU s b<2 then [(s,(0:Int))]else []),sy 2 m x.1
  split
  ·exact Bo h
  ·exact ļ
 out:=λh hp=>Bo (V4 h hp)
 jn:=λ{m s t} h _=>⟨by show 1<=4;decide,λx hx=>by rw[bG.mp (show x∈[s]from hx)];exact h⟩
 fin:=λm4 nd h=>Ho (c:=2) () m4 nd h
def okW(ws:List Int):CV (ū ws) where
 leaf:=V5 _
 inn:=λh hp=>RQ (Kd h hp ⟨(),()⟩) (Kd h hp ⟨(),()⟩)
 tie:=λ{m s a b t} h ha hb=>by
  show(if(fU s a=0/\fU s b=2)\/(fU s a=2/\fU s b=0)then [(uE s a b,(0:Int))]else [(s,0)]).length<=4/\∀x∈(if(fU s a=0/\fU s b=2)\/(fU s a=2/\fU s b=0)then [(uE s a b,(0:Int))]else [(s,0)]),sy 3 m x.1
  split
  ·exact Bo (a03 h)
  ·exact Bo h
 out:=λ{m s p v} h hp=>by
  show(if fU s p=0 then []else [(wW s p,if fU s p=2 then ws.getD v 0 else 0)]).length<=4/\∀x∈(if fU s p=0 then []else [(wW s p,if fU s p=2 then ws.getD v 0 else 0)]),sy 3 m x.1
  split
  ·exact ļ
  ·exact Bo (V4 h hp)
 jn:=λ{m s t} h h'=>⟨by show 1<=4;decide,λx hx=>by rw[bG.mp (show x∈[List.zipWith max s t]from hx)];exact Ļ h h'⟩
 fin:=λm4 nd h=>Ho (c:=3) () m4 nd h
end Go
def getD_at{ss:List bU}{i:Nat}{s:bU}(h:ss[i]?=some s):ss.getD i .leaf=s:=by
 rw[fM,h];rfl
def Qf{ss:List bU}{i:Nat}{s:bU}(h:ss[i]?=some s):ss.take (i+1)=ss.take i++[s]:=by
 obtain⟨il,e⟩:=fL.mp h;rw[zP il,e]
structure Kp where
 P:List (List Int)
 G:List Int
 B:List bY
variable{κ:Kp}
def Kp.top(κ:Kp):List Int:=κ.P.getLastD []
def Can(n:Nat)(ts:List bY)(κ:Kp):bU->Prop
 |.leaf=>True
 |.inn v=>κ.P≠[]/\(0<=v/\v<(n:Int))/\v∉κ.top/\v∉κ.G
 |.tie a b=>κ.P≠[]/\(a,b)∈ts/\(a,b)∉κ.B/\a∈κ.top/\b∈κ.top
 |.out v=>κ.P≠[]/\v∈κ.top/\v∉κ.G
 |.join=>1<κ.P.length/\κ.top.Perm (κ.P.getD (κ.P.length-2) [])
noncomputable def KR(κ:Kp):bU->Kp
 |.leaf=>{ κ with P:=κ.P++[[]]}
 |.inn v=>{ κ with P:=κ.P.dropLast++[κ.top++[v]]}
 |.tie a b=>{ κ with B:=κ.B++[(a,b)]}
 |.out v=>{ κ with P:=κ.P.dropLast++[κ.top.erase v],G:=κ.G++[v]}
 |.join=>{ κ with P:=κ.P.dropLast}
structure KOk(n c:Nat)(κ:Kp):Prop where
 nd:∀b∈κ.P,b.Nodup/\∀v∈b,0<=v/\v<(n:Int)
 pl:κ.P.length<=c
 gl:κ.G.length<=c
 bl:κ.B.length<=c
def tB{P:List (List Int)}(h:P≠[]):P=P.dropLast++[P.getLastD []]:=by
 have e:=(List.dropLast_concat_getLast h).symm;grind
def KOk.V6{n c:Nat}(h:KOk n c κ):κ.top.Nodup/\∀v∈κ.top,0<=v/\v<(n:Int):=by
 by_cases e:κ.P=[]
 ·unfold Kp.top;rw[e];exact⟨.nil,λv hv=>absurd hv dO⟩
 ·refine h.nd _ ?_;have:κ.P.getLastD []∈κ.P.dropLast++[κ.P.getLastD []]:=gD _ aU
  rwa [<-tB e]at this
def KOk.do{n c:Nat}{ts:List bY}{s:bU}(h:KOk n c κ)(hc:Can n ts κ s):KOk n (c+1) (KR κ s):=by
 have dl:∀b∈κ.P.dropLast,b.Nodup/\∀v∈b,0<=v/\v<(n:Int):=λb hb=>h.nd b ((List.dropLast_sublist _).subset hb);have l1:κ.P.dropLast.length<=c:=by rw[S8];have:=h.pl;omega
 have h1:=h.pl;have h2:=h.gl;have h3:=h.bl;have cat:∀b:List Int,b.Nodup->(∀v∈b,0<=v/\v<(n:Int))->∀x∈κ.P.dropLast++[b],x.Nodup/\∀v∈x,0<=v/\v<(n:Int):=λb hb hv x hx=>by
  rcases cH.mp hx with hx|hx
  ·exact dl x hx
  ·rw[bG.mp hx];exact⟨hb,hv⟩
 cases s with
 |leaf =>
  refine⟨λb hb=>?_,by show(κ.P++[[]]).length<=_;grind,by show κ.G.length<=_;omega,by show κ.B.length<=_;omega⟩;rcases cH.mp hb with hb|hb
  ·exact h.nd b hb
  grind
 |inn v =>
  obtain⟨_,hv,hn,_⟩:=hc;refine⟨cat _ ?_ ?_,by show(κ.P.dropLast++[_]).length<=_;grind,by show κ.G.length<=_;omega,by show κ.B.length<=_;omega⟩
  ·rw[vL];refine⟨h.V6.1,by simp,λa ha b hb e=>?_⟩;grind
  ·intro x hx;rcases cH.mp hx with hx|hx
   ·exact h.V6.2 x hx
   ·rw[bG.mp hx];exact hv
 |tie a b=>exact⟨h.nd,by show κ.P.length<=_;omega,by show κ.G.length<=_;omega,by show(κ.B++[_]).length<=_;rw[cB];show κ.B.length+1<=_;omega⟩
 |out v =>
  refine⟨cat _ (h.V6.1.erase v) (λx hx=>h.V6.2 x (List.mem_of_mem_erase hx)),by show(κ.P.dropLast++[_]).length<=_;grind,by show(κ.G++[v]).length<=_;grind,by show κ.B.length<=_;omega⟩
 |join=>exact⟨dl,by show κ.P.dropLast.length<=_;omega,by show κ.G.length<=_;omega,by show κ.B.length<=_;omega⟩
def a1D{n:Nat}{b:List Int}(cZ:n<=10)(nd:b.Nodup)(bd:∀v∈b,0<=v/\v<(n:Int)):b.length<=10:=by
 have h1:(b.map Int.toNat).Nodup:=by
  unfold List.Nodup;rw[Aa];refine(List.pairwise_iff_forall_sublist.mpr λ{x y} hs=>?_);grind
 have h2:=JN (m:=n) h1 λx hx=>by
  grind
 grind
theorem qK{α β:Type}{R:α->β->Prop}:∀{xs:List α}{ys:List β}{y:β},Paired R xs (ys++[y])->∃xs' x,xs=xs'++[x]/\Paired R xs' ys/\R x y
 | [],ys,y,h=>by
  have:=aV h
  rw[cB]at this
  exact absurd this (by show ¬0=ys.length+1;omega)
 |x::r,[],y,h=>by
  cases h with
  |cons h1 h2 =>
   cases h2
   exact⟨[],x,Z,.nil,h1⟩
 |x::r,z::ys,y,h=>by
  cases h with
  |cons h1 h2 =>
   obtain⟨xs',x',e,p,q⟩:=qK h2
   exact⟨x::xs',x',by rw[e];rfl,.cons h1 p,q⟩
structure Qg(n:Nat)(ts:List bY)(ss:List bU)(i:Nat)(κ:Kp)(E:List Int):Prop where
 go:(aX n ts ss i).2=true
 rel:Paired (λj b=>∀v,v∈(aX n ts ss i).1.aR.getD j []↔v∈b) (aX n ts ss i).1.pile κ.P
 asc:∀b∈(aX n ts ss i).1.aR,b.Pairwise (· < ·)
 outs:∀v,bU.out v∈ss.take i↔v∈κ.G
 ties:∀a b,bU.tie a b∈ss.take i↔(a,b)∈κ.B
 ins:∀v,bU.inn v∈ss.take i↔v∈E
 ok:KOk n i κ
def a5K{n:Nat}{ts:List bY}{ss:List bU}:Qg n ts ss 0 ⟨[],[],[]⟩ [] :=
 ⟨Z,.nil,λb h=>absurd h dO,λv=>by simp,λa b=>by simp,λv=>by simp,⟨λb h=>absurd h dO,aM _,aM _,aM _⟩⟩
def wF(p:Int->Bool):(Qv p).Pairwise (· < ·):=by
 unfold Qv;refine HS _ ?_;rw[Aa];exact List.pairwise_lt_range.imp λh=>by omega
theorem wD:∀{xs ys:List Int},xs.Pairwise (· < ·)->ys.Pairwise (· < ·)->(∀v,v∈xs↔v∈ys)->xs=ys
 | [],[],_,_,_=>rfl
 | [],y::ys,_,_,h=>absurd ((h y).mpr aU) dO
 |x::xs,[],_,_,h=>absurd ((h x).mp aU) dO
 |x::xs,y::ys,hx,hy,h=>by
  rw[zY]at hx hy
  have e:x=y:=by
   rcases bZ.mp ((h x).mp aU)with h1|h1
   ·exact h1
   ·rcases bZ.mp ((h y).mpr aU)with h2|h2
    ·exact h2.symm
    ·have a:=hy.1 x h1
     have b:=hx.1 y h2
     omega
  subst e
  rw[wD hx.2 hy.2 λv=>⟨λhv=>?_,λhv=>?_⟩]
  ·grind
  grind
def CZ{n:Nat}{ts:List bY}{ss:List bU}{i:Nat}{κ':Kp}{E':List Int}{s:bU}{b:List Int}{uF:List Nat}(cZ:n<=10)(D:Qg n ts ss i κ E)(h:ss[i]?=some s)(hn:s.need<=(aX n ts ss i).1.pile.length)(hl:(aX n ts ss i).1.pile.take (dR s (aX n ts ss i).1)=uF)
  (hb:pZ n ts (ss.take i) s (sE s (aX n ts ss i).1)=some b) (as:b.Pairwise (· < ·))
  (rel:Paired (λj b=>∀v,v∈(aX n ts ss i).1.aR.getD j []↔v∈b) uF κ'.P.dropLast) (ne:κ'.P≠[]) (mb:∀v,v∈b↔v∈κ'.top)
  (mo:∀v,bU.out v∈ss.take (i+1)↔v∈κ'.G) (mt:∀x y,bU.tie x y∈ss.take (i+1)↔(x,y)∈κ'.B) (mi:∀v,bU.inn v∈ss.take (i+1)↔v∈E') (ok:KOk n (i+1) κ'):Qg n ts ss (i+1) κ' E':=by
 have d:qU n ts ss i (aX n ts ss i).1=some ⟨(aX n ts ss i).1.aR++[b],(aX n ts ss i).1.dJ++[(aX n ts ss i).1.pile.drop (dR s (aX n ts ss i).1)],uF++[i]⟩:=by
  unfold qU;rw[getD_at h,aG hn,hb,hl];rfl
 have e:=ģ D.go d;have I:=jx cZ D.go;have tl:=I.tl;refine⟨by rw[e],?_,?_,mo,mt,mi,ok⟩
 ·rw[e,tB ne];refine dH ?_ ?_
  ·have lt:∀j∈uF,j<i:=λj hj=>I.lt j (lE (hl▸hj));have:∀{xs:List Nat}{ys:List (List Int)},(∀j∈xs,j<i)->Paired (λj b=>∀v,v∈(aX n ts ss i).1.aR.getD j []↔v∈b) xs ys->Paired (λj b'=>∀v,v∈((aX n ts ss i).1.aR++[b]).getD j []↔v∈b') xs ys:=λ{xs}=>by
    induction xs with
    |nil=>intro ys _ h;cases h;exact .nil
    |cons x r ih =>
     intro ys hx h;cases h with
     |cons h1 h2 =>
      refine .cons (λv=>?_) (ih (λj hj=>hx j (bC _ hj)) h2);rw[fM,zR (by rw[tl];exact hx x aU),<-fM];exact h1 v
   exact this lt rel
  ·intro v;show v∈((aX n ts ss i).1.aR++[b]).getD i []↔_;rw[fM,wZ (),tl,Ag];exact mb v
 ·rw[e];intro x hx;rcases cH.mp hx with hx|hx
  ·exact D.asc x hx
  ·rw[bG.mp hx];exact as
def Hq{n:Nat}{ts:List bY}{ss:List bU}{i:Nat}(cZ:n<=10)(D:Qg n ts ss i κ E)(ne:κ.P≠[]):∃uF j,(aX n ts ss i).1.pile=uF++[j]/\Paired (λj b=>∀v,v∈(aX n ts ss i).1.aR.getD j []↔v∈b) uF κ.P.dropLast/\(∀v,v∈(aX n ts ss i).1.aR.getD j []↔v∈κ.top)/\((aX n ts ss i).1.aR.getD j []).Pairwise (· < ·):=by
 have r:=D.rel;rw[tB ne]at r;obtain⟨uF,j,e,p,q⟩:=qK r;refine⟨uF,j,e,p,q,?_⟩;have I:=jx cZ D.go;have jl:j<(aX n ts ss i).1.aR.length:=by rw[I.tl];exact I.lt j (by rw[e];simp)
 rw[fM,bF jl];exact D.asc _ (mJ jl)
def Ke{s:bU}{r:RS}{uF:List Nat}{j:Nat}(h1:s.need=1)(e:r.pile=uF++[j]):s.need<=r.pile.length/\r.pile.take (dR s r)=uF/\sE s r=[r.aR.getD j []]:=by
 have el:dR s r=uF.length:=by unfold dR;rw[e,h1,cB];show uF.length+1-1=_;omega
 refine⟨by rw[h1,e,cB];show 1<=uF.length+1;omega,by rw[el,e,List.take_left],?_⟩;unfold sE;grind
def Kf{P:List (List Int)}(h:P≠[]):P.getLastD []∈P:=by
 have:P.getLastD []∈P.dropLast++[P.getLastD []]:=gD _ aU
 rwa [<-tB h]at this
def RT{P:List (List Int)}(l2:1<P.length):P.getD (P.length-2) []=P.dropLast.getLastD []:=by
 grind
def join_split{n:Nat}{ts:List bY}{ss:List bU}{i:Nat}(cZ:n<=10)(D:Qg n ts ss i κ E)(l2:1<κ.P.length):∃uF j1 j2,(aX n ts ss i).1.pile=uF++[j1,j2]/\bU.join.need<=(aX n ts ss i).1.pile.length/\(aX n ts ss i).1.pile.take (dR .join (aX n ts ss i).1)=uF/\sE .join (aX n ts ss i).1=[(aX n ts ss i).1.aR.getD j1 [],(aX n ts ss i).1.aR.getD j2 []]/\Paired (λj b=>∀v,v∈(aX n ts ss i).1.aR.getD j []↔v∈b) uF κ.P.dropLast.dropLast/\(∀v,v∈(aX n ts ss i).1.aR.getD j1 []↔v∈κ.P.dropLast.getLastD [])/\(∀v,v∈(aX n ts ss i).1.aR.getD j2 []↔v∈κ.top)/\((aX n ts ss i).1.aR.getD j1 []).Pairwise (· < ·)/\((aX n ts ss i).1.aR.getD j2 []).Pairwise (· < ·)/\κ.P.dropLast≠[]/\κ.P.getD (κ.P.length-2) []=κ.P.dropLast.getLastD []:=by
 have ne:κ.P≠[]:=λz=>by grind
 have ne2:κ.P.dropLast≠[]:=λz=>by
  have:=S8 (xs:=κ.P);grind
 obtain⟨Y8,j2,e,p,q,as2⟩:=Hq cZ D ne;have I:=jx cZ D.go;rw[tB ne2]at p;obtain⟨uF,j1,rfl,p0,q0⟩:=qK p;have e':(aX n ts ss i).1.pile=uF++[j1,j2]:=by rw[e,vK];rfl
 have el:dR .join (aX n ts ss i).1=uF.length:=by unfold dR;rw[e',cB];show uF.length+2-2=_;omega
 have jl:j1<(aX n ts ss i).1.aR.length:=by rw[I.tl];exact I.lt j1 (by rw[e'];simp)
 refine⟨uF,j1,j2,e',by rw[e',cB];show 2<=uF.length+2;omega,(),?_,p0,q0,q,?_,as2,ne2,?_⟩
 ·unfold sE;grind
 ·rw[fM,bF jl];exact D.asc _ (mJ jl)
 ·exact RT l2
def a3C{n:Nat}{ts:List bY}{ss:List bU}{i:Nat}{s:bU}(cZ:n<=10)(D:Qg n ts ss i κ E)(h:ss[i]?=some s)(c:Can n ts κ s):∃E',(E'=match s with |.inn v=>E++[v]|_=>E)/\Qg n ts ss (i+1) (KR κ s) E':=by
 have tk:=Qf h;have ok:=D.ok.do c
 have mo:∀v,bU.out v∈ss.take (i+1)↔v∈κ.G\/s=.out v:=λv=>by rw[tk,cH,D.outs,bG,eq_comm]
 have mt:∀a b,bU.tie a b∈ss.take (i+1)↔(a,b)∈κ.B\/s=.tie a b:=λa b=>by rw[tk,cH,D.ties,bG,eq_comm]
 have mi:∀v,bU.inn v∈ss.take (i+1)↔v∈E\/s=.inn v:=λv=>by rw[tk,cH,D.ins,bG,eq_comm]
 have dl:∀b:List Int,(κ.P.dropLast++[b]).dropLast=κ.P.dropLast:=λb=>Dt;have gl:∀(P:List (List Int)) (b:List Int),(P++[b]).getLastD []=b:=λP b=>by rw[À,Nt];rfl
 have ne:∀(P:List (List Int)) (b:List Int),P++[b]≠[]:=λP b z=>by simp at z
 cases s with
 |leaf =>
  refine⟨E,Z,CZ cZ D h (uF:=(aX n ts ss i).1.pile) (b:=[]) (dw _) ?_ Z .nil ?_ (ne _ _) ?_ ?_ ?_ ?_ ok⟩
  ·show List.take ((aX n ts ss i).1.pile.length-0) _=_;rw[Af,je]
  ·show Paired _ _ (κ.P++[[]]).dropLast;rw[Dt];exact D.rel
  ·intro v;show _↔v∈(κ.P++[[]]).getLastD [];rw[gl]
  ·intro v;rw[mo];simp[KR]
  ·intro a b;rw[mt];simp[KR]
  ·intro v;rw[mi];simp
 |inn v =>
  obtain⟨hP,hv,hn,hg⟩:=c;obtain⟨uF,j,e,p,q,as⟩:=Hq cZ D hP;obtain⟨u1,u2,u3⟩:=Ke (s:=.inn v) Z e;refine⟨E++[v],Z,CZ cZ D h (uF:=uF) (b:=gj ((aX n ts ss i).1.aR.getD j []) [v]) u1 u2 ?_ (wF _) ?_ (ne _ _) ?_ ?_ ?_ ?_ ok⟩
  ·rw[u3];unfold pZ;dsimp only;rw[aG ⟨hv,λz=>hn ((q v).mp z),λz=>hg ((D.outs v).mp z)⟩];rfl
  ·show Paired _ _ (κ.P.dropLast++[_]).dropLast;rw[dl];exact p
  ·intro x;show _↔x∈(κ.P.dropLast++[κ.top++[v]]).getLastD [];rw[gl];unfold gj;rw[yW,d7,q,cH];constructor
   ·exact λz=>z.2.2
   ·intro z;have bd:=D.ok.V6.2;refine⟨?_,?_,z⟩
    ·rcases z with z|z
     ·exact(bd x z).1
     ·rw[bG.mp z];exact hv.1
    ·rcases z with z|z
     ·have:=(bd x z).2;omega
     ·rw[bG.mp z];have:=hv.2;omega
  ·intro x;rw[mo];simp[KR]
  ·intro a b;rw[mt];simp[KR]
  ·intro x;rw[mi];simp[eq_comm]
 |tie x y =>
  obtain⟨hP,ht,hb,h1,h2⟩:=c;obtain⟨uF,j,e,p,q,as⟩:=Hq cZ D hP;obtain⟨u1,u2,u3⟩:=Ke (s:=.tie x y) Z e;refine⟨E,Z,CZ cZ D h (uF:=uF) (b:=(aX n ts ss i).1.aR.getD j []) u1 u2 ?_ as p hP q ?_ ?_ ?_ ok⟩
  ·rw[u3];unfold pZ;dsimp only;rw[aG]
   ·rfl
   ·refine⟨ht,?_,λz=>hb ((D.ties x y).mp z)⟩;unfold mV;rw[List.filter_eq_nil_iff];intro v hv;have:v∈(aX n ts ss i).1.aR.getD j []:=by
     rcases bZ.mp hv with rfl|hv
     ·exact(q _).mpr h1
     ·rw[bG.mp hv];exact(q _).mpr h2
    simpa using this
  ·intro v;rw[mo];simp[KR]
  ·intro a b;rw[mt];simp[KR,eq_comm]
  ·intro v;rw[mi];simp
 |out v =>
  obtain⟨hP,hv,hg⟩:=c;obtain⟨uF,j,e,p,q,as⟩:=Hq cZ D hP;obtain⟨u1,u2,u3⟩:=Ke (s:=.out v) Z e;refine⟨E,Z,CZ cZ D h (uF:=uF) (b:=mV ((aX n ts ss i).1.aR.getD j []) [v]) u1 u2 ?_ (HS _ as) ?_ (ne _ _) ?_ ?_ ?_ ?_ ok⟩
  ·rw[u3];unfold pZ;dsimp only;rw[aG ⟨(q v).mpr hv,λz=>hg ((D.outs v).mp z)⟩];rfl
  ·show Paired _ _ (κ.P.dropLast++[_]).dropLast;rw[dl];exact p
  ·intro x;show _↔x∈(κ.P.dropLast++[κ.top.erase v]).getLastD [];rw[gl,D.ok.V6.1.mem_erase_iff];unfold mV;rw[lG,q];simp[and_comm]
  ·intro x;rw[mo];simp[KR,eq_comm]
  ·intro a b;rw[mt];simp[KR]
  ·intro x;rw[mi];simp
 |join =>
  obtain⟨l2,pm⟩:=c;obtain⟨uF,j1,j2,e,u1,u2,u3,p,q1,q2,as1,as2,ne2,eg⟩:=join_split cZ D l2;have eb:(aX n ts ss i).1.aR.getD j1 []=(aX n ts ss i).1.aR.getD j2 []:=wD as1 as2 λv=>by
   rw[q1,q2,<-eg];exact(pm.mem_iff).symm
  refine⟨E,Z,CZ cZ D h (uF:=uF) (b:=(aX n ts ss i).1.aR.getD j1 []) u1 u2 ?_ as1 p ne2 q1 ?_ ?_ ?_ ok⟩
  ·rw[u3];unfold pZ;dsimp only;rw[aG]
   ·rfl
   ·exact eb
  ·intro v;rw[mo];simp[KR]
  ·intro a b;rw[mt];simp[KR]
  ·intro v;rw[mi];simp
def a04{n:Nat}{ts:List bY}{ss:List bU}(cZ:n<=10)(D:Qg n ts ss ss.length κ E):(κ.P≠[[]]->Bt n ts ss (cD n ts ss)=.pile)/\(κ.P=[[]]->∀v:Nat,v<n->(∀j:Nat,j<v->(j:Int)∈E)->(v:Int)∉E->Bt n ts ss (cD n ts ss)=.place v)/\(κ.P=[[]]->(∀j:Nat,j<n->(j:Int)∈E)->Bt n ts ss (cD n ts ss)=match ts.find? λt=>!decide (t∈κ.B)with|some t=>.tie t.1 t.2|none=>.ok):=by
 have I:=jx cZ D.go;have l1:¬(cD n ts ss).aR.length<ss.length:=by unfold cD;rw[I.tl];omega
 have l2:Ms (cD n ts ss)=[[]]↔κ.P=[[]]:=by
  have r:=D.rel;unfold Ms cD;generalize (aX n ts ss ss.length).1.pile=pl at *
  generalize (aX n ts ss ss.length).1.aR=tp at *
  generalize κ.P=P at *
  cases r with
  |nil=>simp
  | @cons x b xs bs h1 h2 =>
   have e:tp.getD x []=[]↔b=[]:=by
    rw[Sq,Sq];exact⟨λh v hv=>h v ((h1 v).mpr hv),λh v hv=>h v ((h1 v).mp hv)⟩
   cases h2 with
   |nil =>
    grind
   |cons h3 h4 =>
    grind
 have ins:∀v,bU.inn v∈ss↔v∈E:=λv=>by have:=D.ins v;grind
 have tis:∀a b,bU.tie a b∈ss↔(a,b)∈κ.B:=λa b=>by have:=D.ties a b;grind
 refine⟨λh=>?_,λh v hv ok no=>?_,λh ok=>?_⟩
 ·unfold Bt;grind
 ·have ef:(List.range n).find? (λ(v:Nat)=>!decide (bU.inn (v:Int)∈ss))=some v:=Â.mpr ⟨(),mK.mpr hv,λj hj=>by grind⟩;unfold Bt;grind
 ·have ef:(List.range n).find? (λ(v:Nat)=>!decide (bU.inn (v:Int)∈ss))=none:=Dz.mpr λj hj=>by grind
  have eg:(λt:Int×Int=>!decide (bU.tie t.1 t.2∈ss))=λt=>!decide (t∈κ.B):=funext λt=>by grind
  unfold Bt;rw[aB l1,aG (l2.mpr h),ef,eg];try rfl
structure Tb(n m:Nat)(up:Nat->Nat)(bh:Nat->List Int):Prop where
 pos:0<m
 ups:∀k,0<k->k<m->up k<k
 nd:∀k,(bh k).Nodup
 lt:∀k,∀v∈bh k,0<=v/\v<(n:Int)
 fr:∀k,0<k->k<m->∀v∈bh k,v∈bh (up k)\/∀j,j<k->v∉bh j
 no:∀k,m<=k->bh k=[]
inductive pH(m:Nat)(up:Nat->Nat)(k:Nat):Nat->Prop
 |self:k<m->pH m up k k
 |step {r:Nat}:0<r->r<m->pH m up k (up r)->pH m up k r
section
variable{n m:Nat}{up:Nat->Nat}{bh:Nat->List Int}
def Tb.in_(T:Tb n m up bh){k:Nat}{v:Int}(h:v∈bh k):k<m:=by
 rcases xM k m with c|c
 ·exact c
 ·rw[T.no k c]at h;exact absurd h dO
def pH.le(T:Tb n m up bh){k r:Nat}(h:pH m up k r):k<=r:=by
 induction h with
 |self=>grind
 |step r0 rm _ ih=>have:=T.ups _ r0 rm;omega
def pH.trans{k j r:Nat}(h1:pH m up k j)(h2:pH m up j r):pH m up k r:=by
 induction h2 with
 |self=>exact h1
 |step r0 rm _ ih=>exact .step r0 rm ih
def pH.kid(T:Tb n m up bh){k r:Nat}(h:pH m up k r):r=k\/∃j,0<j/\j<m/\up j=k/\pH m up j r:=by
 induction h with
 |self=>exact .inl rfl
 | @step r r0 rm _ ih =>
  rcases ih with e|⟨j,a,b,c,d⟩
  ·exact .inr ⟨r,r0,rm,e,.self rm⟩
  ·exact .inr ⟨j,a,b,c,.step r0 rm d⟩
def pH.cmp{j r:Nat}(h1:pH m up j r)(h2:pH m up j' r):pH m up j j'\/pH m up j' j:=by
 induction h1 with
 |self=>exact .inr h2
 | @step r r0 rm h ih =>
  cases h2 with
  |self=>exact .inl (.step r0 rm h)
  |step _ _ h'=>exact ih h'
def Hs(T:Tb n m up bh){j r:Nat}(j0:0<j)(jm:j<m)(j0':0<j')(jm':j'<m)(e:up j=up j')(h1:pH m up j r)(h2:pH m up j' r):j=j':=by
 have gh:∀{a b:Nat},0<a->a<m->up a=up b->pH m up a b->a=b:=λ{a b} a0 am e h=>by
  cases h with
  |self=>rfl
  |step b0 bm h =>
   rw[<-e]at h;have l1:=h.le T;have l2:=T.ups a a0 am;omega
 rcases h1.cmp h2 with h|h
 ·exact gh j0 jm e h
 ·exact(gh j0' jm' e.symm h).symm
def vC(T:Tb n m up bh){j:Nat}{v:Int}(h:v∈bh j)(fr:j=0\/v∉bh (up j)):∀q,v∈bh q->pH m up j q:=by
 have jm:=T.in_ h;have no:∀i,i<j->v∉bh i:=λi hi=>by
  rcases fr with e|e
  ·omega
  ·rcases T.fr j () jm v h with z|z
   ·exact absurd z e
   ·exact z i hi
 intro q
 induction q using Nat.strongRecOn with
 |ind q ih =>
  intro hq;have qm:=T.in_ hq;by_cases c:q=j
  ·rw[c];exact .self jm
  ·have lj:j<q:=by
    grind
   rcases T.fr q () qm v hq with z|z
   ·exact .step () qm (ih _ (T.ups q () qm) z)
   ·exact absurd h (z j lj)
def conn(T:Tb n m up bh){j r:Nat}{v:Int}(b:pH m up j r)(h:v∈bh r):(v∈bh j/\v∈bh (up j))\/∀q,v∈bh q->pH m up j q:=by
 induction b with
 |self jm =>
  by_cases c:v∈bh (up j)
  ·exact .inl ⟨h,c⟩
  ·exact .inr (vC T h (.inr c))
 | @step r r0 rm b ih =>
  by_cases c:v∈bh (up r)
  ·exact ih c
  ·exact .inr λq hq=>pH.trans (.step r0 rm b) (vC T h (.inr c) q hq)
def Fb(m:Nat)(up:Nat->Nat)(bh:Nat->List Int)(k:Nat)(v:Int):Prop:=∃r,pH m up k r/\v∈bh r
def Ľ(T:Tb n m up bh){j:Nat}{v:Int}(j0:0<j)(jm:j<m)(h:Fb m up bh j v)(hu:v∈bh (up j)):v∈bh j:=by
 obtain⟨r,b,hr⟩:=h;rcases conn T b hr with z|z
 ·exact z.1
 ·have l1:=(z _ hu).le T;have l2:=T.ups j j0 jm;omega
def a05(T:Tb n m up bh){j:Nat}{v:Int}(j0:0<j)(jm:j<m)(j0':0<j')(jm':j'<m)(e:up j=up j')(ne:j≠j')(h:Fb m up bh j v)(h':Fb m up bh j' v):v∈bh (up j):=by
 obtain⟨r,b,hr⟩:=h;obtain⟨r',b',hr'⟩:=h';rcases conn T b hr with z|z
 ·exact z.2
 ·exact absurd (Hs T j0 jm j0' jm' e (z _ hr') b') ne
def RV(T:Tb n m up bh):∀r,r<m->pH m up 0 r:=by
 intro r
 induction r using Nat.strongRecOn with
 |ind r ih =>
  intro rm;by_cases c:r=0
  ·rw[c];exact .self T.pos
  ·have:=T.ups r () rm;exact .step () rm (ih _ this ())
def gU(up:Nat->Nat)(bh:Nat->List Int)(r:Nat)(t:Int×Int):Prop:=t.1∈bh r/\t.2∈bh r/\(r=0\/¬(t.1∈bh (up r)/\t.2∈bh (up r)))
instance (up:Nat->Nat) (bh:Nat->List Int) (r:Nat) (t:Int×Int):Decidable (gU up bh r t):=by unfold gU;infer_instance
def RW(T:Tb n m up bh){r:Nat}{t:Int×Int}(h:gU up bh r t):∀q,t.1∈bh q->t.2∈bh q->pH m up r q:=by
 obtain⟨h1,h2,h3⟩:=h;intro q q1 q2;rcases h3 with e|e
 ·exact vC T h1 (.inl e) q q1
 ·by_cases c:t.1∈bh (up r)
  ·exact vC T h2 (.inr λz=>e ⟨c,z⟩) q q2
  ·exact vC T h1 (.inr c) q q1
def ud(T:Tb n m up bh){r r':Nat}{t:Int×Int}(h:gU up bh r t)(h':gU up bh r' t):r=r':=by
 have l1:=(RW T h r' h'.1 h'.2.1).le T;have l2:=(RW T h' r h.1 h.2.1).le T;omega
def a06(T:Tb n m up bh){t:Int×Int}:∀q,t.1∈bh q->t.2∈bh q->∃r,r<m/\gU up bh r t:=by
 intro q
 induction q using Nat.strongRecOn with
 |ind q ih =>
  intro q1 q2;have qm:=T.in_ q1;by_cases c:q=0
  ·exact⟨q,qm,q1,q2,.inl c⟩
  ·by_cases d:t.1∈bh (up q)/\t.2∈bh (up q)
   ·exact ih _ (T.ups q () qm) d.1 d.2
   ·exact⟨q,qm,q1,q2,.inr d⟩
end
def Kg(κ:Kp)(ss:List bU):Kp:=ss.foldl KR κ
def uf(n wd:Nat)(ts:List bY):Kp->List bU->Prop
 |_,[]=>True
 |κ,s::r=>(Can n ts κ s/\(KR κ s).top.length<=wd)/\uf n wd ts (KR κ s) r
section
variable{n:Nat}{ts:List bY}
def mF(κ:Kp)(a b:List bU):Kg κ (a++b)=Kg (Kg κ a) b:=List.foldl_append
theorem mW:∀{κ:Kp}{a b:List bU},uf n wd ts κ a->uf n wd ts (Kg κ a) b->uf n wd ts κ (a++b)
 |_,[],_,_,h=>h
 |_,_::_,_,h,h'=>⟨h.1,mW h.2 h'⟩
theorem zq:∀{κ:Kp}{a b:List bU},uf n wd ts κ (a++b)->uf n wd ts κ a/\uf n wd ts (Kg κ a) b
 |_,[],_,h=>⟨trivial,h⟩
 |_,_::_,_,h=>⟨⟨h.1,(zq h.2).1⟩,(zq h.2).2⟩
def qF(P:List (List Int))(b:List Int)(G:List Int)(B:List bY):(Kp.mk (P++[b]) G B).top=b:=by
 show(P++[b]).getLastD []=b;grind
def ľ(P:List (List Int))(b:List Int)(G:List Int)(B:List bY):(Kp.mk (P++[b]) G B).P≠[]:=λz=>by
 have:P++[b]=[]:=z;simp at this
theorem V7:∀(vs:List Int) {P:List (List Int)}{b G:List Int}{B:List bY},vs.Nodup->(∀v∈vs,0<=v/\v<(n:Int))->(∀v∈vs,v∉b)->(∀v∈vs,v∉G)->b.length+vs.length<=wd->uf n wd ts ⟨P++[b],G,B⟩ (vs.map .inn)/\Kg ⟨P++[b],G,B⟩ (vs.map .inn)=⟨P++[b++vs],G,B⟩
 | [],P,b,G,B,_,_,_,_,_=>⟨trivial,by rw[lH];rfl⟩
 |v::vs,P,b,G,B,nd,lt,nb,ng,hw=>by
  rw[jJ]at hw
  obtain⟨n1,n2⟩:=jB.mp nd
  have e:KR ⟨P++[b],G,B⟩ (.inn v)=⟨P++[b++[v]],G,B⟩:=by
   show Kp.mk ((P++[b]).dropLast++[(Kp.mk (P++[b]) G B).top++[v]]) G B=_
   rw[qF,Dt]
  obtain⟨i1,i2⟩:=V7 vs (P:=P) (b:=b++[v]) (G:=G) (B:=B) n2 (λx hx=>lt x (bC _ hx)) (λx hx z=>by
   grind) (λx hx=>ng x (bC _ hx)) ()
  refine⟨⟨⟨⟨ľ _ _ _ _,lt v aU,?_,ng v aU⟩,?_⟩,?_⟩,?_⟩
  ·rw[qF];exact nb v aU
  ·rw[e,qF,cB,zX];omega
  ·grind
  ·show Kg (KR ⟨P++[b],G,B⟩ (.inn v)) (vs.map .inn)=_
   rw[e,i2,vK];rfl
theorem Qh:∀(vs:List Int) {P:List (List Int)}{b G:List Int}{B:List bY},vs.Nodup->b.Nodup->(∀v∈vs,v∈b)->(∀v∈vs,v∉G)->b.length<=wd->uf n wd ts ⟨P++[b],G,B⟩ (vs.map .out)/\∃b',b'.Nodup/\(∀v,v∈b'↔v∈b/\v∉vs)/\Kg ⟨P++[b],G,B⟩ (vs.map .out)=⟨P++[b'],G++vs,B⟩
 | [],P,b,G,B,_,nb,_,_,_=>⟨trivial,b,nb,λv=>by simp,by rw[lH];rfl⟩
 |v::vs,P,b,G,B,nd,nb,mb,ng,hw=>by
  obtain⟨n1,n2⟩:=jB.mp nd
  have e:KR ⟨P++[b],G,B⟩ (.out v)=⟨P++[b.erase v],G++[v],B⟩:=by
   show Kp.mk ((P++[b]).dropLast++[(Kp.mk (P++[b]) G B).top.erase v]) (G++[v]) B=_
   rw[qF,Dt]
  obtain⟨i1,b',d1,d2,i2⟩:=Qh vs (P:=P) (b:=b.erase v) (G:=G++[v]) (B:=B) n2 (nb.erase v) (λx hx=>nb.mem_erase_iff.mpr ⟨λz=>n1 (z▸hx),mb x (bC _ hx)⟩) (λx hx z=>by
   grind) (cV List.length_erase_le hw)
  refine⟨⟨⟨⟨ľ _ _ _ _,?_,ng v aU⟩,?_⟩,?_⟩,b',d1,λx=>?_,?_⟩
  ·rw[qF];exact mb v aU
  ·rw[e,qF];exact cV List.length_erase_le hw
  ·rw[e];exact i1
  ·rw[d2,nb.mem_erase_iff,bZ]
   constructor
   ·rintro⟨⟨h1,h2⟩,h3⟩
    exact⟨h2,λz=>z.elim h1 h3⟩
   ·rintro⟨h1,h2⟩
    exact⟨⟨λz=>h2 (.inl z),h1⟩,λz=>h2 (.inr z)⟩
  ·show Kg (KR ⟨P++[b],G,B⟩ (.out v)) (vs.map .out)=_
   grind
theorem Qi:∀(tl:List bY) {P:List (List Int)}{b G:List Int}{B:List bY},tl.Nodup->(∀t∈tl,t∈ts/\t∉B/\t.1∈b/\t.2∈b)->b.length<=wd->uf n wd ts ⟨P++[b],G,B⟩ (tl.map λt=>.tie t.1 t.2)/\Kg ⟨P++[b],G,B⟩ (tl.map λt=>.tie t.1 t.2)=⟨P++[b],G,B++tl⟩
 | [],P,b,G,B,_,_,_=>⟨trivial,by rw[lH];rfl⟩
 |t::tl,P,b,G,B,nd,ok,hw=>by
  obtain⟨n1,n2⟩:=jB.mp nd
  obtain⟨o1,o2,o3,o4⟩:=ok t aU
  obtain⟨i1,i2⟩:=Qi tl (P:=P) (b:=b) (G:=G) (B:=B++[t]) n2 (λs hs=>by
   grind) hw
  refine⟨⟨⟨⟨ľ _ _ _ _,o1,o2,?_,?_⟩,?_⟩,i1⟩,?_⟩
  ·rw[qF];exact o3
  ·rw[qF];exact o4
  ·show(Kp.mk (P++[b]) G (B++[t])).top.length<=wd
   rw[qF];exact hw
  ·show Kg ⟨P++[b],G,B++[t]⟩ (tl.map _)=_
   rw[i2,vK];rfl
def XR{n:Nat}{ts:List bY}{P:List (List Int)}{b b':List Int}(pm:b'.Perm b):Can n ts ⟨P++[b]++[b'],G,B⟩ .join/\KR ⟨P++[b]++[b'],G,B⟩ .join=⟨P++[b],G,B⟩:=by
 refine⟨⟨?_,?_⟩,?_⟩
 ·show 1<(P++[b]++[b']).length;simp
 ·rw[qF];show b'.Perm ((P++[b]++[b']).getD ((P++[b]++[b']).length-2) []);have:(P++[b]++[b']).getD ((P++[b]++[b']).length-2) []=b:=by
   rw[RT (by simp),Dt,À,Nt];rfl
  rw[this];exact pm
 ·show Kp.mk (P++[b]++[b']).dropLast G B=_;grind
end
def vD(x y:List Int):List Int:=x.filter λv=>!decide (v∈y)
def lQ{x y:List Int}{v:Int}:v∈vD x y↔v∈x/\v∉y:=by
 unfold vD;grind
def kI(bh:Nat->List Int)(j k:Nat):List bU:=(vD (bh j) (bh k)).map .out++(vD (bh k) (bh j)).map .inn
section
variable{n m:Nat}{up:Nat->Nat}{bh:Nat->List Int}{ts:List bY}
def Ŀ(T:Tb n m up bh)(hW:∀k,(bh k).length<=wd){j k:Nat}{P:List (List Int)}{b:List Int}(pm:b.Perm (bh j))(h1:∀v∈bh j,v∉bh k->v∉G)(h2:∀v∈bh k,v∉bh j->v∉G):uf n wd ts ⟨P++[b],G,B⟩ (kI bh j k)/\∃b',b'.Perm (bh k)/\Kg ⟨P++[b],G,B⟩ (kI bh j k)=⟨P++[b'],G++vD (bh j) (bh k),B⟩:=by
 have nb:b.Nodup:=pm.nodup_iff.mpr (T.nd j);obtain⟨o1,b1,d1,d2,o2⟩:=Qh (n:=n) (ts:=ts) (vD (bh j) (bh k)) (P:=P) (b:=b) (G:=G) (B:=B) ((T.nd j).filter _) nb (λv hv=>pm.mem_iff.mpr (lQ.mp hv).1) (λv hv=>h1 v (lQ.mp hv).1 (lQ.mp hv).2) (by rw[pm.length_eq];exact hW j);have m1:∀v,v∈b1↔v∈bh j/\v∈bh k:=λv=>by
  rw[d2,pm.mem_iff,lQ];grind
 have pk:(b1++vD (bh k) (bh j)).Perm (bh k):=by
  refine(Hx (vL.mpr ⟨d1,(show(vD (bh k) (bh j)).Nodup from(T.nd k).filter _),λx hx y hy e=>?_⟩) (T.nd k)).mpr λv=>?_
  ·subst e;exact(lQ.mp hy).2 ((m1 x).mp hx).1
  ·rw[cH,m1];show _\/v∈vD (bh k) (bh j)↔_;rw[lQ];grind
 obtain⟨i1,i2⟩:=V7 (n:=n) (ts:=ts) (vD (bh k) (bh j)) (P:=P) (b:=b1) (G:=G++vD (bh j) (bh k)) (B:=B) ((T.nd k).filter _) (λv hv=>T.lt k v (lQ.mp hv).1) (λv hv z=>(lQ.mp hv).2 ((m1 v).mp z).1) (λv hv z=>by
  obtain⟨a,c⟩:=lQ.mp hv;rcases cH.mp z with z|z
  ·grind
  ·exact(lQ.mp z).2 a) (by have h1:=pk.length_eq;have h2:=hW k;rw[cB]at h1;rw[h1];exact h2)
 exact⟨mW o1 (),b1++vD (bh k) (bh j),pk,by unfold kI;rw[mF,o2,i2]⟩
def Kh(n wd m:Nat)(up:Nat->Nat)(bh:Nat->List Int)(ts tb:List bY)(j:Nat)(ss:List bU):Prop :=
 ∀P G B,(∀v,Fb m up bh j v->v∉G)->(∀t∈B,∀r,pH m up j r->¬gU up bh r t)->∃b G' B',b.Perm (bh j)/\uf n wd ts ⟨P,G,B⟩ ss/\Kg ⟨P,G,B⟩ ss=⟨P++[b],G',B'⟩/\(∀v,v∈G'↔v∈G\/(Fb m up bh j v/\v∉bh j))/\∀t,t∈B'↔t∈B\/(t∈tb/\∃r,pH m up j r/\gU up bh r t)
def wX(up:Nat->Nat)(bh:Nat->List Int)(tb:List bY)(k:Nat):List bY:=tb.filter λt=>decide (gU up bh k t)
def jH(m:Nat)(up:Nat->Nat)(k:Nat):List Nat:=(List.range m).filter λj=>decide (k<j)&&decide (up j=k)
def yr(T:Tb n m up bh){k j:Nat}:j∈jH m up k↔0<j/\j<m/\up j=k:=by
 unfold jH;rw[lG,mK,qj,d7,d7];constructor
 ·rintro⟨a,b,c⟩;exact⟨(),a,c⟩
 ·rintro⟨a,b,c⟩;have:=T.ups j a b;exact⟨b,(),c⟩
def Qj(m:Nat)(up:Nat->Nat)(k:Nat):(jH m up k).Nodup:=List.nodup_range.sublist Tf
end
section
variable{n:Nat}{ts:List bY}{ss:List bU}
theorem Kl(cZ:n<=10)(c:uf n wd ts ⟨[],[],[]⟩ ss):∀i,i<=ss.length->∃E,Qg n ts ss i (Kg ⟨[],[],[]⟩ (ss.take i)) E
 |0,_=>⟨[],a5K⟩
 |i+1,il=>by
  obtain⟨E,D⟩:=Kl cZ c i ()
  have hs:ss[i]?=some (ss[i]'()):=bF ()
  have c1:uf n wd ts ⟨[],[],[]⟩ (ss.take i++ss.drop i):=by rw[xg];exact c
  have c2:=(zq c1).2
  rw[Hy (show i<ss.length by omega)]at c2
  obtain⟨E',_,D'⟩:=a3C cZ D hs c2.1.1
  refine⟨E',?_⟩
  rw[Qf hs,mF]
  exact D'
def a07(c:uf n wd ts ⟨[],[],[]⟩ ss){i:Nat}(il:i<ss.length):(Kg ⟨[],[],[]⟩ (ss.take (i+1))).top.length<=wd:=by
 have c1:uf n wd ts ⟨[],[],[]⟩ (ss.take i++ss.drop i):=by rw[xg];exact c
 have c2:=(zq c1).2;rw[Hy il]at c2;have hs:ss[i]?=some (ss[i]'il):=bF il;rw[Qf hs,mF];exact c2.1.2
end
section
variable{n:Nat}{ts:List bY}
theorem ŀ:∀(a:List bU) {κ:Kp}{pre:List bU},uf n wd ts κ a->(∀v,(v∈κ.G\/∃b∈κ.P,v∈b)->bU.inn v∈pre)->∀v,(v∈(Kg κ a).G\/∃b∈(Kg κ a).P,v∈b)->bU.inn v∈pre++a
 | [],κ,pre,_,h,v,hv=>by rw[lH];exact h v hv
 |s::r,κ,pre,c,h,v,hv=>by
  have e:pre++s::r=(pre++[s])++r:=by rw[vK];rfl
  rw[e]
  refine ŀ r c.2 (λu hu=>?_) v hv
  have old:∀{u},(u∈κ.G\/∃b∈κ.P,u∈b)->bU.inn u∈pre++[s]:=λhu=>rM _ (h _ hu)
  have dl:∀{b:List Int},b∈κ.P.dropLast->b∈κ.P:=λhb=>lE (by rw[List.dropLast_eq_take]at hb;exact hb)
  have can:=c.1.1
  cases s with
  |leaf =>
   rcases hu with hu|⟨b,hb,hu⟩
   ·exact old (.inl hu)
   ·rcases cH.mp (show b∈κ.P++[[]]from hb)with hb|hb
    ·grind
    grind
  |inn x =>
   rcases hu with hu|⟨b,hb,hu⟩
   ·exact old (.inl hu)
   ·rcases cH.mp (show b∈κ.P.dropLast++[κ.top++[x]]from hb)with hb|hb
    ·grind
    ·rw[bG.mp hb]at hu
     rcases cH.mp hu with hu|hu
     ·exact old (.inr ⟨_,Kf can.1,hu⟩)
     grind
  |tie x y=>exact old hu
  |out x =>
   rcases hu with hu|⟨b,hb,hu⟩
   ·rcases cH.mp (show u∈κ.G++[x]from hu)with hu|hu
    ·exact old (.inl hu)
    ·rw[bG.mp hu]
     exact old (.inr ⟨_,Kf can.1,can.2.1⟩)
   ·rcases cH.mp (show b∈κ.P.dropLast++[κ.top.erase x]from hb)with hb|hb
    ·grind
    ·rw[bG.mp hb]at hu
     exact old (.inr ⟨_,Kf can.1,List.mem_of_mem_erase hu⟩)
  |join =>
   rcases hu with hu|⟨b,hb,hu⟩
   ·exact old (.inl hu)
   ·exact old (.inr ⟨b,dl hb,hu⟩)
end
section
variable{n:Nat}{ts:List bY}{ss:List bU}
def a5L(cZ:n<=10)(c:uf n wd ts ⟨[],[],[]⟩ ss)(h:Kg ⟨[],[],[]⟩ ss=⟨[[]],G,B⟩)(cov:∀v:Int,0<=v->v<(n:Int)->v∈G)(mB:∀t,t∈B↔t∈ts):Bt n ts ss (cD n ts ss)=.ok:=by
 obtain⟨E,D⟩:=Kl cZ c ss.length (aM _);rw[je,h]at D;have hE:∀j:Nat,j<n->(j:Int)∈E:=λj hj=>by
  have h1:=ŀ ss c (pre:=[]) (λv hv=>by
   grind) (j:Int) (.inl ())
  have h2:=(D.ins (j:Int)).mp ();exact h2
 have:=(a04 cZ D).2.2 Z hE;grind
def Zw(cZ:n<=10)(c:uf n wd ts ⟨[],[],[]⟩ ss)(qJ:Bt n ts ss (cD n ts ss)=.ok):∀b∈(cD n ts ss).aR,b.length<=wd:=by
 have go:=Ĩ cZ qJ;have I:=zf cZ qJ;intro b hb;obtain⟨k,kl,e⟩:=rN hb;rw[I.tl]at kl;have eb:Go.gR n ts ss k=b:=by
  show(cD n ts ss).aR.getD k []=b;rw[fM,bF (by rw[I.tl];exact kl),<-e];rfl
 obtain⟨E',D'⟩:=Kl cZ c (k+1) ();have S:=Go.Bm (n:=n) (ts:=ts) go cZ (List.getElem?_eq_getElem kl);have r:=D'.rel;have wd':=a07 c kl;have ok':=D'.ok;generalize Kg ⟨[],[],[]⟩ (ss.take (k+1))=κ at r wd' ok';rw[S.pile]at r;have ne:κ.P≠[]:=λz=>by
  rw[z]at r;have:=aV r;simp at this
 rw[tB ne]at r;obtain⟨xs',x,ex,_,hx⟩:=qK r;have ex':=(List.append_inj' ex Z).2;cases ex';rw[Go.Qa go cZ (Nat.le_refl _) ()]at hx;have hx':∀v,v∈Go.gR n ts ss k↔v∈κ.top:=hx;have nd:=(Go.RL cZ (λk s h=>Go.a00 (Go.Bm go cZ h)) k kl).1;rw[eb]at hx' nd;have pm:b.Perm κ.top:=(Hx (Go.zN nd) ok'.V6.1).mpr hx';rw[pm.length_eq];exact wd'
end
theorem Mz{α:Type}(p q:α->Bool)(h:∀x,p x=true->q x=true):∀l:List α,l.countP p+l.countP (λx=>q x && !p x)=l.countP q
 | []=>rfl
 |x::l=>by
  have ih:=Mz p q h l
  grind
theorem Fd{α:Type}(l:List α)(p:Nat->α->Bool):∀(js:List Nat) (q:α->Bool),js.Nodup->(∀j∈js,∀x,p j x=true->q x=true)->(∀j∈js,∀j'∈js,∀x,p j x=true->p j' x=true->j=j')->(js.map λj=>l.countP (p j)).sum<=l.countP q
 | [],_,_,_,_=>dw _
 |j::js,q,nd,hq,gh=>by
  obtain⟨n1,n2⟩:=jB.mp nd
  have ih:=Fd l p js (λx=>q x && !p j x) n2 (λi hi x hx=>by
   grind) (λa ha b hb x h1 h2=>gh a (bC _ ha) b (bC _ hb) x h1 h2)
  have:=Mz (p j) q (hq j aU) l
  grind
section
open Classical
variable{n m:Nat}{up:Nat->Nat}{bh:Nat->List Int}
noncomputable def cR (m:Nat) (up:Nat->Nat) (k:Nat):Nat:=(List.range m).countP λr=>decide (pH m up k r)
noncomputable def cT (m:Nat) (up:Nat->Nat) (bh:Nat->List Int) (tb:List bY) (k:Nat):Nat:=tb.countP λt=>decide (∃r,pH m up k r/\gU up bh r t)
def XS(T:Tb n m up bh){k:Nat}(km:k<m):1+((jH m up k).map λj=>cR m up j).sum<=cR m up k:=by
 have kid:∀j∈jH m up k,0<j/\j<m/\up j=k:=λj hj=>(yr T).mp hj;have ne:∀j∈jH m up k,j≠k:=λj hj e=>by
  obtain⟨j0,jm,ju⟩:=kid j hj;have:=T.ups j j0 jm;omega
 have h:=Fd (List.range m) (λj r=>if j=k then decide (r=k)else decide (pH m up j r)) (k::jH m up k) (λr=>decide (pH m up k r)) (jB.mpr ⟨λz=>ne k z Z,Qj _ _ _⟩) (λj hj x hx=>by
  by_cases c:j=k
  ·rw[aG c,d7]at hx;rw[hx];exact bA (.self km)
  ·rw[aB c,d7]at hx;rcases bZ.mp hj with e|hj
   ·grind
   ·obtain⟨j0,jm,ju⟩:=kid j hj;exact bA (pH.trans (.step j0 jm (by rw[ju];exact .self km)) hx)) (λa ha b hb x h1 h2=>by
  have nk:∀{j:Nat},j∈jH m up k->¬pH m up j k:=λ{j} hj z=>by
   obtain⟨j0,jm,ju⟩:=kid j hj;have:=T.ups j j0 jm;have:=z.le T;omega
  rcases bZ.mp ha with ea|ha<;>rcases bZ.mp hb with eb|hb
  ·rw[ea,eb]
  ·grind
  ·grind
  ·rw[aB (ne a ha),d7]at h1;rw[aB (ne b hb),d7]at h2;obtain⟨a0,am,au⟩:=kid a ha;obtain⟨b0,bm,bu⟩:=kid b hb;exact Hs T a0 am b0 bm (au.trans bu.symm) h1 h2)
 rw[cL,vP]at h;have e1:(List.range m).countP (λr=>if k=k then decide (r=k)else decide (pH m up k r))=1:=by
  have:(λr=>if k=k then decide (r=k)else decide (pH m up k r))=λr=>decide (r=k):=funext λr=>aG rfl;rw[this];have h1:=List.nodup_range (n:=m);have h2:List.count k (List.range m)=1:=()
  rw[<-h2];unfold List.count;grind
 have e2:(jH m up k).map (λj=>(List.range m).countP λr=>if j=k then decide (r=k)else decide (pH m up j r))=(jH m up k).map λj=>cR m up j:=xj λj hj=>by
  unfold cR;congr 1;funext r;rw[aB (ne j hj)]
 rw[e1,e2]at h;exact h
def a08(T:Tb n m up bh){k:Nat}(km:k<m)(tb:List bY):(wX up bh tb k).length+((jH m up k).map λj=>cT m up bh tb j).sum<=cT m up bh tb k:=by
 have kid:∀j∈jH m up k,0<j/\j<m/\up j=k:=λj hj=>(yr T).mp hj;have ne:∀j∈jH m up k,j≠k:=λj hj e=>by
  obtain⟨j0,jm,ju⟩:=kid j hj;have:=T.ups j j0 jm;omega
 have h:=Fd tb (λj t=>if j=k then decide (gU up bh k t)else decide (∃r,pH m up j r/\gU up bh r t)) (k::jH m up k) (λt=>decide (∃r,pH m up k r/\gU up bh r t)) (jB.mpr ⟨λz=>ne k z Z,Qj _ _ _⟩) (λj hj x hx=>by
  by_cases c:j=k
  ·rw[aG c,d7]at hx;exact bA ⟨k,.self km,hx⟩
  ·rw[aB c,d7]at hx;obtain⟨r,br,hr⟩:=hx;rcases bZ.mp hj with e|hj
   ·grind
   ·obtain⟨j0,jm,ju⟩:=kid j hj;exact bA ⟨r,pH.trans (.step j0 jm (by rw[ju];exact .self km)) br,hr⟩) (λa ha b hb x h1 h2=>by
  have nk:∀{j:Nat},j∈jH m up k->¬pH m up j k:=λ{j} hj z=>by
   obtain⟨j0,jm,ju⟩:=kid j hj;have:=T.ups j j0 jm;have:=z.le T;omega
  rcases bZ.mp ha with ea|ha<;>rcases bZ.mp hb with eb|hb
  ·rw[ea,eb]
  ·rw[aG ea,d7]at h1;rw[aB (ne b hb),d7]at h2;obtain⟨r,br,hr⟩:=h2;exact absurd (ud T hr h1▸br) (nk hb)
  ·rw[aG eb,d7]at h2;rw[aB (ne a ha),d7]at h1;obtain⟨r,br,hr⟩:=h1;exact absurd (ud T hr h2▸br) (nk ha)
  ·rw[aB (ne a ha),d7]at h1;rw[aB (ne b hb),d7]at h2;obtain⟨r,br,hr⟩:=h1;obtain⟨r',br',hr'⟩:=h2;have:=ud T hr hr';subst this;obtain⟨a0,am,au⟩:=kid a ha;obtain⟨b0,bm,bu⟩:=kid b hb;exact Hs T a0 am b0 bm (au.trans bu.symm) br br')
 rw[cL,vP]at h;have e1:tb.countP (λt=>if k=k then decide (gU up bh k t)else decide (∃r,pH m up k r/\gU up bh r t))=(wX up bh tb k).length:=by
  unfold wX;grind
 have e2:(jH m up k).map (λj=>tb.countP λt=>if j=k then decide (gU up bh k t)else decide (∃r,pH m up j r/\gU up bh r t))=(jH m up k).map λj=>cT m up bh tb j:=xj λj hj=>by
  unfold cT;congr 1;funext t;rw[aB (ne j hj)]
 rw[e1,e2]at h;exact h
theorem X3{α:Type}(L:Nat->List α)(c d:Nat->Nat):∀js:List Nat,(∀j∈js,(L j).length<=14*c j+d j)->(js.flatMap L).length<=14*(js.map c).sum+(js.map d).sum
 | [],_=>dw _
 |j::js,h=>by
  have ih:=X3 L c d js λi hi=>h i (bC _ hi)
  grind
def Zx(hW:∀k,(bh k).length<=4)(j k:Nat):(kI bh j k).length<=8:=by
 have f1:(vD (bh j) (bh k)).length<=4:=cV (Ds _ _) (hW j);have f2:(vD (bh k) (bh j)).length<=4:=cV (Ds _ _) (hW k);unfold kI;grind
end
section
variable{n m:Nat}{up:Nat->Nat}{bh:Nat->List Int}{ts tb:List bY}
def MF(T:Tb n m up bh)(hW:∀k,(bh k).length<=wd){j k:Nat}{L:List bU}(j0:0<j)(jm:j<m)(ju:up j=k)(ly:Kh n wd m up bh ts tb j L){P:List (List Int)}(hK:∀v∈bh k,v∉G)(hG:∀v,Fb m up bh j v->v∉G)(hB:∀t∈B,∀r,pH m up j r->¬gU up bh r t) :
  ∃b G' B',b.Perm (bh k)/\uf n wd ts ⟨P,G,B⟩ (L++kI bh j k)/\Kg ⟨P,G,B⟩ (L++kI bh j k)=⟨P++[b],G',B'⟩/\(∀v,v∈G'↔v∈G\/(Fb m up bh j v/\v∉bh k))/\∀t,t∈B'↔t∈B\/(t∈tb/\∃r,pH m up j r/\gU up bh r t):=by
 obtain⟨bj,G1,B1,pj,a1,e1,Ł,Ŭ⟩:=ly P G B hG hB;have a1E:∀v∈bh j,Fb m up bh j v:=λv hv=>⟨j,.self jm,hv⟩;obtain⟨a2,b2,p2,e2⟩:=Ŀ (ts:=ts) T hW (k:=k) (P:=P) (G:=G1) (B:=B1) pj (λv hv _ z=>by
  rcases(Ł v).mp z with z|z
  ·exact hG v (a1E v hv) z
  ·exact z.2 hv) (λv hv nv z=>by
  rcases(Ł v).mp z with z|z
  ·exact hK v hv z
  ·exact nv (Ľ T j0 jm z.1 (ju▸hv)))
 refine⟨b2,_,B1,p2,mW a1 (by rw[e1];exact a2),by rw[mF,e1,e2],λv=>?_,Ŭ⟩;rw[cH,Ł,lQ];constructor
 ·rintro((z|⟨z1,z2⟩)|⟨z1,z2⟩)
  ·exact .inl z
  ·exact .inr ⟨z1,λz=>z2 (Ľ T j0 jm z1 (ju▸z))⟩
  ·exact .inr ⟨a1E v z1,z2⟩
 ·rintro(z|⟨z1,z2⟩)
  ·exact .inl (.inl z)
  ·by_cases c:v∈bh j
   ·exact .inr ⟨c,z2⟩
   ·exact .inl (.inr ⟨z1,c⟩)
def Gb(n wd m:Nat)(up:Nat->Nat)(bh:Nat->List Int)(ts tb:List bY)(k:Nat)(js:List Nat)(own:Bool)(ss:List bU):Prop :=
 ∀P G B,(∀v∈bh k,v∉G)->(∀j∈js,∀v,Fb m up bh j v->v∉G)->(∀t∈B,∀j∈js,∀r,pH m up j r->¬gU up bh r t)->(own=true->∀t∈B,¬gU up bh k t)->∃b G' B',b.Perm (bh k)/\uf n wd ts ⟨P,G,B⟩ ss/\Kg ⟨P,G,B⟩ ss=⟨P++[b],G',B'⟩/\(∀v,v∈G'↔v∈G\/∃j∈js,Fb m up bh j v/\v∉bh k)/\∀t,t∈B'↔t∈B\/(t∈tb/\((∃j∈js,∃r,pH m up j r/\gU up bh r t)\/(own=true/\gU up bh k t)))
def ł(up:Nat->Nat)(bh:Nat->List Int)(tb:List bY)(k:Nat):List bU:=(wX up bh tb k).map λt=>.tie t.1 t.2
def Hu{k:Nat}{t:Int×Int}:t∈wX up bh tb k↔t∈tb/\gU up bh k t:=by
 unfold wX;rw[lG,d7]
def a3D(T:Tb n m up bh)(hW:∀k,(bh k).length<=wd)(tn:tb.Nodup)(sub:∀t∈tb,t∈ts)(k:Nat)(own:Bool):Gb n wd m up bh ts tb k [] own ((.leaf::(bh k).map .inn)++if own=true then ł up bh tb k else []):=by
 intro P G B hK _ _ hO;obtain⟨i1,i2⟩:=V7 (n:=n) (wd:=wd) (ts:=ts) (bh k) (P:=P) (b:=[]) (G:=G) (B:=B) (T.nd k) (T.lt k) (λv _ z=>absurd z dO) hK (by have:=hW k;show 0+_<=_;omega);have g1:Kg ⟨P,G,B⟩ (.leaf::(bh k).map .inn)=⟨P++[bh k],G,B⟩:=i2;have a0:uf n wd ts ⟨P,G,B⟩ (.leaf::(bh k).map .inn):=by
  refine⟨⟨trivial,?_⟩,i1⟩;show(Kp.mk (P++[[]]) G B).top.length<=wd;rw[qF];exact dw _
 cases own with
 |false =>
  rw[aB dh,lH];exact⟨bh k,G,B,DP _,a0,g1,λv=>by simp,λt=>by simp⟩
 |true =>
  rw[aG rfl];obtain⟨a,e⟩:=Qi (n:=n) (wd:=wd) (ts:=ts) (wX up bh tb k) (P:=P) (b:=bh k) (G:=G) (B:=B) (tn.sublist Tf) (λt ht=>by
   obtain⟨t1,h⟩:=Hu.mp ht;exact⟨sub t t1,λz=>hO Z t z h,h.1,h.2.1⟩) (hW k)
  refine⟨bh k,G,B++wX up bh tb k,DP _,mW a0 (by rw[g1];exact a),by rw[mF,g1];exact e,λv=>by simp,λt=>?_⟩;rw[cH,Hu];simp
def Ń(T:Tb n m up bh)(hW:∀k,(bh k).length<=wd){j k:Nat}{js:List Nat}{own:Bool}{Z98 L:List bU}(km:k<m)(j0:0<j)(jm:j<m)(ju:up j=k)(nj:j∉js)(kd:∀i∈js,0<i/\i<m/\up i=k)(lm:Gb n wd m up bh ts tb k js own Z98)(ly:Kh n wd m up bh ts tb j L) :
  Gb n wd m up bh ts tb k (j::js) own (Z98++(L++kI bh j k)++[.join])/\Gb n wd m up bh ts tb k (j::js) own ((L++kI bh j k)++Z98++[.join]):=by
 have jk:¬pH m up j k:=λz=>by
  have l1:=z.le T;have l2:=T.ups j j0 jm;omega
 have sib:∀i∈js,∀v,Fb m up bh i v->Fb m up bh j v->v∈bh k:=λi hi v h1 h2=>by
  obtain⟨i0,im,iu⟩:=kd i hi;exact iu▸a05 T i0 im j0 jm (iu.trans ju.symm) (λz=>nj (z▸hi)) h1 h2
 have a5M:∀i∈js,∀{t:Int×Int}{r r':Nat},pH m up i r->gU up bh r t->pH m up j r'->gU up bh r' t->False:=λi hi {t r r'} b1 h1 b2 h2=>by
  obtain⟨i0,im,iu⟩:=kd i hi;have:=ud T h1 h2;subst this;exact nj (Hs T i0 im j0 jm (iu.trans ju.symm) b1 b2▸hi)
 have mem:∀(P:Nat->Prop),(∃i∈j::js,P i)↔P j\/∃i∈js,P i:=λP=>by
  constructor
  ·rintro⟨i,hi,h⟩;rcases bZ.mp hi with e|hi
   ·exact .inl (e▸h)
   ·exact .inr ⟨i,hi,h⟩
  ·rintro(h|⟨i,hi,h⟩)
   ·exact⟨j,aU,h⟩
   ·exact⟨i,bC _ hi,h⟩
 refine⟨λP G B hK hG hB hO=>?_,λP G B hK hG hB hO=>?_⟩
 ·obtain⟨b,G1,B1,pb,a1,e1,Ł,Ŭ⟩:=lm P G B hK (λi hi=>hG i (bC _ hi)) (λt ht i hi=>hB t ht i (bC _ hi)) hO;obtain⟨b2,G2,B2,pb2,a2,e2,mG2,mB2⟩:=MF T hW j0 jm ju ly (P:=P++[b]) (G:=G1) (B:=B1) (λv hv z=>by
   rcases(Ł v).mp z with z|⟨i,hi,_,z⟩
   ·exact hK v hv z
   ·exact z hv) (λv hv z=>by
   rcases(Ł v).mp z with z|⟨i,hi,z1,z2⟩
   ·exact hG j aU v hv z
   ·exact z2 (sib i hi v z1 hv)) (λt ht r br hr=>by
   rcases(Ŭ t).mp ht with z|⟨_,⟨i,hi,r',br',hr'⟩|⟨_,hk⟩⟩
   ·exact hB t z j aU r br hr
   ·exact a5M i hi br' hr' br hr
   ·exact jk (ud T hr hk▸br))
  obtain⟨c3,e3⟩:=XR (n:=n) (ts:=ts) (P:=P) (b:=b) (b':=b2) (G:=G2) (B:=B2) (pb2.trans pb.symm);have wide:(KR ⟨P++[b]++[b2],G2,B2⟩ .join).top.length<=wd:=by rw[e3,qF,pb.length_eq];exact hW k
  refine⟨b,G2,B2,pb,?_,?_,λv=>?_,λt=>?_⟩
  ·exact mW (mW a1 (by rw[e1];exact a2)) (by rw[mF,e1,e2];exact⟨⟨c3,wide⟩,trivial⟩)
  ·rw[mF,mF,e1,e2];exact e3
  ·rw[mG2,Ł,mem];constructor
   ·rintro((z|z)|z)
    ·exact .inl z
    ·exact .inr (.inr z)
    ·exact .inr (.inl z)
   ·rintro(z|(z|z))
    ·exact .inl (.inl z)
    ·exact .inr z
    ·exact .inl (.inr z)
  ·rw[mB2,Ŭ,mem];constructor
   ·rintro((z|⟨z0,z|z⟩)|⟨z0,z⟩)
    ·exact .inl z
    ·exact .inr ⟨z0,.inl (.inr z)⟩
    ·exact .inr ⟨z0,.inr z⟩
    ·exact .inr ⟨z0,.inl (.inl z)⟩
   ·rintro(z|⟨z0,(z|z)|z⟩)
    ·exact .inl (.inl z)
    ·exact .inr ⟨z0,z⟩
    ·exact .inl (.inr ⟨z0,.inl z⟩)
    ·exact .inl (.inr ⟨z0,.inr z⟩)
 ·obtain⟨b2,G2,B2,pb2,a2,e2,mG2,mB2⟩:=MF T hW j0 jm ju ly (P:=P) (G:=G) (B:=B) hK (hG j aU) (λt ht=>hB t ht j aU);obtain⟨b,G1,B1,pb,a1,e1,Ł,Ŭ⟩:=lm (P++[b2]) G2 B2 (λv hv z=>by
   rcases(mG2 v).mp z with z|z
   ·exact hK v hv z
   ·exact z.2 hv) (λi hi v hv z=>by
   rcases(mG2 v).mp z with z|⟨z1,z2⟩
   ·exact hG i (bC _ hi) v hv z
   ·exact z2 (sib i hi v hv z1)) (λt ht i hi r br hr=>by
   rcases(mB2 t).mp ht with z|⟨_,r',br',hr'⟩
   ·exact hB t z i (bC _ hi) r br hr
   ·exact a5M i hi br hr br' hr') (λho t ht hk=>by
   rcases(mB2 t).mp ht with z|⟨_,r',br',hr'⟩
   ·exact hO ho t z hk
   ·exact jk (ud T hr' hk▸br'))
  obtain⟨c3,e3⟩:=XR (n:=n) (ts:=ts) (P:=P) (b:=b2) (b':=b) (G:=G1) (B:=B1) (pb.trans pb2.symm);have wide:(KR ⟨P++[b2]++[b],G1,B1⟩ .join).top.length<=wd:=by rw[e3,qF,pb2.length_eq];exact hW k
  refine⟨b2,G1,B1,pb2,?_,?_,λv=>?_,λt=>?_⟩
  ·exact mW (mW a2 (by rw[e2];exact a1)) (by rw[mF,e2,e1];exact⟨⟨c3,wide⟩,trivial⟩)
  ·rw[mF,mF,e2,e1];exact e3
  ·rw[Ł,mG2,mem];constructor
   ·rintro((z|z)|z)
    ·exact .inl z
    ·exact .inr (.inl z)
    ·exact .inr (.inr z)
   ·rintro(z|(z|z))
    ·exact .inl (.inl z)
    ·exact .inl (.inr z)
    ·exact .inr z
  ·rw[Ŭ,mB2,mem];constructor
   ·rintro((z|⟨z0,z⟩)|⟨z0,z|z⟩)
    ·exact .inl z
    ·exact .inr ⟨z0,.inl (.inl z)⟩
    ·exact .inr ⟨z0,.inl (.inr z)⟩
    ·exact .inr ⟨z0,.inr z⟩
   ·rintro(z|⟨z0,(z|z)|z⟩)
    ·exact .inl (.inl z)
    ·exact .inl (.inr ⟨z0,z⟩)
    ·exact .inr ⟨z0,.inl z⟩
    ·exact .inr ⟨z0,.inr z⟩
def ń(T:Tb n m up bh)(hW:∀k,(bh k).length<=wd)(tn:tb.Nodup)(sub:∀t∈tb,t∈ts){k:Nat}{js:List Nat}{own:Bool}{Z98:List bU}(km:k<m)(mj:∀j,j∈js↔0<j/\j<m/\up j=k)(lm:Gb n wd m up bh ts tb k js own Z98):Kh n wd m up bh ts tb k (Z98++if own=true then []else ł up bh tb k):=by
 intro P G B hG hB;have kb:∀j∈js,∀r,pH m up j r->pH m up k r:=λj hj r b=>by
  obtain⟨j0,jm,ju⟩:=(mj j).mp hj;exact pH.trans (.step j0 jm (by rw[ju];exact .self km)) b
 have jk:∀j∈js,¬pH m up j k:=λj hj z=>by
  obtain⟨j0,jm,ju⟩:=(mj j).mp hj;have l1:=z.le T;have l2:=T.ups j j0 jm;omega
 have ex:∀{r:Nat},pH m up k r->r≠k->∃j∈js,pH m up j r:=λ{r} b ne=>by
  rcases b.kid T with e|⟨j,j0,jm,ju,bj⟩
  ·exact absurd e ne
  ·exact⟨j,(mj j).mpr ⟨j0,jm,ju⟩,bj⟩
 obtain⟨b,G1,B1,pb,a1,e1,Ł,Ŭ⟩:=lm P G B (λv hv=>hG v ⟨k,.self km,hv⟩) (λj hj v ⟨r,br,hr⟩=>hG v ⟨r,kb j hj r br,hr⟩) (λt ht j hj r br=>hB t ht r (kb j hj r br)) (λ_ t ht=>hB t ht k (.self km));have mG:∀v,v∈G1↔v∈G\/(Fb m up bh k v/\v∉bh k):=λv=>by
  rw[Ł];constructor
  ·rintro(z|⟨j,hj,⟨r,br,hr⟩,z⟩)
   ·exact .inl z
   ·exact .inr ⟨⟨r,kb j hj r br,hr⟩,z⟩
  ·rintro(z|⟨⟨r,br,hr⟩,z⟩)
   ·exact .inl z
   ·obtain⟨j,hj,bj⟩:=ex br (λe=>z (e▸hr));exact .inr ⟨j,hj,⟨r,bj,hr⟩,z⟩
 have two:∀t,(∃r,pH m up k r/\gU up bh r t)↔(∃j∈js,∃r,pH m up j r/\gU up bh r t)\/gU up bh k t:=λt=>by
  constructor
  ·rintro⟨r,br,hr⟩;by_cases c:r=k
   ·exact .inr (c▸hr)
   ·obtain⟨j,hj,bj⟩:=ex br c;exact .inl ⟨j,hj,r,bj,hr⟩
  ·rintro(⟨j,hj,r,br,hr⟩|h)
   ·exact⟨r,kb j hj r br,hr⟩
   ·exact⟨k,.self km,h⟩
 cases own with
 |true =>
  rw[aG Z,lH];refine⟨b,G1,B1,pb,a1,e1,mG,λt=>?_⟩;rw[Ŭ,two];simp
 |false =>
  rw[aB dh];obtain⟨a,e⟩:=Qi (n:=n) (wd:=wd) (ts:=ts) (wX up bh tb k) (P:=P) (b:=b) (G:=G1) (B:=B1) (tn.sublist Tf) (λt ht=>by
   obtain⟨t1,h⟩:=Hu.mp ht;refine⟨sub t t1,λz=>?_,pb.mem_iff.mpr h.1,pb.mem_iff.mpr h.2.1⟩;rcases(Ŭ t).mp z with z|⟨_,⟨j,hj,r,br,hr⟩|⟨z,_⟩⟩
   ·exact hB t z k (.self km) h
   ·exact jk j hj (ud T hr h▸br)
   ·cases z) (by rw[pb.length_eq];exact hW k)
  refine⟨b,G1,B1++wX up bh tb k,pb,mW a1 (by rw[e1];exact a),by rw[mF,e1];exact e,mG,λt=>?_⟩;rw[cH,Ŭ,Hu,two];constructor
  ·rintro((z|⟨z0,z|⟨z,_⟩⟩)|⟨z0,z⟩)
   ·exact .inl z
   ·exact .inr ⟨z0,.inl z⟩
   ·cases z
   ·exact .inr ⟨z0,.inr z⟩
  ·rintro(z|⟨z0,z|z⟩)
   ·exact .inl (.inl z)
   ·exact .inl (.inr ⟨z0,.inl z⟩)
   ·exact .inr ⟨z0,z⟩
def zO(pr:Nat)(bh:Nat->List Int)(L:Nat->List bU)(k:Nat)(Z98:List bU)(j:Nat):List bU:=if j%2=pr then Z98++(L j++kI bh j k)++[.join]else(L j++kI bh j k)++Z98++[.join]
def qY(pr:Nat)(own:Bool)(tb:List bY)(m:Nat)(up:Nat->Nat)(bh:Nat->List Int):Nat->Nat->List bU
 |0,_=>[]
 |f+1,k=>(jH m up k).foldl (zO pr bh (qY pr own tb m up bh f) k) ((.leaf::(bh k).map .inn)++if own=true then ł up bh tb k else [])++if own=true then []else ł up bh tb k
theorem MJ(T:Tb n m up bh)(hW:∀k,(bh k).length<=wd){k:Nat}{own:Bool}{pr:Nat}{L:Nat->List bU}(km:k<m):∀(rest done:List Nat) (Z98:List bU),(rest++done).Nodup->(∀i∈rest++done,0<i/\i<m/\up i=k)->(∀j∈rest,Kh n wd m up bh ts tb j (L j))->Gb n wd m up bh ts tb k done own Z98->Gb n wd m up bh ts tb k (rest.reverse++done) own (rest.foldl (zO pr bh L k) Z98)
 | [],done,Z98,_,_,_,h=>h
 |j::rest,done,Z98,nd,kd,ly,h=>by
  obtain⟨n1,n2⟩:=jB.mp nd
  obtain⟨j0,jm,ju⟩:=kd j aU
  have two:=Ń T hW km j0 jm ju (λz=>n1 (gD _ z)) (λi hi=>kd i (bC _ (gD _ hi))) h (ly j aU)
  rw[List.reverse_cons,vK]
  show Gb n wd m up bh ts tb k (rest.reverse++(j::done)) own (rest.foldl (zO pr bh L k) (zO pr bh L k Z98 j))
  refine MJ T hW km rest (j::done) _ ?_ (λi hi=>?_) (λi hi=>ly i (bC _ hi)) ?_
  ·exact(List.perm_middle.nodup_iff).mpr nd
  ·exact kd i (List.perm_middle.mem_iff.mp hi)
  ·unfold zO
   split
   ·exact two.1
   ·exact two.2
theorem RX(T:Tb n m up bh)(hW:∀k,(bh k).length<=wd)(tn:tb.Nodup)(sub:∀t∈tb,t∈ts)(pr:Nat)(own:Bool):∀f k,k<m->m<=k+f->Kh n wd m up bh ts tb k (qY pr own tb m up bh f k)
 |0,k,km,mk=>absurd km ()
 |f+1,k,km,mk=>by
  have kid:∀j∈jH m up k,0<j/\j<m/\up j=k:=λj hj=>(yr T).mp hj
  have h:=MJ (ts:=ts) (tb:=tb) T hW (own:=own) (pr:=pr) (L:=qY pr own tb m up bh f) km (jH m up k) [] _ (by rw[lH];exact Qj _ _ _) (λi hi=>kid i (by rwa [lH]at hi)) (λj hj=>by
   obtain⟨j0,jm,ju⟩:=kid j hj
   have:=T.ups j j0 jm
   exact RX T hW tn sub pr own f j jm ()) (a3D (ts:=ts) T hW tn sub k own)
  rw[lH]at h
  exact ń T hW tn sub km (λj=>by rw[List.mem_reverse];exact yr T) h
theorem Km(pr:Nat)(L:Nat->List bU)(k:Nat):∀(js:List Nat) (Z98:List bU),(js.foldl (zO pr bh L k) Z98).length=Z98.length+(js.flatMap λj=>L j++(kI bh j k++[.join])).length
 | [],Z98=>by simp
 |j::js,Z98=>by
  show(js.foldl (zO pr bh L k) (zO pr bh L k Z98 j)).length=_
  rw[Km pr L k js,List.flatMap_cons,cB]
  unfold zO
  split<;>simp only[List.length_append,List.length_singleton]<;>omega
theorem MK(T:Tb n m up bh)(hW:∀k,(bh k).length<=4)(pr:Nat)(own:Bool)(tb:List bY):∀f k,k<m->(qY pr own tb m up bh f k).length+9<=14*cR m up k+cT m up bh tb k
 |0,k,km=>by
  have h:=XS T km
  show 0+9<=_
  omega
 |f+1,k,km=>by
  have h1:=XS T km
  have h2:=a08 T km tb
  have hb:=hW k
  have h3:=X3 (λj=>qY pr own tb m up bh f j++(kI bh j k++[bU.join])) (λj=>cR m up j) (λj=>cT m up bh tb j) (jH m up k) λj hj=>by
   obtain⟨j0,jm,ju⟩:=(yr T).mp hj
   have ih:=MK T hW pr own tb f j jm
   have:=Zx hW j k
   show(qY pr own tb m up bh f j++(kI bh j k++[bU.join])).length<=14*cR m up j+cT m up bh tb j
   rw[cB,cB,zX]
   omega
  unfold qY ł
  have eo:(if own=true then(wX up bh tb k).map λt=>bU.tie t.1 t.2 else []).length+(if own=true then []else(wX up bh tb k).map λt=>bU.tie t.1 t.2).length=(wX up bh tb k).length:=by
   cases own with
   |true=>rw[aG Z,aG Z,aK];rfl
   |false=>rw[aB dh,aB dh,aK];show 0+_=_;omega
  rw[cB,Km,cB,jJ,aK]
  omega
def MN(T:Tb n m up bh)(hW:∀k,(bh k).length<=4)(m20:m<=20)(pr:Nat)(own:Bool){tb:List bY}(a09:tb.length<=100){f k:Nat}(km:k<m):(qY pr own tb m up bh f k).length<=400:=by
 have h:=MK T hW pr own tb f k km;have h1:cR m up k<=m:=by
  unfold cR;exact cV List.countP_le_length (by rw[rP];exact aM _)
 have h2:cT m up bh tb k<=tb.length:=List.countP_le_length;omega
def Bp(pr:Nat)(own:Bool)(tb:List bY)(m:Nat)(up:Nat->Nat)(bh:Nat->List Int)(d:Nat):List bU:=qY pr own tb m up bh d 0++(bh 0).map .out
def Zy{d:Nat}(T:Tb n m up bh)(cZ:n<=10)(hW:∀k,(bh k).length<=wd)(tn:ts.Nodup)(inb:∀t∈ts,∃k,t.1∈bh k/\t.2∈bh k)(cov:∀v:Int,0<=v->v<(n:Int)->∃k,v∈bh k)(md:m<=d)(pr:Nat)(own:Bool):Bt n ts (Bp pr own ts m up bh d) (cD n ts (Bp pr own ts m up bh d))=.ok/\∀b∈(cD n ts (Bp pr own ts m up bh d)).aR,b.length<=wd:=by
 obtain⟨b,G',B',pm,a,e,mG,mB⟩:=RX (ts:=ts) T hW tn (λ_ h=>h) pr own d 0 T.pos () [] [] [] (λv _ z=>absurd z dO) (λt ht=>absurd ht dO);obtain⟨o1,b',d1,d2,o2⟩:=Qh (n:=n) (wd:=wd) (ts:=ts) (bh 0) (P:=[]) (b:=b) (G:=G') (B:=B') (T.nd 0) (pm.nodup_iff.mpr (T.nd 0)) (λv hv=>pm.mem_iff.mpr hv) (λv hv z=>by
  rcases(mG v).mp z with z|z
  ·exact absurd z dO
  ·exact z.2 hv) (by rw[pm.length_eq];exact hW 0)
 have eb:b'=[]:=Sq.mpr λv hv=>((d2 v).mp hv).2 (pm.mem_iff.mp ((d2 v).mp hv).1);have A:uf n wd ts ⟨[],[],[]⟩ (Bp pr own ts m up bh d):=mW a (by rw[e];exact o1);have E:Kg ⟨[],[],[]⟩ (Bp pr own ts m up bh d)=⟨[[]],G'++bh 0,B'⟩:=by
  unfold Bp;rw[mF,e,o2,eb];rfl
 have qJ:=a5L cZ A E (λv v0 vn=>by
  obtain⟨k,hk⟩:=cov v v0 vn;by_cases c:v∈bh 0
  ·exact gD _ c
  ·refine rM _ ((mG v).mpr (.inr ⟨⟨k,RV T k (T.in_ hk),hk⟩,c⟩))) (λt=>by
  rw[mB];constructor
  ·rintro(z|z)
   ·exact absurd z dO
   ·exact z.1
  ·intro z;obtain⟨k,k1,k2⟩:=inb t z;obtain⟨r,rm,hr⟩:=a06 T k k1 k2;exact .inr ⟨z,r,RV T r rm,hr⟩)
 exact⟨qJ,Zw cZ A qJ⟩
end
abbrev rng(n:Nat):List Int:=(List.range n).map λi=>((i:Nat):Int)
def X4{n:Nat}{v:Int}:v∈rng n↔0<=v/\v<(n:Int):=by
 rw[fH];constructor
 ·grind
 ·rintro⟨h0,h1⟩;exact⟨v.toNat,mK.mpr (),()⟩
def Zz(n:Nat):(rng n).Nodup:=by
 unfold List.Nodup;rw[Aa];exact List.pairwise_lt_range.imp λh=>by omega
def qL{rs:List Bs}{r:Bs}{k:Nat}(h:k<rs.length):rowAt (rs++[r]) k=rowAt rs k:=by
 unfold rowAt;grind
def uY{rs:List Bs}{r:Bs}:rowAt (rs++[r]) rs.length=r:=by
 unfold rowAt;rw[fM,wZ (aM _),Ag];rfl
def wY(rs:List Bs)(k:Nat):Nat:=((rowAt rs k).1.getD 0).toNat
def dN(rs:List Bs)(k:Nat):List Int:=(rowAt rs k).2
def Dc{rs:List Bs}{k:Nat}(h:rs.length<=k):rowAt rs k=(none,[]):=by
 unfold rowAt;grind
def iD(rs:List Bs)(r:Bs)(k:Nat):dN (rs++[r]) k=if k=rs.length then r.2 else dN rs k:=by
 unfold dN;by_cases c:k=rs.length
 ·rw[aG c,c,uY]
 ·rw[aB c];by_cases d:k<rs.length
  ·rw[qL d]
  ·rw[Dc (),Dc ()]
def Dd(rs:List Bs)(r:Bs)(k:Nat):wY (rs++[r]) k=if k=rs.length then(r.1.getD 0).toNat else wY rs k:=by
 unfold wY;by_cases c:k=rs.length
 ·rw[aG c,c,uY]
 ·rw[aB c];by_cases d:k<rs.length
  ·rw[qL d]
  ·rw[Dc (),Dc ()]
structure Rw(n most:Nat)(rs:List Bs)(us:List Int):Prop where
 T:Tb n rs.length (wY rs) (dN rs)
 r0:(rowAt rs 0).1=none
 ru:∀k,0<k->k<rs.length->(rowAt rs k).1=some ((wY rs k:Nat):Int)
 nd:us.Nodup
 lt:∀v∈us,0<=v/\v<(n:Int)
 dis:∀v∈us,∀k,v∉dN rs k
 cov:∀v:Int,0<=v->v<(n:Int)->v∈us\/∃k,v∈dN rs k
 few:∀k,(dN rs k).length<=most
def Df(us:List Int)(c:Nat):us.take (us.length-c)++us.drop (us.length-c)=us:=xg _ _
def a7b{n most c:Nat}{zs:List Int}(pm:us.Perm (rng n))(cm:c<=most)(hz:zs.Perm (us.drop (us.length-c)).reverse):Rw n most [(none,zs)] (us.take (us.length-c)):=by
 have ndu:us.Nodup:=pm.nodup_iff.mpr (Zz n);have inn:∀v∈us,0<=v/\v<(n:Int):=λv hv=>X4.mp (pm.mem_iff.mp hv);have YL:=ndu;rw[<-Df us c]at YL;obtain⟨n1,n2,dj⟩:=vL.mp YL;have mz:∀v,v∈zs↔v∈us.drop (us.length-c):=λv=>by grind
 have bg:∀k,dN [(none,zs)] k=if k=0 then zs else []:=λk=>by
  cases k with
  |zero=>rfl
  |succ k=>rfl
 have lz:zs.length<=most:=by
  rw[hz.length_eq,Dv,j9];omega
 refine⟨⟨Nat.zero_lt_one,λk h0 h1=>?_,λk=>?_,λk v hv=>?_,λk h0 h1=>?_,λk hk=>?_⟩,Z,λk h0 h1=>?_,n1,λv hv=>inn v (lE hv),λv hv k hk=>?_,λv v0 v1=>?_,λk=>?_⟩
 ·grind
 ·grind
 ·grind
 ·grind
 ·grind
 ·grind
 ·grind
 ·have:v∈us:=pm.mem_iff.mpr (X4.mpr ⟨v0,v1⟩);rw[<-Df us c]at this;rcases cH.mp this with h|h
  ·exact .inl h
  ·exact .inr ⟨0,(mz v).mpr h⟩
 ·rw[bg];split
  ·exact lz
  ·exact dw _
def a3E{n most c f:Nat}{rs:List Bs}{ks zs:List Int}(W:Rw n most rs us)(fl:f<rs.length)(sb:List.Sublist ks (dN rs f))(lc:ks.length+c<=most)(hz:zs.Perm (ks++(us.drop (us.length-c)).reverse)):Rw n most (rs++[(some (f:Int),zs)]) (us.take (us.length-c)):=by
 have YL:=W.nd;rw[<-Df us c]at YL;obtain⟨n1,n2,dj⟩:=vL.mp YL;have mz:∀v,v∈zs↔v∈ks\/v∈us.drop (us.length-c):=λv=>by rw[hz.mem_iff,cH,List.mem_reverse]
 have lz:zs.length<=most:=by
  rw[hz.length_eq,cB,Dv,j9];omega
 have ll:(rs++[((some (f:Int),zs):Bs)]).length=rs.length+1:=by rw[cB,zX]
 have ndz:zs.Nodup:=hz.nodup_iff.mpr (vL.mpr ⟨(W.T.nd f).sublist sb,(List.reverse_perm _).nodup_iff.mpr n2,λx hx y hy e=>by
  subst e;exact W.dis x (vG (List.mem_reverse.mp hy)) f (sb.subset hx)⟩)
 have un:wY (rs++[((some (f:Int),zs):Bs)]) rs.length=f:=by
  rw[Dd,aG rfl];rfl
 refine⟨⟨(),λk h0 h1=>?_,λk=>?_,λk v hv=>?_,λk h0 h1 v hv=>?_,λk hk=>?_⟩,?_,λk h0 h1=>?_,n1,λv hv=>W.lt v (lE hv),λv hv k hk=>?_,λv v0 v1=>?_,λk=>?_⟩
 ·rw[ll]at h1;by_cases e:k=rs.length
  ·subst e;rw[un];exact fl
  ·rw[Dd,aB e];exact W.T.ups k h0 ()
 ·rw[iD];split
  ·exact ndz
  ·exact W.T.nd k
 ·rw[iD]at hv;split at hv
  ·rcases(mz v).mp hv with h|h
   ·exact W.T.lt f v (sb.subset h)
   ·exact W.lt v (vG h)
  ·exact W.T.lt k v hv
 ·rw[ll]at h1;by_cases e:k=rs.length
  ·subst e;rw[un];rw[iD,aG rfl]at hv;rcases(mz v).mp hv with h|h
   ·refine .inl ?_;rw[iD,aB ()];exact sb.subset h
   ·refine .inr λj hj=>?_;rw[iD,aB ()];exact W.dis v (vG h) j
  ·have kl:k<rs.length:=()
   rw[iD,aB e]at hv;rw[Dd,aB e];have ul:=W.T.ups k h0 kl;rcases W.T.fr k h0 kl v hv with h|h
   ·refine .inl ?_;rw[iD,aB ()];exact h
   ·refine .inr λj hj=>?_;rw[iD,aB ()];exact h j hj
 ·rw[ll]at hk;rw[iD,aB ()];exact W.T.no k ()
 ·rw[qL W.T.pos];exact W.r0
 ·rw[ll]at h1;by_cases e:k=rs.length
  ·subst e;rw[un,uY]
  ·rw[Dd,aB e,qL ()];exact W.ru k h0 ()
 ·rw[iD]at hk;split at hk
  ·rcases(mz v).mp hk with h|h
   ·exact W.dis v (lE hv) f (sb.subset h)
   ·exact dj v hv v h rfl
  ·exact W.dis v (lE hv) k hk
 ·rcases W.cov v v0 v1 with h|⟨k,h⟩
  ·rw[<-Df us c]at h;rcases cH.mp h with h|h
   ·exact .inl h
   ·refine .inr ⟨rs.length,?_⟩;rw[iD,aG rfl];exact(mz v).mpr (.inr h)
  ·refine .inr ⟨k,?_⟩;have kl:=W.T.in_ h;rw[iD,aB ()];exact h
 ·rw[iD];split
  ·exact lz
  ·exact W.few k
def ŭ(ex:List Addr)(H:Hp)(v:V)(r:Bs):Prop:=∃p b,v=.ref p/\H p=some (.tup [upV r.1,.ref b])/\H b=some (.lst (r.2.map V.int))/\b∉ex/\r.2.length<=1000
def ŭ.same{ex:List Addr}{H H':Hp}{v:V}{r:Bs}(s:aL H H')(h:ŭ ex H v r):ŭ ex H' v r:=by
 obtain⟨p,b,e,h1,h2,h3⟩:=h;exact⟨p,b,e,s _ _ h1,s _ _ h2,h3⟩
def ŭ.chg{ex:List Addr}{H H':Hp}{l:Addr}{xs:List V}{o:HO}{v:V}{r:Bs}(hl:H l=some (.lst xs))(c:uZ H l o H')(m:l∈ex)(h:ŭ ex H v r):ŭ ex H' v r:=by
 obtain⟨p,b,e,h1,h2,h3,h4⟩:=h;exact⟨p,b,e,(c.rest p λz=>by grind).trans h1,(c.rest b λz=>h3 (z▸m)).trans h2,h3,h4⟩
def ŭ.l{ex:List Addr}{l:Addr}{H:Hp}{v:V}{r:Bs}(m:l∈ex)(h:ŭ ex H v r):O6 l H v r:=by
 obtain⟨p,b,e,h1,h2,h3,h4⟩:=h;exact⟨p,b,e,h1,h2,λz=>h3 (z▸m),h4⟩
def X5{ix:List (Option Nat)}{tt:TT}{te:TE}{H:Hp}{Q:VK}{pl:Addr}{c:Nat}{lo:Int}(h:H pl=some (.lst (us.map V.int)))(hc:c<=us.length)(lu:us.length<=900)
  (hs:∀(i:Nat) (H':Hp) (xs:List V) (y:V) (N:VK) (Z98:Hp->Prop),H' pl=some (.lst (xs++[y]))->(∀H2,uZ H' pl (.lst xs) H2->N y H2)->g (.int (lo+i)) (qM ix σ) H' λσ2 H2=>tt σ2 H2 λb H3=>if b=true then te σ2 H3 N else Z98 H3)
  (hd:∀H1 p H2,uZ H pl (.lst ((us.take (us.length-c)).map V.int)) H1->iQ H1 p (.lst ((us.drop (us.length-c)).reverse.map V.int)) H2->Q (.ref p) H2):nF ix g tt te σ H Q (Wq lo c):=by
 refine xT (λi ys H'=>ys=(us.drop (us.length-i)).reverse.map V.int/\uZ H pl (.lst ((us.take (us.length-i)).map V.int)) H') ⟨?_,?_,λ_ _=>rfl⟩ (λi ys H' hi ⟨e,_⟩=>?_) (λi ys H' hi ⟨e,c1⟩=>?_) (λys H' ⟨e,c1⟩ p hp=>?_)
 ·rw[Af,List.drop_length];rfl
 ·rw[Af,je];exact h
 ·rw[e,aK,Dv,j9];exact eO (cO ())
 ·have jl:us.length-(i+1)<us.length:=()
  have e1:us.length-i=us.length-(i+1)+1:=()
  have et:us.take (us.length-i)=us.take (us.length-(i+1))++[us[us.length-(i+1)]]:=by rw[e1,zP jl]
  have ed:us.drop (us.length-(i+1))=us[us.length-(i+1)]::us.drop (us.length-i):=by rw[Hy jl,e1]
  have h1:=c1.here;rw[et,dW]at h1;refine hs i H' _ _ (λv H4=>ys++[v]=(us.drop (us.length-(i+1))).reverse.map V.int/\uZ H pl (.lst ((us.take (us.length-(i+1))).map V.int)) H4) _ h1 λH2 c2=>⟨?_,c2.here,λb hb=>(c2.rest b hb).trans (c1.rest b hb)⟩;rw[e,ed,List.reverse_cons,dW];rfl
 ·subst e;exact hd H' p _ c1 (iQ.pQ hp)
abbrev qG:Stmt:=top 40
def Bq:bD ["_law_script","_law_k","_law_base"] Jv (aH qG):={}
inductive a7c(K:aJ)(vs:List V)(H:Hp)(Q:VK)(u_3:XK):Prop
 |mk (a:Addr) (ns:List Int) (k:Int) (_:vs=[.ref a,.int k]) (_:Yy K H a ns) (_:ns.length<=63) (_:0<=k) (_:k<=1000) (_:∀z,Q (.int z) H)
inductive rW(H:Hp)(v:V)(s:bU):Prop
 |mk (p:_) (_:v=.ref p) (_:H p=some (.tup s.vs))
def rW.same{H H':Hp}{v:V}{s:bU}(e:aL H H')(h:rW H v s):rW H' v s:=by
 obtain⟨p,rfl,h⟩:=h;exact⟨p,Z,e _ _ h⟩
def rW.v{K:aJ}{H:Hp}{v:V}{s:bU}(h:rW H v s):uT K H v s:=by
 obtain⟨p,rfl,h⟩:=h;exact⟨p,Z,cQ.of h⟩
def wG(B:Bl mg)(mZ:Dn K mg "_law_at" qG Jv):bf P w K mg base fX 1 mZ.f mZ.fd Jv (a7c K):=by
 refine mZ.F.ok Bq λdZ A outer s H vs Q E hr h=>?_;obtain⟨a,ns,k,rfl,hS,h63,k0,k1,q⟩:=h;have hA:=hS.seq;refine⟨_,(aF (dF (aN IK (pv 1) (bK (cP (K:=K) Z) Z B.len () (J (pv 0) aj)))
   (aD (bJ (aQ (bI (K:=K) Z) (pv 0) (pv 1))))
   bQ)
   (aF (bx 2 Bq.nd aA)
   (lW (dF (aN Fj (bK (cP (K:=K) Z) Z B.len () (J (pv 0) aj)) aA)
   (aD (bx 2 Bq.nd (aZ gW (aQ (bI (K:=K) Z) (pv 0) (aZ gW (aZ fj (aZ tQ (pv 1) aA) aA) (bK (cP (K:=K) Z) Z B.len () (J (pv 0) aj)))) aA)))
   bQ)
   (aD (bJ (aZ gW (aZ tQ (aZ fj (aZ fj (pv 2) (aZ tQ aA (pv 1))) aA) (aZ fj (aZ fj (aZ tQ (pv 2) aA) (aZ tQ (pv 1) (pv 1))) aA)) aA)))))),?_⟩
 have hl:(ns.map V.int).length=ns.length:=aK _;refine⟨_,Z,_,Z,a,_,Z,.inl hA,_,_,Z,Z,_,Z,uO (λc=>?_) λc=>?_⟩
 ·have c':k<(((ns.map V.int).length:Nat):Int):=gV c;rw[hl]at c';exact⟨_,Z,_,Z,a,_,_,_,Z,Z,hA,WM k0 c',q _⟩
 refine⟨λσ' H'=>∃b:Int,-(2^32)<b/\b<2^32/\σ'=[some (.ref a),some (.int k),some (.int b)]/\H'=H,?_,?_⟩
 ·refine⟨_,Z,a,_,Z,.inl hA,_,_,Z,Z,_,Z,?_⟩;refine uO (λc2=>?_) (λc2=>⟨109,(),(),Z,Z⟩);have c2':(0:Int)<(((ns.map V.int).length:Nat):Int):=gV c2;rw[hl]at c2';have m0:=oH (k*9+4) (show(ns.length:Int)≠0 by omega);have m1:=qi (k*9+4) c2';refine⟨_,Z,_,Z,_,_,Z,Z,.inr ⟨(),()⟩,_,_,Z,Z,_,Z,a,_,Z,.inl hA,_,_,Z,Z,(by rw[hl];exact c2'),a,_,_,_,Z,Z,hA,(by rw[hl];exact WM m0 m1),_,_,Z,Z,(show(0:Int)<_ by decide),?_⟩;have e0:=oH (ns.getD ((k*9+4)%(ns.length:Int)).toNat 0) (show(999809:Int)≠0 by decide);have e1:=qi (ns.getD ((k*9+4)%(ns.length:Int)).toNat 0) (show(0:Int)<999809 by decide);exact⟨_,(),(),Z,Z⟩
 rintro σ' H' ⟨b,b0,b1,rfl,rfl⟩;refine⟨_,Z,_,Z,_,_,Z,Z,.inl ⟨(),()⟩,_,_,Z,Z,_,_,Z,Z,_,Z,_,_,Z,Z,.inr ⟨(),()⟩,_,Z,_,Z,_,_,Z,Z,.inl ⟨(),()⟩,_,_,Z,Z,_,_,Z,Z,_,_,Z,Z,.inl ⟨(),()⟩,_,_,Z,Z,(show(0:Int)<_ by decide),q _⟩
abbrev uG:Stmt:=top 41
def iz:bD ["_law_script","_law_n","_law_most","_law_keys","_law_left","_law_many","_law_rows_here","_law_k","_law_up","_law_bag","_law_fresh"] Xg (aH uG):={}
inductive Ņ(K:aJ)(vs:List V)(H:Hp)(Q:VK)(u_3:XK):Prop
 |mk (a:Addr) (ns:List Int) (n most:Nat) (_:vs=[.ref a,.int n,.int most]) (_:Yy K H a ns) (_:ns.length<=63) (_:n<=10) (_:1<=most) (_:most<=10) (_:∀l xs rs H',aL H H'->H l=none->H' l=some (.lst xs)->Paired (O6 l H') xs rs->Rw n most rs []->rs.length<=20->Q (.ref l) H')
inductive RowW(K:aJ)(a l pl:Addr)(v3:Option V)(n most many:Nat)(H:Hp)(m:Nat)(σ:St)(H':Hp):Prop
 |mk (xs:List V) (rs:List Bs) (us:List Int) (v7 v8 v9 v10:Option V) (_:σ=[some (.ref a),some (.int n),some (.int most),v3,some (.ref pl),some (.int many),some (.ref l),v7,v8,v9,v10]) (_:aL H H') (_:H' l=some (.lst xs)) (_:H' pl=some (.lst (us.map V.int))) (_:Paired (ŭ [l,pl] H') xs rs) (_:Rw n most rs us) (_:m=(many-rs.length)+us.length) (_:rs.length<=many+(n-us.length)) (_:us.length<=n)
def ZC(xs:List V)(k:Nat):uM xs none (some (k:Int))=xs.take k:=by
 unfold uM;have e1:HT.lK xs.length xs.length (some (k:Int))=min k xs.length:=HT.Ow _ _ k;have e2:HT.lK xs.length 0 none=0:=rfl;grind
def a1a{l:List Nat}{n:Nat}(h:l.Perm (List.range n)):(l.map λi=>((i:Nat):Int)).Perm (rng n):=h.map _
def a3F{many r u c:Nat}(h:r<many\/(many<=r/\0<u))(c3:0<u->1<=c):(many-(r+1))+(u-c)<(many-r)+u:=by
 rcases h with h|h
 ·exact Nat.add_lt_add_of_lt_of_le (Nat.sub_lt_sub_left h (xu r)) (Nat.sub_le u c)
 ·exact Nat.add_lt_add_of_le_of_lt (Nat.sub_le_sub_left (vR r) many) (Nat.sub_lt h.2 (c3 h.2))
def a3G{many r u c n:Nat}(h:r<many\/(many<=r/\0<u))(c3:0<u->1<=c)(b1:r<=many+(n-u))(b2:u<=n):r+1<=many+(n-(u-c)):=by
 rcases h with h|h
 ·exact cV h (TQ _ _)
 ·have s:=Nat.sub_lt h.2 (c3 h.2);exact cV (Nat.succ_le_succ b1) (Nat.add_lt_add_left (Nat.sub_lt_sub_left (jA s b2) s) many)
def orQ{a b:TT}{H:Hp}{Q:Bool->Hp->Prop}{c1 c2:Bool}(h1:∀Q:Bool->Hp->Prop,Q c1 H->a σ H Q)(h2:∀Q:Bool->Hp->Prop,Q c2 H->b σ H Q)(h:Q (c1||c2) H):tOr a b σ H Q:=by
 refine h1 _ ?_;cases c1 with
 |false=>exact cY (h2 _ h)
 |true=>exact gZ h
def Qk(B:Bl mg)(mZ:Dn K mg "_law_at" qG Jv)(Ů:Dn K mg "_law_rows" uG Xg):bf P w K mg base fX 2 Ů.f Ů.fd Xg (Ņ K):=by
 have Ql:bf P w K mg base fX 1 _ _ _ _:=wG B mZ;refine Ů.F.ok iz λdZ A outer s H vs Q E hr h=>?_;obtain⟨a,ns,n,most,rfl,hS,h63,cZ,m1,m10,q⟩:=h;refine⟨_,(aF (bx 3 iz.nd (bK (O9 (K:=K) Z) Z B.sorted () (J (kJ ["_law_v","_law_script"] [none,some 0]  (by kernel_rfl) Z (iW Z B.range (J (pv 1) aj)) (λ_ _ _ _ _=>(aO 0 (show(["_law_v","_law_script"]:List Str).Nodup by decide))) (λ_ _ _ _ _=>gM) λ_ _ _ _ _=>(bB (J (aZ gW (bw Ql hr Z mZ.m mZ.F.kp mZ.b .nil cA (J (pv 1) (J (aZ fj aA (pv 0)) aj))) aA) (J (pv 0) aj)))) aj)))
   (aF (bx 4 iz.nd (kJ ["_law_key","_law_v"] [none,none]  (by kernel_rfl) Z (gk (K:=K) Z (pv 3)) (λ_ _ _ _ _=>(jO (K:=K) (n:=2) Z Z (b8 (aO 0 (show(["_law_key","_law_v"]:List Str).Nodup by decide)) (b8 (aO 1 (show(["_law_key","_law_v"]:List Str).Nodup by decide)) jw)))) (λ_ _ _ _ _=>gM) λ_ _ _ _ _=>(pv 1)))
   (aF (bx 5 iz.nd (aZ fj aA (aZ gW (bw Ql hr Z mZ.m mZ.F.kp mZ.b .nil cA (J (pv 0) (J aA aj))) aA)))
   (aF (bx 6 iz.nd (cG (J (bB (J ql (J (kJ ["_law_k","_law_left"] [none,some 4]  (by kernel_rfl) Z (iW Z B.range (J (bK (Ls Z) Z B.min () (J (bK (cP (K:=K) Z) Z B.len () (J (pv 4) aj)) (J (aZ gW (bw Ql hr Z mZ.m mZ.F.kp mZ.b .nil cA (J (pv 0) (J aA aj))) (aZ fj (pv 2) aA)) aj))) aj)) (λ_ _ _ _ _=>(aO 0 (show(["_law_k","_law_left"]:List Str).Nodup by decide))) (λ_ _ _ _ _=>gM) λ_ _ _ _ _=>(sO (K:=K) Z j7 S6 S7 GZ (pv 1))) aj))) aj)))
   (aF (Ê jf (PW.pt (Iz (aN IK (bK (cP (K:=K) Z) Z B.len () (J (pv 6) aj)) (pv 5)) (Iw (aN Fj (bK (cP (K:=K) Z) Z B.len () (J (pv 4) aj)) aA))))
   (aF (bx 7 iz.nd (bK (cP (K:=K) Z) Z B.len () (J (pv 6) aj)))
   (aF (bx 8 iz.nd (aZ gW (bw Ql hr Z mZ.m mZ.F.kp mZ.b .nil cA (J (pv 0) (J (aZ fj aA (pv 7)) aj))) (pv 7)))
   (aF (bx 9 iz.nd (iH (xU (K:=K) Z) (kJ ["_law_v","_law_script","_law_k"] [none,some 0,some 7]  (by kernel_rfl) Z (gk (K:=K) Z (aQ (aP (K:=K) Z) (aQ (bI (K:=K) Z) (pv 6) (pv 8)) aA)) (λ_ _ _ _ _=>(aO 0 (show(["_law_v","_law_script","_law_k"]:List Str).Nodup by decide))) (λ_ _ _ _ _=>(v5 (aN Fj (aZ gW (bw Ql hr Z mZ.m mZ.F.kp mZ.b .nil cA (J (pv 1) (J (aZ fj (aZ fj aA (aZ tQ aA (pv 2))) (pv 0)) aj))) aA) aA))) λ_ _ _ _ _=>(pv 0)) jL (jM (aZ Ou (pv 2) aA))))
   (aF (bx 10 iz.nd (aZ fj aA (aZ gW (bw Ql hr Z mZ.m mZ.F.kp mZ.b .nil cA (J (pv 0) (J (aZ fj aA (pv 7)) aj))) (aZ Ou (pv 2) (bK (cP (K:=K) Z) Z B.len () (J (pv 9) aj))))))
   (aD (gA (mL (K:=K) Z j7 PySem.F.slot_list_append PySem.F.type_list_append iI (pv 6) (J (bB (J (pv 8) (J (aZ lX (pv 9) (kJ ["_law_j","_law_left"] [none,some 4]  (by kernel_rfl) Z (iW Z B.range (J (bK (Ls Z) Z B.min () (J (pv 10) (J (bK (cP (K:=K) Z) Z B.len () (J (pv 4) aj)) aj))) aj)) (λ_ _ _ _ _=>(aO 0 (show(["_law_j","_law_left"]:List Str).Nodup by decide))) (λ_ _ _ _ _=>gM) λ_ _ _ _ _=>(sO (K:=K) Z PySem.F.plainAttrs_list PySem.F.slot_list_pop PySem.F.type_list_pop GZ (pv 1)))) aj))) aj)))))))))
   (aD (bJ (pv 6)))))))),?_⟩
 refine⟨_,Z,_,Z,(),(),?_⟩;rw[iU];refine xT (λi ys H'=>∃(ps:List Addr) (zs:List Int),ys=ps.map V.ref/\ps.length=i/\zs.length=i/\aL H H'/\∀k p,ps[k]?=some p->H' p=some (.tup [.int (zs.getD k 0),.int (k:Int)])) ⟨[],[],Z,Z,Z,aL.refl _,λk p h=>by cases h⟩ (λi ys H' hi ⟨ps,zs,e,l,_⟩=>?_) (λi ys H1 hi ⟨ps,zs,e,l,lz,s1,hp⟩=>?_) ?_
 ·rw[e,aK,l];exact eO (cO ())
 ·refine⟨_,Z,_,Z,_,_,Z,Z,a,ns,_,Z,hS.same s1,h63,(),(),λz=>⟨_,_,Z,Z,(show(0:Int)<_ by decide),_,Z,(),λp2 H2 n2=>?_⟩⟩;obtain⟨z,nz⟩:∃z,iQ H1 p2 (.tup [.int z,.int (0+(i:Int))]) H2:=⟨_,n2⟩;refine⟨ps++[p2],zs++[z],by rw[e,dW];rfl,by rw[cB,l];rfl,by rw[cB,lz];rfl,s1.trans n2.same,λk p hk=>?_⟩;by_cases c:k<ps.length
  ·rw[zR c]at hk;have:=n2.same _ _ (hp k p hk);rw[fM,zR (),<-fM];exact this
  ·have k1:=(fL.mp hk).1;rw[cB]at k1;have ek:k=i:=by
    have:k<ps.length+1:=k1;omega
   subst ek;rw[wZ (),l,Ag]at hk;cases hk;rw[fM,wZ (),lz,Ag];have:=nz.here;rw[show(0+(k:Int))=(k:Int) by omega]at this;exact this
 rintro ys H1 ⟨ps,zs,rfl,l,lz,s1,hp⟩ pk hpk;have n2:=iQ.pQ (H:=H1) (p:=pk) (o:=.lst (ps.map V.ref)) hpk;generalize cN H1 pk (.lst (ps.map V.ref))=H2 at n2 ⊢;have s2:aL H H2:=s1.trans n2.same;refine⟨pk,ps.map V.ref,(List.range n).map λk=>[zs.getD k 0,(k:Int)],Z,bN.of n2.here,?_,λns h=>?_,by rw[aK];omega,λqq p3 H3 pq _ n3=>?_⟩
 ·have all:∀(m:Nat),m<=n->Paired (a2C K H2) ((ps.take m).map V.ref) ((List.range m).map λk=>[zs.getD k 0,(k:Int)]):=λm=>by
   induction m with
   |zero=>intro _;exact .nil
   |succ m ih =>
    intro hm;have hml:m<ps.length:=()
    rw[zP hml,dW,vN,dW];exact dH (ih ()) ⟨ps[m],Z,cQ.of (n2.same _ _ (hp m _ (bF hml)))⟩
  have:=all n (aM _);rw[HF ()]at this;exact this
 ·obtain⟨k,_,rfl⟩:=fH.mp h;exact λz=>by cases z
 have pq':qq.Perm (List.range n):=by rw[aK,l]at pq;exact pq
 have lq:qq.length=n:=by rw[pq'.length_eq,rP]
 refine⟨_,Z,p3,Z,⟨_,bN.of n3.here⟩,wg (K:=K) (a:=p3) (xs:=qq.map λi=>(ps.map V.ref).getD i V.non) (λi ys H'=>ys=uo (qq.take i)/\aL H3 H') ⟨Z,aL.refl _⟩ (λi ys H' hi ⟨e,s⟩=>⟨bN.of (s _ _ n3.here),?_⟩) (λi x ys H4 hx ⟨e,s4⟩=>?_) λys H4 ⟨e,s4⟩ p5 hp5=>?_⟩
 ·rw[e,aK,gb];exact eO (cO ())
 ·rw[dU]at hx;obtain⟨k,hk,rfl⟩:=oF.mp hx;have kn:k<n:=mK.mp (pq'.mem_iff.mp (jz hk));have kl:k<ps.length:=()
  have ex:(ps.map V.ref).getD k V.non=V.ref ps[k]:=by rw[fM,dU,bF kl];rfl
  rw[ex];have ht:=(n2.same.trans (n3.same.trans s4)) _ _ (hp k _ (bF kl));refine⟨ps[k],_,Z,cQ.of ht,Z,_,_,Z,_,_,Z,Z,_,Z,?_,s4⟩;obtain⟨hil,hik⟩:=fL.mp hk;rw[e,zP hil,hik];unfold uo;rw[dW];rfl
 subst e;rw[aK,je];have n5:iQ H4 p5 (.lst (uo qq)) (cN H4 p5 (.lst (uo qq))):=iQ.pQ hp5;generalize cN H4 p5 (.lst (uo qq))=H5 at n5;have s5:=s2.trans (n3.same.trans (s4.trans n5.same));obtain⟨us,eus⟩:∃us:List Int,us=qq.map λi=>((i:Nat):Int):=⟨_,Z⟩;have pu:us.Perm (rng n):=by rw[eus];exact a1a pq'
 have lu:us.length=n:=by rw[pu.length_eq,aK,rP]
 have h5:H5 p5=some (.lst (us.map V.int)):=by
  rw[n5.here,eus];unfold uo;rw[nC];rfl
 have f5:H p5=none:=s2.free (n3.same.free (s4.free n5.fresh));refine⟨_,Z,a,ns,2,Z,hS.same s5,h63,(),(),λzm=>⟨_,_,Z,Z,(show(0:Int)<_ by decide),_,_,Z,Z,?_⟩⟩;have y0:=oH zm (show(4:Int)≠0 by decide);have y1:=qi zm (show(0:Int)<4 by decide);obtain⟨many,em⟩:∃k:Nat,1+zm%4=(k:Int):=⟨(1+zm%4).toNat,()⟩;dsimp only;rw[em];refine⟨_,Z,p5,_,Z,.inl (bN.of h5),_,Z,a,ns,3,Z,hS.same s5,h63,(),(),λz3=>?_⟩;have w0:=oH z3 (show(most:Int)+1≠0 by omega);have w1:=qi z3 (show(0:Int)<(most:Int)+1 by omega);refine⟨_,Z,_,_,Z,Z,_,_,Z,Z,(show(0:Int)<(most:Int)+1 by omega),_,_,Z,?_⟩;obtain⟨c,ec,c1,c2⟩:∃c:Nat,(if z3%((most:Int)+1)<(((us.map V.int).length:Nat):Int)then z3%((most:Int)+1)else(((us.map V.int).length:Nat):Int))=(c:Int)/\c<=most/\c<=us.length:=by
  rw[aK];split
  ·exact⟨(z3%((most:Int)+1)).toNat,(),(),()⟩
  ·exact⟨us.length,Z,(),aM _⟩
 rw[ec];refine⟨_,Z,(),(),?_⟩;rw[iU];refine X5 h5 c2 () (λi H' xs y N Z98 h q=>⟨_,Z,.inl ⟨Z,_,bN.of h⟩,p5,xs,y,Z,Z,h,q⟩) (λH9 p9 R9 c9 cZ=>?_);refine⟨(),λp11 H11 JR=>⟨(),λpr ZS n12=>?_⟩⟩;have a7d:ZS p5=some (.lst ((us.take (us.length-c)).map V.int)):=n12.same _ _ (JR.same _ _ (cZ.same _ _ c9.here));have a5N:p5≠pr:=λz=>by have:=n12.fresh;rw[<-z,JR.same _ _ (cZ.same _ _ c9.here)]at this;cases this
 have s12:aL H ZS:=(s5.chg f5 c9).trans (cZ.same.trans (JR.same.trans n12.same));have f8:H pr=none:=(s5.chg f5 c9).free (cZ.same.free (JR.same.free n12.fresh));have ne9:p9∉[pr,p5]:=λhm=>by
  rcases bZ.mp hm with hm|hm
  ·have:=n12.fresh;rw[<-hm,JR.same _ _ cZ.here]at this;cases this
  ·have:=cZ.fresh;rw[bG.mp hm,c9.here]at this;cases this
 have W0:=a7b (most:=most) (c:=c) pu c1 (DP _);have lt:(us.take (us.length-c)).length=us.length-c:=by rw[gb];omega
 refine⟨RowW K a pr p5 (some (.ref p3)) n most many H,⟨_,[.ref p11],[(none,(us.drop (us.length-c)).reverse)],_,none,none,none,none,Z,s12,n12.here,a7d,.cons ⟨p11,p9,Z,n12.same _ _ JR.here,n12.same _ _ (JR.same _ _ cZ.here),ne9,?_⟩ .nil,W0,Z,?_,?_⟩,?_⟩
 ·show((us.drop (us.length-c)).reverse).length<=1000;rw[Dv,j9];omega
 ·show 1<=_;omega
 ·rw[lt];omega
 rintro m σ H1 ⟨xs,rs,us,v7,v8,v9,v10,rfl,s1,hl,hpl,hpr,W,em',b1,b2⟩;have lx:xs.length=rs.length:=aV hpr;have hS1:=hS.same s1;have r1:=W.T.pos;refine orQ (c1:=decide (((xs.length:Nat):Int)<(many:Int))) (c2:=decide ((((us.map V.int).length:Nat):Int)>0)) (λQ h=>⟨_,Z,pr,_,Z,.inl (bN.of hl),_,Z,_,_,Z,Z,_,Z,h⟩) (λQ h=>⟨_,Z,p5,_,Z,.inl (bN.of hpl),_,_,Z,Z,_,Z,h⟩) (uO (λc=>?_) λc=>?_)
 rotate_left
 ·have cd:¬((xs.length:Nat):Int)<(many:Int)/\¬(((us.map V.int).length:Nat):Int)>0:=by simpa using c
  rw[aK]at cd;have e0:us=[]:=List.eq_nil_of_length_eq_zero ();rw[e0]at W;exact⟨_,Z,q pr xs rs H1 s1 f8 hl (Paired.cC hpr λ_ _ h=>h.l aU) W ()⟩
 all_goals
  have hc:rs.length<many\/(many<=rs.length/\0<us.length):=by
   have cd:((xs.length:Nat):Int)<(many:Int)\/(((us.map V.int).length:Nat):Int)>0:=by
    rcases Bool.or_eq_true_iff.mp c with z|z
    ·exact .inl (gV z)
    ·exact .inr (gV z)
   rw[aK]at cd;omega
  have r14:rs.length<=14:=by clear hc;omega
  refine⟨λσ' H'=>∃m',m'<m/\RowW K a pr p5 (some (.ref p3)) n most many H m' σ' H',λ_ _ h=>h,⟨_,Z,pr,_,Z,.inl (bN.of hl),?_⟩⟩;rw[lx];refine⟨_,Z,_,Z,_,_,Z,Z,a,ns,_,Z,hS1,h63,(),(),λz=>?_⟩;have u0:=oH z (show((rs.length:Nat):Int)≠0 by omega);have u1:=qi z (show(0:Int)<((rs.length:Nat):Int) by omega);refine⟨_,Z,_,_,Z,Z,(show(0:Int)<((rs.length:Nat):Int) by omega),?_⟩;obtain⟨f,ef⟩:∃f:Nat,z%((rs.length:Nat):Int)=(f:Int):=⟨(z%((rs.length:Nat):Int)).toNat,()⟩;dsimp only;rw[ef];have fl:f<rs.length:=()
  obtain⟨v,hx,⟨pt,bb,rfl,hT,hbb,hbl,_⟩⟩:=cU hpr (u6 fl);have lf:(rowAt rs f).2.length<=most:=W.few f;refine⟨_,Z,_,Z,pr,_,_,_,Z,Z,bN.of hl,cu hx,pt,_,_,_,Z,Z,cQ.of hT,Z,bb,Z,⟨_,bN.of hbb⟩,wg (K:=K) (a:=bb) (xs:=(rowAt rs f).2.map V.int) (λi ys H'=>∃ks:List Int,ys=ks.map V.int/\List.Sublist ks ((rowAt rs f).2.take i)/\aL H1 H') ⟨[],Z,List.nil_sublist _,aL.refl _⟩ (λi ys H' hi ⟨ks,e,sb,s⟩=>⟨bN.of (s _ _ hbb),?_⟩) (λi x ys H2 hx ⟨ks,e,sb,s2⟩=>?_) λys H2 ⟨ks,e,sb,s2⟩ p3' hp3=>?_⟩
  ·have:=sb.length_le;rw[gb]at this;rw[e,aK];exact eO (cO ())
  ·rw[dU]at hx;obtain⟨u,hu,rfl⟩:=oF.mp hx;have et:(rowAt rs f).2.take (i+1)=(rowAt rs f).2.take i++[u]:=by rw[nA,hu];rfl
   have ub:=W.T.lt f u (jz hu);refine⟨_,Z,_,Z,_,_,Z,Z,.inl ⟨(),()⟩,_,_,Z,Z,_,Z,_,_,Z,Z,a,ns,_,Z,hS1.same s2,h63,(),(),λz4=>⟨_,_,Z,Z,(show(0:Int)<_ by decide),_,_,Z,Z,_,Z,uO (λc4=>⟨_,Z,ks++[u],by rw[e,dW];rfl,by rw[et];exact sb.append (List.Sublist.refl _),s2⟩) λc4=>⟨ks,e,by rw[et];exact sb.trans (List.sublist_append_left _ _),s2⟩⟩⟩
  subst e;rw[aK,je]at sb;have n3:iQ H2 p3' (.lst (ks.map V.int)) (cN H2 p3' (.lst (ks.map V.int))):=iQ.pQ hp3;generalize cN H2 p3' (.lst (ks.map V.int))=H3 at n3 ⊢;have wC:=s2.trans n3.same;have lk:=sb.length_le;have hl3:=wC _ _ hl;refine⟨_,Z,_,_,Z,Z,_,Z,p3',_,Z,bN.of n3.here,λpb H4 n4=>?_⟩;have e1:(most:Int)-1=((most-1:Nat):Int):=()
  rw[e1,ZC,<-Ue]at n4;have Dr:=wC.trans n4.same;have hpb:=n4.here;have fpb:H1 pb=none:=wC.free n4.fresh;replace sb:=(Ny (most-1) ks).trans sb;have km:(ks.take (most-1)).length+1<=most:=by rw[gb];omega
  generalize ks.take (most-1)=ks at hpb sb km;refine⟨_,Z,_,Z,_,_,Z,Z,a,ns,_,Z,hS1.same Dr,h63,(),(),λz5=>?_⟩;have t0:=oH z5 (show(most:Int)-((ks.length:Nat):Int)≠0 by omega);have t1:=qi z5 (show(0:Int)<(most:Int)-((ks.length:Nat):Int) by omega);refine⟨_,Z,_,Z,pb,_,Z,.inl (bN.of hpb),_,_,Z,Z,_,_,Z,Z,(by rw[aK];show(0:Int)<(most:Int)-((ks.length:Nat):Int);omega),_,_,Z,Z,?_⟩;rw[aK];dsimp only;obtain⟨fr,efr⟩:∃fr:Nat,1+z5%((most:Int)-((ks.length:Nat):Int))=(fr:Int):=⟨(1+z5%((most:Int)-((ks.length:Nat):Int))).toNat,()⟩;rw[efr];have frm:ks.length+fr<=most:=()
  have fr1:1<=fr:=()
  clear efr t0;have a3H:=Dr _ _ hpl;have hl4:=Dr _ _ hl;refine⟨_,Z,.inl ⟨Z,_,bN.of hl4⟩,_,Z,_,Z,_,Z,_,Z,p5,_,Z,.inl (bN.of a3H),_,_,Z,?_⟩;obtain⟨c,ec,c1,c2,c3⟩:∃c:Nat,(if(((us.map V.int).length:Nat):Int)<(fr:Int)then(((us.map V.int).length:Nat):Int)else(fr:Int))=(c:Int)/\c<=fr/\c<=us.length/\(1<=fr->0<us.length->1<=c):=by
   rw[aK];split
   ·exact⟨us.length,Z,(),aM _,λ_ h=>h⟩
   ·exact⟨fr,Z,aM _,(),λh _=>h⟩
  rw[ec];clear ec;refine⟨_,Z,(),(),?_⟩;rw[iU];refine X5 a3H c2 () (λi H' xs y N Z98 h q=>⟨_,Z,.inl ⟨Z,_,bN.of h⟩,p5,xs,y,Z,Z,h,q⟩) (λH6 p7 H7 c6 n7=>?_);have nb5:pb≠p5:=λz=>by rw[z,hpl]at fpb;cases fpb
  have nl5:pr≠p5:=a5N.symm;have hb7:=n7.same _ _ ((c6.rest pb nb5).trans hpb);refine⟨pb,p7,_,_,Z,Z,hb7,n7.here,(by rw[aK,aK,Dv,j9];omega),λp8 H8 n8'=>?_⟩;rw[<-dW]at n8';have hl8:=n8'.same _ _ (n7.same _ _ ((c6.rest pr nl5).trans hl4));have hp8:=n8'.same _ _ (n7.same _ _ c6.here);refine⟨(),λŨ R9 uq=>?_⟩;have a3I:=uq.same _ _ hl8;have a7e:=uq.same _ _ hp8;refine⟨pr,_,_,Z,Z,a3I,(by rw[lx];exact Tn r14 ()),λH11 c11=>?_⟩;have lks:=sb.length_le;have W2:=a3E (c:=c) W fl sb () (DP _);have lt2:(us.take (us.length-c)).length=us.length-c:=by rw[gb];omega
  have s8':aL H6 R9:=n7.same.trans (n8'.same.trans uq.same);have x8:p8∉[pr,p5]:=λhm=>by
   have f:=n8'.fresh;rcases bZ.mp hm with hm|hm
   ·rw[hm,n7.same _ _ ((c6.rest pr nl5).trans hl4)]at f;cases f
   ·rw[bG.mp hm,n7.same _ _ c6.here]at f;cases f
  refine⟨_,?_,xs++[.ref Ũ],rs++[(some (f:Int),ks++(us.drop (us.length-c)).reverse)],us.take (us.length-c),_,_,_,_,Z,(((s1.trans Dr).chg f5 c6).trans s8').chg f8 c11,c11.here,(c11.rest p5 a5N).trans a7e,?_,W2,Z,?_,?_⟩
  ·rw[em',cB,zX,lt2];exact a3F hc (c3 fr1)
  ·refine dH (Paired.cC hpr λv t q=>(((q.same Dr).chg a3H c6 (bC _ aU)).same s8').chg a3I c11 aU) (ŭ.chg a3I c11 aU ⟨Ũ,p8,Z,uq.here,uq.same _ _ n8'.here,x8,?_⟩);show(ks++(us.drop (us.length-c)).reverse).length<=1000;rw[cB,Dv,j9];omega
  ·rw[cB,zX,lt2];exact a3G hc (c3 fr1) b1 b2
  ·rw[lt2];omega
def ņ(s t:Int×Int):Prop:=s.1<t.1\/(s.1=t.1/\s.2<t.2)
structure Web(n:Int)(ts:List bY):Prop where
 ok:∀t∈ts,0<=t.1/\t.1<t.2/\t.2<n
 up:ts.Pairwise ņ
def a7f [DecidableEq α] {l U:List α} (nd:l.Nodup) (h:∀x∈l,x∈U):l.length<=U.length:=by
 induction l generalizing U with
 |nil=>grind
 |cons a r ih =>
  obtain⟨n1,n2⟩:=jB.mp nd;have am:=h a aU;have:=ih (U:=U.erase a) n2 λx hx=>(List.mem_erase_of_ne λe=>n1 ()).mpr (h x (bC _ hx));grind
def a3J:List bY:=(List.range 10).flatMap λ(a:Nat)=>((List.range 10).filter λ(b:Nat)=>decide (a<b)).map λ(b:Nat)=>(((a:Nat):Int),((b:Nat):Int))
def ņ.asymm{s t:Int×Int}(h:ņ s t)(h':ņ t s):False:=by
 unfold ņ at h h';omega
def Web.nd{n:Int}{ts:List bY}(h:Web n ts):ts.Nodup:=h.up.imp λl e=>by
 subst e;exact l.asymm l
def Web.few{n:Nat}{ts:List bY}(h:Web n ts)(cZ:n<=10):ts.length<=45:=by
 have:=a7f (U:=a3J) h.nd λt ht=>by
  have o:=h.ok t ht;unfold a3J;refine List.mem_flatMap.mpr ⟨t.1.toNat,mK.mpr (),fH.mpr ⟨t.2.toNat,lG.mpr ⟨mK.mpr (),bA ()⟩,?_⟩⟩;grind
 have e:a3J.length=45:=()
 omega
abbrev qZ:Stmt:=top 42
def mH:bD ["_law_script","_law_rows_here","_law_n","_law_share","_law_found","_law_a","_law_b","_law_together"] Xh (aH qZ):={}
def Qm(rs:List Bs)(t:Int×Int):Prop:=∃k,t.1∈dN rs k/\t.2∈dN rs k
inductive Ň(K:aJ)(vs:List V)(H:Hp)(Q:VK)(u_3:XK):Prop
 |mk (a l:Addr) (ns:List Int) (ys:List V) (rs:List Bs) (n:Nat) (_:vs=[.ref a,.ref l,.int n]) (_:Yy K H a ns) (_:ns.length<=63) (_:H l=some (.lst ys)) (_:Paired (O6 l H) ys rs) (_:rs.length<=40) (_:n<=10) (_:∀r xs ts H',aL H H'->H r=none->H' r=some (.lst xs)->Paired (pX H') xs ts->(∀t∈ts,0<=t.1/\t.1<t.2/\t.2<(n:Int))->ts.Nodup->(∀t∈ts,Qm rs t)->ts.length<=45->Q (.ref r) H')
def ug{lo:Int}{n:Nat}{tb:TS}{D:Ends}{H:Hp}(Pv:Nat->St->Hp->Prop)(h0:Pv 0 σ H)
  (hs:∀(D':Ends) i σ H,i<n->Pv i σ H->(∀σ2 H2,Pv (i+1) σ2 H2->D'.nx σ2 H2)->D'.rt=D.rt->g (.int (lo+i)) σ H λσ2 H2=>tb D' σ2 H2) (hd:∀σ H,Pv n σ H->D.nx σ H) :
  ∃W:Nat->Nat->St->Hp->Prop,(∃m,W 0 m σ H)/\∀i m σ H,W i m σ H->
   ((Wq lo n).stop i H/\D.nx σ H)\/((Wq lo n).go i H/\∃N:St->Hp->Prop,(∀σ' H',N σ' H'->∃m',m'<m/\W (i+1) m' σ' H')/\∀x H',(Wq lo n).ZQ i H x H'->g x σ H' λσ2 H2=>tb { D with nx:=N,ct:=N,bk:=D.nx} σ2 H2) :=
 yR Pv h0 (λi σ H hi p=>hs _ i σ H hi p (λ_ _ h=>h) Z) hd
def Qo(B:Bl mg)(mZ:Dn K mg "_law_at" qG Jv)(ň:Dn K mg "_law_ties" qZ Xh):bf P w K mg base fX 2 ň.f ň.fd Xh (Ň K):=by
 have Ql:bf P w K mg base fX 1 _ _ _ _:=wG B mZ;refine ň.F.ok mH λdZ A outer s H vs Q E hr h=>?_;obtain⟨a,l,ns,ys,rs,n,rfl,hS,h63,hy,hpr,r40,hn,q⟩:=h;have hv:(A.deeper (PyProof.Rows.envOfC "_law_ties" (aH qZ) s⁻¹ ň.f dZ)).units+65<cLine:=by have:=hr.un;omega
 have ly:ys.length=rs.length:=aV hpr;refine⟨_,(aF (bx 3 mH.nd (aZ gW (bw Ql hr Z mZ.m mZ.F.kp mZ.b .nil cA (J (pv 0) (J aA aj))) aA))
   (aF (bx 4 mH.nd (cG aj))
   (aF (jD jf Z (iW Z B.range (J (pv 2) aj)) (aO 5 mH.nd)
   (aD (jD jf Z (Lq Z B.range (J (aZ fj (pv 5) aA) (J (pv 2) aj))) (aO 6 mH.nd)
   (aF (Jd (i:=7) ["_law_row","_law_a","_law_b"] [none,some 5,some 6] mH.nd Z Z (by kernel_rfl) Z (gk (K:=K) Z (pv 1)) (λ_ _ _ _ _=>(aO 0 (show(["_law_row","_law_a","_law_b"]:List Str).Nodup by decide))) (λ_ _ _ _ _=>(v5 (PW.pt (rR (aN (uy (K:=K) Z hv) (pv 1) (aQ (aP (K:=K) Z) (pv 0) aA) (by with_unfolding_all rfl)) (sI (aN (uy (K:=K) Z hv) (pv 2) (aQ (aP (K:=K) Z) (pv 0) aA) (by with_unfolding_all rfl))))))) (λ_ _ _ _ _=>(pv 0)) (by rfl))
   (aD (dF (PW.pt (rR (aN Fj (bK (cP (K:=K) Z) Z B.len () (J (pv 7) aj)) aA) (sI (aN IK (aZ gW (bw Ql hr Z mZ.m mZ.F.kp mZ.b .nil cA (J (pv 0) (J (aZ fj (aZ fj aA (aZ tQ aA (pv 5))) (pv 6)) aj))) aA) (pv 3)))))
   (aD (gA (mL (K:=K) Z j7 PySem.F.slot_list_append PySem.F.type_list_append iI (pv 4) (J (bB (J (pv 5) (J (pv 6) aj))) aj))))
   bQ))))))
   (aD (bJ (pv 4)))))),?_⟩
 refine⟨_,Z,a,ns,4,Z,hS,h63,(),(),λz0=>⟨_,_,Z,Z,(show(0:Int)<_ by decide),?_⟩⟩;obtain⟨sh,esh⟩:∃sh:Int,sh=z0%5:=⟨_,Z⟩;dsimp only;rw[<-esh];refine⟨(),λr H0 nw=>?_⟩;refine⟨_,Z,_,Z,(),(),?_⟩;rw[iU];refine ug (n:=n) (λi σ H2=>∃(aa bb bo:Option V) (xs:List V) (ts:List bY),σ=[some (.ref a),some (.ref l),some (.int n),some (.int sh),some (.ref r),aa,bb,bo]/\aL H H2/\H2 r=some (.lst xs)/\Paired (pX H2) xs ts/\ts.length<=10*i/\Web n ts/\(∀t∈ts,t.1<(i:Int))/\∀t∈ts,Qm rs t)
  ⟨none,none,none,[],[],Z,nw.same,nw.here,.nil,dw _,⟨λt h=>absurd h dO,.nil⟩,λt h=>absurd h dO,λt h=>absurd h dO⟩ ?_ ?_
 ·rintro D1 i σ H2 hi ⟨aa,bb,bo,xs,ts,rfl,sm,hr2,hp,hz,hw,hlt,bi⟩ dn1 _;refine⟨_,Z,_,_,Z,Z,_,Z,_,_,Z,⟨(),(),(),()⟩,?_⟩;refine ug (n:=_) (λj σ H3=>∃(bb bo:Option V) (xs:List V) (ts:List bY),σ=[some (.ref a),some (.ref l),some (.int n),some (.int sh),some (.ref r),some (.int (0+(i:Int))),bb,bo]/\aL H H3/\H3 r=some (.lst xs)/\Paired (pX H3) xs ts/\ts.length<=10*i+j/\Web n ts/\(∀t∈ts,t.1<(i:Int)\/(t.1=(i:Int)/\t.2<(i:Int)+1+j))/\∀t∈ts,Qm rs t)
   ⟨bb,bo,xs,ts,Z,sm,hr2,hp,(),hw,λt h=>.inl (hlt t h),bi⟩ ?_ ?_
  ·rintro D2 j σ H3 hj ⟨bb,bo,xs,ts,rfl,sm,hr3,hp,hz,hw,hlt,bi⟩ dn _;have jn:(j:Int)+(0+(i:Int)+1)<n:=()
   have hy3:=sm _ _ hy;generalize eav:(0+(i:Int))=av;generalize ebv:(av+1+(j:Int))=bv;refine⟨_,Z,l,Z,⟨_,bN.of hy3⟩,æ (λk=>if(decide (av∈dN rs k)&&decide (bv∈dN rs k))=true then ys[k]? else none) (bN.of hy3) () (λk x H4 N hk s4 hN=>?_) λH4 p4 H5 s4 n4=>?_⟩
   ·have kl:k<rs.length:=by rw[<-ly];exact(fL.mp hk).1
    obtain⟨v,hx,⟨pp,b,rfl,hTk,hb,_⟩⟩:=cU hpr (u6 kl);rw[hk]at hx;cases hx;have s04:=sm.trans s4;have hN':=hN H4 s4;rw[hk]at hN';refine⟨_,Z,_,Z,pp,_,_,_,Z,Z,cQ.of (s04 _ _ hTk),Z,Aj (bN.of (s04 _ _ hb)) ⟨_,Z,uO (λc=>?_) λc=>?_⟩⟩
    ·refine⟨_,Z,_,Z,pp,_,_,_,Z,Z,cQ.of (s04 _ _ hTk),Z,Aj (bN.of (s04 _ _ hb)) ⟨_,Z,uO (λd=>?_) λd=>?_⟩⟩
     ·rw[aG (by unfold dN;rw[c,d];rfl)]at hN';exact⟨_,Z,hN'⟩
     ·rw[aB (by unfold dN;rw[xr.mpr d];simp)]at hN';exact hN'
    ·refine cY ?_;rw[aB (by unfold dN;rw[xr.mpr c];simp)]at hN';exact hN'
   have s05:=sm.trans (s4.trans n4.same);have hr5:H5 r=some (.lst xs):=(s4.trans n4.same) _ _ hr3;have hp5:=Paired.cC hp λv t q=>pX.same (s4.trans n4.same) q;have lxs:xs.length=ts.length:=aV hp;have no:=λbv=>dn [some (V.ref a),some (.ref l),some (.int n),some (.int sh),some (.ref r),some (.int av),bv,some (.ref p4)] H5 ⟨bv,some (.ref p4),xs,ts,by rw[eav],s05,hr5,hp5,(),hw,λt ht=>by have:=hlt t ht;omega,bi⟩;refine⟨_,Z,p4,_,Z,.inl (bN.of n4.here),_,_,Z,Z,_,Z,uO (λc=>?_) λc=>no _⟩;have c':=gV c;refine⟨_,Z,_,Z,_,_,Z,Z,.inl ⟨(),()⟩,_,_,Z,Z,_,Z,_,_,Z,Z,a,ns,_,Z,hS.same s05,h63,(),(),λz5=>⟨_,_,Z,Z,(show(0:Int)<_ by decide),_,Z,_,_,Z,Z,_,Z,uO (λd=>?_) λd=>no _⟩⟩;have hrow:Qm rs (av,bv):=by
    have c3:0<((List.range ys.length).filterMap λk=>if(decide (av∈dN rs k)&&decide (bv∈dN rs k))=true then ys[k]? else none).length:=()
    obtain⟨x,hx⟩:=List.exists_mem_of_length_pos c3;obtain⟨k,_,e⟩:=Tg.mp hx;by_cases d2:(decide (av∈dN rs k)&&decide (bv∈dN rs k))=true
    ·rw[qj]at d2;exact⟨k,gV d2.1,gV d2.2⟩
    ·rw[aB d2]at e;cases e
   refine⟨_,Z,.inl ⟨Z,_,bN.of hr5⟩,_,Z,_,Z,(),λp6 H6 n6=>?_⟩;have h6:=n6.same _ _ hr5;refine⟨r,_,_,Z,Z,h6,(),λH7 c7=>?_⟩;refine dn _ _ ⟨some (.int bv),some (.ref p4),xs++[.ref p6],ts++[(av,bv)],by rw[eav];rfl,(s05.trans n6.same).chg nw.fresh c7,c7.here,?_,?_,⟨λt ht=>?_,?_⟩,λt ht=>?_,λt ht=>?_⟩
   ·exact dH (Paired.cC hp5 λv t q=>(pX.same n6.same q).chg h6 c7) (pX.chg h6 c7 ⟨p6,Z,n6.here⟩)
   ·rw[cB];show ts.length+1<=_;omega
   ·rcases cH.mp ht with ht|ht
    ·exact hw.ok t ht
    ·rw[bG.mp ht];exact⟨by show 0<=av;omega,by show av<bv;omega,by show bv<n;omega⟩
   ·refine S9.mpr ⟨hw.up,zT _ _,λt ht u hu=>?_⟩;rw[bG.mp hu];show t.1<av\/(t.1=av/\t.2<bv);have:=hlt t ht;omega
   ·rcases cH.mp ht with ht|ht
    ·have:=hlt t ht;omega
    ·rw[bG.mp ht];show av<(i:Int)\/(av=(i:Int)/\bv<(i:Int)+1+((j+1:Nat):Int));omega
   ·rcases cH.mp ht with ht|ht
    ·exact bi t ht
    ·rw[bG.mp ht];exact hrow
  ·rintro σ H3 ⟨bb,bo,xs,ts,rfl,sm,hr3,hp,hz,hw,hlt,bi⟩;exact dn1 _ _ ⟨_,bb,bo,xs,ts,Z,sm,hr3,hp,(),hw,λt ht=>by have:=hlt t ht;omega,bi⟩
 ·rintro σ H2 ⟨aa,bb,bo,xs,ts,rfl,sm,hr2,hp,hz,hw,hlt,bi⟩;have few:=hw.few hn;exact⟨_,Z,q r xs ts H2 sm nw.fresh hr2 hp (λt ht=>hw.ok t ht) hw.nd bi ()⟩
abbrev lR:Stmt:=top 43
def dY:bD ["_law_ties_here","_law_rows_here","_law_k","_law_early","_law_above","_law_bag","_law_mine","_law_steps","_law_j","_law_theirs"] Cw (aH lR):={}
inductive Dg(K:aJ)(d:Nat)(vs:List V)(H:Hp)(Q:VK)(u_3:XK):Prop
 |mk (r l:Addr) (tx ys:List V) (tb:List bY) (rs:List Bs) (n most k:Nat) (early:Bool) (_:vs=[.ref r,.ref l,.int (k:Int),.bl early]) (_:H r=some (.lst tx)) (_:Paired (pX H) tx tb) (_:tb.length<=100) (_:H l=some (.lst ys)) (_:Paired (O6 l H) ys rs) (_:Rw n most rs []) (_:most<=4) (_:rs.length<=20) (_:n<=10) (_:k<rs.length) (_:rs.length<=k+d) (_:∀p xs H',aL H H'->H p=none->H' p=some (.lst xs)->Paired (rW H') xs (qY 1 early tb rs.length (wY rs) (dN rs) d k)->Q (.ref p) H')
inductive a5O(r l:Addr)(k:Nat)(early:Bool)(pA bk pM:Addr)(H H6':Hp)(L:List bU)(σ:St)(H':Hp):Prop
 |mk (jj th:Option V) (pS:Addr) (xs:List V) (_:σ=[some (.ref r),some (.ref l),some (.int (k:Int)),some (.bl early),some (.ref pA),some (.ref bk),some (.ref pM),some (.ref pS),jj,th]) (_:aL H H') (_:aL H6' H') (_:H pS=none) (_:H' pS=some (.lst xs)) (_:Paired (rW H') xs L)
def rY(m:Nat)(up:Nat->Nat)(k i:Nat):List Nat:=(List.range i).filter λj=>decide (k<j)&&decide (up j=k)
def a3K(m:Nat)(up:Nat->Nat)(k:Nat):rY m up k (k+1)=[]:=by
 unfold rY;rw[List.filter_eq_nil_iff];grind
def Ŋ{m:Nat}{up:Nat->Nat}{k i:Nat}(h:i<=m)(L:Nat->List bU):((rY m up k i).flatMap L).length<=((jH m up k).flatMap L).length:=by
 unfold rY jH;have e:List.range m=List.range i++(List.range (m-i)).map (i + ·):=by
  rw[<-List.range_add];congr 1;omega
 rw[e,HW,List.flatMap_append,cB];omega
def MP{m:Nat}{up:Nat->Nat}{k i:Nat}(h:k<i):rY m up k (i+1)=rY m up k i++if up i=k then [i]else []:=by
 unfold rY;rw[vN,HW];grind
def iJ{β:Type}{R:α->β->Prop}{xs xs':List α}{ys ys':List β}(h:Paired R xs ys)(q:Paired R xs' ys'):Paired R (xs++xs') (ys++ys'):=by
 induction h with
 |nil=>exact q
 |cons a _ ih=>exact .cons a ih
def Ko{ta tb:TT}{H:Hp}{b1 b2:Bool}{Q:Bool->Hp->Prop}(h1:∀Q:Bool->Hp->Prop,Q b1 H->ta σ H Q)(h2:∀Q:Bool->Hp->Prop,Q b2 H->tb σ H Q)(h:Q (b1&&b2) H):a1T ta tb σ H Q:=by
 refine h1 _ ?_;grind
def Hv{a:Addr}{ix:List (Option Nat)}{tt:TT}{te:TE}{H:Hp}{Q:VK}(xs:List Int)(c:Int->Bool)(S:Int->bU)(hx:bN K H a (xs.map V.int))(l9:xs.length<=900)
  (hs:∀(v:Int) (H1:Hp) (N:VK) (Z98:Hp->Prop),v∈xs->aL H H1->(c v=true->∀p H2,iQ H1 p (.tup (S v).vs) H2->N (.ref p) H2)->(c v=false->Z98 H1)->g (.int v) (qM ix σ) H1 λσ2 H2=>tt σ2 H2 λb H3=>if b=true then te σ2 H3 N else Z98 H3)
  (hd:∀H1 p ys H2,aL H H1->iQ H1 p (.lst ys) H2->Paired (rW H2) ys ((xs.filter c).map S)->Q (.ref p) H2):nF ix g tt te σ H Q (ŝ K a):=by
 refine wg (K:=K) (a:=a) (xs:=xs.map V.int) (λi ys H'=>aL H H'/\Paired (rW H') ys (((xs.take i).filter c).map S)) ⟨aL.refl _,.nil⟩ (λi ys H' hi ⟨s,p⟩=>⟨s.seq hx,?_⟩) (λi x ys H' hi ⟨s,p⟩=>?_) (λys H' ⟨s,p⟩ q hq=>?_)
 ·rw[aV p,aK];have:=Ds c (xs.take i);rw[gb]at this;exact eO (cO ())
 ·rw[dU]at hi;obtain⟨v,hv,rfl⟩:=oF.mp hi;have et:xs.take (i+1)=xs.take i++[v]:=by rw[nA,hv];rfl
  refine hs v H' _ _ (jz hv) s (λcv p2 H2 n2=>⟨s.trans n2.same,?_⟩) (λcv=>⟨s,?_⟩)
  ·rw[et,HW,dW,NZ,cv];exact dH (Paired.cC p λ_ _ h=>h.same n2.same) ⟨p2,Z,n2.here⟩
  ·rw[et,HW,dW,NZ,cv];simp only[Bool.false_eq_true,if_false,List.filter_nil,List.map_nil,List.append_nil];exact p
 ·have nq:iQ H' q (.lst ys) (cN H' q (.lst ys)):=iQ.pQ hq;rw[aK,je]at p;exact hd H' q ys _ s nq (Paired.cC p λ_ _ h=>h.same nq.same)
def ŋ(Gd:Dn K mg "_law_laid" lR Cw):bf P w K mg base fX 1 Gd.f Gd.fd Cw (Dg K 0):=by
 refine Gd.F.ok dY (len:=λvs H Q E h=>?_) (λdZ A outer s H vs Q E hr h=>?_)
 ·obtain⟨r,l,tx,ys,tb,rs,n,most,k,early,_,_,_,_,_,_,_,_,_,_,h1,h2,_⟩:=h;omega
 ·obtain⟨r,l,tx,ys,tb,rs,n,most,k,early,_,_,_,_,_,_,_,_,_,_,h1,h2,_⟩:=h;omega
def Ō(B:Bl mg)(Gd:Dn K mg "_law_laid" lR Cw)(d:Nat)(gZ4:bf P w K mg base fX (d+1) Gd.f Gd.fd Cw (Dg K d)):bf P w K mg base fX (d+2) Gd.f Gd.fd Cw (Dg K (d+1)):=by
 refine Gd.F.ok dY λdZ A outer s H vs Q E hr h=>?_;obtain⟨r,l,tx,ys,tb,rs,n,most,k,early,rfl,hT,pT,a09,hL,pL,W,m4,r20,cZ,kl,dk,q⟩:=h;have hv:(A.deeper (PyProof.Rows.envOfC "_law_laid" (aH lR) s⁻¹ Gd.f dZ)).units+65<cLine:=by have:=hr.un;omega
 have ly:=aV pL;have ltx:=aV pT;have T:=W.T;obtain⟨vk,hxk,⟨pk,bk,rfl,hTk,hbk,nbk,lbk⟩⟩:=cU pL (u6 kl);have hW4:∀j,(dN rs j).length<=4:=λj=>cV (W.few j) m4;have b10:∀j,(dN rs j).length<=10:=λj=>cV (hW4 j) ();have full:=MN T hW4 r20 1 early a09 (f:=d+1) kl;obtain⟨L,eL⟩:∃L:Nat->List bU,L=λj=>qY 1 early tb rs.length (wY rs) (dN rs) d j++(kI (dN rs) j k++[.join]):=⟨_,Z⟩;obtain⟨M0,eM⟩:∃M0:List bU,M0=(.leaf::(dN rs k).map .inn)++if early=true then(wX (wY rs) (dN rs) tb k).map λt=>.tie t.1 t.2 else []:=⟨_,Z⟩
 obtain⟨F,eF⟩:∃F:List bU->Nat->List bU,F=zO 1 (dN rs) (qY 1 early tb rs.length (wY rs) (dN rs) d) k:=⟨_,Z⟩;have fl:∀js:List Nat,(js.foldl F M0).length=M0.length+(js.flatMap L).length:=λjs=>by rw[eF,eL];exact Km _ _ _ _ _
 have eS:qY 1 early tb rs.length (wY rs) (dN rs) (d+1) k=(jH rs.length (wY rs) k).foldl F M0++if early=true then []else(wX (wY rs) (dN rs) tb k).map λt=>.tie t.1 t.2:=by rw[eF,eM];rfl
 rw[eS]at q full;rw[cB,fl]at full;have a7r:(wX (wY rs) (dN rs) tb k).length<=100:=cV (Ds _ _) a09;have lM:M0.length<=120:=by
  rw[eM,cB,jJ,aK];have:=b10 k;cases early with
  |true=>rw[aG Z,aK];omega
  |false=>rw[aB dh];show _+0<=_;omega
 refine⟨_,(aF (bx 4 dY.nd (cG aj))
   (lW (dF (aN Fj (pv 2) aA)
   (aD (bx 4 dY.nd (aQ (aP (K:=K) Z) (aQ (bI (K:=K) Z) (pv 1) (aQ (aP (K:=K) Z) (aQ (bI (K:=K) Z) (pv 1) (pv 2)) aA)) aA)))
   bQ)
   (aF (bx 5 dY.nd (aQ (aP (K:=K) Z) (aQ (bI (K:=K) Z) (pv 1) (pv 2)) aA))
   (aF (Jd (i:=6) ď [none,none,some 5,some 4] dY.nd Z Z (by kernel_rfl) Z (gk (K:=K) Z (pv 0)) (λ_ _ _ _ _=>(jO (K:=K) (n:=2) Z Z (b8 (aO 0 (show(ď:List Str).Nodup by decide)) (b8 (aO 1 (show(ď:List Str).Nodup by decide)) jw)))) (λ_ _ _ _ _=>(v5 (PW.pt (rR (aN (uy (K:=K) Z hv) (pv 0) (pv 2) (by with_unfolding_all rfl)) (rR (aN (uy (K:=K) Z hv) (pv 1) (pv 2) (by with_unfolding_all rfl)) (sI (tM (PW.pt (rR (aN (uy (K:=K) Z hv) (pv 0) (pv 3) (by with_unfolding_all rfl)) (sI (aN (uy (K:=K) Z hv) (pv 1) (pv 3) (by with_unfolding_all rfl)))))))))))) (λ_ _ _ _ _=>(bB (J gw (J (pv 0) (J (pv 1) aj))))) (by rfl))
   (aF (bx 7 dY.nd (aZ lX (cG (J (bB (J gw aj)) aj)) (kJ ["_law_v"] [none]  (by kernel_rfl) Z (gk (K:=K) Z (pv 5)) (λ_ _ _ _ _=>(aO 0 (show(["_law_v"]:List Str).Nodup by decide))) (λ_ _ _ _ _=>gM) λ_ _ _ _ _=>(bB (J gw (J (pv 0) aj))))))
   (lW (dF (fW (K:=K) Z (pv 3) λ_=>rfl)
   (aD (bx 7 dY.nd (aZ lX (pv 7) (pv 6))))
   bQ)
   (aF (jD jf Z (Lq Z B.range (J (aZ fj (pv 2) aA) (J (bK (cP (K:=K) Z) Z B.len () (J (pv 1) aj)) aj))) (aO 8 dY.nd)
   (aD (dF (aN jE (aQ (aP (K:=K) Z) (aQ (bI (K:=K) Z) (pv 1) (pv 8)) aA) (pv 2))
   (aF (bx 9 dY.nd (aZ lX (bw gZ4 hr Z Gd.m Gd.F.kp Gd.b .nil cA (J (pv 0) (J (pv 1) (J (pv 8) (J (pv 3) aj))))) (kJ ["_law_v","_law_bag"] [none,some 5]  (by kernel_rfl) Z (gk (K:=K) Z (aQ (aP (K:=K) Z) (aQ (bI (K:=K) Z) (pv 1) (pv 8)) aA)) (λ_ _ _ _ _=>(aO 0 (show(["_law_v","_law_bag"]:List Str).Nodup by decide))) (λ_ _ _ _ _=>(v5 (aN (jN (K:=K) Z hv) (pv 0) (pv 1) (by with_unfolding_all rfl)))) λ_ _ _ _ _=>(bB (J gw (J (pv 0) aj))))))
   (aF (bx 9 dY.nd (aZ lX (pv 9) (kJ ["_law_v","_law_rows_here","_law_j"] [none,some 1,some 8]  (by kernel_rfl) Z (gk (K:=K) Z (pv 5)) (λ_ _ _ _ _=>(aO 0 (show(["_law_v","_law_rows_here","_law_j"]:List Str).Nodup by decide))) (λ_ _ _ _ _=>(v5 (aN (jN (K:=K) Z hv) (pv 0) (aQ (aP (K:=K) Z) (aQ (bI (K:=K) Z) (pv 1) (pv 2)) aA) (by with_unfolding_all rfl)))) λ_ _ _ _ _=>(bB (J gw (J (pv 0) aj))))))
   (aD (dF (aN jE (aZ gW (pv 8) aA) aA)
   (aD (bx 7 dY.nd (aZ lX (aZ lX (pv 7) (pv 9)) (cG (J (bB (J gw aj)) aj)))))
   (aD (bx 7 dY.nd (aZ lX (aZ lX (pv 9) (pv 7)) (cG (J (bB (J gw aj)) aj)))))))))
   bQ)))
   (aF (dF (fW (K:=K) Z (pv 3) λ_=>rfl)
   (aD (bJ (pv 7)))
   bQ)
   (aD (bJ (aZ lX (pv 7) (pv 6)))))))))))),?_⟩
 refine⟨(),λpa H7 n7=>?_⟩;have s7:=n7.same;refine Et (P:=λσ' H'=>∃(pA:Addr) (ab:List Int),σ'=[some (.ref r),some (.ref l),some (.int (k:Int)),some (.bl early),some (.ref pA),none,none,none,none,none]/\H'=H7/\H7 pA=some (.lst (ab.map V.int))/\∀t:Int×Int,(¬(t.1∈ab/\t.2∈ab))↔(k=0\/¬(t.1∈dN rs (wY rs k)/\t.2∈dN rs (wY rs k)))) λJ1 ji ij=>⟨J1,?_,?_⟩
 ·refine⟨_,Z,_,_,Z,Z,_,Z,?_⟩;by_cases k0:k=0
  ·rw[cJ ()];exact cY (ji _ _ ⟨pa,[],Z,Z,n7.here,λt=>⟨λ_=>.inl k0,λ_ z=>absurd z.1 dO⟩⟩)
  ·rw[bA ()];have ul:=T.ups k () kl;have a5P:=hTk;rw[W.ru k () kl]at a5P;obtain⟨vu,hxu,⟨pu,bu,rfl,hTu,hbu,nbu,lbu⟩⟩:=cU pL (u6 (show wY rs k<rs.length by omega));exact gZ ⟨_,Z,_,Z,_,Z,l,_,_,_,Z,Z,bN.of (s7 _ _ hL),cu hxk,pk,_,_,_,Z,Z,cQ.of (s7 _ _ a5P),Z,l,_,_,_,Z,Z,bN.of (s7 _ _ hL),cu hxu,pu,_,_,_,Z,Z,cQ.of (s7 _ _ hTu),Z,ji _ _ ⟨bu,_,Z,Z,s7 _ _ hbu,λt=>⟨λh=>.inr h,λh=>h.elim (λz=>absurd z k0) id⟩⟩⟩
 intro σ' H8 h1;obtain⟨pA,ab,rfl,rfl,hA,mA⟩:=ij _ _ h1;clear ji ij h1;refine⟨_,Z,_,Z,l,_,_,_,Z,Z,bN.of (s7 _ _ hL),cu hxk,pk,_,_,_,Z,Z,cQ.of (s7 _ _ hTk),Z,⟨_,Z,r,Z,⟨_,bN.of (s7 _ _ hT)⟩,wg (K:=K) (a:=r) (xs:=tx) (λi yo H'=>aL H8 H'/\Paired (rW H') yo (((tb.take i).filter λt=>decide (gU (wY rs) (dN rs) k t)).map λt=>.tie t.1 t.2)) ⟨aL.refl _,.nil⟩ (λi yo H' hi ⟨s,p⟩=>⟨bN.of (s _ _ (s7 _ _ hT)),?_⟩) (λi x yo H9 hx ⟨s9',p9⟩=>?_) λyo H9 ⟨s9',p9⟩ pM hpM=>?_⟩⟩
 ·rw[aV p,aK];have:=Ds (λt=>decide (gU (wY rs) (dN rs) k t)) (tb.take i);rw[gb]at this;exact eO (cO ())
 ·obtain⟨t,ht,⟨px,rfl,hpx⟩⟩:=bM pT hx;have et:tb.take (i+1)=tb.take i++[t]:=by rw[nA,ht];rfl
  have s9:=s7.trans s9';refine⟨px,_,Z,cQ.of (s9 _ _ hpx),Z,_,_,Z,_,_,Z,Z,?_⟩;have hb9:=s9 _ _ hbk;have hA9:=s9' _ _ hA;rw[et,HW,dW,NZ];refine Ko (b1:=decide (t.1∈dN rs k)) (b2:=decide (t.2∈dN rs k) && !(decide (t.1∈ab)&&decide (t.2∈ab))) (λQ h=>⟨_,Z,_,Z,Aj (bN.of hb9) ⟨_,Z,h⟩⟩) (λQ h=>Ko (b1:=decide (t.2∈dN rs k)) (b2:=!(decide (t.1∈ab)&&decide (t.2∈ab))) (λQ h=>⟨_,Z,_,Z,Aj (bN.of hb9) ⟨_,Z,h⟩⟩) (λQ h=>Ko (b1:=decide (t.1∈ab)) (b2:=decide (t.2∈ab)) (Q:=λb H'=>Q (!b) H') (λQ h=>⟨_,Z,_,Z,Aj (bN.of hA9) ⟨_,Z,h⟩⟩) (λQ h=>⟨_,Z,_,Z,Aj (bN.of hA9) ⟨_,Z,h⟩⟩) h) h) ?_;have eh:(decide (t.1∈dN rs k)&&(decide (t.2∈dN rs k) && !(decide (t.1∈ab)&&decide (t.2∈ab))))=decide (gU (wY rs) (dN rs) k t):=by
   rw[tE,qj,qj,d7,d7,d7];unfold gU;rw[<-mA t];by_cases c1:t.1∈ab<;>by_cases c2:t.2∈ab<;>simp[c1,c2]
  rw[eh];refine uO (λc=>?_) (λc=>?_)
  ·rw[aG c];refine⟨_,Z,_,Z,(),λŨ R9 uq=>⟨s9'.trans uq.same,?_⟩⟩;exact dH (Paired.cC p9 λ_ _ h=>h.same uq.same) ⟨Ũ,Z,uq.here⟩
  ·rw[aB c];refine⟨s9',?_⟩;rw[List.filter_nil,List.map_nil,lH];exact p9
 rw[ltx,je]at p9;have nM:iQ H9 pM (.lst yo) (cN H9 pM (.lst yo)):=iQ.pQ hpM;generalize cN H9 pM (.lst yo)=R9 at nM ⊢;have a3L:Paired (rW R9) yo ((wX (wY rs) (dN rs) tb k).map λt=>.tie t.1 t.2):=Paired.cC p9 λ_ _ h=>h.same nM.same;have a7g:=aV a3L;rw[aK]at a7g;have a5Q:=s7.trans (s9'.trans nM.same);have a7s:=(s9'.trans nM.same) _ _ hA;refine⟨(),λp1 H1 n1=>⟨(),λp2 H2 n2=>?_⟩⟩;have s2:=a5Q.trans (n1.same.trans n2.same);refine⟨_,Z,bk,Z,⟨_,bN.of (s2 _ _ hbk)⟩,?_⟩;refine Hv (dN rs k) (λ_=>true) bU.inn (bN.of (s2 _ _ hbk)) (by have:=b10 k;omega) (λv H3 N Z98 _ s3 hN hM=>?_) (λH3 p3 ys3 H4 s3 n4 p4=>?_)
 ·exact⟨_,Z,(),λp H5 n5=>hN Z p H5 n5⟩
 rw[List.filter_eq_self.mpr (λ_ _=>rfl)]at p4;have ğ:=s3.trans n4.same;have l4:=aV p4;rw[aK]at l4;refine⟨p2,p3,_,_,Z,Z,ğ _ _ n2.here,n4.here,(by have:=b10 k;show 1+ys3.length<=1000;omega),λp5 H5 n5=>?_⟩;have a1b:aL R9 H5:=n1.same.trans (n2.same.trans (ğ.trans n5.same));have s5':=a5Q.trans a1b;have f5':H p5=none:=(s2.trans ğ).free n5.fresh;have P5':Paired (rW H5) ([.ref p1]++ys3) (.leaf::(dN rs k).map bU.inn):=.cons ⟨p1,Z,n5.same _ _ (ğ _ _ (n2.same _ _ n1.here))⟩ (Paired.cC p4 λ_ _ h=>h.same n5.same);have hM5:=a1b _ _ nM.here;refine Et (P:=λσ' H'=>∃(pS0:Addr) (xs:List V),σ'=[some (.ref r),some (.ref l),some (.int (k:Int)),some (.bl early),some (.ref pA),some (.ref bk),some (.ref pM),some (.ref pS0),none,none]/\aL H5 H'/\H pS0=none/\H' pS0=some (.lst xs)/\Paired (rW H') xs M0) λJ1 ji ij=>⟨J1,?_,?_⟩
 ·refine⟨_,Z,early,Z,?_⟩;cases early with
  |false =>
   refine cY (ji _ _ ⟨p5,_,Z,aL.refl _,f5',n5.here,?_⟩);rw[eM,aB dh,lH];exact P5'
  |true =>
   refine gZ ⟨_,Z,_,Z,p5,pM,_,_,Z,Z,n5.here,hM5,(by have:=b10 k;rw[cB];show 1+ys3.length+_<=1000;omega),λp6 H6 n6=>ji _ _ ⟨p6,_,Z,n6.same,s5'.free n6.fresh,n6.here,?_⟩⟩;rw[eM,aG rfl];exact iJ (Paired.cC P5' λ_ _ h=>h.same n6.same) (Paired.cC a3L λ_ _ h=>h.same (a1b.trans n6.same))
 intro σ' H6' h1;obtain⟨pS0,xs0,rfl,s56,f5,hS0,P5⟩:=ij _ _ h1;clear ji ij h1;have s5:=s5'.trans s56;have hL5:=s5 _ _ hL;have hMM:=s56 _ _ hM5;have a5R:Paired (rW H6') yo ((wX (wY rs) (dN rs) tb k).map λt=>.tie t.1 t.2):=Paired.cC a3L λ_ _ h=>h.same (a1b.trans s56);refine⟨_,Z,_,_,Z,Z,_,Z,l,_,Z,.inl (bN.of hL5),_,_,Z,⟨(),(),(),()⟩,?_⟩;refine ug (n:=_) (λi σ H'=>a5O r l k early pA bk pM H H6' ((rY rs.length (wY rs) k (k+1+i)).foldl F M0) σ H')
  ⟨none,none,pS0,_,Z,s5,aL.refl _,f5,hS0,by rw[a3K];exact P5⟩ ?_ ?_
 ·rintro D1 i σ H6 hi ⟨jj,th,pS,xs,rfl,s6,s6m,fS,hS,pS'⟩ dn _;have jl:k+1+i<rs.length:=by rw[ly]at hi;omega
  obtain⟨j,ej⟩:∃j,j=k+1+i:=⟨_,Z⟩;have ejI:(k:Int)+1+(i:Int)=(j:Int):=()
  rw[ejI];rw[<-ej]at jl pS';have ej2:k+1+(i+1)=j+1:=()
  rw[ej2,MP (show k<j by omega)]at dn;obtain⟨vj,hxj,⟨pj,bj,rfl,Ŧ,hbj,nbj,lbj⟩⟩:=cU pL (u6 jl);rw[W.ru j () jl]at Ŧ;have pre:=Ŋ (up:=wY rs) (k:=k) (show j+1<=rs.length by omega) L;rw[MP (show k<j by omega)]at pre;have lxs:=aV pS';rw[fl]at lxs;refine⟨_,Z,_,Z,l,_,_,_,Z,Z,bN.of (s6 _ _ hL),cu hxj,pj,_,_,_,Z,Z,cQ.of (s6 _ _ Ŧ),Z,_,Z,Z,_,Z,?_⟩;by_cases c:wY rs j=k
  ·rw[aG c]at pre dn;rw[show decide (upV (some ((wY rs j:Nat):Int))=V.int (k:Int))=true from bA (by rw[c];rfl)];refine gZ ?_;have eLj:L j=qY 1 early tb rs.length (wY rs) (dN rs) d j++((vD (dN rs j) (dN rs k)).map .out++(vD (dN rs k) (dN rs j)).map .inn++[.join]):=by rw[eL];rfl
   rw[List.flatMap_append,cB,List.flatMap_singleton]at pre;have lLj:=congrArg List.length eLj;rw[cB,cB,cB,aK,aK]at lLj;have lJ1:[bU.join].length=1:=rfl;refine⟨_,Z,_,Z,_,Z,_,Z,r,l,tx,ys,tb,rs,n,most,j,early,Z,s6 _ _ hT,Paired.cC pT λ_ _ h=>pX.same s6 h,a09,s6 _ _ hL,Paired.cC pL λ_ _ h=>O6.same s6 h,W,m4,r20,cZ,jl,(),λpJ xJ H8 s68 fJ hJ pJ'=>?_⟩;have lJ:=aV pJ';have s8:=s6.trans s68;refine⟨_,Z,_,Z,l,_,_,_,Z,Z,bN.of (s8 _ _ hL),cu hxj,pj,_,_,_,Z,Z,cQ.of (s8 _ _ Ŧ),Z,bj,Z,⟨_,bN.of (s8 _ _ hbj)⟩,?_⟩;refine Hv (dN rs j) (λv=>!decide (v∈dN rs k)) bU.out (bN.of (s8 _ _ hbj)) (by have:=b10 j;omega) (λv H9 N Z98 _ s9 hN hM=>?_) (λH9 p9 y9 R9 s9 uq Ũ=>?_)
   ·refine⟨_,Z,_,Z,yS (bN.of ((s8.trans s9) _ _ hbk)) ⟨_,Z,uO (λe=>?_) λe=>hM (xr.mpr e)⟩⟩;exact⟨_,Z,(),λp H5 n5=>hN e p H5 n5⟩
   have l10:=aV Ũ;rw[aK]at l10;have a7t:y9.length=(vD (dN rs j) (dN rs k)).length:=l10;have a3M:=s9.trans uq.same;refine⟨pJ,p9,_,_,Z,Z,a3M _ _ hJ,uq.here,(),λp11 H11 JR=>?_⟩;have ZV:=s8.trans (a3M.trans JR.same);refine⟨_,Z,_,Z,bk,Z,⟨_,bN.of (ZV _ _ hbk)⟩,?_⟩;refine Hv (dN rs k) (λv=>!decide (v∈dN rs j)) bU.inn (bN.of (ZV _ _ hbk)) (by have:=b10 k;omega) (λv ZS N Z98 _ s12 hN hM=>?_) (λZS p12 y12 VH s12 n13 p13=>?_)
   ·refine⟨_,Z,_,Z,_,Z,l,_,_,_,Z,Z,bN.of ((ZV.trans s12) _ _ hL),cu hxj,pj,_,_,_,Z,Z,cQ.of ((ZV.trans s12) _ _ Ŧ),Z,yS (bN.of ((ZV.trans s12) _ _ hbj)) ⟨_,Z,uO (λe=>?_) λe=>hM (xr.mpr e)⟩⟩;exact⟨_,Z,(),λp H5 n5=>hN e p H5 n5⟩
   have l13:=aV p13;rw[aK]at l13;have a7u:y12.length=(vD (dN rs k) (dN rs j)).length:=l13;have ō:=s12.trans n13.same;refine⟨p11,p12,_,_,Z,Z,ō _ _ JR.here,n13.here,by rw[cB];omega,λp14 Mt n14=>?_⟩;have a5S:=a3M.trans (JR.same.trans (ō.trans n14.same));have Ŏ:=s68.trans a5S;have Dr:=s6.trans Ŏ;have a5T:Paired (rW Mt) (xJ++y9++y12) (qY 1 early tb rs.length (wY rs) (dN rs) d j++kI (dN rs) j k):=by
    show Paired _ _ (_++((vD (dN rs j) (dN rs k)).map bU.out++(vD (dN rs k) (dN rs j)).map bU.inn));rw[<-vK];exact iJ (iJ (Paired.cC pJ' λ_ _ h=>h.same a5S) (Paired.cC Ũ λ_ _ h=>h.same (JR.same.trans (ō.trans n14.same)))) (Paired.cC p13 λ_ _ h=>h.same n14.same)
   have a5U:Paired (rW Mt) xs ((rY rs.length (wY rs) k j).foldl F M0):=Paired.cC pS' λ_ _ h=>h.same Ŏ;have fin:∀(p17:Addr) (us:List V) (ů:Hp),aL Mt ů->Mt p17=none->ů p17=some (.lst us)->Paired (rW ů) us (F ((rY rs.length (wY rs) k j).foldl F M0) j)->D1.nx [some (V.ref r),some (.ref l),some (.int (k:Int)),some (.bl early),some (.ref pA),some (.ref bk),some (.ref pM),some (.ref p17),some (.int (j:Int)),some (.ref p14)] ů:=λp17 us ů s17 f17 h17 q17 =>
    dn _ _ ⟨_,_,p17,us,Z,Dr.trans s17,s6m.trans (Ŏ.trans s17),Dr.free f17,h17,by rw[List.foldl_append];exact q17⟩
   have j0:=oH (j:Int) (show(2:Int)≠0 by decide);refine⟨_,Z,_,_,Z,Z,(show(0:Int)<_ by decide),Z,_,Z,?_⟩;by_cases c2:j%2=1
   ·rw[show decide (V.int ((j:Int)%2)=V.int 1)=true from bA (congrArg V.int ())];refine gZ ⟨_,Z,_,Z,pS,p14,_,_,Z,Z,Ŏ _ _ hS,n14.here,(by simp only[List.length_append];omega),λp20 H20 n20=>?_⟩;refine⟨(),λp15 H15 n15=>⟨(),λp16 H16 n16=>?_⟩⟩;have Kq:=n15.same.trans n16.same;refine⟨p20,p16,_,_,Z,Z,Kq _ _ n20.here,n16.here,(by simp only[List.length_append,List.length_singleton];omega),λp17 ů n17=>?_⟩;have Kr:=n20.same.trans (Kq.trans n17.same);refine fin p17 _ ů Kr ((n20.same.trans Kq).free n17.fresh) n17.here ?_;rw[show ∀Z98,F Z98 j=Z98++(qY 1 early tb rs.length (wY rs) (dN rs) d j++kI (dN rs) j k)++[.join]from λZ98=>by rw[eF];exact aG c2];exact iJ (iJ (Paired.cC a5U λ_ _ h=>h.same Kr) (Paired.cC a5T λ_ _ h=>h.same Kr)) (.cons ⟨p15,Z,n17.same _ _ (n16.same _ _ n15.here)⟩ .nil)
   ·rw[show decide (V.int ((j:Int)%2)=V.int 1)=false from cJ λz=>c2 (by have:=V.int.inj z;omega)];refine cY ⟨_,Z,_,Z,p14,pS,_,_,Z,Z,n14.here,Ŏ _ _ hS,(by simp only[List.length_append];omega),λp20 H20 n20=>?_⟩;refine⟨(),λp15 H15 n15=>⟨(),λp16 H16 n16=>?_⟩⟩;have Kq:=n15.same.trans n16.same;refine⟨p20,p16,_,_,Z,Z,Kq _ _ n20.here,n16.here,(by simp only[List.length_append,List.length_singleton];omega),λp17 ů n17=>?_⟩;have Kr:=n20.same.trans (Kq.trans n17.same);refine fin p17 _ ů Kr ((n20.same.trans Kq).free n17.fresh) n17.here ?_;rw[show ∀Z98,F Z98 j=(qY 1 early tb rs.length (wY rs) (dN rs) d j++kI (dN rs) j k)++Z98++[.join]from λZ98=>by rw[eF];exact aB c2];exact iJ (iJ (Paired.cC a5T λ_ _ h=>h.same Kr) (Paired.cC a5U λ_ _ h=>h.same Kr)) (.cons ⟨p15,Z,n17.same _ _ (n16.same _ _ n15.here)⟩ .nil)
  ·rw[aB c,lH]at dn;rw[show decide (upV (some ((wY rs j:Nat):Int))=V.int (k:Int))=false from cJ (λz=>c (by have:=V.int.inj z;omega))];exact cY (dn _ _ ⟨_,_,pS,xs,Z,s6,s6m,fS,hS,pS'⟩)
 rintro σ H6 ⟨jj,th,pS,xs,rfl,s6,s6m,fS,hS,pS'⟩;have eK:rY rs.length (wY rs) k (k+1+((ys.length:Int)-((k:Int)+1)).toNat)=jH rs.length (wY rs) k:=by
  unfold rY jH;congr 2;omega
 rw[eK]at pS';refine⟨_,Z,early,Z,?_⟩;cases early with
 |true =>
  rw[aG Z,lH]at q;exact gZ ⟨_,Z,q pS xs H6 s6 fS hS pS'⟩
 |false =>
  rw[aB dh]at q;have lxs:=aV pS';rw[fl]at lxs;exact cY ⟨_,Z,_,Z,pS,pM,_,_,Z,Z,hS,s6m _ _ hMM,(),λp9 H9 n9=>q p9 _ H9 (s6.trans n9.same) (s6.free n9.fresh) n9.here (iJ (Paired.cC pS' λ_ _ h=>h.same n9.same) (Paired.cC a5R λ_ _ h=>h.same (s6m.trans n9.same)))⟩
theorem Dh(B:Bl mg)(Gd:Dn K mg "_law_laid" lR Cw):∀d:Nat,bf P w K mg base fX (d+1) Gd.f Gd.fd Cw (Dg K d)
 |0=>ŋ Gd
 |d+1=>Ō B Gd d (Dh B Gd d)
end K
namespace Srt
open PySem.W PySem.Calls PyProof.Rows PySem.MeetsSeq
abbrev lsO(z:Array Value)(n:Nat):Obj:={ cls:=.type "list",dict:=none,data:=.seq z n,slots:=#[]}
def a1F(z:Array Value)(x:Value)(eq:Nat->Bool)(A:Around)(h:Heap):Prop:=∀s':Shared,s'.heap=h->∀m (hm:m<z.size),SeqAt.EqAt A s' z[m] x (eq m)
def a3N{l:Addr}{z:Array Value}{n:Nat}{x:Value}{eq:Nat->Bool}{j:Nat}(hj:j<z.size)(hit:eq j=true)(hz:z.size<=sizeLine)(k:Nat) :
  ∀i:Nat,j-i=k->i<=j->(∀m (hm:m<z.size),i<=m->m<j->eq m=false)->Meets (Builtin.«list.remove.loop» ⟨[.ref l,x,rawInt i],[]⟩)
   (λA R s=>s.heap.get? l=some (lsO z n)/\a1F z x eq A.in1 s.heap/\R (.ok (.ret .none)) { s with heap:=s.heap.update l (Obj.mapSeq λxs=>xs.eraseIdxIfInBounds j)}):=by
 induction k with
 |zero =>
  intro i hk ij hn prog w A R s h;obtain⟨hp,g,d,tq,os⟩:=s;obtain⟨ol,he,h⟩:=h;obtain rfl:i=j:=()
  wp_walk using Ac ol
  have hi:z[((i:Nat):Int).toNat]?=some z[i]:=by simp[hj]
  rw[hi];refine M (he _ Z i hj prog w _ _ ?_);rw[hit];have hz':(z.eraseIdxIfInBounds i).size<=sizeLine+1:=by
   have:=size_erased z i;omega
  wp_walk using (Oa ol Z (hz:=hz) (_hz':=hz')),Ac ol
  simpa using h
 |succ k ih =>
  intro i hk ij hn prog w A R s h;obtain⟨hp,g,d,tq,os⟩:=s;obtain⟨ol,he,h⟩:=h;have lb:i<z.size:=()
  wp_walk using Ac ol
  have hi:z[((i:Nat):Int).toNat]?=some z[i]:=by simp[lb]
  have ic:((i:Int)+1)=((i+1:Nat):Int):=by push_cast;rfl
  rw[hi];refine M (he _ Z i lb prog w _ _ ?_);rw[hn i lb (aM _) ()]
  wp_walk
  rw[ic];refine⟨rQ plain_remove_loop _,oG entry_remove_loop ?_⟩;rw[qg plain_remove_loop _];exact ih (i+1) () () (λm hm h1 h2=>hn m hm () h2) prog w A R _ ⟨ol,he,h⟩
def a3O{l:Addr}{z:Array Value}{n:Nat}{x:Value}{eq:Nat->Bool}{j:Nat}(hj:j<z.size)(hit:eq j=true)(hn:∀m (hm:m<z.size),m<j->eq m=false)(hz:z.size<=sizeLine) :
  Meets (Builtin.«list.remove» ⟨[.ref l,x],[]⟩) (λA R s=>s.heap.get? l=some (lsO z n)/\a1F z x eq A.in1 s.heap/\R (.ok (.ret .none)) { s with heap:=s.heap.update l (Obj.mapSeq λxs=>xs.eraseIdxIfInBounds j)}):=by
 intro prog w A R s h;obtain⟨hp,g,d,tq,os⟩:=s;obtain⟨ol,he,h⟩:=h
 wp_walk using Ac ol
 refine⟨rQ plain_remove_loop _,oG entry_remove_loop ?_⟩;rw[qg plain_remove_loop _];exact a3N hj hit hz _ 0 Z (dw _) (λm hm _ h2=>hn m hm h2) prog w A R _ ⟨ol,he,h⟩
end Srt
namespace L2
open PyProof.Rows
section
variable{X:Cx}{K:aJ}
def Qp(K:aJ):V->List V->Hp->VK->Prop:=λx vs H Q=>∃l xs y d ds j,x=.ref l/\vs=[y]/\H l=some (.lst xs)/\KQ K H y d/\uP K H xs ds/\SeqAt.shaped d=true/\(∀e∈ds,SeqAt.shaped e=true)/\
 j<xs.length/\PyData.eqv (ds.getD j .none) d=true/\(∀m<j,PyData.eqv (ds.getD m .none) d=false)/\∀H',uZ H l (.lst (xs.eraseIdx j)) H'->Q .non H'
def RZ{Y:List (Addr×Obj)}{σ:St}{H:Hp}{s:Shared}(I:bH X Y σ H s):∀{xs:List V}{us:List Value}{ds:List PyData},cM xs us->uP X.K H xs ds->ds.length=us.length/\∀i,i<us.length->∃as,Reads s.heap (us.getD i .none) (ds.getD i .none) as
 |_,_,_,.nil,.nil=>⟨Z,λi h=>absurd h (xG _)⟩
 |_,_,_,.cons r t,.cons a b=>by
  obtain⟨e,q⟩:=RZ I t b
  refine⟨by rw[jJ,jJ,e],λi h=>?_⟩
  cases i with
  |zero=>exact a.reads I r
  |succ i =>
   have:=q i (by simpa using h)
   simpa using this
theorem Ks:∀{xs:List V}{us:List Value} (j:Nat),cM xs us->cM (xs.eraseIdx j) (us.eraseIdx j)
 |_,_,_,.nil=>.nil
 |_,_,0,.cons r t=>t
 |_,_,j+1,.cons r t=>.cons r (Ks j t)
def ZD(hv:X.A.units+65<cLine):UL X "list.remove" (Qp X.K):=by
 intro Y s σ H x vs v us Q I rx rv h;obtain⟨l,xs,y,d,ds,j,rfl,rfl,hH,hd,hds,sd,sds,hj,hit,hn,q⟩:=h;cases rx;obtain⟨u,rfl,ru⟩:=vals1 rv;obtain⟨z,bV,n,r,ol,e⟩:=I.Yo hH;have hlen:=r.length;obtain⟨as,ra⟩:=hd.reads I ru;obtain⟨el,rs⟩:=RZ I r hds;have hjz:j<bV.toArray.size:=by rw[gn];omega
 refine Io F.slot_list_remove ⟨_,e,Z⟩ F.entry_list_remove (F.args_list_remove_2 _ _) (Srt.a3O (z:=bV.toArray) (eq:=λm=>PyData.eqv (ds.getD m .none) d) hjz hit (λm _ hm=>hn m hm) (by rw[gn];omega)) ⟨e,λs' es m hm=>?_,?_⟩
 ·have hm':m<bV.length:=by simpa using hm
  obtain⟨bs,rb⟩:=rs m hm';have eg:bV.getD m .none=bV.toArray[m]:=by simp[hm']
  rw[eg]at rb;have sm:SeqAt.shaped (ds.getD m .none)=true:=sds _ (by rw[fM,bF ()];exact mJ _);rw[<-es]at rb ra;exact SeqAt.eqAt_reads _ _ _ _ _ _ _ _ rb ra (zV sm) (zV sd) (SeqAt.room_of_shaped sm hv)
 ·refine⟨.non,_,I.a2p (its':=bV.eraseIdx j) hH e ?_ (Ks j r) ?_,Z,q _ uZ.pQ⟩
  ·simp[Array.eraseIdxIfInBounds];omega
  ·have:=List.length_eraseIdx_le xs j;omega
def V8(e:X.K=K)(hv:X.A.units+65<cLine):UL X "list.remove" (Qp K):=by subst e;exact ZD hv
end
end L2
namespace K
open L2 Lw Bg
namespace Go
section
variable{n:Nat}{ts:List bY}{ss:List bU}
structure a1c(n:Nat)(ts:List bY)(ss:List bU):Prop where
 cZ:n<=10
 go:∀i,i<=ss.length->(aX n ts ss i).2=true
 sb:∀(k:Nat) (s:bU),ss[k]?=some s->StB n ts ss k s
 se:∀(k:Nat) (s:bU),ss[k]?=some s->StE n ts ss k s
 last:∀j∈(aX n ts ss ss.length).1.pile,gR n ts ss j=[]
 ties:∀t∈ts,bU.tie t.1 t.2∈ss
set_option tactic.hygienic true in
def a1G(cZ:n<=10)(qJ:Bt n ts ss (cD n ts ss)=.ok):a1c n ts ss:=by
 have go:=Ĩ cZ qJ;refine⟨cZ,go,λk s h=>a00 (Bm go cZ h),λk s h=>Bm go cZ h,λj hj=>?_,λt ht=>?_⟩
 ·unfold Bt at qJ;split at qJ
  ·cases qJ
  ·split at qJ
   ·rename_i e;have:gR n ts ss j∈Ms (cD n ts ss):=fH.mpr ⟨j,hj,Z⟩;rw[e]at this;exact bG.mp this
   ·cases qJ
 ·unfold Bt at qJ;split at qJ
  ·cases qJ
  ·split at qJ
   ·split at qJ
    ·cases qJ
    ·split at qJ
     ·cases qJ
     ·rename_i e;have:=Dz.mp e t ht;simpa using this
   ·cases qJ
end
end Go
namespace Up
def Hw(s:bU){i:Nat}(hi:i<5):decide (V.str s.word=V.str (FT i))=decide (s.tag=i):=by
 have h:=Jz s.tag (Vu s) i hi;rw[JB];by_cases c:s.tag=i
 ·rw[c,bA Z,bA rfl]
 ·rw[cJ c]at h ⊢;refine cJ λz=>?_;have e:=V.str.inj z;rw[e]at h;simp at h
def a3P(s:bU):decide (V.str s.word=V.str "leaf")=decide (s.tag=0):=Hw s (i:=0) ()
def a7h(s:bU):decide (V.str s.word=V.str "in")=decide (s.tag=1):=Hw s (i:=1) ()
def a1H(s:bU):decide (V.str s.word=V.str "out")=decide (s.tag=3):=Hw s (i:=3) ()
def a3Q(s:bU):decide (V.str s.word=V.str "join")=decide (s.tag=4):=Hw s (i:=4) ()
end Up
def V9{n:Nat}(cZ:n<=10){b zs:List Int}{v:Int}(ab:b.Pairwise (· < ·))(hb:∀v∈b,0<=v/\v<(n:Int))(v0:0<=v)(vn:v<(n:Int))(nv:v∉b)(pz:zs.Perm (b++[v]))(sz:zs.Pairwise (· <= ·)):zs=gj b [v]:=by
 have nd:zs.Nodup:=pz.nodup_iff.mpr (vL.mpr ⟨Go.zN ab,zT _ _,λx hx y hy e=>nv (by rw[<-bG.mp hy,<-e];exact hx)⟩);have az:zs.Pairwise (· < ·):=(List.pairwise_and_iff.mpr ⟨sz,nd⟩).imp λh=>by omega
 refine Go.wD az (Go.wF _) λx=>?_;rw[pz.mem_iff,cH];exact(Go.sZ cZ hb λy hy=>by rw[bG.mp hy];exact⟨v0,vn⟩).symm
def Wa(F:List Int)(k:Nat):(F.map V.int).eraseIdx k=(F.eraseIdx k).map V.int:=by
 induction F generalizing k with
 |nil=>rfl
 |cons x r ih =>
  cases k with
  |zero=>rfl
  |succ k =>
   show V.int x::(r.map V.int).eraseIdx k=V.int x::(r.eraseIdx k).map V.int;rw[ih]
def a1d{K:aJ}{H:Hp}{l:Addr}{T:List Int}{v:Int}{Q:VK}(hl:H l=some (.lst (T.map V.int)))(c:v∈T)(q:∀H',uZ H l (.lst ((T.erase v).map V.int)) H'->Q .non H'):Qp K (.ref l) [.int v] H Q:=by
 have jl:=Nf c;have e1:=List.erase_eq_eraseIdx_of_idxOf (l:=T) (a:=v) (i:=T.idxOf v) rfl;have eg:∀m,m<T.length->(T.map PyData.int).getD m .none=.int (T.getD m 0):=λm hm=>by
  rw[fM,dU,bF hm,fM,bF hm];rfl
 refine⟨l,_,_,.int v,T.map PyData.int,T.idxOf v,Z,Z,hl,.int v,uP.ints T,Z,λe he=>?_,by rw[aK];exact jl,?_,λm hm=>?_,λH' ch=>q H' ?_⟩
 ·obtain⟨z,_,rfl⟩:=fH.mp he;rfl
 ·rw[eg _ jl,fM,bF jl,TX,List.getElem_idxOf jl,PyData.eqv];exact Ie v
 ·have ml:m<T.length:=()
  have:=List.not_of_lt_findIdx (p:=λx=>x==v) (xs:=T) (i:=m) hm;rw[eg _ ml,fM,bF ml,TX,PyData.eqv];simpa using this
 ·rw[Wa,<-e1]at ch;exact ch
abbrev uH:Stmt:=top 44
def gC:bD ["_law_steps","_law_pile","_law_tops_here","_law_aheads","_law_k","_law_ahead","_law_bag"] ["_law_steps"] (aH uH):={}
def Wb{B:List Int}{v:Int}(nd:B.Nodup):B.erase v=mV B [v]:=by
 rw[nd.erase_eq_filter];refine List.filter_congr λx _=>?_;by_cases c:x=v<;>simp[bne,c]
def NI(j:Nat):V:=.int (j:Int)
def Ű(fd:List Nat):V:=match fd.getLast? with
 |some j=>.int (j:Int)
 |none=>.non
def ű(n:Nat)(ts:List bY)(ss:List bU)(fd:List Nat):List Int:=match fd.getLast? with
 |some j=>Go.gR n ts ss j
 |none=>[]
inductive TpL(L:List Addr)(H:Hp)(v:V)(b:List Int):Prop
 |mk (p:_) (_:v=.ref p) (_:H p=some (.lst (b.map V.int))) (_:p∉L)
def TpL.chg{L:List Addr}{H H':Hp}{v:V}{b:List Int}{a:Addr}{o:HO}(m:a∈L)(c:uZ H a o H')(h:TpL L H v b):TpL L H' v b:=by
 obtain⟨p,e,h1,h2⟩:=h;exact⟨p,e,(c.rest p λz=>h2 (by rw[z];exact m)).trans h1,h2⟩
inductive a1e(H:Hp)(pS pp pt pa:Addr)(n:Nat)(ts:List bY)(ss:List bU)(i:Nat)(pl:List Nat)(b:List Int)(ah:V)(σ:St)(G:Hp):Prop
 |mk (pb:Addr) (tx:List V) (_:σ=[some (.ref pS),some (.ref pp),some (.ref pt),some (.ref pa),some (.int (i:Int)),some ah,some (.ref pb)]) (_:aL H G) (_:G pp=some (.lst (pl.map NI))) (_:G pt=some (.lst tx)) (_:Paired (TpL [pp,pt,pa,pb] G) tx ((List.range i).map (Go.gR n ts ss))) (_:G pa=some (.lst ((List.range i).map λk=>Ű (Go.qX n ts ss k)))) (_:G pb=some (.lst (b.map V.int))) (_:H pb=none) (_:pb≠pp) (_:pb≠pt) (_:pb≠pa)
inductive a5V(H:Hp)(pS pp pt pa:Addr)(n:Nat)(ts:List bY)(ss:List bU)(i:Nat)(σ:St)(G:Hp):Prop
 |mk (tx:List V) (o4 o5 o6:Option V) (_:σ=[some (.ref pS),some (.ref pp),some (.ref pt),some (.ref pa),o4,o5,o6]) (_:aL H G) (_:G pp=some (.lst ((aX n ts ss i).1.pile.map NI))) (_:G pt=some (.lst tx)) (_:Paired (TpL [pp,pt,pa] G) tx ((List.range i).map (Go.gR n ts ss))) (_:G pa=some (.lst ((List.range i).map λk=>Ű (Go.qX n ts ss k))))
inductive ŏ(vs:List V)(H:Hp)(Q:VK)(u_3:XK):Prop
 |mk (pS:Addr) (xs:List V) (ss:List bU) (n:Nat) (ts:List bY) (_:vs=[.ref pS]) (_:H pS=some (.lst xs)) (_:Paired (rW H) xs ss) (_:ss.length<=800) (_:Go.a1c n ts ss) (_:∀r pt pa tx H',aL H H'->H' r=some (.lst [.ref pt,.ref pa])->H' pt=some (.lst tx)->Paired (TpL [] H') tx ((List.range ss.length).map (Go.gR n ts ss))->H' pa=some (.lst ((List.range ss.length).map λk=>Ű (Go.qX n ts ss k)))->Q (.ref r) H')
section
variable{P:Program}{w:World}{K:aJ}{mg:Str->Option Value}{base:Heap}
abbrev DZ7(K:PySem.W.Frag)(mg:Str->Option Value):=Dn K mg "_law_tops" uH ["_law_steps"]
def Qq(B:Bl mg)(ZF:DZ7 K mg):bf P w K mg base fX 1 ZF.f ZF.fd ["_law_steps"] ŏ:=by
 refine ZF.F.ok gC λdZ A outer s H vs Q E hr h=>?_;obtain⟨pS,xs,ss,n,ts,rfl,hS,qS,l8,R,q⟩:=h;have hv:(A.deeper (PyProof.Rows.envOfC "_law_tops" (aH uH) s⁻¹ ZF.f dZ)).units+65<cLine:=by have:=hr.un;omega
 refine⟨_,(aF (bx 1 gC.nd (cG aj))
   (aF (bx 2 gC.nd (cG aj))
   (aF (bx 3 gC.nd (cG aj))
   (aF (jD jf Z (iW Z B.range (J (bK (cP (K:=K) Z) Z B.len () (J (pv 0) aj)) aj)) (aO 4 gC.nd)
   (aF (bx 5 gC.nd ql)
   (aF (bx 6 gC.nd (cG aj))
   (lW (dF (aN Lr (aQ (aP (K:=K) Z) (aQ (bI (K:=K) Z) (pv 0) (pv 4)) aA) gw)
   (aF (bx 5 gC.nd (sO (K:=K) Z j7 S6 S7 GZ (pv 1)))
   (aD (bx 6 gC.nd (jY (wu (K:=K) Z) Z B.list () (J (aQ (bI (K:=K) Z) (pv 2) (pv 5)) aj)))))
   bQ)
   (lW (dF (aN jE (aQ (aP (K:=K) Z) (aQ (bI (K:=K) Z) (pv 0) (pv 4)) aA) gw)
   (aD (gA (sO (K:=K) Z j7 S6 S7 GZ (pv 1))))
   bQ)
   (lW (dF (aN jE (aQ (aP (K:=K) Z) (aQ (bI (K:=K) Z) (pv 0) (pv 4)) aA) gw)
   (aD (bx 6 gC.nd (bK (Cr (K:=K) Z) Z B.sorted () (J (aZ lX (pv 6) (cG (J (aQ (aP (K:=K) Z) (aQ (bI (K:=K) Z) (pv 0) (pv 4)) aA) aj))) aj))))
   bQ)
   (lW (dF (aN jE (aQ (aP (K:=K) Z) (aQ (bI (K:=K) Z) (pv 0) (pv 4)) aA) gw)
   (aD (gA (mL (K:=K) Z j7 PySem.F.slot_list_remove PySem.F.type_list_remove (V8 (K:=K) Z hv) (pv 6) (J (aQ (aP (K:=K) Z) (aQ (bI (K:=K) Z) (pv 0) (pv 4)) aA) aj))))
   bQ)
   (aF (gA (mL (K:=K) Z j7 PySem.F.slot_list_append PySem.F.type_list_append iI (pv 2) (J (pv 6) aj)))
   (aF (gA (mL (K:=K) Z j7 PySem.F.slot_list_append PySem.F.type_list_append iI (pv 3) (J (pv 5) aj)))
   (aD (gA (mL (K:=K) Z j7 PySem.F.slot_list_append PySem.F.type_list_append iI (pv 1) (J (pv 4) aj)))))))))))))
   (aD (bJ (cG (J (pv 2) (J (pv 3) aj))))))))),?_⟩
 refine⟨(),λpp H1 n1=>⟨(),λpt H2 n2=>⟨(),λpa H3 n3=>?_⟩⟩⟩;have s3:=n1.same.trans (n2.same.trans n3.same);have fpp:H pp=none:=n1.fresh;have fpt:H pt=none:=n1.same.free n2.fresh;have fpa:H pa=none:=(n1.same.trans n2.same).free n3.fresh;have lx:=aV qS;have tp:=Go.RL R.cZ R.sb;have tpp:pt≠pp:=λz=>by have:=n2.fresh;rw[z,n1.here]at this;cases this
 have app:pa≠pp:=λz=>by have:=n3.fresh;rw[z,n2.same _ _ n1.here]at this;cases this
 have apt:pa≠pt:=λz=>by have:=n3.fresh;rw[z,n2.here]at this;cases this
 refine⟨_,Z,pS,_,Z,.inl (bN.of (s3 _ _ hS)),_,Z,(),(),?_⟩;rw[iU];refine ug (n:=xs.length) (λi σ G=>a5V H pS pp pt pa n ts ss i σ G) ⟨[],_,_,_,Z,s3,n3.same _ _ (n2.same _ _ n1.here),n3.same _ _ n2.here,.nil,n3.here⟩ ?_ ?_
 ·rintro D i σ G0 hi ⟨tx,o4,o5,o6,rfl,sG0,Wc,a1f,pT0,Ő⟩ dn _;rw[show(0:Int)+(i:Int)=(i:Int) by omega];have kl:i<ss.length:=()
  have hs:=bF kl;have SB:=R.sb i _ hs;have SE:=R.se i _ hs;obtain⟨vx,hvx,Xu,rfl,hst⟩:=cU qS hs;have split:=xg (dR ss[i] (aX n ts ss i).1) (aX n ts ss i).1.pile;rw[<-SE.feed]at split;have pil:=SE.pile;have lpl:=(jx R.cZ (R.go (i+1) ())).pl;have lp0:=(jx R.cZ (R.go i ())).pl;rw[pil,cB,zX]at lpl;generalize (aX n ts ss i).1.pile.take (dR ss[i] (aX n ts ss i).1)=uF at split pil lpl;generalize ss[i]=st at hs SB hst;rw[<-split]at Wc;refine⟨(),λpb G1 m1=>?_⟩;have R0:pb≠pp:=λz=>by have:=m1.fresh;rw[z,Wc]at this;cases this
  have Sg:pb≠pt:=λz=>by have:=m1.fresh;rw[z,a1f]at this;cases this
  have Sh:pb≠pa:=λz=>by have:=m1.fresh;rw[z,Ő]at this;cases this
  have ŧ:=sG0.trans m1.same;have small:∀{b:List Int},(∃j,j<ss.length/\b=Go.gR n ts ss j)->b.length<=10:=λ⟨j,hj,e⟩=>by rw[e];exact a1D R.cZ (Go.zN (tp j hj).1) (tp j hj).2
  refine Et (P:=λσ' G'=>a1e H pS pp pt pa n ts ss i (uF++(Go.qX n ts ss i).dropLast) (ű n ts ss (Go.qX n ts ss i)) (Ű (Go.qX n ts ss i)) σ' G') λJ1 ji ij=>⟨J1,?_,?_⟩
  ·refine⟨_,Z,_,Z,pS,_,_,_,Z,Z,bN.of (ŧ _ _ hS),cu hvx,Xu,st.vs,0,.str st.word,Z,Z,cQ.of (ŧ _ _ hst),zc st,Z,_,Z,?_⟩;rw[Up.a3P];by_cases c0:st.tag=0
   ·rw[bA c0];have ef:Go.qX n ts ss i=[]:=by cases SB<;>first|assumption|cases c0
    rw[ef]at Wc;refine cY (ji _ _ ?_);rw[ef];refine⟨pb,tx,Z,ŧ,m1.same _ _ Wc,m1.same _ _ a1f,Paired.cC pT0 λ_ _ z=>?_,m1.same _ _ Ő,m1.here,sG0.free m1.fresh,R0,Sg,Sh⟩;obtain⟨p,e,h1,h2⟩:=z;exact⟨p,e,m1.same _ _ h1,λz=>by
     rcases cH.mp (show p∈[pp,pt,pa]++[pb]from z)with z|z
     ·exact h2 z
     ·have:=m1.fresh;rw[<-bG.mp z,h1]at this;cases this⟩
   ·rw[cJ c0];obtain⟨f0,j,ef,lt⟩:∃f0 j,Go.qX n ts ss i=f0++[j]/\j<i:=by
     cases SB with
     |leaf=>exact absurd Z c0
     | @inn i' v ef lt=>exact⟨[],i',ef,lt⟩
     | @tie i' a b ef lt=>exact⟨[],i',ef,lt⟩
     | @out i' v ef lt=>exact⟨[],i',ef,lt⟩
     | @join i' j' ef lt lt'=>exact⟨[i'],j',ef,lt'⟩
    have e1:(Go.qX n ts ss i).dropLast=f0:=by rw[ef,Dt]
    have e2:ű n ts ss (Go.qX n ts ss i)=Go.gR n ts ss j:=by unfold ű;rw[ef,Nt]
    have e3:Ű (Go.qX n ts ss i)=NI j:=by unfold Ű;rw[ef,Nt];rfl
    rw[ef,<-vK,dW]at Wc;have a5W:G1 pp=some (.lst ((uF++f0).map NI++[NI j])):=m1.same _ _ Wc;have htj:((List.range i).map (Go.gR n ts ss))[j]?=some (Go.gR n ts ss j):=by rw[dU,Nv lt];rfl
    obtain⟨vj,hvj,pj,rfl,hpj,npj⟩:=cU pT0 htj;refine gZ ⟨_,Z,.inl ⟨Z,_,bN.of a5W⟩,pp,_,NI j,Z,Z,a5W,λG2 c2=>?_⟩;have a3R:G2 pt=some (.lst tx):=(c2.rest pt tpp).trans (m1.same _ _ a1f);have a7i:G2 pj=some (.lst ((Go.gR n ts ss j).map V.int)):=(c2.rest pj λz=>npj (by rw[z];exact aU)).trans (m1.same _ _ hpj);refine⟨_,Z,_,Z,pt,_,_,_,Z,Z,bN.of a3R,cu hvj,pj,_,Z,.inl (bN.of a7i),λp3 G3 m3=>?_⟩;have s2:=ŧ.chg fpp c2;have fp3:=s2.free m3.fresh;refine ji _ _ ?_;rw[e1,e2,e3];refine⟨p3,tx,Z,s2.trans m3.same,m3.same _ _ c2.here,m3.same _ _ a3R,Paired.cC pT0 λ_ _ z=>?_,m3.same _ _ ((c2.rest pa app).trans (m1.same _ _ Ő)),m3.here,fp3,?_,?_,?_⟩
    ·obtain⟨p,e,h1,h2⟩:=z;have h3:G2 p=_:=(c2.rest p λz=>h2 (by rw[z];exact aU)).trans (m1.same _ _ h1);exact⟨p,e,m3.same _ _ h3,λz=>by
      rcases cH.mp (show p∈[pp,pt,pa]++[p3]from z)with z|z
      ·exact h2 z
      ·have:=m3.fresh;rw[<-bG.mp z,h3]at this;cases this⟩
    ·intro z;have:=m3.fresh;rw[z,c2.here]at this;cases this
    ·intro z;have:=m3.fresh;rw[z,a3R]at this;cases this
    ·intro z;have:=m3.fresh;rw[z,(c2.rest pa app).trans (m1.same _ _ Ő)]at this;cases this
  clear Wc a1f pT0 Ő m1 ŧ R0 Sg Sh;intro σ1 G mj;obtain⟨pb,tx,rfl,sG,Dp,hpt,pT,hpa,hb,fb,R0,Sg,Sh⟩:=ij _ _ mj;clear ji ij mj;refine Et (P:=λσ' G'=>a1e H pS pp pt pa n ts ss i uF (ű n ts ss (Go.qX n ts ss i)) (Ű (Go.qX n ts ss i)) σ' G') λJ2 ji ij=>⟨J2,?_,?_⟩
  ·refine⟨_,Z,_,Z,pS,_,_,_,Z,Z,bN.of (sG _ _ hS),cu hvx,Xu,st.vs,0,.str st.word,Z,Z,cQ.of (sG _ _ hst),zc st,Z,_,Z,?_⟩;rw[Up.a3Q];by_cases c0:st.tag=4
   ·rw[bA c0];obtain⟨i',ed⟩:∃i',(Go.qX n ts ss i).dropLast=[i']:=by
     cases SB with
     | @join i' j' ef=>exact⟨i',by rw[ef];rfl⟩
     |_=>cases c0
    rw[ed,dW]at Dp;exact gZ ⟨_,Z,.inl ⟨Z,_,bN.of Dp⟩,pp,_,NI i',Z,Z,Dp,λG2 c2=>ji _ _ ⟨pb,tx,Z,sG.chg fpp c2,c2.here,(c2.rest pt tpp).trans hpt,Paired.cC pT λ_ _ z=>z.chg aU c2,(c2.rest pa app).trans hpa,(c2.rest pb R0).trans hb,fb,R0,Sg,Sh⟩⟩
   ·rw[cJ c0];have ed:(Go.qX n ts ss i).dropLast=[]:=by
     cases SB with
     |join=>exact absurd Z c0
     |leaf ef=>rw[ef];rfl
     |inn ef=>rw[ef];rfl
     |tie ef=>rw[ef];rfl
     |out ef=>rw[ef];rfl
    rw[ed,lH]at Dp;exact cY (ji _ _ ⟨pb,tx,Z,sG,Dp,hpt,pT,hpa,hb,fb,R0,Sg,Sh⟩)
  clear Dp hpt pT hpa hb sG R0 Sg Sh fb;intro σ1 G mj;obtain⟨pb,tx,rfl,sG,Dp,hpt,pT,hpa,hb,fb,R0,Sg,Sh⟩:=ij _ _ mj;clear ji ij mj;have lub:(ű n ts ss (Go.qX n ts ss i)).length<=10:=by
   unfold ű;cases eg:(Go.qX n ts ss i).getLast? with
   |none=>exact dw _
   |some j=>exact small ⟨j,uK (SE.lt j (List.mem_of_getLast? eg)) kl,Z⟩
  refine Et (P:=λσ' G'=>a1e H pS pp pt pa n ts ss i uF (if st.tag=1 then Go.gR n ts ss i else ű n ts ss (Go.qX n ts ss i)) (Ű (Go.qX n ts ss i)) σ' G') λJ3 ji ij=>⟨J3,?_,?_⟩
  ·refine⟨_,Z,_,Z,pS,_,_,_,Z,Z,bN.of (sG _ _ hS),cu hvx,Xu,st.vs,0,.str st.word,Z,Z,cQ.of (sG _ _ hst),zc st,Z,_,Z,?_⟩;rw[Up.a7h];by_cases c0:st.tag=1
   ·rw[bA c0];obtain⟨v,i',rfl,eu,lt,v0,vn,nv,et⟩:∃v i',st=.inn v/\ű n ts ss (Go.qX n ts ss i)=Go.gR n ts ss i'/\i'<i/\0<=v/\v<(n:Int)/\v∉Go.gR n ts ss i'/\Go.gR n ts ss i=gj (Go.gR n ts ss i') [v]:=by
     cases SB with
     | @inn i' v ef lt v0 vn nv et=>exact⟨v,i',Z,by rw[ef];rfl,lt,v0,vn,nv,et⟩
     |_=>cases c0
    rw[eu]at hb lub;refine gZ ⟨_,Z,_,Z,_,Z,pS,_,_,_,Z,Z,bN.of (sG _ _ hS),cu hvx,Xu,_,1,.int v,Z,Z,cQ.of (sG _ _ hst),Z,(),λp1 G1 m1=>?_⟩;refine⟨pb,p1,_,_,Z,Z,m1.same _ _ hb,m1.here,(by rw[aK];show _+1<=1000;omega),λp2 G2 m2=>?_⟩;refine⟨p2,(Go.gR n ts ss i')++[v],Z,bN.of (by rw[m2.here,dW];rfl),(by rw[cB];show _+1<64;omega),λp3 G3 zs m3 pz sz=>?_⟩;have ez:=V9 R.cZ (tp i' ()).1 (tp i' ()).2 v0 vn nv pz sz;rw[ez,<-et]at m3;have s3:=m1.same.trans (m2.same.trans m3.same);have s2:=m1.same.trans m2.same;have ne:∀{p:Addr}{o:HO},G p=some o->p3≠p:=λh z=>by have:=m3.fresh;rw[z,s2 _ _ h]at this;cases this
    rw[aG c0]at ji;refine ji _ _ ⟨p3,tx,Z,sG.trans s3,s3 _ _ Dp,s3 _ _ hpt,Paired.cC pT λ_ _ z=>?_,s3 _ _ hpa,m3.here,(sG.trans s2).free m3.fresh,ne Dp,ne hpt,ne hpa⟩;obtain⟨p,e,h1,h2⟩:=z;refine⟨p,e,s3 _ _ h1,λz=>?_⟩;rcases cH.mp (show p∈[pp,pt,pa]++[p3]from z)with z|z
    ·exact h2 (rM [pb] z)
    ·exact ne h1 (bG.mp z).symm
   ·rw[cJ c0];rw[aB c0]at ji;exact cY (ji _ _ ⟨pb,tx,Z,sG,Dp,hpt,pT,hpa,hb,fb,R0,Sg,Sh⟩)
  clear Dp hpt pT hpa hb sG R0 Sg Sh fb;intro σ1 G mj;obtain⟨pb,tx,rfl,sG,Dp,hpt,pT,hpa,hb,fb,R0,Sg,Sh⟩:=ij _ _ mj;clear ji ij mj;refine Et (P:=λσ' G'=>a1e H pS pp pt pa n ts ss i uF (Go.gR n ts ss i) (Ű (Go.qX n ts ss i)) σ' G') λJ4 ji ij=>⟨J4,?_,?_⟩
  ·refine⟨_,Z,_,Z,pS,_,_,_,Z,Z,bN.of (sG _ _ hS),cu hvx,Xu,st.vs,0,.str st.word,Z,Z,cQ.of (sG _ _ hst),zc st,Z,_,Z,?_⟩;rw[Up.a1H];by_cases c0:st.tag=3
   ·rw[bA c0];obtain⟨v,i',rfl,eu,lt,mv,et⟩:∃v i',st=.out v/\ű n ts ss (Go.qX n ts ss i)=Go.gR n ts ss i'/\i'<i/\v∈Go.gR n ts ss i'/\Go.gR n ts ss i=mV (Go.gR n ts ss i') [v]:=by
     cases SB with
     | @out i' v ef lt mv et=>exact⟨v,i',Z,by rw[ef];rfl,lt,mv,et⟩
     |_=>cases c0
    rw[aB (by show ¬3=1;decide),eu]at hb;refine gZ ⟨_,Z,.inl ⟨Z,_,bN.of hb⟩,_,Z,_,Z,pS,_,_,_,Z,Z,bN.of (sG _ _ hS),cu hvx,Xu,_,1,.int v,Z,Z,cQ.of (sG _ _ hst),Z,?_⟩;dsimp only[a2h];refine a1d hb mv λG2 c2=>?_;rw[Wb (Go.zN (tp i' ()).1),<-et]at c2;exact ji _ _ ⟨pb,tx,Z,sG.chg fb c2,(c2.rest pp R0.symm).trans Dp,(c2.rest pt Sg.symm).trans hpt,Paired.cC pT λ_ _ z=>z.chg (bC _ (bC _ (bC _ aU))) c2,(c2.rest pa Sh.symm).trans hpa,c2.here,fb,R0,Sg,Sh⟩
   ·rw[cJ c0];have eb:(if st.tag=1 then Go.gR n ts ss i else ű n ts ss (Go.qX n ts ss i))=Go.gR n ts ss i:=by
     cases SB with
     |leaf ef et=>rw[ef,et];rfl
     |inn=>rfl
     |tie ef lt _ _ _ et=>rw[ef,et];rfl
     |out=>exact absurd Z c0
     |join ef lt lt' e1 et=>rw[ef,et,e1];rfl
    rw[eb]at hb;exact cY (ji _ _ ⟨pb,tx,Z,sG,Dp,hpt,pT,hpa,hb,fb,R0,Sg,Sh⟩)
  clear Dp hpt pT hpa hb sG R0 Sg Sh fb;intro σ1 G mj;obtain⟨pb,tx,rfl,sG,Dp,hpt,pT,hpa,hb,fb,R0,Sg,Sh⟩:=ij _ _ mj;clear ji ij mj;have lt0:tx.length=i:=by rw[aV pT,aK,rP]
  refine⟨_,Z,.inl ⟨Z,_,bN.of hpt⟩,_,Z,pt,_,_,Z,Z,hpt,(),λG1 c1=>?_⟩;refine⟨_,Z,.inl ⟨Z,_,bN.of ((c1.rest pa apt).trans hpa)⟩,_,Z,pa,_,_,Z,Z,(c1.rest pa apt).trans hpa,(by rw[aK,rP];omega),λG2 c2=>?_⟩;refine⟨_,Z,.inl ⟨Z,_,bN.of ((c2.rest pp app.symm).trans ((c1.rest pp tpp.symm).trans Dp))⟩,_,Z,pp,_,_,Z,Z,(c2.rest pp app.symm).trans ((c1.rest pp tpp.symm).trans Dp),(by rw[aK];omega),λG3 c3=>?_⟩;refine dn _ _ ⟨tx++[.ref pb],_,_,_,Z,((sG.chg fpt c1).chg fpa c2).chg fpp c3,?_,(c3.rest pt tpp).trans ((c2.rest pt apt.symm).trans c1.here),?_,?_⟩
  ·rw[c3.here,pil,dW];rfl
  ·rw[vN,dW];have go:∀{v b},TpL [pp,pt,pa] G v b->TpL [pp,pt,pa] G3 v b:=λz=>((z.chg (bC _ aU) c1).chg (bC _ (bC _ aU)) c2).chg aU c3;refine dH (Paired.cC pT λ_ _ z=>go ?_) (go ⟨pb,Z,hb,?_⟩)
   ·obtain⟨p,e,h1,h2⟩:=z;exact⟨p,e,h1,λz=>h2 (rM [pb] z)⟩
   ·intro z;rcases bZ.mp z with z|z
    ·exact R0 z
    ·rcases bZ.mp z with z|z
     ·exact Sg z
     ·exact Sh (bG.mp z)
  ·rw[(c3.rest pa app).trans c2.here,vN,dW];rfl
 ·rintro σ G ⟨tx,o4,o5,o6,rfl,sG,Dp,hpt,pT,hpa⟩;rw[show xs.length=ss.length from lx]at pT hpa;refine⟨_,Z,_,Z,(),λr G2 m2=>?_⟩;exact q r pt pa tx G2 (sG.trans m2.same) m2.here (m2.same _ _ hpt) (Paired.cC pT λ_ _ z=>by
   obtain⟨p,e,h1,_⟩:=z;exact⟨p,e,m2.same _ _ h1,dO⟩) (m2.same _ _ hpa)
end
end K
namespace L2
open PyProof.Rows
section
variable{X:Cx}{K:aJ}
inductive a3S(K:aJ)(x:V)(y:V)(H:Hp)(Q:VK):Prop
 |mk (a b xs ys:_) (_:x=.ref a) (_:y=.ref b) (_:cQ K H a xs) (_:cQ K H b ys) (_:ys≠[]) (_:xs.length+ys.length<=1000) (_:∀p H',aL H H'->cQ K H' p (xs++ys)->Q (.ref p) H')
def ő(e:X.K=K):sX X (binaryOp .Add) (a3S K):=by
 subst e;intro Y s σ H x y v u Q I rx ry h;obtain⟨a,b,xs,ys,rfl,rfl,ha,hb,ny,hz,q⟩:=h;by_cases c:xs=[]
 ·cases rx;cases ry;obtain⟨bV,r1,p1,_⟩:=I.tuple ha;obtain⟨its2,r2,p2,_⟩:=I.tuple hb;obtain⟨⟨cls,dd,data,sl⟩,ho,hc,n,hd⟩:=id p1;obtain⟨⟨cls2,dd2,data2,sl2⟩,ho2,hc2,n2,hd2⟩:=id p2;simp only at hc hd hc2 hd2;subst hc hd hc2 hd2;exact Oh ⟨_,ho,Z⟩ ⟨_,ho2,Z⟩ NP Od Nk Ni (Ng _ _)
   (tuple_addW0 a b bV.toArray its2.toArray n n2 dd dd2 sl sl2 (by simp[r1.BL.mpr c])) ⟨ho,ho2,⟨.ref b,H,I,Z,q b H (aL.refl _) (by rw[c];exact hb)⟩⟩
 ·exact ī Z Y s σ H _ _ v u Q I rx ry ⟨a,b,xs,ys,Z,Z,ha,hb,c,ny,hz,λp H' n=>q p H' n.same (cQ.of n.here)⟩
end
end L2
namespace K
open L2 Lw Bg
variable{K:aJ}{ws:List Int}
abbrev j4:Stmt:=top 45
def pI:bD ["_law_found","_law_size","_law_state","_law_row","_law_one"] Rk (aH j4):={}
def a1I:PySem.W.kitOne K (.type "tuple") (.type "tuple")=some true:=by rfl
def a5X:PySem.W.kitOne K (.type "dict") (.type "dict")=some true:=by rfl
inductive Wd(vs:List V)(H:Hp)(Q:VK)(u_3:XK):Prop
 |mk (t:Addr) (m:Nat) (O:List (List Key×V)) (T:cI) (_:vs=[.ref t,.int m]) (_:H t=some (.dT O)) (_:Bc H O T) (_:(∀x∈T,x.1.length=m)) (_:m<=10) (_:T.length<=900) (_:∀H',aL H H'->Q (.bl true) H')
section
variable{P:Program}{w:World}{mg:Str->Option Value}{base:Heap}
def Ku(B:Bl mg)(ZG:Dn K mg "_law_formed" j4 Rk):bf P w K mg base fX 1 ZG.f ZG.fd Rk Wd:=by
 refine ZG.F.ok pI λdZ A outer s H vs Q E hr h=>?_;obtain⟨t,m,O,T,rfl,ht,hT,hm,m10,lT,q⟩:=h;have hw1:(A.deeper (PyProof.Rows.envOfC "_law_formed" (aH j4) s⁻¹ ZG.f dZ)).units+1<cLine:=by have:=hr.un;omega
 refine⟨_,(aF (dF (tM (fW (K:=K) Z (bK (iZ (K:=K) Z) Z B.isinstance () (J (pv 0) (J (uw (v:=.ty "dict") (u:=.type "dict") Z B.dict () Z) aj))) λ_=>rfl))
   (aD (bJ Bv))
   bQ)
   (aF (xX (jD jf Z (vf (sO (K:=K) Z zU HB HD vd (pv 0))) (jO (K:=K) (n:=2) Z Z (b8 (aO 2 pI.nd) (b8 (aO 3 pI.nd) jw)))
   (aF (dF (PW.pt (Iz (tM (fW (K:=K) Z (bK (iZ (K:=K) Z) Z B.isinstance () (J (pv 2) (J (uw (v:=.ty "tuple") (u:=.type "tuple") Z B.tuple () Z) aj))) λ_=>rfl)) (Iz (aN Lr (bK (cP (K:=K) Z) Z B.len () (J (pv 2) aj)) (pv 1)) (Iz (tM (fW (K:=K) Z (bK (iZ (K:=K) Z) Z B.isinstance () (J (pv 3) (J (uw (v:=.ty "tuple") (u:=.type "tuple") Z B.tuple () Z) aj))) λ_=>rfl)) (Iw (aN Lr (bK (cP (K:=K) Z) Z B.len () (J (pv 3) aj)) aA))))))
   (aD (bJ Bv))
   bQ)
   (aD (jD jf Z (Cd (K:=K) Z (aZ (ő (K:=K) Z) (pv 2) (pv 3))) (aO 4 pI.nd)
   (aD (dF (PW.pt (Iz (tM (fW (K:=K) Z (bK (iZ (K:=K) Z) Z B.isinstance () (J (pv 4) (J (uw (v:=.ty "int") (u:=.type "int") Z B.int () Z) aj))) λ_=>rfl)) (Iw (fW (K:=K) Z (bK (iZ (K:=K) Z) Z B.isinstance () (J (pv 4) (J (uw (v:=.ty "bool") (u:=.type "bool") Z B.bool () Z) aj))) λ_=>rfl))))
   (aD (bJ Bv))
   bQ)))))))
   (aD (bJ Bv)))),?_⟩
 refine⟨_,Z,_,_,_,_,_,Z,Z,tR.dT ht,a5X,_,Z,cY ⟨_,Z,.inr (.inr (.inl ⟨Z,.inr ⟨_,ht⟩⟩)),t,O,Z,Z,ht,λpv H1 n1=>⟨pv,t,O,Z,n1.here,n1.same _ _ ht,λo as pk=>?_⟩⟩⟩;have h1t:=n1.same _ _ ht;have Vx:Nd H (cN H1 t (.jo o (.dT O))):=(Nd.of n1.same).trans (Nd.jo h1t);have R8:cN H1 t (.jo o (.dT O)) t=some (.jo o (.dT O)):=dD;have Xr:∀c,c≠t->cN H1 t (.jo o (.dT O)) c=H1 c:=λc hc=>aW hc;generalize cN H1 t (.jo o (.dT O))=G0 at pk Vx R8 Xr ⊢;have lk:=aV hT;have la:=aV pk;refine wA (λi σ G=>(T3 (λo2 o3 o4=>[some (.ref t),some (.int m),o2,o3,o4]) σ)/\aL G0 G) ⟨⟨_,_,_,Z⟩,aL.refl _⟩ (λi σ G _ h=>h.2 _ _ R8) ?_ ?_
 ·rintro i a0 v0 σ G p G1 ha0 hv0 ⟨⟨o2,o3,o4,rfl⟩,sG⟩ nw;obtain⟨kv,hkv,hak⟩:=bM pk ha0;obtain⟨⟨st,row⟩,hsx,ek,p2,ep2,hrow⟩:=bM hT hkv;have ek:kv.1=su st:=ek;have hv0':v0=kv.2:=by
   rw[dU,hkv]at hv0;exact(dB hv0).symm
  have ep2:kv.2=.ref p2:=ep2;rw[ep2]at hv0';subst hv0';rw[ek]at hak;have s1:=sG.trans nw.same;have hold:G1 a0=some (.tup (st.map V.int)):=s1 _ _ (um.Mj hak);have zG:G1 p2=some (.tup [.int row.m,.int row.b]):=s1 _ _ (Vx.tups _ _ hrow);have ls:st.length=m:=hm _ (jz hsx);refine⟨p,_,Z,cQ.of nw.here,Z,_,_,Z,_,_,Z,Z,⟨_,Z,_,_,_,_,_,Z,Z,tR.tup hold,a1I,_,Z,cY ⟨_,Z,a0,_,Z,.inr (cQ.of hold),_,Z,Z,_,Z,?_⟩⟩⟩;rw[show(!decide (V.int (((st.map V.int).length:Nat):Int)=V.int (m:Int)))=false by rw[aK,ls];simp];refine cY ⟨_,Z,_,_,_,_,_,Z,Z,tR.tup zG,a1I,_,Z,cY ⟨_,Z,p2,_,Z,.inr (cQ.of zG),Z,_,Z,cY ?_⟩⟩;have lst:([.int row.m,.int row.b]:List V)=[row.m,row.b].map V.int:=rfl;rw[lst]at zG;refine⟨_,Z,_,Z,a0,p2,_,_,Z,Z,cQ.of hold,cQ.of zG,(λz=>by cases z),(by rw[aK];show _+2<=1000;omega),λp3 G2 s2 h3=>?_⟩;rw[<-dW]at h3;refine⟨p3,Z,⟨_,h3⟩,?_⟩;refine Ÿ (xs:=(st++[row.m,row.b]).map V.int) (λi σ H'=>(T1 (λo4=>[some (.ref t),some (.int m),some (.ref a0),some (.ref p2),o4]) σ)/\H'=G2) ⟨⟨_,Z⟩,Z⟩ (λi σ H' _ ⟨_,e⟩=>by rw[e];exact h3) ?_ ?_
  ·rintro i x σ H' hx ⟨⟨o3,rfl⟩,rfl⟩;rw[dU]at hx;obtain⟨z,_,rfl⟩:=oF.mp hx;exact⟨_,Z,_,_,_,_,_,Z,Z,tR.int _,Fq,_,Z,cY ⟨_,Z,_,_,_,_,_,Z,Z,tR.int _,Ca,_,Z,cY ⟨⟨_,Z⟩,Z⟩⟩⟩
  ·rintro σ H' ⟨⟨o4,rfl⟩,rfl⟩;exact⟨⟨_,_,_,Z⟩,s1.trans s2⟩
 ·rintro σ G ⟨⟨o2,o3,o4,rfl⟩,sG⟩;refine⟨t,o,O,O,ht,sG _ _ R8,q _ λc u e=>?_⟩;by_cases z:c=t
  ·rw[z]at e ⊢;rw[dD,<-e,ht]
  ·rw[aW z];refine sG c u ?_;rw[Xr c z];exact n1.same _ _ e
end
namespace D1
def outF(kd:Int)(s:dX)(p:Nat)(wv:Int):Option (dX×Int):=if kd=2/\fU s p=0 then none else some (wW s p,wv*if kd=2 then fU s p/2 else fU s p)
def rw0(r:gJ):gJ:=⟨r.m,r.b,[]⟩
def strip(T:cI):cI:=T.map λx=>(x.1,rw0 x.2)
def Dj(kd b o:Int):Int:=if decide (o>b)=decide (kd=1)then o else b
def putD(kd:Int)(T:cI)(s:dX)(m b:Int):cI:=match Al T s with
 |none=>qQ T s ⟨m+0,b,[]⟩
 |some o=>qQ T s ⟨m+o.m,Dj kd b o.b,[]⟩
def yu(kd:Int)(p:Nat)(wv:Int):cI->cI->cI
 | [],T=>T
 |x::S,T=>yu kd p wv S (match outF kd x.1 p wv with|none=>T|some y=>putD kd T y.1 x.2.m (x.2.b+y.2))
theorem Kv{kd:Int}{p:Nat}{wv:Int}{x:dX×gJ}:∀{S T:cI},yu kd p wv (S++[x]) T=match outF kd x.1 p wv with|none=>yu kd p wv S T|some y=>putD kd (yu kd p wv S T) y.1 x.2.m (x.2.b+y.2)
 | [],_=>rfl
 |_::S,_=>Kv (S:=S)
def Œ{kd:Int}{T:cI}{s:dX}{m b:Int}:(putD kd T s m b).length<=T.length+1:=by
 unfold putD;split<;>exact đ _ _ _
theorem X6{kd:Int}{p:Nat}{wv:Int}:∀(S T:cI),(yu kd p wv S T).length<=T.length+S.length
 | [],T=>aM _
 |x::S,T=>by
  refine cV (X6 S _) ?_
  rw[jJ]
  cases outF kd x.1 p wv with
  |none=>show T.length+_<=_;omega
  |some y =>
   have:=Œ (kd:=kd) (T:=T) (s:=y.1) (m:=x.2.m) (b:=x.2.b+y.2)
   show(putD kd T y.1 x.2.m (x.2.b+y.2)).length+_<=_
   omega
def MT(T:cI)(s:dX):Al (strip T) s=(Al T s).map rw0:=by
 unfold Al strip
 induction T with
 |nil=>rfl
 |cons x T ih =>
  rw[cL];by_cases c:x.1=s
  ·rw[uI (by exact bA c),uI (by exact bA c)];rfl
  ·rw[uJ (by exact λz=>c (gV z)),uJ (by exact λz=>c (gV z))];exact ih
def M4(T:cI)(s:dX)(r:gJ):strip (qQ T s r)=qQ (strip T) s (rw0 r):=by
 unfold strip qQ;rw[List.any_map];show List.map _ (if(T.any λx=>decide (x.1=s))=true then _ else _)=if(T.any λx=>decide (x.1=s))=true then _ else _
 by_cases c:(T.any λx=>decide (x.1=s))=true
 ·rw[aG c,aG c,nC,nC];refine xj λx _=>?_;show(((if x.1=s then(x.1,r)else x):dX×gJ).1,rw0 ((if x.1=s then(x.1,r)else x):dX×gJ).2)=if x.1=s then(x.1,rw0 r)else(x.1,rw0 x.2)
  by_cases d:x.1=s
  ·rw[aG d,aG d]
  ·rw[aB d,aB d]
 ·rw[aB c,aB c,dW];rfl
def ZJ(kd:Int)(bt:Int->Int->Bool):Prop:=∀a b,(if bt a b=true then a else b)=Dj kd a b
def a1J{kd:Int}(h:kd≠1):ZJ kd λa b=>decide (a<b):=λa b=>by
 unfold Dj;rw[cJ h];by_cases c:a<b
 ·rw[aG (bA c),bA (show b>a from c),aB ()]
 ·rw[aB (by simpa using c),cJ (show ¬b>a from c),aG rfl]
def a1g:ZJ 1 λa b=>decide (b<a):=λa b=>by
 unfold Dj;rw[bA (rfl:(1:Int)=1)];by_cases c:b>a
 ·rw[aB (by simpa using Int.le_of_lt c),bA c,aG rfl]
 ·by_cases e:b<a
  ·rw[aG (bA e),cJ c,aB ()]
  ·rw[aB (by simpa using e),cJ c,aB ()];omega
def œ{kd:Int}{bt:Int->Int->Bool}(hb:ZJ kd bt){T:cI}{s:dX}{m b:Int}{src:List dX}:strip (nU bt T s ⟨m,b,src⟩)=putD kd (strip T) s m b:=by
 unfold nU putD;rw[MT];cases e:Al T s with
 |none=>rw[M4];show qQ _ _ ⟨m,b,[]⟩=qQ _ _ ⟨m+0,b,[]⟩;rw[Int.add_zero]
 |some o =>
  rw[M4];show qQ _ _ ⟨o.m+m,(wK bt ⟨m,b,src⟩ o).b,[]⟩=qQ _ _ ⟨m+o.m,Dj kd b o.b,[]⟩;have:(wK bt ⟨m,b,src⟩ o).b=Dj kd b o.b:=by
   rw[<-hb];unfold wK;split<;>rfl
  rw[this,Int.add_comm]
theorem Fe{κ:Type}{pq:PQ κ}{kd v wv:Int}{B:List Int}(hb:ZJ kd pq.bt) :
  ∀{S T:cI},(∀x∈S,pq.out x.1 (B.idxOf v) v.toNat=(outF kd x.1 (B.idxOf v) wv).toList)->strip (nH pq (.out v) B S T)=yu kd (B.idxOf v) wv (strip S) (strip T)
 | [],T,_=>rfl
 |x::S,T,ht=>by
  show strip (nH pq (.out v) B S (oR pq.bt x.1 x.2 (pq.out x.1 (B.idxOf v) v.toNat) T))=yu kd _ wv (strip S) (match outF kd x.1 (B.idxOf v) wv with|none=>strip T|some y=>putD kd (strip T) y.1 x.2.m (x.2.b+y.2))
  rw[ht x aU]
  have ht':=λy hy=>ht y (bC _ hy)
  cases e:outF kd x.1 (B.idxOf v) wv with
  |none=>exact Fe hb ht'
  |some y =>
   show strip (nH pq (.out v) B S (nU pq.bt T y.1 ⟨x.2.m,x.2.b+y.2,[x.1]⟩))=yu kd _ wv (strip S) (putD kd (strip T) y.1 x.2.m (x.2.b+y.2))
   rw[<-œ hb]
   exact Fe hb ht'
def a5Y{c:Nat}{s:dX}{p v:Nat}:(pqC c ws).out s p v=(outF 0 s p (ws.getD v 0)).toList:=by
 unfold outF;rw[aB (),aB ()];rfl
def a5Z{s:dX}{p v:Nat}:(pqA ws).out s p v=(outF 1 s p (ws.getD v 0)).toList:=by
 unfold outF;rw[aB (),aB ()];rfl
def XQ{c:Int}{m:Nat}{s:dX}(h:sy c m s){k:Nat}(hk:k<m):0<=fU s k/\fU s k<c:=by
 have:fU s k∈s:=by
  unfold fU;rw[fM,bF (by rw[h.1];exact hk)];exact mJ _
 exact h.2 _ this
def a6a{m:Nat}{s:dX}{p v:Nat}(h:sy 3 m s)(hp:p<m):(ū ws).out s p v=(outF 2 s p (ws.getD v 0)).toList:=by
 have a:=XQ h hp;unfold outF;rw[aG (rfl:(2:Int)=2)];show(if fU s p=0 then _ else _)=_;by_cases c:fU s p=0
 ·rw[aG c,aG ⟨Z,c⟩];rfl
 ·rw[aB c,aB (show ¬((2:Int)=2/\fU s p=0)from λz=>c z.2)];show [(wW s p,_)]=[(wW s p,_)];by_cases d:fU s p=2
  ·rw[aG d,d];show [_]=[(_,ws.getD v 0*1)];rw[Int.mul_one]
  ·rw[aB d,show fU s p/2=0 by omega,Int.mul_zero]
end D1
abbrev j5:Stmt:=top 46
def fV:bD ["_law_kind","_law_table","_law_at_here","_law_weight","_law_due","_law_state","_law_row","_law_mark","_law_new","_law_best"] Rm (aH j5):={}
def a7j{a b:TT}{σ:St}{H:Hp}{Q:Bool->Hp->Prop}{c1 c2:Bool}(h1:∀Q:Bool->Hp->Prop,Q c1 H->a σ H Q)(h2:∀Q:Bool->Hp->Prop,Q c2 H->b σ H Q)(h:Q (c1&&c2) H):a1T a b σ H Q:=by
 refine h1 _ ?_;cases c1 with
 |false=>exact cY h
 |true=>exact gZ (h2 _ h)
def dI{x y:Int}:decide (V.int x=V.int y)=decide (x=y):=N7.mpr ⟨V.int.inj,congrArg _⟩
inductive a1h(vs:List V)(H:Hp)(Q:VK)(u_3:XK):Prop
 |mk (kd:Int) (t:Addr) (p m:Nat) (wv:Int) (O:List (List Key×V)) (T:cI) (_:vs=[.int kd,.ref t,.int p,.int wv]) (_:H t=some (.dT O)) (_:Bc H O T) (_:(∀x∈T,sy 4 m x.1)) (_:p<m) (_:m<=10) (_:T.length<=900) (_:∀d kd2 H',aL H H'->H' d=some (.dT kd2)->Bc H' kd2 (D1.yu kd p wv T [])->Q (.ref d) H')
section
variable{P:Program}{w:World}{mg:Str->Option Value}{base:Heap}
def Kw(B:Bl mg)(ZK:Dn K mg "_law_behind" j5 Rm):bf P w K mg base fX 1 ZK.f ZK.fd Rm a1h:=by
 refine ZK.F.ok fV λdZ A outer s H vs Q E hr h=>?_;obtain⟨kd,t,p,m,wv,O,T,rfl,ht,hT,hm,hp,m10,lT,q⟩:=h;have hw1:(A.deeper (PyProof.Rows.envOfC "_law_behind" (aH j5) s⁻¹ ZK.f dZ)).units+1<cLine:=by have:=hr.un;omega
 refine⟨_,(aF (bx 4 fV.nd Jm)
   (aF (xX (jD jf Z (vf (sO (K:=K) Z zU HB HD vd (pv 1))) (jO (K:=K) (n:=2) Z Z (b8 (aO 5 fV.nd) (b8 (aO 6 fV.nd) jw)))
   (aF (bx 7 fV.nd (aQ (aP (K:=K) Z) (pv 5) (pv 2)))
   (aF (dF (PW.pt (rR (aN jE (pv 0) aA) (sI (aN jE (pv 7) aA))))
   (aD QB)
   bQ)
   (lW (dF (aN jE (pv 0) aA)
   (aD (bx 7 fV.nd (aZ GF (pv 7) aA)))
   bQ)
   (aF (bx 8 fV.nd (aZ Hl (iH zj (pv 5) jL (jM (pv 2))) (iH zj (pv 5) (jM (aZ fj (pv 2) aA)) jL)))
   (aF (bx 9 fV.nd (aZ fj (aQ (aP (K:=K) Z) (pv 6) aA) (aZ tQ (pv 3) (pv 7))))
   (lW (dF (PW.pt (rR (aN (Ą hw1) (pv 8) (pv 4) (by with_unfolding_all rfl)) (sI (aN jE (vW Fj (aQ (aP (K:=K) Z) (GX hw1 (pv 4) (pv 8) λ_ _=>rfl) aA) (pv 9)) (vW jE (pv 0) aA)))))
   (aD (bx 9 fV.nd (aQ (aP (K:=K) Z) (GX hw1 (pv 4) (pv 8) λ_ _=>rfl) aA)))
   bQ)
   (aD (xQ (bB (J (aZ fj (aQ (aP (K:=K) Z) (pv 6) aA) (aQ (aP (K:=K) Z) (mL (K:=K) Z zU Nq PySem.F.type_dict_get (a0l hw1) (pv 4) (J (pv 8) (J (bB (J aA (J aA aj))) aj))) aA)) (J (pv 9) aj))) (Ot (pv 4) (pv 8) (El hw1))))))))))))
   (aD (bJ (pv 4))))),?_⟩
 intro d hd;have n0:=iQ.pQ (H:=H) (p:=d) (o:=.dT []) hd;generalize cN H d (.dT [])=H0 at n0 ⊢;have ht0:=n0.same _ _ ht;refine⟨_,Z,.inr (.inr (.inl ⟨Z,.inr ⟨_,ht0⟩⟩)),t,O,Z,Z,ht0,λpv H1 n1=>⟨pv,t,O,Z,n1.here,n1.same _ _ ht0,λo as pk=>?_⟩⟩;have h1t:=n1.same _ _ ht0;have hd1:H1 d=some (.dT []):=n1.same _ _ n0.here;have td:t≠d:=λz=>by rw[z,hd]at ht;cases ht
 have Vx:Nd H (cN H1 t (.jo o (.dT O))):=(Nd.of (n0.same.trans n1.same)).trans (Nd.jo h1t);have R8:cN H1 t (.jo o (.dT O)) t=some (.jo o (.dT O)):=dD;have g0d:cN H1 t (.jo o (.dT O)) d=some (.dT []):=by rw[aW (Ne.symm td)];exact hd1
 have Xr:∀c,c≠t->cN H1 t (.jo o (.dT O)) c=H1 c:=λc hc=>aW hc;generalize cN H1 t (.jo o (.dT O))=G0 at pk Vx R8 g0d Xr ⊢;have lk:=aV hT;have la:=aV pk;refine opq (P:=λi σ G=>P4 (T5 (λo5 o6 o7 o8 o9=>[some (.int kd),some (.ref t),some (.int p),some (.int wv),some (.ref d),o5,o6,o7,o8,o9]) σ) (Sd d G0 G) (λkt=>G d=some (.dT kt)) λkt=>Bc G kt (D1.yu kd p wv (T.take i) [])) λZ97 ji ij=>wA Z97 (ji _ _ _ ⟨⟨_,_,_,_,_,Z⟩,.refl,[],g0d,.nil⟩) (λi σ G _ h=>(ij _ _ _ h).s _ _ td R8) ?_ ?_
 ·intro i a0 v0 σ G pq G1 ha0 hv0 h1 nw;obtain⟨⟨o5,o6,o7,o8,o9,rfl⟩,sG,kt,hkt,Vy⟩:=ij _ _ _ h1;obtain⟨kv,hkv,hak⟩:=bM pk ha0;obtain⟨⟨st,row⟩,hsx,ek,p2,ep2,hrow⟩:=bM hT hkv;have ek:kv.1=su st:=ek;have hv0':v0=kv.2:=by
   rw[dU,hkv]at hv0;exact(dB hv0).symm
  have ep2:kv.2=.ref p2:=ep2;rw[ep2]at hv0';subst hv0';rw[ek]at hak;have ė:aL G G1:=nw.same;have ţ:Nd G0 G1:=(Nd.sd sG g0d).trans (.of ė);have hold:um G1 a0 st:=um.Mj (ţ.tups _ _ hak);have zG:G1 p2=some (.tup [.int row.m,.int row.b]):=ţ.tups _ _ (Vx.tups _ _ hrow);have os:sy 4 m st:=hm _ (jz hsx);have ls:st.length=m:=os.1;have hps:p<st.length:=()
  have ao:=D1.XQ os hp;have hTi:T.take (i+1)=T.take i++[(st,row)]:=by rw[nA,hsx];rfl
  have lt9:(D1.yu kd p wv (T.take i) []).length<=900:=cV (D1.X6 _ _) (by rw[gb];show 0+_<=_;omega);have a6b:=ė _ _ hkt;refine⟨pq,_,Z,cQ.of nw.here,Z,_,_,Z,_,_,Z,Z,⟨_,Z,_,Z,a0,_,_,_,Z,Z,cQ.of hold,Ĭ hps,?_⟩⟩;dsimp only[Ç,a1V,a4j];refine a7j (λQ h=>⟨_,Z,Z,_,Z,h⟩) (λQ h=>⟨_,Z,Z,_,Z,h⟩) (uO (λc=>?_) λc=>?_)
  ·simp only[dI,Bool.and_eq_true,decide_eq_true_iff]at c;refine ji _ _ _ ⟨⟨_,_,_,_,_,Z⟩,sG.trans (.of ė),kt,a6b,?_⟩;rw[hTi,D1.Kv,show D1.outF kd st p wv=none from aG c];exact Paired.cC Vy λ_ _ z=>⟨z.1,z.2.keep (.of ė)⟩
  simp only[dI,Bool.and_eq_true,decide_eq_true_iff]at c;obtain⟨mk,emk⟩:∃mk:Int,mk=if kd=2 then fU st p/2 else fU st p:=⟨_,Z⟩
  have pQ:0<=mk/\mk<4:=by rw[emk];split<;>omega
  have eo:D1.outF kd st p wv=some (wW st p,wv*mk):=by
   unfold D1.outF;rw[aB c,emk]
  refine⟨λσ' G'=>σ'=[some (.int kd),some (.ref t),some (.int p),some (.int wv),some (.ref d),some (.ref a0),some (.ref p2),some (.int mk),o8,o9]/\G'=G1,?_,?_⟩
  ·refine⟨_,Z,Z,_,Z,uO (λe=>?_) λe=>?_⟩
   ·rw[dI,d7]at e;exact⟨_,Z,_,_,Z,Z,⟨(),()⟩,by rw[emk,aG e];rfl,Z⟩
   ·rw[dI,d7]at e;exact⟨by rw[emk,aB e];rfl,Z⟩
  rintro σ' G' ⟨rfl,rfl⟩;refine⟨_,Z,_,Z,_,Z,a0,_,Z,hold,λb1 K1 s1 h1=>?_⟩;rw[PK st p ()]at h1;refine⟨_,Z,_,Z,_,_,Z,Z,_,Z,a0,_,Z,s1 _ _ hold,λb4 K4 s4 h4=>?_⟩;try dsimp only at h4
  rw[show((p:Int)+1)=((p+1:Nat):Int) by omega,PL st (p+1) ()]at h4;refine⟨b1,b4,_,_,Z,Z,s4 _ _ h1,h4,?_,λpn G2 s5 h5=>?_⟩
  ·rw[aK,aK,gb,j9];omega
  have s12:=s1.trans (s4.trans s5);have hpn:um G2 pn (wW st p):=by
   show G2 pn=some (.tup ((wW st p).map V.int));rw[h5];unfold wW;rw[dW]
  generalize wW st p=s' at hpn eo;have a1i:=s12 _ _ a6b;have a1K:=s12 _ _ zG;have hT2:Bc G2 kt (D1.yu kd p wv (T.take i) []):=Paired.cC Vy λ_ _ z=>⟨z.1,z.2.keep (.of (ė.trans s12))⟩;have lkt:=aV hT2;refine⟨_,Z,p2,_,_,.int row.b,Z,Z,cQ.of a1K,Z,_,Z,_,Z,_,_,Z,Z,.inr ⟨(),()⟩,_,_,Z,Z,?_⟩;have fin:∀(G5:Hp) (kt:List (List Key×V)),Sd d G0 G5->G5 d=some (.dT kt)->Bc G5 kt (D1.putD kd (D1.yu kd p wv (T.take i) []) s' row.m (row.b+wv*mk))->∀(v8 v9:V),Z97 (i+1) [some (.int kd),some (.ref t),some (.int p),some (.int wv),some (.ref d),some (.ref a0),some (.ref p2),some (.int mk),some v8,some v9] G5:=λG5 kt s h1 h2 v8 v9=>ji _ _ _ ⟨⟨_,_,_,_,_,Z⟩,s,kt,h1,by rw[hTi,D1.Kv,eo];exact h2⟩;clear ji ij h1;generalize D1.yu kd p wv (T.take i) []=T0 at hT2 fin lt9 lkt;generalize row.b+wv*mk=bb at fin ⊢;have get:∀{G:Hp},aL G2 G->um G pn s'/\G d=some (.dT kt):=λ{G} s=>⟨hpn.keep (.of s),s _ _ a1i⟩;obtain⟨m0,bs,en,hv⟩:∃m0 bs,D1.putD kd T0 s' row.m bb=qQ T0 s' ⟨row.m+m0,bs,[]⟩/\((ig kt (su s')=none/\m0=0/\bs=bb)\/∃pr b0,ig kt (su s')=some (.ref pr)/\G2 pr=some (.tup [.int m0,.int b0])/\bs=D1.Dj kd bb b0):=by
   rcases Hf s' hT2 with⟨e1,e2⟩|⟨v0,r0,e1,e2,pr,rfl,hr0⟩
   ·exact⟨0,bb,by unfold D1.putD;rw[e2],.inl ⟨e1,Z,Z⟩⟩
   ·exact⟨r0.m,_,by unfold D1.putD;rw[e2],.inr ⟨pr,r0.b,e1,hr0,Z⟩⟩
  refine Et (P:=λσ' G'=>σ'=[some (.int kd),some (.ref t),some (.int p),some (.int wv),some (.ref d),some (.ref a0),some (.ref p2),some (.int mk),some (.ref pn),some (.int bs)]/\G'=G2) λJ3 jm mj=>⟨J3,?_,?_⟩
  ·refine⟨_,Z,_,Z,pn,d,su s',kt,Z,Z,hpn.key,a1i,_,Z,?_⟩;rcases hv with⟨e1,_,e3⟩|⟨pr,b0',e1,hr0,e3⟩
   ·rw[e1];exact cY (cY (jm _ _ ⟨by rw[e3];rfl,Z⟩))
   ·rw[e1];have dg:Jl G2 d (.ref pn) (some (.ref pr)):=by rw[<-e1];exact Jl.t a1i hpn.key
    refine gZ ⟨_,Z,_,Z,d,.ref pr,Z,dg,pr,_,_,.int b0',Z,Z,cQ.of hr0,Z,_,Z,_,_,Z,Z,_,Z,Z,Z,_,Z,uO (λc=>?_) λc=>?_⟩
    ·have c:=V.bl.inj (gV c);rw[dI]at c;exact⟨_,Z,_,Z,d,.ref pr,Z,dg,pr,_,_,.int b0',Z,Z,cQ.of hr0,Z,jm _ _ ⟨by rw[e3];unfold D1.Dj;rw[aG c];rfl,Z⟩⟩
    ·have c:¬decide (b0'>bb)=decide (kd=1):=λz=>c (bA (congrArg V.bl (by rw[dI];exact z)));exact jm _ _ ⟨by rw[e3];unfold D1.Dj;rw[aB c];rfl,Z⟩
  intro σ' G' h1;obtain⟨rfl,rfl⟩:=mj _ _ h1;clear jm mj h1;refine⟨_,Z,p2,_,_,.int row.m,Z,Z,cQ.of a1K,Z,_,Z,.inr (.inr (.inl ⟨Z,.inr ⟨_,a1i⟩⟩)),_,Z,(),λp3 G3 n3=>?_⟩;obtain⟨g5,g6⟩:=get n3.same;refine⟨d,pn,su s',kt,.ref p3,Z,Z,g5.key,g6,?_⟩;obtain⟨pq,bz,eq1,hq⟩:∃pq bz,(ig kt (su s')).getD (.ref p3)=.ref pq/\G3 pq=some (.tup [.int m0,.int bz]):=by
   rcases hv with⟨e1,e2,_⟩|⟨pr,b0',e1,hr0,_⟩
   ·exact⟨p3,0,by rw[e1];rfl,by rw[e2];exact n3.here⟩
   ·exact⟨pr,b0',by rw[e1];rfl,n3.same _ _ hr0⟩
  rw[eq1];refine⟨pq,_,_,.int m0,Z,Z,cQ.of hq,Z,_,_,Z,Z,_,Z,(),λp4 G4 n4=>?_⟩;have s4:=n3.same.trans n4.same;obtain⟨g5,g6⟩:=get s4;refine⟨_,Z,_,Z,d,pn,su s',kt,Z,Z,g5.key,g6,(by have:=lkt;omega),λG5 c5=>?_⟩;have ts:pY G4 G5:=λc' ys hc=>by
   rw[c5.rest c' (λz=>by rw[z,g6]at hc;cases hc)];exact hc
  refine fin G5 _ ((sG.trans (.of ((ė.trans s12).trans s4))).trans (.Đ c5)) c5.here ?_ _ _;rw[en];exact Xk (Paired.cC hT2 λ_ _ z=>⟨z.1,z.2.keep ((pY.of s4).trans ts)⟩) ⟨p4,Z,ts _ _ n4.here⟩
 ·intro σ G h;obtain⟨⟨o5,o6,o7,o8,o9,rfl⟩,sG,kt,hkt,Vy⟩:=ij _ _ _ h;refine⟨t,o,O,O,ht0,sG _ _ td R8,?_⟩;rw[la.trans lk,je]at Vy;have tu:pY G (cN G t (.dT O)):=λc ys hc=>by
   rw[aW (λz=>by rw[z,sG _ _ td R8]at hc;cases hc)];exact hc
  refine⟨_,Z,q d kt _ (λc u e=>?_) (by rw[aW (Ne.symm td)];exact hkt) (Paired.cC Vy λ_ _ z=>⟨z.1,z.2.keep tu⟩)⟩;by_cases z:c=t
  ·rw[z]at e ⊢;rw[dD,<-e,ht]
  ·rw[aW z];refine sG c u (λw=>by rw[w,hd]at e;cases e) ?_;rw[Xr c z];exact(n0.same.trans n1.same) _ _ e
end
end K
namespace De
open PyProof.Rows
section
variable{prog:Program}{w:World}{A:Around}{E:Value->Shared->Prop}{s:Shared}{κ:Type} [DecidableEq κ] {knd:HeapKind prog w κ}
def Wf{nm:String}{a b:Addr}{xa xb:List (κ×Addr×Value)}{Q:Bool->Shared->Prop}(ha:(a==sysModules)=false)(hb:(b==sysModules)=false)(hu:knd.room A)
  (da:s.heap.DictOfH knd a xa) (db:s.heap.DictOfH knd b xb) (len:xa.length=xb.length) (hits:∀x∈xa,∃q,atKey xb x.1=some q/\SeqAt.EqAt A s x.2.2 q.2 true) (h:Q true s) :
  wpAny (model prog w) A (Builtin.Dict.samePairs nm a b) Q E s:=by
 obtain⟨oa,es,ep,hoa,_,hda,hea,hia,hna⟩:=da;obtain⟨ob,fs,ep',hob,_,hdb,heb,hib,hnb⟩:=db;have la:=T7 hea;have lb:=T7 heb;unfold Builtin.Dict.samePairs Builtin.Dict.showsAll;rw[aB (by simp[ha]),aB (by simp[hb])];refine M (aq (M (aq (M (tD hoa hda ?_)))));dsimp only;refine M (tD hob hdb ?_);rw[aB (by simp;omega)];refine M (xH hoa hda (M ?_));rw[Std.Legacy.Range.forIn_eq_forIn_range'];simp only[Std.Legacy.Range.size,Nat.sub_zero,Nat.add_sub_cancel,Nat.div_one];refine wpAny_forIn_list _ (λrest q s'=>s'=s/\q=(none,⟨⟩)/\∃i,rest=List.range' i (es.size-i)/\i<=es.size) _ ?_ ?_ _ _ ⟨Z,Z,0,by simp,dw _⟩
 ·rintro x rest q s' ⟨rfl,rfl,i,hr,hi⟩;have lt:i<es.size:=by
   by_cases c:i<es.size
   ·exact c
   ·rw[show es.size-i=0 by omega]at hr;simp at hr
  obtain⟨rfl,hrest⟩:x=i/\rest=List.range' (i+1) (es.size-(i+1)):=by
   rw[show es.size-i=(es.size-(i+1))+1 by omega,List.range'_succ]at hr;exact⟨(DR hr).1,(DR hr).2⟩
  have lx:x<xa.length:=()
  have ex:xa[x]?=some xa[x]:=bF lx;have ee:es[x]?=some (entryOfKey knd xa[x]):=by rw[entry_at hea x,ex];rfl
  obtain⟨q,hq,he⟩:=hits xa[x] (mJ lx);refine M (tD hoa hda ?_);rw[ee];show wpAny _ _ (holding [Value.ref xa[x].2.1,xa[x].2.2] _ >>= _) _ _ _;refine M (fG (M (wpAny_dictFind_heap hu (hia _ (mJ lx)) hob hdb heb hib hnb ?_ ?_)))
  ·intro no;rw[atKey_none_of_get no]at hq;cases hq
  ·intro j p hj;have ep2:p=q:=dB ((atKey_of_get hnb hj).symm.trans hq);subst ep2;refine M (tD hob hdb ?_);have ef:fs[j]?=some (entryOfKey knd (xa[x].1,p)):=by rw[entry_at heb j,hj];rfl
   rw[ef];refine fG (he prog w _ _ ?_);show wpAny _ _ (if(!true)=true then _ else _) _ _ _;rw[aB ()];refine M (xH hoa hda ?_);rw[aB (by simp)];exact aq ⟨Z,Z,x+1,hrest,lt⟩
 ·rintro q s' ⟨rfl,rfl,i,hr,hi⟩;exact aq h
def Ŕ{a b:Addr}{xa xb:List (κ×Addr×Value)}{Q:Value->Shared->Prop}(ha:(a==sysModules)=false)(hb:(b==sysModules)=false)(hr:knd.room A.in1)
  (da:s.heap.DictOfH knd a xa) (db:s.heap.DictOfH knd b xb) (hu:A.units<cLine) (len:xa.length=xb.length) (hits:∀x∈xa,∃q,atKey xb x.1=some q/\SeqAt.EqAt A.in1 s x.2.2 q.2 true) (h:Q (.bool false) s) :
  wpAny (model prog w) A (compareOp .NotEq (.ref a) (.ref b)) Q E s:=by
 refine wpAny_richCompare_same_room (op:=.NotEq) da.typeIs db.typeIs PySem.F.slot_dict_ne (gF PySem.F.slot_dict_ne da.typeIs PySem.F.entry_dict_ne (M ?_) (PySem.F.args_dict_ne_2 _ _)) hu;unfold Builtin.Dict.dictSlotArgs;refine M (HN da.typeIs (aq (M (vM (T:="dict") db.typeIs PySem.F.sub_dict_dict ?_))));simp only[if_false,Bool.not_true,Bool.false_eq_true];refine M (aq (M (aq (M (Wf ha hb hr da db len hits ?_)))));exact aq ⟨_,Z,(λz=>by cases z),h⟩
end
end De
namespace L2
open PyProof.Rows Bg
section
variable{X:Cx}{K:aJ}
structure ŕ(K:aJ)(H:Hp)(ka kb:List (List Key×V)):Prop where
 len:ka.length=kb.length
 hit:∀p∈ka,∃v d,ig kb p.1=some v/\KQ K H p.2 d/\KQ K H v d/\SeqAt.shaped d=true
def a6c(K:aJ)(neg:Bool):R2:=λx y H Q=>∃a b ka kb,x=.ref a/\y=.ref b/\H a=some (.dT ka)/\H b=some (.dT kb)/\ŕ K H ka kb/\Q (.bl (!neg)) H
def Wg{Y:List (Addr×Obj)}{σ:St}{H:Hp}{s:Shared}{ka kb:List (List Key×V)}{xa xb:List (List Key×Addr×Value)}(I:bH X Y σ H s)(hu:X.A.units+66<cLine)(ra:KT H ka xa)(rb:KT H kb xb)(S:ŕ X.K H ka kb) :
  ∀x∈xa,∃q,atKey xb x.1=some q/\SeqAt.EqAt X.A.in1 s x.2.2 q.2 true:=by
 intro x hx;obtain⟨j,hj,rfl⟩:=rN hx;obtain⟨p,hp,ep,_,rp⟩:=cU ra (bF hj);obtain⟨v,d,hv,d1,d2,sd⟩:=S.hit p (jz hp);have rv:=rb.val p.1;rw[hv]at rv;obtain⟨u,hu2,ru⟩:=sH.some_of rv;rw[<-ep];cases c:atKey xb p.1 with
 |none=>rw[c]at hu2;cases hu2
 |some q =>
  rw[c]at hu2;cases hu2;obtain⟨as,r1⟩:=d1.reads I rp;obtain⟨bs,r2⟩:=d2.reads I ru;have:=PySem.W.keq_at (A:=X.A) r1 r2 sd sd (by rw[Around.in1_units];omega);rw[QT sd]at this;exact⟨q,Z,this⟩
def a3T(hu:X.A.units+66<cLine):sX X (compareOp .NotEq) (a6c X.K true):=by
 intro Y s σ H x y v u Q I rx ry h;obtain⟨a,b,ka,kb,rfl,rfl,ea,eb,S,q⟩:=h;obtain rfl:v=Value.ref a:=rx;obtain rfl:u=Value.ref b:=ry;obtain⟨za,sa,xa,ra,da⟩:=Jk I.hok ea;obtain⟨zb,sb,xb,rb,db⟩:=Jk I.hok eb;have l1:=aV ra;have l2:=aV rb;have l3:=S.len;exact De.Ŕ sa sb (zZ ()) da db () () (Wg I hu ra rb S) ⟨.bl false,H,I,Z,q⟩
def a1j(e:X.K=K)(hu:X.A.units+66<cLine):sX X (compareOp .NotEq) (a6c K true):=by subst e;exact a3T hu
end
end L2
namespace K
open L2 Lw Bg
variable{P:Program}{w:World}{mg:Str->Option Value}{base:Heap}{X:Cx}
abbrev rz:Stmt:=top 47
def pK:bD ["_law_kind","_law_told","_law_steps","_law_weights_here","_law_tops_here","_law_aheads","_law_k","_law_v"] Xi (aH rz):={}
namespace D1
def a1k{T:cI}(nd:(T.map (·.1)).Nodup){x:dX×gJ}(h:x∈T):Al T x.1=some x.2:=by
 unfold Al
 induction T with
 |nil=>cases h
 |cons y T ih =>
  rw[cL,jB]at nd;rcases bZ.mp h with e|h
  ·rw[e,uI (by exact bA Z)];rfl
  ·rw[uJ (by exact λz=>nd.1 (fH.mpr ⟨x,h,(gV z).symm⟩))];exact ih nd.2 h
end D1
def Ŗ{K:aJ}{H:Hp}{ka kb:List (List Key×V)}{A B:cI}(ha:Bc H ka A)(hb:Bc H kb B)(e:D1.strip A=B)(nd:(A.map (·.1)).Nodup):ŕ K H ka kb where
 len:=by
  rw[aV ha,aV hb,<-e]
  unfold D1.strip
  rw[aK]
 hit:=λp hp=>by
  obtain⟨j,hj,rfl⟩:=rN hp
  obtain⟨x,hx,ek,q,eq,hq⟩:=bM ha (bF hj)
  have g:=D1.MT A x.1
  rw[D1.a1k nd (jz hx),e]at g
  have ek:ka[j].1=su x.1:=ek
  have eq:ka[j].2=.ref q:=eq
  rcases Hf x.1 hb with⟨_,e2⟩|⟨v,r,e1,e2,q',rfl,hq'⟩
  ·rw[e2]at g;cases g
  ·rw[e2]at g
   have g:r=D1.rw0 x.2:=dB g
   rw[g]at hq'
   exact⟨_,.tuple [.int x.2.m,.int x.2.b],by rw[ek];exact e1,by rw[eq];exact .tup (cQ.of hq) (.cons (.int _) (.cons (.int _) .nil)),.tup (cQ.of hq') (.cons (.int _) (.cons (.int _) .nil)),Z⟩
def Wh{H:Hp}{O:List (List Key×V)}{T:cI}(h:Bc H O T):Bc H O (D1.strip T):=by
 induction h with
 |nil=>exact .nil
 |cons a _ ih=>exact .cons a ih
def a6d{K:aJ}:PySem.W.kitOne K (.type "list") (.type "list")=some true:=by rfl
inductive ŗ(vs:List V)(H:Hp)(Q:VK)(u_3:XK):Prop
 |mk (kd:Int) (pT pS pw:Addr) (xs yt:List V) (ss:List bU) (Ts:List cI) (n:Nat) (ts:List bY) (ws:List Int) (_:vs=[.int kd,.ref pT,.ref pS,.ref pw]) (_:H pS=some (.lst xs)) (_:Paired (rW H) xs ss) (_:ss.length<=800) (_:H pT=some (.lst yt)) (_:Paired (VJ H) yt Ts) (_:Ts.length=ss.length) (_:Go.a1c n ts ss) (_:H pw=some (.lst (ws.map V.int))) (_:ws.length=n) (_:(∀k,k<ss.length->(∀x∈Ts.getD k [],sy 4 (Go.gR n ts ss k).length x.1)/\(Ts.getD k []).length<=900/\((Ts.getD k []).map (·.1)).Nodup)) (_:(∀(k i v:Nat),ss[k]?=some (.out v)->Go.qX n ts ss k=[i]->D1.strip (Ts.getD k [])=D1.yu kd ((Go.gR n ts ss i).idxOf (v:Int)) (ws.getD v 0) (D1.strip (Ts.getD i [])) [])) (_:∀H',aL H H'->Q (.bl true) H')
section
variable{K:aJ}
def Qs(B:Bl mg)(ZF:DZ7 K mg)(ZG:Dn K mg "_law_formed" j4 Rk)(ZK:Dn K mg "_law_behind" j5 Rm)(Ř:Dn K mg "_law_fits" rz Xi):bf P w K mg base fX 3 Ř.f Ř.fd Xi ŗ:=by
 have gZ7:bf P w K mg base fX 2 _ _ _ _:=(Qq B ZF).mono ();have gZ3:bf P w K mg base fX 2 _ _ _ _:=(Ku B ZG).mono ();have gZ1:bf P w K mg base fX 2 _ _ _ _:=(Kw B ZK).mono ();refine Ř.F.ok pK λdZ A outer s H vs Q E hr h=>?_;obtain⟨kd,pT,pS,pw,xs,yt,ss,Ts,n,ts,ws,rfl,hS,qS,l8,hT,qT,lT,R,hpw,lw,ok,due,q⟩:=h;have hu:(A.deeper (PyProof.Rows.envOfC "_law_fits" (aH rz) s⁻¹ Ř.f dZ)).units+66<cLine:=by have:=hr.un;omega
 refine⟨_,(aF (xQ (bw gZ7 hr Z ZF.m ZF.F.kp ZF.b .nil cA (J (pv 2) aj)) (Ă (K:=K) (n:=2) Z Z (b8 (aO 4 pK.nd) (b8 (aO 5 pK.nd) jw))))
   (aF (dF (PW.pt (Iz (tM (fW (K:=K) Z (bK (iZ (K:=K) Z) Z B.isinstance () (J (pv 1) (J (uw (v:=.ty "list") (u:=.type "list") Z B.list () Z) aj))) λ_=>rfl)) (Iw (aN Lr (bK (cP (K:=K) Z) Z B.len () (J (pv 1) aj)) (bK (cP (K:=K) Z) Z B.len () (J (pv 2) aj))))))
   (aD (bJ Bv))
   bQ)
   (aF (jD jf Z (iW Z B.range (J (bK (cP (K:=K) Z) Z B.len () (J (pv 2) aj)) aj)) (aO 6 pK.nd)
   (aF (dF (tM (fW (K:=K) Z (bw gZ3 hr Z ZG.m ZG.F.kp ZG.b .nil cA (J (aQ (bI (K:=K) Z) (pv 1) (pv 6)) (J (bK (cP (K:=K) Z) Z B.len () (J (aQ (bI (K:=K) Z) (pv 4) (pv 6)) aj)) aj))) λ_=>rfl))
   (aD (bJ Bv))
   bQ)
   (aD (dF (aN jE (aQ (aP (K:=K) Z) (aQ (bI (K:=K) Z) (pv 2) (pv 6)) aA) gw)
   (aF (bx 7 pK.nd (aQ (aP (K:=K) Z) (aQ (bI (K:=K) Z) (pv 2) (pv 6)) aA))
   (aD (dF (aN (a1j (K:=K) Z hu) (aQ (bI (K:=K) Z) (pv 1) (pv 6)) (bw gZ1 hr Z ZK.m ZK.F.kp ZK.b .nil cA (J (pv 0) (J (aQ (bI (K:=K) Z) (pv 1) (aQ (bI (K:=K) Z) (pv 5) (pv 6))) (J (mL (K:=K) Z j7 Sw Sx Eo (aQ (bI (K:=K) Z) (pv 4) (aQ (bI (K:=K) Z) (pv 5) (pv 6))) (J (pv 7) aj)) (J (aQ (bI (K:=K) Z) (pv 3) (pv 7)) aj))))))
   (aD (bJ Bv))
   bQ)))
   bQ))))
   (aD (bJ Bv))))),?_⟩
 have lx:=aV qS;have lyt:yt.length=ss.length:=(aV qT).trans lT;refine⟨_,Z,pS,xs,ss,n,ts,Z,hS,qS,l8,R,λr pt pa tx G sG hr hpt pTx hpa=>⟨r,[.ref pt,.ref pa],Z,bN.of hr,Z,_,_,Z,_,_,Z,Z,⟨_,Z,_,_,_,_,_,Z,Z,tR.lst (sG _ _ hT),a6d,_,Z,cY ⟨_,Z,pT,_,Z,.inl (bN.of (sG _ _ hT)),_,Z,pS,_,Z,.inl (bN.of (sG _ _ hS)),Z,_,Z,?_⟩⟩⟩⟩;rw[show(!decide (V.int ((yt.length:Nat):Int)=V.int ((xs.length:Nat):Int)))=false by rw[lyt,lx];simp];refine cY ⟨_,Z,pS,_,Z,.inl (bN.of (sG _ _ hS)),_,Z,(),(),?_⟩;rw[iU];have tp:=Go.RL R.cZ R.sb;refine yR (n:=xs.length) (λi σ G'=>(T2 (λo5 o6=>[some (.int kd),some (.ref pT),some (.ref pS),some (.ref pw),some (.ref pt),some (.ref pa),o5,o6]) σ)/\aL G G') ⟨⟨_,_,Z⟩,aL.refl _⟩ ?_ ?_
 ·rintro k σ G1 hk ⟨⟨o5,o6,rfl⟩,s1⟩;rw[show(0:Int)+(k:Int)=(k:Int) by omega];have kl:k<ss.length:=()
  have hs:=bF kl;obtain⟨vx,hvx,Xu,rfl,hst⟩:=cU qS hs;have SB:=R.sb k _ hs;generalize ss[k]=st at hs SB hst;have tabs:∀j,j<ss.length->∃p O,yt[j]?=some (.ref p)/\H p=some (.dT O)/\Bc H O (Ts.getD j []):=λj hj=>by
   have Ŧ:Ts[j]?=some (Ts.getD j []):=by rw[fM,bF ()];rfl
   obtain⟨v,hv,p,O,rfl,h1,h2⟩:=cU qT Ŧ;exact⟨p,O,hv,h1,h2⟩
  obtain⟨p,O,hyk,hpk,hWk⟩:=tabs k kl;have s01:=sG.trans s1;have htk:∀{k:Nat},k<ss.length->((List.range ss.length).map (Go.gR n ts ss))[k]?=some (Go.gR n ts ss k):=λ{k} kl=>by rw[dU,Nv kl];rfl
  obtain⟨vb,hvb,pb,rfl,hpb,_⟩:=cU pTx (htk kl);obtain⟨ok1,ok2,ok3⟩:=ok k kl;have b10:=λ{k:Nat} (kl:k<ss.length)=>a1D R.cZ (Go.zN (tp k kl).1) (tp k kl).2;refine⟨_,Z,_,Z,pT,_,_,_,Z,Z,bN.of (s01 _ _ hT),cu hyk,_,Z,_,Z,pt,_,_,_,Z,Z,bN.of (s1 _ _ hpt),cu hvb,pb,_,Z,.inl (bN.of (s1 _ _ hpb)),?_⟩;rw[aK];refine⟨p,_,O,Ts.getD k [],Z,s01 _ _ hpk,Paired.cC hWk λ_ _ z=>⟨z.1,z.2.keep (.of s01)⟩,λx hx=>(ok1 x hx).1,b10 kl,ok2,λG2 s2=>⟨_,Z,cY ?_⟩⟩;have s12:=s1.trans s2;have Ų:=sG.trans s12;refine⟨_,Z,_,Z,pS,_,_,_,Z,Z,bN.of (Ų _ _ hS),cu hvx,Xu,st.vs,0,.str st.word,Z,Z,cQ.of (Ų _ _ hst),zc st,Z,_,Z,?_⟩;rw[Up.a1H];by_cases c0:st.tag=3
  ·rw[bA c0];refine gZ ?_;obtain⟨v,i',rfl,ef,lt,mv⟩:∃v i',st=.out v/\Go.qX n ts ss k=[i']/\i'<k/\v∈Go.gR n ts ss i':=by
    cases SB with
    | @out i' v ef lt mv et=>exact⟨v,i',Z,ef,lt,mv⟩
    |_=>cases c0
   have il:i'<ss.length:=()
   have vb:=(tp i' il).2 v mv;obtain⟨u,rfl⟩:∃u:Nat,v=(u:Int):=⟨v.toNat,()⟩;obtain⟨p2,kv2,hy2,hp2,hW2⟩:=tabs i' il;obtain⟨oi1,oi2,oi3⟩:=ok i' il;obtain⟨vi,hvi,pi,rfl,hpi,_⟩:=cU pTx (htk il);have hai:((List.range ss.length).map λk=>Ű (Go.qX n ts ss k))[k]?=some (NI i'):=by rw[dU,Nv kl,Option.map_some,ef];rfl
   have a6e:=s12 _ _ hpi;have hS2:=Ų _ _ hS;have iv:=Am mv;have l10:(Go.gR n ts ss i').length<=1000:=by have:=b10 il;omega
   have ls:(D1.strip (Ts.getD i' [])).length<=900:=by unfold D1.strip;rw[aK];exact oi2
   have hwu:(ws.map V.int)[u]?=some (.int (ws.getD u 0)):=by
    rw[dU,bF (),fM,bF ()];rfl
   refine⟨_,Z,_,Z,pS,_,_,_,Z,Z,bN.of hS2,cu hvx,Xu,_,1,.int (u:Int),Z,Z,cQ.of (Ų _ _ hst),Z,⟨_,Z,_,Z,pT,_,_,_,Z,Z,bN.of (Ų _ _ hT),cu hyk,_,Z,_,Z,_,Z,_,Z,pa,_,_,_,Z,Z,bN.of (s12 _ _ hpa),cu hai,pT,_,_,_,Z,Z,bN.of (Ų _ _ hT),cu hy2,_,Z,_,Z,_,Z,pa,_,_,_,Z,Z,bN.of (s12 _ _ hpa),cu hai,pt,_,_,_,Z,Z,bN.of (s12 _ _ hpt),cu hvi,.inl ⟨Z,_,bN.of a6e⟩,_,Z,pi,_,(u:Int),_,Z,Z,a6e,iv.1,iv.2,l10,_,Z,_,Z,pw,_,_,_,Z,Z,bN.of (Ų _ _ hpw),cu hwu,⟨kd,p2,_,(Go.gR n ts ss i').length,_,kv2,D1.strip (Ts.getD i' []),Z,Ų _ _ hp2,Wh (Paired.cC hW2 λ_ _ z=>⟨z.1,z.2.keep (.of Ų)⟩),λx hx=>?_,Ao mv,b10 il,ls,λd kd2 G3 s3 hd hWd=>?_⟩⟩⟩
   ·obtain⟨y,hy,rfl⟩:=fH.mp hx;exact oi1 y hy
   have s03:=Ų.trans s3;rw[<-due k i' u hs ef]at hWd;exact⟨p,d,O,kd2,Z,Z,s03 _ _ hpk,hd,Ŗ (Paired.cC hWk λ_ _ z=>⟨z.1,z.2.keep (.of s03)⟩) hWd Z ok3,_,Z,cY ⟨⟨_,_,Z⟩,s12.trans s3⟩⟩
  ·rw[cJ c0];exact cY ⟨⟨_,_,Z⟩,s12⟩
 ·rintro σ G1 ⟨⟨o5,o6,rfl⟩,s1⟩;exact q _ (sG.trans s1)
end
namespace D1
def ř{κ:Type} [DecidableEq κ] {pq:PQ κ}{kd:Int}{n:Nat}{ts:List bY}{ss:List bU}{ws:List Int} (R:Go.a1c n ts ss) (tk:∀j,j<ss.length->zM pq (Go.gR n ts ss j).length ((Go.zE pq n ts ss ss.length).getD j []))
  (hb:ZJ kd pq.bt) (ht:∀{m:Nat}{s:dX}{p v:Nat},pq.Ok m s->p<m->pq.out s p v=(outF kd s p (ws.getD v 0)).toList) {k i v:Nat} (hs:ss[k]?=some (.out (v:Int))) (ef:Go.qX n ts ss k=[i]) :
  strip ((Go.zE pq n ts ss ss.length).getD k [])=yu kd ((Go.gR n ts ss i).idxOf (v:Int)) (ws.getD v 0) (strip ((Go.zE pq n ts ss ss.length).getD i [])) []:=by
 have kl:=(fL.mp hs).1;have tp:=Go.RL R.cZ R.sb;obtain⟨lt,mv,et⟩:i<k/\(v:Int)∈Go.gR n ts ss i/\Go.gR n ts ss k=mV (Go.gR n ts ss i) [(v:Int)]:=by
  have SB:=R.sb k _ hs;cases SB with
  |out ef' lt mv et =>
   rw[ef]at ef';cases ef';exact⟨lt,mv,et⟩
 have ei:(Go.zE pq n ts ss k).getD i []=(Go.zE pq n ts ss ss.length).getD i []:=(Go.Qe pq lt).trans (Go.Qe pq (uK lt kl)).symm;have ti:=tk i (uK lt kl);rw[Go.Qe pq kl,Go.Qd,getD_at hs,ef];show strip (nH pq (.out (v:Int)) (gj (Go.gR n ts ss k) (Go.gR n ts ss i)) ((Go.zE pq n ts ss k).getD i []) [])=_;rw[(Go.zp R.cZ (tp i ()).1 (tp i ()).2 λx hx=>by rw[et]at hx;exact(lG.mp hx).1).2,ei];exact Fe hb λx hx=>by rw[iU];exact ht (ti.ok x hx) (Ao mv)
end D1
def QAt(K:aJ)(CC CA CW:Addr)(kd:Int)(c n:Nat)(ts:List bY)(ws:List Int)(H:Hp)(d:Addr):Prop:=(kd=0->zK K CC [("many",.int c)] n ts ws H d)/\(kd=1->zK K CA [] n ts ws H d)/\(kd=2->zK K CW [] n ts ws H d)
def Gy(kd:Int)(c:Nat)(ws:List Int)(n:Nat)(ts:List bY)(ss:List bU):List cI:=if kd=0 then Go.zE (pqC c ws) n ts ss ss.length else if kd=1 then Go.zE (pqA ws) n ts ss ss.length else Go.zE (ū ws) n ts ss ss.length
structure a1L(kd:Int)(n:Nat)(ts:List bY)(ss:List bU)(ws:List Int)(Ts:List cI):Prop where
 len:Ts.length=ss.length
 ok:∀k,k<ss.length->((Ts.getD k []).map (·.1)).Nodup/\∀x∈Ts.getD k [],sy 4 (Go.gR n ts ss k).length x.1
 out:∀k i v:Nat,ss[k]?=some (.out (v:Int))->Go.qX n ts ss k=[i]->D1.strip (Ts.getD k [])=D1.yu kd ((Go.gR n ts ss i).idxOf (v:Int)) (ws.getD v 0) (D1.strip (Ts.getD i [])) []
inductive a1l(K:aJ)(CC CA CW:Addr)(vs:List V)(H:Hp)(Q:VK)(u_3:XK):Prop
 |mk (kd:Int) (c:Nat) (pL d:Addr) (xs:List V) (ss:List bU) (n:Nat) (ts:List bY) (ws:List Int) (_:vs=[.ref pL,.ref d]) (_:0<=kd) (_:kd<=2) (_:c<=4) (_:QAt K CC CA CW kd c n ts ws H d) (_:ws.length=n) (_:n<=10) (_:(∀t∈ts,t.1≠t.2)) (_:bN K H pL xs) (_:Paired (uT K H) xs ss) (_:ss.length<=800) (_:Bt n ts ss (cD n ts ss)=.ok) (_:(∀b∈(cD n ts ss).aR,b.length<=4)) (_:∀pT yt H',a1L kd n ts ss ws (Gy kd c ws n ts ss)->aL H H'->H' pT=some (.lst yt)->Paired (VJ H') yt (Gy kd c ws n ts ss)->Q (.ref pT) H')
def bf.exs{α:Type}{K:aJ}{CX:R5}{k:Nat}{f:Addr}{fd:FuncData}{ps:List Str}{sp:α->Sp}(F:∀a,bf P w K mg base CX k f fd ps (sp a)):bf P w K mg base CX k f fd ps (λvs H Q E=>∃a,sp a vs H Q E) :=
 ⟨λvs H Q E ⟨a,h⟩=>(F a).len vs H Q E h,λA outer s H args us vs Q E hr he hb hv ⟨a,hs⟩=>(F a).run A outer s H args us vs Q E hr he hb hv hs⟩
def bf.sub{K:aJ}{CX:R5}{k:Nat}{f:Addr}{fd:FuncData}{ps:List Str}{sp sp':Sp}(F:bf P w K mg base CX k f fd ps sp)(m:∀vs H Q E,sp' vs H Q E->sp vs H Q E):bf P w K mg base CX k f fd ps sp' :=
 ⟨λvs H Q E h=>F.len vs H Q E (m vs H Q E h),λA outer s H args us vs Q E hr he hb hv hs=>F.run A outer s H args us vs Q E hr he hb hv (m vs H Q E hs)⟩
structure Drw where
 n:Nat
 ts:List bY
 ws:List Int
 lw:ws.length=n
 c:Nat
 c4:c<=4
section
variable{n:Nat}{ts:List bY}{ss:List bU}
def Wi{K:aJ}{κ:Type} [DecidableEq κ] (Qn:Hg P w K mg base κ) (pk:CV Qn.pq) {kd:Int}{ws:List Int}{Ts:List cI} (en:Qn.n=n) (et:Qn.ts=ts) (eT:Ts=Go.zE Qn.pq n ts ss ss.length) (hPl:∀k:Nat,k<Qn.n->Qn.Pl k) (hTi:∀t∈Qn.ts,Qn.Ti t) (ne:∀t∈ts,t.1≠t.2) (cZ:n<=10) (l8:ss.length<=800) (qJ:Bt n ts ss (cD n ts ss)=.ok) (b4:∀b∈(cD n ts ss).aR,b.length<=4)
  (k4:∀{m s},Qn.pq.Ok m s->sy 4 m s) (hb:D1.ZJ kd Qn.pq.bt) (ht:∀{m:Nat}{s:dX}{p v:Nat},Qn.pq.Ok m s->p<m->Qn.pq.out s p v=(D1.outF kd s p (ws.getD v 0)).toList):a1L kd n ts ss ws Ts:=by
 subst en et eT;have R:=Go.a1G cZ qJ;have ga:=(Go.V3 Qn pk hPl hTi ne cZ l8 qJ b4 ss.length (aM _)).ok;exact⟨mX _ _ _ _ _,λk kl=>⟨(ga k kl).nd,λx hx=>k4 ((ga k kl).ok x hx)⟩,λk i v hs ef=>D1.ř R ga hb ht hs ef⟩
end
section
variable{K:aJ}
def Wj{c d:Int}(h:c<=d){m:Nat}{s:dX}(o:sy c m s):sy d m s:=⟨o.1,λx hx=>⟨(o.2 x hx).1,Int.lt_of_lt_of_le (o.2 x hx).2 h⟩⟩
def ZL(B:Bl mg)(Bz:mg "zip" = none)(bR:vB K mg)(dG:CN K mg)(dz:CP K mg)(U:Used w K mg)(Ct:ħ mg)(jV:Eu K mg)(jr:Dn K mg "is_below" fP tV)(ou:Dn K mg "joint" oU jU)(mO:Dn K mg "less" rT jU)(Hj:Dn K mg "bag_behind" fQ Cv)(vy:Dn K mg "run" FZ mR)(ur:Dn K mg "fault_behind" eY FN)(wU:Dn K mg "run_whole" lN mR)(wV:ĩ K mg)(zy:Dn K mg "run_narrow" mD mR)(vp:Dn K mg "states_behind" fZ FJ)(qu:Dn K mg "note" uR Cu)(wO:Dn K mg "fill_along" jP Js)(wB:Dn K mg "fill_joined" iC Jt)(xY:Dn K mg "going_up" nO Ju)(yp:a0P K mg)(zA:Dn K mg "tables" yj Mi)(jW:Dn K mg "with_number" eZ wI)(jX:Dn K mg "without_number" cX wJ):bf P w K mg base fX 12 zA.f zA.fd Mi (a1l K bR.C dG.C dz.C):=by
 have QC:=λx:Drw=>(EY (P:=P) (base:=base) B Bz Ct U (a3z B bR x.c4 x.n x.ts x.ws x.lw jW jX) jV jr ou mO Hj vy ur wU wV zy vp qu wO wB xY yp zA);have QA:=λx:Drw=>(EY (P:=P) (base:=base) B Bz Ct U (a3A B dG x.n x.ts x.ws x.lw jW jX) jV jr ou mO Hj vy ur wU wV zy vp qu wO wB xY yp zA);have QW:=λx:Drw=>(EY (P:=P) (base:=base) B Bz Ct U (a3B B Bz dz x.n x.ts x.ws x.lw jW jX) jV jr ou mO Hj vy ur wU wV zy vp qu wO wB xY yp zA);have G:=bf.either (bf.exs QC) (bf.either (bf.exs QA) (bf.exs QW));refine _root_.K.bf.sub G λvs H Q E h=>?_;obtain⟨kd,c,pL,d,xs,ss,n,ts,ws,rfl,k0,k2,c4,qa,lw,cZ,ne,hL,pL',l8,qJ,b4,q⟩:=h;rcases(show kd=0\/kd=1\/kd=2 by omega)with e|e|e
 ·have eT:Gy kd c ws n ts ss=Go.zE (pqC c ws) n ts ss ss.length:=by unfold Gy;rw[aG e]
  have Fc:=Wi (P:=P) (w:=w) (base:=base) (kd:=kd) (ws:=ws) (a3z B bR c4 n ts ws lw jW jX) (Go.okC c4 ws) Z Z eT (λk h=>h) (λ_ _=>trivial) ne cZ l8 qJ b4 (λ{m s} h=>Wj (c:=(c:Int)) () h) (by rw[e];exact D1.a1J ()) (λ{m s p v} _ _=>by rw[e];exact D1.a5Y);have g:=Go.QZ (P:=P) (w:=w) (base:=base) (a3z B bR c4 n ts ws lw jW jX) (Go.okC c4 ws) (λk h=>h) (λ_ _=>trivial) ne cZ l8 qJ b4;exact .inl ⟨⟨n,ts,ws,lw,c,c4⟩,d,pL,xs,ss,Z,qa.1 e,cZ,hL,pL',l8,qJ,b4,g.1,g.2,λpT yt H' s hT qT=>q pT yt H' Fc s hT (by rw[eT];exact qT)⟩
 ·have eT:Gy kd c ws n ts ss=Go.zE (pqA ws) n ts ss ss.length:=by unfold Gy;rw[aB (),aG e]
  have Fc:=Wi (P:=P) (w:=w) (base:=base) (kd:=kd) (ws:=ws) (a3A B dG n ts ws lw jW jX) (Go.okA ws) Z Z eT (λk h=>h) (λ_ _=>trivial) ne cZ l8 qJ b4 (λ{m s} h=>Wj (c:=2) () h) (by rw[e];exact D1.a1g) (λ{m s p v} _ _=>by rw[e];exact D1.a5Z);have g:=Go.QZ (P:=P) (w:=w) (base:=base) (a3A B dG n ts ws lw jW jX) (Go.okA ws) (λk h=>h) (λ_ _=>trivial) ne cZ l8 qJ b4;exact .inr (.inl ⟨⟨n,ts,ws,lw,0,()⟩,d,pL,xs,ss,Z,qa.2.1 e,cZ,hL,pL',l8,qJ,b4,g.1,g.2,λpT yt H' s hT qT=>q pT yt H' Fc s hT (by rw[eT];exact qT)⟩)
 ·have eT:Gy kd c ws n ts ss=Go.zE (ū ws) n ts ss ss.length:=by unfold Gy;rw[aB (),aB ()]
  have Fc:=Wi (P:=P) (w:=w) (base:=base) (kd:=kd) (ws:=ws) (a3B B Bz dz n ts ws lw jW jX) (Go.okW ws) Z Z eT (λk h=>h) (λ_ _=>trivial) ne cZ l8 qJ b4 (λ{m s} h=>Wj (c:=3) () h) (by rw[e];exact D1.a1J ()) (λ{m s p v} h hp=>by rw[e];exact D1.a6a h hp);have g:=Go.QZ (P:=P) (w:=w) (base:=base) (a3B B Bz dz n ts ws lw jW jX) (Go.okW ws) (λk h=>h) (λ_ _=>trivial) ne cZ l8 qJ b4;exact .inr (.inr ⟨⟨n,ts,ws,lw,0,()⟩,d,pL,xs,ss,Z,qa.2.2 e,cZ,hL,pL',l8,qJ,b4,g.1,g.2,λpT yt H' s hT qT=>q pT yt H' Fc s hT (by rw[eT];exact qT)⟩)
end
structure PSw(X:Cx)(s:Stmt)(t:TS):Prop where
 h:PS X s t
structure ZM(X:Cx)(ss:List Stmt)(t:TS):Prop where
 h:Qz X ss t
def Ś:ZM X [] Ç:=⟨bQ⟩
def j6{s:Stmt}{ss:List Stmt}{t:TS}{ts:TS}(h:PSw X s t)(hs:ZM X ss ts):ZM X (s::ss) (a1V t ts):=⟨aF h.h hs.h⟩
def yw{s:Stmt}{ss:List Stmt}{t:TS}{ts:TS}(h:PSw X s t)(hs:ZM X ss ts):ZM X (s::ss) (a4L t ts):=⟨lW h.h hs.h⟩
abbrev pN:Stmt:=top 48
def m9:bD ["_law_script","_law_n","_law_weights_here","_law_v","_law_cell"] Xj (aH pN):={}
abbrev X7:Stmt:=top 49
def lU:bD ["_law_script","_law_n","_law_most","_law_rows_here","_law_web","_law_steps","_law_v","_law_weights_here","_law_handed","_law_kind","_law_question"] ["_law_script"] (aH X7):={}
def Qt{G G0 G':Hp}{d:Addr}(s:aL G G0)(f:G d=none)(h:Sd d G0 G'):aL G G':=λc o e=>h c o (λz=>by rw[z,f]at e;cases e) (s c o e)
def tp4{n:Nat}{ts:List bY}{ss:List bU}(b4:∀b∈(cD n ts ss).aR,b.length<=4)(k:Nat):(Go.gR n ts ss k).length<=4:=by
 show((cD n ts ss).aR.getD k []).length<=4;rw[fM];by_cases c:k<(cD n ts ss).aR.length
 ·rw[bF c];exact b4 _ (mJ c)
 ·rw[List.getElem?_eq_none ()];exact dw _
inductive a1m(K:aJ)(vs:List V)(H:Hp)(Q:VK)(u_3:XK):Prop
 |mk (a:Addr) (ns:List Int) (n:Nat) (_:vs=[.ref a,.int n]) (_:Yy K H a ns) (_:ns.length<=63) (_:n<=10) (_:∀(r:Addr) (ws:List Int) (H':Hp),aL H H'->H' r=some (.lst (ws.map V.int))->ws.length=n->(∀x∈ws,0<=x/\x<10^30)->Q (.ref r) H')
def Sdh(hv:V)(H H':Hp):Prop:=∀c u,hv≠.ref c->H c=some u->H' c=some u
def Sdh.kpt{hv:V}{H H' G:Hp}(k:Sdh hv H' G)(h:∀c,hv=.ref c->∃ys ys',H c=some (.lst ys)/\H' c=some (.lst ys')):Kpt H H' G:=λc u hc e=>by
 refine k c u (λz=>?_) e;obtain⟨ys,ys',h1,h2⟩:=h c z;rcases hc with w|w
 ·rw[w]at h1;cases h1
 ·rw[h2]at e;exact w ys' (dB e).symm
section
variable{K:aJ}
def Gz(B:Bl mg)(mZ:Dn K mg "_law_at" qG Jv)(ų:Dn K mg "_law_weights" pN Xj):bf P w K mg base fX 2 ų.f ų.fd Xj (a1m K):=by
 have Ql:bf P w K mg base fX 1 _ _ _ _:=wG B mZ;refine ų.F.ok m9 λdZ A outer s H vs Q E hr h=>?_;obtain⟨a,ns,n,rfl,hS,h63,cZ,q⟩:=h;refine⟨_,(aF (bx 2 m9.nd (cG aj))
   (aF (jD jf Z (iW Z B.range (J (pv 1) aj)) (aO 3 m9.nd)
   (aF (bx 4 m9.nd (bw Ql hr Z mZ.m mZ.F.kp mZ.b .nil cA (J (pv 0) (J (aZ fj aA (pv 3)) aj))))
   (aD (dF (aN jE (aZ gW (pv 4) aA) aA)
   (aD (gA (mL (K:=K) Z j7 PySem.F.slot_list_append PySem.F.type_list_append iI (pv 2) (J (aZ tQ (aZ Ou (aZ Uk aA aA) aA) (aZ gW (aZ GF (pv 4) aA) aA)) aj))))
   (aD (gA (mL (K:=K) Z j7 PySem.F.slot_list_append PySem.F.type_list_append iI (pv 2) (J (aZ gW (aZ GF (pv 4) aA) (aZ Uk aA aA)) aj))))))))
   (aD (bJ (pv 2))))),?_⟩
 refine⟨(),λr H0 nw=>?_⟩;refine⟨_,Z,_,Z,(),(),?_⟩;rw[iU];refine ug (n:=n) (λi σ G=>∃(o3 o4:Option V) (ws:List Int),σ=[some (.ref a),some (.int n),some (.ref r),o3,o4]/\aL H G/\G r=some (.lst (ws.map V.int))/\ws.length=i/\∀x∈ws,0<=x/\x<10^30) ⟨_,_,[],Z,nw.same,nw.here,Z,λx h=>absurd h dO⟩ ?_ ?_
 ·rintro D1 i σ G hi ⟨o3,o4,ws,rfl,sG,hr2,lw,wb⟩ dn _;refine⟨_,Z,_,Z,_,_,Z,Z,a,ns,_,Z,hS.same sG,h63,(),(),λz=>?_⟩;have fin:∀(x:Int) (G2:Hp),0<=x->x<10^30->uZ G r (.lst (ws.map V.int++[V.int x])) G2->D1.nx [some (.ref a),some (.int n),some (.ref r),some (.int (0+(i:Int))),some (.int z)] G2:=λx G2 x0 x1 cg=>dn _ _ ⟨_,_,ws++[x],Z,sG.chg nw.fresh cg,by rw[cg.here,dW];rfl,by rw[cB,lw];rfl,λy hy=>by
   rcases cH.mp hy with h|h
   ·exact wb y h
   ·rw[bG.mp h];exact⟨x0,x1⟩⟩
  have a0:=oH (z/3) (show(2:Int)≠0 by decide);have a1:=qi (z/3) (show(0:Int)<2 by decide);have b0:=oH (z/3) (show(10^30:Int)≠0 by decide);have b1:=qi (z/3) (show(0:Int)<10^30 by decide);refine⟨_,Z,_,_,Z,Z,(show(0:Int)<_ by decide),Z,_,Z,uO (λc=>?_) λc=>?_⟩
  ·refine⟨_,Z,.inl ⟨Z,_,bN.of hr2⟩,_,_,Z,Z,⟨(),(),()⟩,_,_,Z,Z,_,Z,_,_,Z,Z,⟨(),()⟩,_,_,Z,Z,(show(0:Int)<_ by decide),_,_,Z,Z,.inr ⟨(),()⟩,r,_,_,Z,Z,hr2,(by rw[aK,lw];omega),λG2 cg=>fin _ G2 ?_ ?_ cg⟩
   ·exact Int.mul_nonneg () a0
   ·have:z/3%2=0\/z/3%2=1:=()
    rcases this with e|e
    ·show(10^30-1:Int)*(z/3%2)<_;rw[e];decide
    ·show(10^30-1:Int)*(z/3%2)<_;rw[e];decide
  ·exact⟨_,Z,.inl ⟨Z,_,bN.of hr2⟩,_,Z,_,_,Z,Z,⟨(),()⟩,_,_,Z,Z,⟨(),(),()⟩,_,_,Z,Z,(show(0:Int)<10^30 by decide),r,_,_,Z,Z,hr2,(by rw[aK,lw];omega),λG2 cg=>fin _ G2 b0 b1 cg⟩
 ·rintro σ G ⟨o3,o4,ws,rfl,sG,hr2,lw,wb⟩;exact⟨_,Z,q r ws G sG hr2 lw wb⟩
def a3U(B:Bl mg)(Bz:mg "zip" = none)(cF:qC K mg)(bR:vB K mg)(dG:CN K mg)(dz:CP K mg)(U:Used w K mg)(Ct:ħ mg)(jV:Eu K mg)(jr:Dn K mg "is_below" fP tV)(ou:Dn K mg "joint" oU jU)(mO:Dn K mg "less" rT jU)(Hj:Dn K mg "bag_behind" fQ Cv)(vy:Dn K mg "run" FZ mR)(ur:Dn K mg "fault_behind" eY FN)(wU:Dn K mg "run_whole" lN mR)(wV:ĩ K mg)(zy:Dn K mg "run_narrow" mD mR)(vp:Dn K mg "states_behind" fZ FJ)(qu:Dn K mg "note" uR Cu)(wO:Dn K mg "fill_along" jP Js)(wB:Dn K mg "fill_joined" iC Jt)(xY:Dn K mg "going_up" nO Ju)(yp:a0P K mg)(zA:Dn K mg "tables" yj Mi)(sW:Dn K mg "weights_of" jQ FQ)(jW:Dn K mg "with_number" eZ wI)(jX:Dn K mg "without_number" cX wJ)(mZ:Dn K mg "_law_at" qG Jv)(Ů:Dn K mg "_law_rows" uG Xg)(ň:Dn K mg "_law_ties" qZ Xh)(Gd:Dn K mg "_law_laid" lR Cw)(ZF:DZ7 K mg)(ZG:Dn K mg "_law_formed" j4 Rk)(ZK:Dn K mg "_law_behind" j5 Rm)(Ř:Dn K mg "_law_fits" rz Xi)(ų:Dn K mg "_law_weights" pN Xj)(Wk:Dn K mg "law" X7 ["_law_script"]):bf P w K mg base fX 24 Wk.f Wk.fd ["_law_script"] (a1t K):=by
 have Ql:bf P w K mg base fX 23 _ _ _ _:=(wG B mZ).mono ();have gZ5:bf P w K mg base fX 23 _ _ _ _:=(Qk B mZ Ů).mono ();have gZ6:bf P w K mg base fX 23 _ _ _ _:=(Qo B mZ ň).mono ();have gZ4:bf P w K mg base fX 23 _ _ _ _:=(Dh B Gd 20).mono ();have gZ8:bf P w K mg base fX 23 _ _ _ _:=(Gz B mZ ų).mono ();have gZ2:bf P w K mg base fX 23 _ _ _ _:=(Qs B ZF ZG ZK Ř).mono ();have Br:bf P w K mg base fX 22 _ _ _ _:=(Gx B Ct cF bR jV jr sW).mono ();have Fg:bf P w K mg base fX 22 _ _ _ _:=(Lj B Ct cF dG jV jr sW).mono ();have Fi:bf P w K mg base fX 22 _ _ _ _:=(Lk B Ct cF dz jV jr sW).mono ();have a7k:bf P w K mg base fX 23 _ _ _ _:=(ZL B Bz bR dG dz U Ct jV jr ou mO Hj vy ur wU wV zy vp qu wO wB xY yp zA jW jX).mono ();refine Wk.F.ok lU λdZ A outer s H vs Q E hr h=>?_;obtain⟨a,ns,rfl,hS,h63,q⟩:=h;have hu:(A.deeper (PyProof.Rows.envOfC "law" (aH X7) s⁻¹ Wk.f dZ)).units+64<cLine:=by have:=hr.un;omega
 refine⟨_,(ZM.h (j6 ⟨(bx 1 lU.nd (aZ gW (bw Ql hr Z mZ.m mZ.F.kp mZ.b .nil cA (J (pv 0) (J aA aj))) aA))⟩
   (j6 ⟨(bx 2 lU.nd (aZ fj aA (aZ gW (bw Ql hr Z mZ.m mZ.F.kp mZ.b .nil cA (J (pv 0) (J aA aj))) aA)))⟩
   (yw ⟨(dF (aN jE (aZ gW (aZ GF (bw Ql hr Z mZ.m mZ.F.kp mZ.b .nil cA (J (pv 0) (J aA aj))) aA) aA) aA)
   (aF (bx 1 lU.nd aA)
   (aD (bx 2 lU.nd (aZ fj aA (aZ gW (pv 2) aA)))))
   bQ)⟩
   (j6 ⟨(bx 3 lU.nd (bw gZ5 hr Z Ů.m Ů.F.kp Ů.b .nil cA (J (pv 0) (J (pv 1) (J (pv 2) aj)))))⟩
   (j6 ⟨(bx 4 lU.nd (bB (J (pv 1) (J (bw gZ6 hr Z ň.m ň.F.kp ň.b .nil cA (J (pv 0) (J (pv 3) (J (pv 1) aj)))) aj))))⟩
   (j6 ⟨(bx 5 lU.nd (aZ lX (bw gZ4 hr Z Gd.m Gd.F.kp Gd.b .nil cA (J (aQ (aP (K:=K) Z) (pv 4) aA) (J (pv 3) (J aA (J (vW jE (aZ gW (bw Ql hr Z mZ.m mZ.F.kp mZ.b .nil cA (J (pv 0) (J aA aj))) aA) aA) aj))))) (kJ ["_law_v"] [none]  (by kernel_rfl) Z (gk (K:=K) Z (aQ (aP (K:=K) Z) (aQ (bI (K:=K) Z) (pv 3) aA) aA)) (λ_ _ _ _ _=>(aO 0 (show(["_law_v"]:List Str).Nodup by decide))) (λ_ _ _ _ _=>gM) λ_ _ _ _ _=>(bB (J gw (J (pv 0) aj))))))⟩
   (j6 ⟨(bx 7 lU.nd (bw gZ8 hr Z ų.m ų.F.kp ų.b .nil cA (J (pv 0) (J (pv 1) aj))))⟩
   (j6 ⟨(bx 8 lU.nd (jY (wu (K:=K) Z) Z B.list () (J (pv 7) aj)))⟩
   (yw ⟨(dF (aN jE (aZ gW (bw Ql hr Z mZ.m mZ.F.kp mZ.b .nil cA (J (pv 0) (J aA aj))) aA) aA)
   (aF (Jd (i:=7) ["_law_v"] [none] lU.nd Z Z (by kernel_rfl) Z (iW Z B.range (J (pv 1) aj)) (λ_ _ _ _ _=>(aO 0 (show(["_law_v"]:List Str).Nodup by decide))) (λ_ _ _ _ _=>gM) (λ_ _ _ _ _=>aA) (by rfl))
   (aD (bx 8 lU.nd ql)))
   bQ)⟩
   (j6 ⟨(bx 9 lU.nd (aZ gW (bw Ql hr Z mZ.m mZ.F.kp mZ.b .nil cA (J (pv 0) (J aA aj))) aA))⟩
   (j6 ⟨(bx 10 lU.nd (Ov dz.ũ Fi hr Z dz.m dz.bO.b .nil cA (J (pv 4) (J (pv 8) aj))))⟩
   (yw ⟨(dF (aN jE (pv 9) aA)
   (aD (bx 10 lU.nd (Ov bR.ũ Br hr Z bR.m bR.bO.b .nil cA (J (pv 4) (J (aZ fj aA (aZ gW (bw Ql hr Z mZ.m mZ.F.kp mZ.b .nil cA (J (pv 0) (J aA aj))) aA)) (J (pv 8) aj))))))
   bQ)⟩
   (yw ⟨(dF (aN jE (pv 9) aA)
   (aD (bx 10 lU.nd (Ov dG.ũ Fg hr Z dG.m dG.bO.b .nil cA (J (pv 4) (J (pv 8) aj)))))
   bQ)⟩
   (yw ⟨(dF (aN Wv (pv 8) ql)
   (aF (dF (aN (O4 (K:=K) Z hu) (pv 8) (pv 7))
   (aD (bJ Bv))
   bQ)
   (aD (jD jf Z (iW Z B.range (J (pv 1) aj)) (aO 6 lU.nd)
   (aD (xQ (aZ gW (aZ fj (aQ (bI (K:=K) Z) (pv 8) (pv 6)) aA) (aZ Uk aA aA)) (Ot (pv 8) (pv 6) YB))))))
   bQ)⟩
   (j6 ⟨(bJ (bw gZ2 hr Z Ř.m Ř.F.kp Ř.b .nil cA (J (pv 9) (J (bw a7k hr Z zA.m zA.F.kp zA.b .nil cA (J (pv 5) (J (pv 10) aj))) (J (pv 5) (J (pv 7) aj))))))⟩
   Ś)))))))))))))))),?_⟩
 refine⟨_,Z,a,ns,0,Z,hS,h63,(),(),λz0=>⟨_,_,Z,Z,(show(0:Int)<_ by decide),?_⟩⟩;refine⟨_,Z,a,ns,1,Z,hS,h63,(),(),λz1=>⟨_,_,Z,Z,(show(0:Int)<_ by decide),_,_,Z,Z,?_⟩⟩;have u0:=oH z0 (show(7:Int)≠0 by decide);have u1:=qi z0 (show(0:Int)<7 by decide);have w0:=oH z1 (show(3:Int)≠0 by decide);have w1:=qi z1 (show(0:Int)<3 by decide);refine Et (P:=λσ' H'=>∃(n most:Nat),σ'=[some (.ref a),some (.int (n:Int)),some (.int (most:Int)),none,none,none,none,none,none,none,none]/\H'=H/\n<=10/\2<=most/\most<=4) λJ1 ji ij=>⟨J1,?_,?_⟩
 ·obtain⟨n0,e0⟩:∃n0:Nat,z0%7=(n0:Int):=⟨(z0%7).toNat,()⟩;obtain⟨m0,e1⟩:∃m0:Nat,2+z1%3=(m0:Int):=⟨(2+z1%3).toNat,()⟩;have v0:=oH (2+z1%3) (show(2:Int)≠0 by decide);have v1:=qi (2+z1%3) (show(0:Int)<2 by decide);obtain⟨mm,em⟩:∃mm:Nat,2+(2+z1%3)%2=(mm:Int):=⟨(2+(2+z1%3)%2).toNat,()⟩;refine⟨_,Z,a,ns,0,Z,hS,h63,(),(),λz2=>⟨_,_,Z,Z,⟨(),()⟩,_,_,Z,Z,(show(0:Int)<_ by decide),Z,_,Z,uO (λc=>?_) λc=>?_⟩⟩
  ·exact⟨_,Z,_,_,Z,Z,(show(0:Int)<_ by decide),_,_,Z,Z,ji _ _ ⟨10,mm,by rw[<-em];rfl,Z,(),(),()⟩⟩
  ·exact ji _ _ ⟨n0,m0,by rw[<-e0,<-e1];rfl,Z,(),(),()⟩
 intro σ1 H1 h1;obtain⟨n,most,rfl,rfl,cZ,m2,m4⟩:=ij _ _ h1;clear ji ij h1;refine⟨_,Z,_,Z,_,Z,a,ns,n,most,Z,hS,h63,cZ,(),(),λl ys rs H2 s2 fl hl pl R r20=>?_⟩;refine⟨_,Z,_,Z,_,Z,_,Z,a,l,ns,ys,rs,n,Z,hS.same s2,h63,hl,pl,(),cZ,λr tx ts H4 s4 fr hr4 pt tbd nd bi l45=>?_⟩;refine⟨(),λpg H5 n5=>?_⟩;have s25:=s4.trans n5.same;have s05:=s2.trans s25;have hr5:=n5.same _ _ hr4;have pt5:=Paired.cC pt λ_ _ h=>pX.same n5.same h;have T:=R.T;have hl5:=s25 _ _ hl;have pl5:=Paired.cC pl λ_ _ h=>O6.same s25 h;have hg5:=n5.here;refine⟨_,Z,pg,_,1,.ref r,Z,Z,cQ.of hg5,Z,_,Z,_,Z,a,ns,7,Z,hS.same s05,h63,(),(),λz7=>⟨_,_,Z,Z,(show(0:Int)<_ by decide),Z,?_⟩⟩;obtain⟨early,eea⟩:∃early:Bool,decide (V.int (z7%2)=V.int 1)=early:=⟨_,Z⟩;dsimp only;rw[eea];refine⟨r,l,tx,ys,ts,rs,n,most,0,early,Z,hr5,pt5,(),hl5,pl5,R,m4,r20,cZ,T.pos,(),λp4 x4 H7 s7 f4 h4 q4=>?_⟩;obtain⟨v0,hx0,⟨pk,bk,rfl,hTk,hbk,nbk,lbk⟩⟩:=cU pl5 (u6 T.pos);refine⟨_,Z,l,_,_,_,Z,Z,bN.of (s7 _ _ hl5),cu (j:=0) hx0,pk,_,_,_,Z,Z,cQ.of (s7 _ _ hTk),Z,bk,Z,⟨_,bN.of (s7 _ _ hbk)⟩,?_⟩;have hW4:∀j,(dN rs j).length<=4:=λj=>cV (R.few j) m4;have b10:(dN rs 0).length<=4:=hW4 0;refine Hv (dN rs 0) (λ_=>true) bU.out (bN.of (s7 _ _ hbk)) () (λv H8 N Z98 _ s8 hN hM=>⟨_,Z,(),λp H9 n9=>hN Z p H9 n9⟩) (λH8 p5 x5 H9 s8 n9 q9=>?_);rw[List.filter_eq_self.mpr (λ_ _=>rfl)]at q9;have s79:=s8.trans n9.same;have l4:=aV q4;have l9:=aV q9;rw[aK]at l9;have ll:=MN T hW4 r20 1 early (show ts.length<=100 by omega) (f:=20) T.pos;refine⟨p4,p5,_,_,Z,Z,s79 _ _ h4,n9.here,(),λpW R9 nW=>?_⟩;have a6f:=s7.trans (s79.trans nW.same);obtain⟨ss,ess⟩:∃ss,ss=Bp 1 early ts rs.length (wY rs) (dN rs) 20:=⟨_,Z⟩;have qW:Paired (rW R9) (x4++x5) ss:=by
  rw[ess];exact iJ (Paired.cC q4 λ_ _ h=>rW.same (s79.trans nW.same) h) (Paired.cC q9 λ_ _ h=>rW.same nW.same h)
 have lss:ss.length<=800:=by
  rw[<-aV qW,cB];omega
 obtain⟨qJ,b4⟩:=Zy (n:=n) (wd:=4) (ts:=ts) T cZ hW4 nd (λt ht=>bi t ht) (λv v0 vn=>(R.cov v v0 vn).resolve_left dO) (show rs.length<=20 from r20) 1 early;rw[<-ess]at qJ b4;have RP:=Go.a1G cZ qJ;have a3V:=s05.trans a6f;have xl:=aV qW;refine⟨_,Z,_,Z,a,ns,n,Z,hS.same a3V,h63,cZ,λpw0 ws0 H11 ZV a3W lw0 wb0=>⟨_,Z,pw0,_,Z,.inl (bN.of a3W),λph0 ZS n12=>?_⟩⟩;have s12:=ZV.trans n12.same;have a7l:VN n (some ws0)=true:=by
  unfold VN;rw[qj,d7,DN];refine⟨lw0,λx hx=>?_⟩;have:=wb0 x hx;rw[qj,d7,d7];exact⟨this.1,this.2⟩
 refine Et (P:=λσ' G=>∃(pw:Addr) (hv:V) (o:Option (List Int)),σ'=[some (.ref a),some (.int (n:Int)),some (.int (most:Int)),some (.ref l),some (.ref pg),some (.ref pW),none,some (.ref pw),some hv,none,none]/\aL R9 G/\G pw=some (.lst ((VP n o).map V.int))/\(VP n o).length=n/\VN n o=true/\((o=none/\hv=.non)\/∃ph ws,o=some ws/\hv=.ref ph/\G ph=some (.lst (ws.map V.int))/\ph≠pw/\R9 ph=none)) λJ2 ji ij=>⟨J2,?_,?_⟩
 ·refine⟨_,Z,a,ns,8,Z,hS.same (a3V.trans s12),h63,(),(),λz8=>⟨_,_,Z,Z,(show(0:Int)<_ by decide),Z,_,Z,uO (λc=>?_) λc=>?_⟩⟩
  ·refine⟨_,Z,_,Z,(),(),?_⟩;rw[iU];refine xT (λi zs H'=>H'=ZS/\zs=(List.replicate i (1:Int)).map V.int) ⟨Z,Z⟩ (λi zs H' hi ⟨e,e1⟩=>?_) (λi zs H' hi ⟨e,e1⟩=>?_) ?_
   ·rw[e1,aK,S5];exact eO (cO ())
   ·exact⟨e,by rw[e1,List.replicate_succ',dW];rfl⟩
   rintro zs H' ⟨rfl,rfl⟩ p1 hp1;have m1:=iQ.pQ (H:=H') (p:=p1) (o:=.lst ((List.replicate n (1:Int)).map V.int)) hp1;generalize cN H' p1 (.lst ((List.replicate n (1:Int)).map V.int))=VH at m1 ⊢;exact ji _ _ ⟨p1,.non,none,Z,s12.trans m1.same,m1.here,S5,Z,.inl ⟨Z,Z⟩⟩
  ·exact ji _ _ ⟨pw0,.ref ph0,some ws0,Z,s12,n12.same _ _ a3W,lw0,a7l,.inr ⟨ph0,ws0,Z,Z,n12.here,(λz=>by have:=n12.fresh;rw[z,a3W]at this;cases this),ZV.free n12.fresh⟩⟩
 intro σ2 VH h1;obtain⟨pw,hv,o,rfl,wC,a7m,lwt,wok,hvo⟩:=ij _ _ h1;clear ji ij h1;have lo:∀ws,o=some ws->ws.length<=200:=λws e=>by subst e;have:ws.length=n:=lwt;omega
 have hold:∀{G:Hp},aL VH G->WtV K G hv o:=λ{G} s=>by
  rcases hvo with⟨rfl,rfl⟩|⟨ph,ws,rfl,rfl,h,_⟩
  ·exact rfl
  ·exact⟨ph,Z,bN.of (s _ _ h)⟩
 have nh:∀{c:Addr}{u:HO},R9 c=some u->hv≠.ref c:=λ{c u} h z=>by
  rcases hvo with⟨_,rfl⟩|⟨ph,ws,_,rfl,_,_,f⟩
  ·cases z
  ·cases z;rw[f]at h;cases h
 have lst:∀{G:Hp},aL VH G->∀c,hv=.ref c->∃ys,G c=some (.lst ys):=λ{G} s c z=>by
  rcases hvo with⟨_,rfl⟩|⟨ph,ws,_,rfl,h,_,f⟩
  ·cases z
  ·cases z;exact⟨_,s _ _ h⟩
 have a3X:=a6f.trans wC;have web:∀{G:Hp},aL VH G->cQ K G pg [.int n,.ref r]/\G r=some (.lst tx)/\Paired (pX G) tx ts:=λ{G} s=>⟨cQ.of ((a3X.trans s) _ _ hg5),(a3X.trans s) _ _ hr5,Paired.cC pt5 λ_ _ h=>pX.same (a3X.trans s) h⟩;have a6g:=a3V.trans wC;have ltx:=aV pt5;refine⟨_,Z,a,ns,5,Z,hS.same a6g,h63,(),(),λz5=>⟨_,_,Z,Z,(show(0:Int)<_ by decide),?_⟩⟩;have k0:=oH z5 (show(3:Int)≠0 by decide);have k1:=qi z5 (show(0:Int)<3 by decide);obtain⟨kd,ekd⟩:∃kd:Int,z5%3=kd:=⟨_,Z⟩;dsimp only;rw[ekd];rw[ekd]at k0 k1;refine⟨_,Z,_,Z,λd2 ť f2 fx2 ne2=>?_⟩;have s2':aL VH (cN (cN VH ť (.own d2)) d2 (.ins dz.C ť [])):=(qN fx2 _).trans (qN (by rw[aW (Ne.symm ne2)];exact f2) _);have hd2:cN (cN VH ť (.own d2)) d2 (.ins dz.C ť []) d2=some (.ins dz.C ť []):=dD;generalize cN (cN VH ť (.own d2)) d2 (.ins dz.C ť [])=G2 at s2' hd2 ⊢;obtain⟨w1,w2,w3⟩:=web s2';refine⟨d2,ť,pg,r,n,tx,ts,hv,o,Z,hd2,w1,w2,w3,(),(),hold s2',lo,wok,λMt sd2 at2=>⟨Z,?_⟩⟩;have Dr:=Qt s2' f2 sd2;refine Et (P:=λσ' G=>∃(d c:Nat),σ'=[some (.ref a),some (.int (n:Int)),some (.int (most:Int)),some (.ref l),some (.ref pg),some (.ref pW),none,some (.ref pw),some hv,some (.int kd),some (.ref d)]/\aL VH G/\c<=4/\(kd=0->∀G',Sdh hv G G'->zK K bR.C [("many",.int c)] n ts (VP n o) G' d)/\(kd≠0->∀G',Sdh hv G G'->zK K dz.C [] n ts (VP n o) G' d)) λJ3 ji ij=>⟨J3,?_,?_⟩
 ·refine⟨_,Z,Z,_,Z,uO (λe=>?_) λe=>?_⟩
  ·have e':kd=0:=V.int.inj (gV e);refine⟨_,Z,_,Z,a,ns,6,Z,hS.same (a6g.trans Dr),h63,(),(),λz6=>⟨_,_,Z,Z,(show(0:Int)<_ by decide),_,_,Z,Z,_,Z,λd0 dx0 f0 fx0 ne0=>?_⟩⟩;have y0:=oH z6 (show(4:Int)≠0 by decide);have y1:=qi z6 (show(0:Int)<4 by decide);obtain⟨c,ec⟩:∃c:Nat,1+z6%4=(c:Int):=⟨(1+z6%4).toNat,()⟩;dsimp only;rw[ec];have s0:aL Mt (cN (cN Mt dx0 (.own d0)) d0 (.ins bR.C dx0 [])):=(qN fx0 _).trans (qN (by rw[aW (Ne.symm ne0)];exact f0) _);have hd0:cN (cN Mt dx0 (.own d0)) d0 (.ins bR.C dx0 []) d0=some (.ins bR.C dx0 []):=dD;generalize cN (cN Mt dx0 (.own d0)) d0 (.ins bR.C dx0 [])=G0 at s0 hd0 ⊢;have a3Y:=Dr.trans s0;obtain⟨w1,w2,w3⟩:=web a3Y;refine⟨d0,dx0,pg,r,n,c,tx,ts,hv,o,Z,(),hd0,w1,w2,w3,(),(),hold a3Y,lo,wok,λH15 sd0 at0=>⟨Z,?_⟩⟩;have s15:=Dr.trans (Qt s0 f0 sd0);exact ji _ _ ⟨d0,c,Z,s15,(),λ_ G' k=>at0 G' (k.kpt λc z=>by
    obtain⟨ys,h1⟩:=lst a3Y c z;obtain⟨ys',h2⟩:=lst s15 c z;exact⟨ys,ys',h1,h2⟩),λz=>absurd e' z⟩
  ·have e':¬kd=0:=λz=>e (bA (congrArg V.int z));exact ji _ _ ⟨d2,0,Z,Dr,(),λz=>absurd z e',λ_ G' k=>at2 G' (k.kpt λc z=>by
    obtain⟨ys,h1⟩:=lst s2' c z;obtain⟨ys',h2⟩:=lst Dr c z;exact⟨ys,ys',h1,h2⟩)⟩
 clear at2 sd2 Dr hd2 s2' w1 w2 w3;intro σ3 Mt h1;obtain⟨d3,c,rfl,Dr,c4,at3,at4⟩:=ij _ _ h1;clear ji ij h1;refine Et (P:=λσ' G=>∃d:Addr,σ'=[some (.ref a),some (.int (n:Int)),some (.int (most:Int)),some (.ref l),some (.ref pg),some (.ref pW),none,some (.ref pw),some hv,some (.int kd),some (.ref d)]/\aL VH G/\∀G',Sdh hv G G'->QAt K bR.C dG.C dz.C kd c n ts (VP n o) G' d) λJ4 ji ij=>⟨J4,?_,?_⟩
 ·refine⟨_,Z,Z,_,Z,uO (λe=>?_) λe=>?_⟩
  ·have e':kd=1:=V.int.inj (gV e);refine⟨_,Z,_,Z,λd1 dx1 f1 fx1 ne1=>?_⟩;have s1:aL Mt (cN (cN Mt dx1 (.own d1)) d1 (.ins dG.C dx1 [])):=(qN fx1 _).trans (qN (by rw[aW (Ne.symm ne1)];exact f1) _);have hd1:cN (cN Mt dx1 (.own d1)) d1 (.ins dG.C dx1 []) d1=some (.ins dG.C dx1 []):=dD;generalize cN (cN Mt dx1 (.own d1)) d1 (.ins dG.C dx1 [])=G1 at s1 hd1 ⊢;have a3Z:=Dr.trans s1;obtain⟨w1,w2,w3⟩:=web a3Z;refine⟨d1,dx1,pg,r,n,tx,ts,hv,o,Z,hd1,w1,w2,w3,(),(),hold a3Z,lo,wok,λH15 sd1 at1=>⟨Z,?_⟩⟩;have s15:=Dr.trans (Qt s1 f1 sd1);exact ji _ _ ⟨d1,Z,s15,λG' k=>⟨λz=>by omega,λ_=>at1 G' (k.kpt λc z=>by
    obtain⟨ys,h1⟩:=lst a3Z c z;obtain⟨ys',h2⟩:=lst s15 c z;exact⟨ys,ys',h1,h2⟩),λz=>by omega⟩⟩
  ·have e':¬kd=1:=λz=>e (bA (congrArg V.int z));exact ji _ _ ⟨d3,Z,Dr,λG' k=>⟨λz=>at3 z G' k,λz=>absurd z e',λz=>at4 () G' k⟩⟩
 clear at3 at4 Dr;intro σ4 Mt h1;obtain⟨d,rfl,Dr,qa⟩:=ij _ _ h1;clear ji ij h1;have a6h:=wC.trans Dr;have a6i:=Dr _ _ a7m;refine Et (P:=λσ' G=>∃o6,σ'=[some (.ref a),some (.int (n:Int)),some (.int (most:Int)),some (.ref l),some (.ref pg),some (.ref pW),o6,some (.ref pw),some hv,some (.int kd),some (.ref d)]/\Sdh hv Mt G) λJ5 ji ij=>⟨J5,?_,?_⟩
 ·rcases hvo with⟨_,rfl⟩|⟨ph,ws,rfl,rfl,hph,npw,fph⟩
  ·exact⟨_,Z,Z,_,Z,cY (ji _ _ ⟨none,Z,λ_ _ _ e=>e⟩)⟩
  have a6j:=Dr _ _ hph;refine⟨_,Z,Z,_,Z,gZ ⟨_,Z,_,Z,_,_,.lst (bN.of a6j) (uP.ints ws),.lst (bN.of a6i) (uP.ints ws),shaped_ints ws,shaped_ints ws,_,Z,?_⟩⟩;rw[aG Z,QT (shaped_ints ws)];refine cY ⟨_,Z,_,Z,(),(),?_⟩;rw[iU];have lws:ws.length=n:=lwt;refine yR (n:=n) (λi σ G=>∃(o6:Option V) (us:List Int),σ=[some (.ref a),some (.int (n:Int)),some (.int (most:Int)),some (.ref l),some (.ref pg),some (.ref pW),o6,some (.ref pw),some (.ref ph),some (.int kd),some (.ref d)]/\Sdh (.ref ph) Mt G/\G ph=some (.lst (us.map V.int))/\us.length=n) ⟨none,ws,Z,λ_ _ _ e=>e,a6j,lws⟩ ?_ ?_
  ·rintro i σ G hi ⟨o6,us,rfl,sG,hG,lu⟩;rw[show(0:Int)+(i:Int)=(i:Int) by omega];have hui:(us.map V.int)[i]?=some (.int us[i]):=by rw[dU,bF ()];rfl
   refine⟨_,Z,_,Z,ph,_,_,_,Z,Z,bN.of hG,cu hui,_,_,Z,Z,_,_,Z,Z,⟨(),(),()⟩,_,_,Z,Z,(show(0:Int)<10^30 by decide),?_⟩;refine⟨_,Z,_,Z,ph,_,_,i,Z,Z,hG,Ν (by rw[aK];omega),λG1 cg=>?_⟩;refine⟨_,us.set i ((us[i]+7)%10^30),Z,λc u hc e=>?_,?_,by rw[List.length_set];exact lu⟩
   ·rw[cg.rest c (λz=>hc (by rw[z]))];exact sG c u hc e
   ·rw[cg.here,List.map_set];rfl
  ·rintro σ G ⟨o6,us,rfl,sG,_,_⟩;exact ji _ _ ⟨o6,Z,sG⟩
 intro σ5 G h1;obtain⟨o6,rfl,sG⟩:=ij _ _ h1;clear ji ij h1;have a4a:aL R9 G:=λc u e=>sG c u (nh e) (a6h _ _ e);have ne:∀t∈ts,t.1≠t.2:=λt ht=>by have:=tbd t ht;omega
 have a7n:G pw=some (.lst ((VP n o).map V.int)):=sG _ _ (λz=>by
  rcases hvo with⟨_,rfl⟩|⟨ph,ws,_,rfl,_,npw,_⟩
  ·cases z
  ·cases z;exact npw Z) a6i
 refine⟨_,Z,_,Z,_,Z,kd,c,pW,d,x4++x5,ss,n,ts,VP n o,Z,k0,(),c4,qa G sG,lwt,cZ,ne,bN.of (a4a _ _ nW.here),Paired.cC qW λ_ _ h=>rW.v (rW.same a4a h),lss,qJ,b4,λpT yt ů Fc s17 hT qT=>?_⟩;have a1M:=a4a.trans s17;have fok:∀k,k<ss.length->(∀x∈(Gy kd c (VP n o) n ts ss).getD k [],sy 4 (Go.gR n ts ss k).length x.1)/\((Gy kd c (VP n o) n ts ss).getD k []).length<=900/\(((Gy kd c (VP n o) n ts ss).getD k []).map (·.1)).Nodup:=λk kl=>by
  obtain⟨f1,f2⟩:=Fc.ok k kl;have:=Go.Ho (c:=4) () (tp4 b4 k) f1 λs hs=>by
   obtain⟨x,hx,rfl⟩:=fH.mp hs;exact f2 x hx
  rw[aK]at this;exact⟨f2,this,f1⟩
 exact⟨_,Z,_,Z,kd,pT,pW,pw,x4++x5,yt,ss,Gy kd c (VP n o) n ts ss,n,ts,VP n o,Z,a1M _ _ nW.here,Paired.cC qW λ_ _ h=>rW.same a1M h,lss,hT,qT,Fc.len,RP,s17 _ _ a7n,lwt,fok,Fc.out,λH18 s18=>q _⟩
end
end K
namespace L2
open PyProof.Rows
def ZP{A:Type}:Nat->(List A->Prop)->Prop
 |0,P=>P []
 |n+1,P=>∀a,ZP n λr=>P (a::r)
theorem ś{A:Type}:∀(us:List A) {P:List A->Prop},ZP us.length P->P us
 | [],_,h=>h
 |a::r,_,h=>ś r (h a)
def fK{K:aJ}{h:Heap}{mg:Str->Option Value}{x:Str}{st:Stmt}{ps:List Str}{f:Addr}{oc:Value}{od an:Option Addr}{osl:Array (Option Value)}{kV doc pm dZ ct:Value}(X:K.In h)(G:h.Ns mainGlobals mg)
  (a:PySem.W.nsIn K mainGlobals x=some (some (.ref f))) (l:K.lookup f=some ⟨oc,od,.func (PySem.W.fnOf x x (gY st) (gB st) (aH st) .none kV doc pm an dZ ct),osl⟩) (c:PySem.W.codeIn K dZ x=true) (k:PySem.W.keepIn K (.ref f)=true)
  (hb:∀(kV doc pm:Value) (an:Option Addr) (dZ ct:Value),ZP ps.length λus=>bindArgs (PySem.W.fnOf x x (gY st) (gB st) (aH st) .none kV doc pm an dZ ct) ⟨us,[]⟩=pure (ps.zip us)) :
  Nonempty (Dn K mg x st ps) :=
 a4P X G a l c k λ_ _ _ _ _ _ us hl=>ś us (hl▸hb ..)
noncomputable def jR {K:aJ}{C:Addr}{m qual:Str}{st:Stmt}{ps:List Str}{f:Addr}{oc:Value}{od an:Option Addr}{osl:Array (Option Value)}{kV doc pm dZ ct:Value}
  (a:PySem.W.findIn K (.ref C) m=some (some (.ref f))) (i:PySem.W.isFn K (.ref f)=true)
  (l:K.lookup f=some ⟨oc,od,.func (PySem.W.fnOf m qual (gY st) (gB st) (aH st) .none kV doc pm an dZ ct),osl⟩) (c:PySem.W.codeIn K dZ qual=true) (k:PySem.W.keepIn K (.ref f)=true)
  (h:∀(kV doc pm:Value) (an:Option Addr) (dZ ct:Value),ZP ps.length λus=>bindArgs (PySem.W.fnOf m qual (gY st) (gB st) (aH st) .none kV doc pm an dZ ct) ⟨us,[]⟩=pure (ps.zip us)):Dm K C m qual st ps :=
 a5b a i l c k λ_ _ _ _ _ _ us hl=>ś us (hl▸h ..)
noncomputable def Qu {K:aJ}{C:Addr}{m qual:Str}{st:Stmt}{ps:List Str}{f T:Addr}{oc oT:Value}{od an dT:Option Addr}{osl sT:Array (Option Value)}{kV doc pm dZ ct:Value}{nT:Nat}
  (a:PySem.W.findIn K (.ref C) m=some (some (.ref f))) (i:PySem.W.isFn K (.ref f)=true)
  (l:K.lookup f=some ⟨oc,od,.func (PySem.W.fnOf m qual (gY st) (gB st) (aH st) (.ref T) kV doc pm an dZ ct),osl⟩) (c:PySem.W.codeIn K dZ qual=true) (k:PySem.W.keepIn K (.ref f)=true)
  (lT:K.lookup T=some ⟨oT,dT,.seq #[.none] nT,sT⟩)
  (h:∀(kV doc pm:Value) (an:Option Addr) (dZ ct:Value),ZP ps.length λus=>∃g,bindArgs (PySem.W.fnOf m qual (gY st) (gB st) (aH st) (.ref T) kV doc pm an dZ ct) ⟨us,[]⟩=seqItems? (.ref T) >>= g/\g (some #[.none])=pure (ps.zip us))
  (h1:∀(kV doc pm:Value) (an:Option Addr) (dZ ct:Value),ZP (ps.length-1) λus=>∃g,bindArgs (PySem.W.fnOf m qual (gY st) (gB st) (aH st) (.ref T) kV doc pm an dZ ct) ⟨us,[]⟩=seqItems? (.ref T) >>= g/\g (some #[.none])=pure (ps.zip (us++[.none]))):DmD K C m qual st ps :=
 a3a a i l c k lT (λ_ _ _ _ _ _ us hl=>ś us (hl▸h ..)) λ_ _ _ _ _ _ us hl=>ś us (Nat.eq_sub_of_add_eq hl▸h1 ..)
end L2
open PySem.W PyProof.Rows
inductive PySem.W.Fast:Prop|tw13826561819437127725|tw2069065303756246980|tw17239769596058560434|tw11421142226990374874|tw18384278768064084585|tw11329442611198447019|tw12802701687147119653|tw16071004295265366755|tw13119250282264841320|tw5916020164731290303|tw16536068713106878242|tw7242019665200267477|tw4018816991927129143|tw1366977879729912709|tw1072092895928391866|tw9809538658900964989|tw15083159196554772425|tw16510897127146502105|tw6854718953928936160|tw10745379200566761340|tw9742744447392063272|tw14218932881741063802|tw12762349283160775449|tw12935385250080213245|tw17692147824942434194|tw6423679847474051329|tw10204697408219831847|tw1240643389390858396|tw9571919391006607022|tw5600510810279921942|tw12386773899358345882|tw18227079135319589514|tw12863290560213694393|tw7318030367949213950|tw6182133358299124806|tw17106100729410777420|tw7890846388462128663|tw12317016722058556148|tw898334140246357274|tw17205374495751884864|tw15521894234669235524|tw17946273445307844033|tw13475192031595195419|tw14511435603720006981|tw14536930680347137691|tw4748150682395601530|tw12911662529414033613|tw3552253459025031070|tw15814902569381891935|tw16527323540177210426|tw18342521386169403535|tw12930432860972060637|tw16610811526753054639|tw7045047530426305553|tw15516645132171226688|tw17813344785557306343|tw5206720428622616411|tw6316253673581525458|tw17243485938367765184|tw8698080039236915717|tw13195383440856417337|tw2194069090685709764|tw2212418822647553748|tw6386158477344314468|tw7549251038686060214|tw9949880477980018342|tw4462852578759141812|tw10694689295622646479|tw13677969059229874558|tw734671018737798601|tw16601401929972950191|tw11168376958451579684|tw13090123390095557376|tw12364488450343996792|tw8326121106985707111|tw2901157778770369752|tw5419269140474958139|tw2187586820288665328|tw2152442832437020846|tw2579277269313251167|tw2347063587349080000|tw384043721617472518|tw6036352314082638681|tw13586308793954667928|tw10485873003749347265|tw6340810138757171926|tw8684318331528079349|tw1752797180210726056|tw4164045364141403296|tw13196587628549913683|tw6409277151287704526|tw10666227848543443515|tw12372279330643317013|tw931450571574331868|tw8299159200749028918|tw3519042629032399234|tw6908985320415239411|tw18101426556166211289|tw1702297594646642427|tw4827226910522202750|tw6993870591064127932|tw18164854377954186953|tw16048320950564747437|tw8175805222659521047|tw5422132656727386823|tw13861843456399039753|tw803892202531085276|tw9944772881714316000|tw6768650746570811063|tw12143621016747020506|tw804231708602130117|tw12286311454298353593|tw9037434353927798900|tw10363403007215386149|tw8696987202923746117|tw10067190915483877008|tw14361423982479411633|tw6226529640272726431|tw8173588943484203000|tw12614168961136705982|tw6661949382261602556|tw10107860669340685842|tw12056018769763922573|tw11126407818632273287|tw18177622272066133099|tw10209847925319978272|tw6537766097788016309|tw2235730670859489562|tw176890118706235495|tw9430046826730539198|tw1335049903812573807|tw9586809742924545395|tw1770548064072438353|tw6753185706789338993|tw17792595599030997081|tw12145573834315209514|tw3125813284461961104|tw9983465910170230527|tw1936897406156505474|tw15058163802065929312|tw2899903854548318456|tw14996524244747115570|tw14324755064583845036|tw1027065384919474734|tw10454119370218556963|tw13113099171529436321|tw12049641923978141448|tw7688947750829437169|tw15248829669964794527|tw13144067587153171528|tw14782746021816694374|tw11469361556034810712|tw1334605753599073162|tw13035686550633882166|tw7279883914104006503|tw12180887798917874373|tw14051614873437195003|tw2897181563068384680|tw13289190899161216683|tw14230837835821522205|tw6512420099950172618|tw6994667202368064508|tw6778444421844550754|tw6028294531886657396|tw4949628314202976287|tw3569091642300047466|tw2690178092984676604|tw7862984730622794975|tw13348931452018208716|tw11082074646094051898|tw146810246035287073|tw2794204398131209141|tw389757964458470647|tw18182539249952463844|tw1489192767892177873|tw15057204324377904570|tw13690868377209499184|tw10802255683358531065|tw223008511166324172|tw13835366683376464799|tw15711172441631892954|tw9733064301841556683|tw4114970032724155643|tw1808587831226160258|tw9573556388368726589|tw9545385098930381015|tw156529330029098309|tw14705424393968930191|tw10679045611968531699|tw12347360916735995207|tw6362441300899519522|tw15796058435047100816|tw14940638809234897672|tw7483023752089902596|tw7164740953407782456|tw1938200377044048623|tw11106592563569284888|tw10355564899462691112|tw18416114305928008284|tw8821472641251296321|tw6502943099844076662|tw2972673703766332739|tw2437930328348711064|tw15704837491861318014|tw10848932437041441759|tw12596031999294218661|tw913318562613582047|tw7988981186714933286|tw7960448912663156520|tw7768839003594409606|tw6710288725523350299|tw5733787197815464651|tw3899100101624491564|tw3696698626919209770|tw2877120953027484838|tw2603384842387499162|tw218606078578651318|tw17157243030903520735|tw16766761642977523268|tw16058158008715172966|tw14135688316712169293|tw12228833640220712991|tw10174906731173518824|tw9722276823433090747|tw7240627640012738993|tw17263290691437549637|tw11612458352948689441|tw9137593680427180883|tw8144091602701670710|tw8302010264671186334|tw3925941987516385536|tw17890353755829442041|tw15631070780176206513|tw10616046060915808186|tw15909729413219222932|tw10006530701413010008|tw13821465632324504798|tw13741971776298883539|tw942947429826798216|tw9105318782002993424|tw8992840970964806137|tw8843037508826023012|tw83349268522459461|tw8240642231308429401|tw8201789592691719558|tw7269036184053723394|tw6764486469334795276|tw6183777169725311883|tw5533231307257975130|tw5070886596040714128|tw4643819986838089688|tw4592014546855594883|tw3234899833753495283|tw2995422318304645303|tw2158329995001172529|tw2012032981919284368|tw1756850302749414256|tw17064495480388717711|tw16276962300247440411|tw15992186137152291210|tw15947417247903521585|tw14901681655594660310|tw14808912701516707668|tw13339914688147548122|tw11817464533532033723|tw11686066180274669794|tw11583927992403621470|tw11489517027676186536|tw11264777720106663097|tw11115416523481488712|tw10850979789335112788|tw10416860346351966495|tw10238830465118154150|tw993791813548035845|tw7286156056464734758|tw4453756135795582490|tw8776989761327113998|tw8347270130660603810|tw2375761936633687184|tw951325435413006322|tw9205806983734982560|tw7484533872056596591|tw729376981635878907|tw17603764615803488773|tw16384308285771899853|tw6044545376202684561|tw3506870995729413761|tw16050294263266433476|tw2820530294091470720|tw12811558463565648433|tw2944064054592047696|tw1807038413679942762|tw364965417798793336|tw14988796484797096944|tw14421103881128587626|tw4175958735158853666|tw7013057394220219999|tw2521598431153995761|tw17982852811352594652|tw14001169332999844449|tw12935469509815089195|tw11759523284978536714|tw11513195590127150793|tw11126918022948458662|tw9980818767839140884|tw8533364766760516189|tw8417562941998569356|tw18437242655208401508|tw16341627826579476314|tw11572347692104515707|tw4700879367431065248|tw5956584713680498585|tw14041685898089589404|tw8241665812278958608|tw946583193362297516|tw8924678618694144712|tw8886018589009952275|tw5969690323793608292|tw3991876544409334264|tw16717444890978205575|tw13713702507562806850|tw12398190880852506169|tw999277893669451704|tw462746009655288166|tw17692950747397450564|tw5568045787608125927|tw9993021373891107095|tw9902388264493984388|tw9765980843693497961|tw9638296972368778721|tw9361365326387013044|tw9176387943934235807|tw8775198173267659053|tw8456802428810453558|tw834809317760454878|tw8041713813834863670|tw7955286338295064308|tw7881475424802310691|tw779597437683638831|tw7774987580780237157|tw7689726760182476485|tw7508437459151656581|tw7116672753356857243|tw7109858093279144288|tw6964025060558841433|tw6953134308094903653|tw6786330151251801286|tw674141884179175851|tw6456793076791358009|tw6414252647490538715|tw6307770640312069963|tw6190490148349237924|tw6036795451169738938|tw5802471965572075988|tw5742667833181275476|tw5687255588702147484|tw5661042077068415153|tw56260113049819428|tw5622676019711314266|tw55101430535393125|tw5493913223160468091|tw4942344186382902732|tw4923811076538182956|tw4748460911471445251|tw4634561551183949875|tw411686306597537497|tw4080749140188245981|tw4072707190509235243|tw3892508298974065040|tw386064299660471437|tw3846272152716494098|tw3832015155616007453|tw3704755628326875979|tw3667560126934874577|tw3203702037816889732|tw2838823294937802096|tw2642419575562385800|tw261416668734905961|tw2449124147105657131|tw2363403416660793458|tw2361434801787992400|tw2320784899972781599|tw227878190525581749|tw2179104161099447202|tw2038426342346335794|tw18446667646692520018|tw18197546334812634887|tw18119766271041511599|tw18092849258070125946|tw18035870322569889641|tw17824077538009772426|tw17623327528915436497|tw17529608347538698564|tw17452037909326411681|tw17135266580655520206|tw16717643343467362145|tw16626427866261883183|tw16427410584028044233|tw16340096586292487356|tw16133517054988209696|tw15861291751851701824|tw15855430336291140134|tw15604514601169680372|tw1535221874024148708|tw15290027660406097447|tw15230493595345425078|tw15040998023571126913|tw15037854942055649228|tw1492846849436761599|tw14894337647453996151|tw1484435681831579425|tw14840352747467141849|tw14725358874644853821|tw14524742860477536550|tw14221935463040642707|tw14026436285701907839|tw14007300551102638146|tw13965785206908509175|tw139088269425284473|tw13664770451829146852|tw13014777534788584281|tw12738252981213740495|tw12579069463021854118|tw1246552845430018520|tw12029934019025863185|tw12013974974530478786|tw11980889598043940039|tw11977853173425198420|tw119775084139755557|tw1196450966381440271|tw11783365639948071733|tw11667432604133264452|tw11488791245772093535|tw11304157490711787305|tw10968795753654732324|tw10772667123831778616|tw10650843010122967596|tw10137524359071854361
set_option maxRecDepth 100000 in
set_option maxHeartbeats 0 in
theorem PySem.Challenge.cw_bagwood_k62_places_out_holds : PySem.Challenge.rw_bagwood_k62_places_out.Holds := by
 w_on;o_law;k_head;(case hw=>w_witness2)
 k_fill
 refine L2.Û (l:=PySem.Challenge.rw_bagwood_k62_places_out) (n:=63) (k:=24) (x:="_law_script") (CX:=L2.fX) (sp:=Lw.a1t) rfl (by decide) rfl ⟨rfl,by decide,by decide⟩ (λw h Z99=>PySem.W.kIn_of Z99) ?F ?S ?C
 case F =>
  intro w mg fa h KX G hmg
  have B:L2.Bl mg:=by
   refine' L2.a4Q KX G ?z1 ?z2 ?z3 ?z4 ?z5 ?z6 ?z7 ?z8 ?z9 ?z10 ?z11 ?z12 ?z13 ?z14 ?z15 ?z16 ?z17
   all_goals k_is
  have Bz:mg "zip" = none:=by
   refine' PySem.W.mg_none_of KX G ?z
   k_is
  obtain⟨jV⟩:Nonempty (L2.Dn (L2.KOf KX) mg "is_whole" K.Ar ["thing"]):=by dsimp only[L2.KOf];refine' L2.fK KX G ?a ?l ?c ?k (λ_ _ _ _ _ _ _=>rfl);case a|l|c|k=>k_is
  obtain⟨jr⟩:Nonempty (L2.Dn (L2.KOf KX) mg "is_below" K.fP ["n","thing"]):=by dsimp only[L2.KOf];refine' L2.fK KX G ?a ?l ?c ?k (λ_ _ _ _ _ _ _ _=>rfl);case a|l|c|k=>k_is
  obtain⟨ou⟩:Nonempty (L2.Dn (L2.KOf KX) mg "joint" K.oU ["one","other"]):=by dsimp only[L2.KOf];refine' L2.fK KX G ?a ?l ?c ?k (λ_ _ _ _ _ _ _ _=>rfl);case a|l|c|k=>k_is
  obtain⟨mO⟩:Nonempty (L2.Dn (L2.KOf KX) mg "less" K.rT ["one","other"]):=by dsimp only[L2.KOf];refine' L2.fK KX G ?a ?l ?c ?k (λ_ _ _ _ _ _ _ _=>rfl);case a|l|c|k=>k_is
  obtain⟨Hj⟩:Nonempty (L2.Dn (L2.KOf KX) mg "bag_behind" K.fQ ["graph","done","step","used"]):=by dsimp only[L2.KOf];refine' L2.fK KX G ?a ?l ?c ?k (λ_ _ _ _ _ _ _ _ _ _=>rfl);case a|l|c|k=>k_is
  obtain⟨vy⟩:Nonempty (L2.Dn (L2.KOf KX) mg "run" K.FZ ["graph","steps"]):=by dsimp only[L2.KOf];refine' L2.fK KX G ?a ?l ?c ?k (λ_ _ _ _ _ _ _ _=>rfl);case a|l|c|k=>k_is
  obtain⟨ur⟩:Nonempty (L2.Dn (L2.KOf KX) mg "fault_behind" K.eY ["graph","steps","tops","pile"]):=by dsimp only[L2.KOf];refine' L2.fK KX G ?a ?l ?c ?k (λ_ _ _ _ _ _ _ _ _ _=>rfl);case a|l|c|k=>k_is
  obtain⟨wU⟩:Nonempty (L2.Dn (L2.KOf KX) mg "run_whole" K.lN ["graph","steps"]):=by dsimp only[L2.KOf];refine' L2.fK KX G ?a ?l ?c ?k (λ_ _ _ _ _ _ _ _=>rfl);case a|l|c|k=>k_is
  obtain⟨wV⟩:Nonempty (L2.Dn (L2.KOf KX) mg "refuse_wide" K.uV ["bags"]):=by dsimp only[L2.KOf];refine' L2.fK KX G ?a ?l ?c ?k (λ_ _ _ _ _ _ _=>rfl);case a|l|c|k=>k_is
  obtain⟨zy⟩:Nonempty (L2.Dn (L2.KOf KX) mg "run_narrow" K.mD ["graph","steps"]):=by dsimp only[L2.KOf];refine' L2.fK KX G ?a ?l ?c ?k (λ_ _ _ _ _ _ _ _=>rfl);case a|l|c|k=>k_is
  obtain⟨vp⟩:Nonempty (L2.Dn (L2.KOf KX) mg "states_behind" K.fZ ["question","old","step","bag"]):=by dsimp only[L2.KOf];refine' L2.fK KX G ?a ?l ?c ?k (λ_ _ _ _ _ _ _ _ _ _=>rfl);case a|l|c|k=>k_is
  obtain⟨qu⟩:Nonempty (L2.Dn (L2.KOf KX) mg "note" K.uR ["question","table","state","row"]):=by dsimp only[L2.KOf];refine' L2.fK KX G ?a ?l ?c ?k (λ_ _ _ _ _ _ _ _ _ _=>rfl);case a|l|c|k=>k_is
  obtain⟨wO⟩:Nonempty (L2.Dn (L2.KOf KX) mg "fill_along" K.jP ["question","table","source","step","bag"]):=by dsimp only[L2.KOf];refine' L2.fK KX G ?a ?l ?c ?k (λ_ _ _ _ _ _ _ _ _ _ _=>rfl);case a|l|c|k=>k_is
  obtain⟨wB⟩:Nonempty (L2.Dn (L2.KOf KX) mg "fill_joined" K.iC ["question","table","source","another"]):=by dsimp only[L2.KOf];refine' L2.fK KX G ?a ?l ?c ?k (λ_ _ _ _ _ _ _ _ _ _=>rfl);case a|l|c|k=>k_is
  obtain⟨xY⟩:Nonempty (L2.Dn (L2.KOf KX) mg "going_up" K.nO ["steps","question","tops","feeds"]):=by dsimp only[L2.KOf];refine' L2.fK KX G ?a ?l ?c ?k (λ_ _ _ _ _ _ _ _ _ _=>rfl);case a|l|c|k=>k_is
  obtain⟨yp⟩:Nonempty (L2.Dn (L2.KOf KX) mg "without_sources" K.lD ["table"]):=by dsimp only[L2.KOf];refine' L2.fK KX G ?a ?l ?c ?k (λ_ _ _ _ _ _ _=>rfl);case a|l|c|k=>k_is
  obtain⟨zA⟩:Nonempty (L2.Dn (L2.KOf KX) mg "tables" K.yj ["steps","question"]):=by dsimp only[L2.KOf];refine' L2.fK KX G ?a ?l ?c ?k (λ_ _ _ _ _ _ _ _=>rfl);case a|l|c|k=>k_is
  obtain⟨sW⟩:Nonempty (L2.Dn (L2.KOf KX) mg "weights_of" K.jQ ["many","weights"]):=by dsimp only[L2.KOf];refine' L2.fK KX G ?a ?l ?c ?k (λ_ _ _ _ _ _ _ _=>rfl);case a|l|c|k=>k_is
  obtain⟨jW⟩:Nonempty (L2.Dn (L2.KOf KX) mg "with_number" K.eZ ["state","spot","number"]):=by dsimp only[L2.KOf];refine' L2.fK KX G ?a ?l ?c ?k (λ_ _ _ _ _ _ _ _ _=>rfl);case a|l|c|k=>k_is
  obtain⟨jX⟩:Nonempty (L2.Dn (L2.KOf KX) mg "without_number" K.cX ["state","spot"]):=by dsimp only[L2.KOf];refine' L2.fK KX G ?a ?l ?c ?k (λ_ _ _ _ _ _ _ _=>rfl);case a|l|c|k=>k_is
  obtain⟨mZ⟩:Nonempty (L2.Dn (L2.KOf KX) mg "_law_at" K.qG ["_law_script","_law_k"]):=by dsimp only[L2.KOf];refine' L2.fK KX G ?a ?l ?c ?k (λ_ _ _ _ _ _ _ _=>rfl);case a|l|c|k=>k_is
  obtain⟨Ů⟩:Nonempty (L2.Dn (L2.KOf KX) mg "_law_rows" K.uG ["_law_script","_law_n","_law_most"]):=by dsimp only[L2.KOf];refine' L2.fK KX G ?a ?l ?c ?k (λ_ _ _ _ _ _ _ _ _=>rfl);case a|l|c|k=>k_is
  obtain⟨ň⟩:Nonempty (L2.Dn (L2.KOf KX) mg "_law_ties" K.qZ ["_law_script","_law_rows_here","_law_n"]):=by dsimp only[L2.KOf];refine' L2.fK KX G ?a ?l ?c ?k (λ_ _ _ _ _ _ _ _ _=>rfl);case a|l|c|k=>k_is
  obtain⟨Gd⟩:Nonempty (L2.Dn (L2.KOf KX) mg "_law_laid" K.lR ["_law_ties_here","_law_rows_here","_law_k","_law_early"]):=by dsimp only[L2.KOf];refine' L2.fK KX G ?a ?l ?c ?k (λ_ _ _ _ _ _ _ _ _ _=>rfl);case a|l|c|k=>k_is
  obtain⟨ZF⟩:Nonempty (L2.Dn (L2.KOf KX) mg "_law_tops" K.uH ["_law_steps"]):=by dsimp only[L2.KOf];refine' L2.fK KX G ?a ?l ?c ?k (λ_ _ _ _ _ _ _=>rfl);case a|l|c|k=>k_is
  obtain⟨ZG⟩:Nonempty (L2.Dn (L2.KOf KX) mg "_law_formed" K.j4 ["_law_found","_law_size"]):=by dsimp only[L2.KOf];refine' L2.fK KX G ?a ?l ?c ?k (λ_ _ _ _ _ _ _ _=>rfl);case a|l|c|k=>k_is
  obtain⟨ZK⟩:Nonempty (L2.Dn (L2.KOf KX) mg "_law_behind" K.j5 ["_law_kind","_law_table","_law_at_here","_law_weight"]):=by dsimp only[L2.KOf];refine' L2.fK KX G ?a ?l ?c ?k (λ_ _ _ _ _ _ _ _ _ _=>rfl);case a|l|c|k=>k_is
  obtain⟨Ř⟩:Nonempty (L2.Dn (L2.KOf KX) mg "_law_fits" K.rz ["_law_kind","_law_told","_law_steps","_law_weights_here"]):=by dsimp only[L2.KOf];refine' L2.fK KX G ?a ?l ?c ?k (λ_ _ _ _ _ _ _ _ _ _=>rfl);case a|l|c|k=>k_is
  obtain⟨ų⟩:Nonempty (L2.Dn (L2.KOf KX) mg "_law_weights" K.pN ["_law_script","_law_n"]):=by dsimp only[L2.KOf];refine' L2.fK KX G ?a ?l ?c ?k (λ_ _ _ _ _ _ _ _=>rfl);case a|l|c|k=>k_is
  obtain⟨Wk⟩:Nonempty (L2.Dn (L2.KOf KX) mg "law" K.X7 ["_law_script"]):=by dsimp only[L2.KOf];refine' L2.fK KX G ?a ?l ?c ?k (λ_ _ _ _ _ _ _=>rfl);case a|l|c|k=>k_is
  obtain⟨U⟩:Nonempty (L2.Used w (L2.KOf KX) mg):=by
   dsimp only[L2.KOf]
   refine' L2.a0g KX G ?a ?l ?c
   (case a=>k_is);(case l=>k_is);(case c=>exact⟨_,_,_,_,_,_,_,_,_,_,rfl⟩)
  obtain⟨cF⟩:Nonempty (K.qC (L2.KOf KX) mg):=by dsimp only[L2.KOf];refine'⟨{C:=_,cl:=⟨?pg,?hd,?po,?sa⟩,m:=PySem.W.mg_of KX G ?a,bO:=L2.jR (st:=K.mQ) (ps:=["self","graph","leaf","whole"]) ?iK ?iM ?nQ ?nR ?lV (λ_ _ _ _ _ _ _ _ _ _=>rfl),uD:=⟨?ga,⟨.type "type",?R3,?R4⟩,?lV⟩,ũ:=⟨?mk,?iK,?iM,?kc⟩}⟩;case a|pg|hd|po|sa|mk|kc|iK|iM|nQ|nR|lV|ga|R4|R3=>k_is
  obtain⟨bR⟩:Nonempty (K.vB (L2.KOf KX) mg):=by dsimp only[L2.KOf];refine'⟨{C:=_,cl:=⟨?pg,?hd,?po,?sa⟩,m:=PySem.W.mg_of KX G ?a,fD:=?fD,iw:=?iw,fO:=?fO,JX:=?JX,fB:=?fB,bO:=L2.Qu (st:=K.nP) (ps:=["self","graph","many","weights"]) ?iK ?iM ?nQ ?nR ?lV ?uh (λ_ _ _ _ _ _ _ _ _ _=>⟨_,rfl,rfl⟩) (λ_ _ _ _ _ _ _ _ _=>⟨_,rfl,rfl⟩),eG:=L2.jR (st:=K.fu) (ps:=["self","one","other"]) ?rA ?rB ?rC ?rD ?rE (λ_ _ _ _ _ _ _ _ _=>rfl),jb:=L2.jR (st:=K.gO) (ps:=["self","state"]) ?yx ?yC ?yD ?yE ?yF (λ_ _ _ _ _ _ _ _=>rfl),jc:=L2.jR (st:=K.gP) (ps:=["self","one","other"]) ?yG ?yH ?yI ?yJ ?yK (λ_ _ _ _ _ _ _ _ _=>rfl),jd:=L2.jR (st:=K.mq) (ps:=["self","state","spot","v"]) ?yL ?yM ?yN ?yO ?yP (λ_ _ _ _ _ _ _ _ _ _=>rfl),pC:=L2.jR (st:=K.oV) (ps:=["self","state","one","other","tie"]) ?Ky ?Kz ?KC ?KD ?KH (λ_ _ _ _ _ _ _ _ _ _ _=>rfl),eN:=L2.jR (st:=K.jy) (ps:=["self","state","spot","v"]) ?rF ?rG ?rH ?rJ ?rK (λ_ _ _ _ _ _ _ _ _ _=>rfl),ũ:=⟨?mk,?iK,?iM,?kc⟩}⟩;(case a|pg|hd|po|sa|mk|kc|iK|iM|nQ|nR|lV|uh|rA|rB|rC|rD|rE|yx|yC|yD|yE|yF|yG|yH|yI|yJ|yK|yL|yM|yN|yO|yP|Ky|Kz|KC|KD|KH|rF|rG|rH|rJ|rK=>k_is);case fD|iw|fO|JX|fB=>unfold L2.eX;k_is
  obtain⟨dG⟩:Nonempty (K.CN (L2.KOf KX) mg):=by dsimp only[L2.KOf];refine'⟨{C:=_,cl:=⟨?pg,?hd,?po,?sa⟩,m:=PySem.W.mg_of KX G ?a,fD:=?fD,iw:=?iw,fO:=?fO,fB:=?fB,bO:=L2.Qu (st:=K.qy) (ps:=["self","graph","weights"]) ?iK ?iM ?nQ ?nR ?lV ?uh (λ_ _ _ _ _ _ _ _ _=>⟨_,rfl,rfl⟩) (λ_ _ _ _ _ _ _ _=>⟨_,rfl,rfl⟩),eG:=L2.jR (st:=K.kY) (ps:=["self","one","other"]) ?rA ?rB ?rC ?rD ?rE (λ_ _ _ _ _ _ _ _ _=>rfl),jb:=L2.jR (st:=K.gO) (ps:=["self","state"]) ?yx ?yC ?yD ?yE ?yF (λ_ _ _ _ _ _ _ _=>rfl),jc:=L2.jR (st:=K.gP) (ps:=["self","one","other"]) ?yG ?yH ?yI ?yJ ?yK (λ_ _ _ _ _ _ _ _ _=>rfl),jd:=L2.jR (st:=K.oW) (ps:=["self","state","spot","v"]) ?yL ?yM ?yN ?yO ?yP (λ_ _ _ _ _ _ _ _ _ _=>rfl),pC:=L2.jR (st:=K.sS) (ps:=["self","state","one","other","tie"]) ?Ky ?Kz ?KC ?KD ?KH (λ_ _ _ _ _ _ _ _ _ _ _=>rfl),eN:=L2.jR (st:=K.kZ) (ps:=["self","state","spot","v"]) ?rF ?rG ?rH ?rJ ?rK (λ_ _ _ _ _ _ _ _ _ _=>rfl),ũ:=⟨?mk,?iK,?iM,?kc⟩}⟩;(case a|pg|hd|po|sa|mk|kc|iK|iM|nQ|nR|lV|uh|rA|rB|rC|rD|rE|yx|yC|yD|yE|yF|yG|yH|yI|yJ|yK|yL|yM|yN|yO|yP|Ky|Kz|KC|KD|KH|rF|rG|rH|rJ|rK=>k_is);case fD|iw|fO|fB=>unfold L2.eX;k_is
  obtain⟨dz⟩:Nonempty (K.CP (L2.KOf KX) mg):=by dsimp only[L2.KOf];refine'⟨{C:=_,cl:=⟨?pg,?hd,?po,?sa⟩,m:=PySem.W.mg_of KX G ?a,fD:=?fD,iw:=?iw,fO:=?fO,fB:=?fB,bO:=L2.Qu (st:=K.qz) (ps:=["self","graph","weights"]) ?iK ?iM ?nQ ?nR ?lV ?uh (λ_ _ _ _ _ _ _ _ _=>⟨_,rfl,rfl⟩) (λ_ _ _ _ _ _ _ _=>⟨_,rfl,rfl⟩),eG:=L2.jR (st:=K.fu) (ps:=["self","one","other"]) ?rA ?rB ?rC ?rD ?rE (λ_ _ _ _ _ _ _ _ _=>rfl),jb:=L2.jR (st:=K.oX) (ps:=["self","state"]) ?yx ?yC ?yD ?yE ?yF (λ_ _ _ _ _ _ _ _=>rfl),jc:=L2.jR (st:=K.oY) (ps:=["self","one","other"]) ?yG ?yH ?yI ?yJ ?yK (λ_ _ _ _ _ _ _ _ _=>rfl),jd:=L2.jR (st:=K.oZ) (ps:=["self","state","spot","v"]) ?yL ?yM ?yN ?yO ?yP (λ_ _ _ _ _ _ _ _ _ _=>rfl),pC:=L2.jR (st:=K.pB) (ps:=["self","state","one","other","tie"]) ?Ky ?Kz ?KC ?KD ?KH (λ_ _ _ _ _ _ _ _ _ _ _=>rfl),eN:=L2.jR (st:=K.lC) (ps:=["self","state","spot","v"]) ?rF ?rG ?rH ?rJ ?rK (λ_ _ _ _ _ _ _ _ _ _=>rfl),ũ:=⟨?mk,?iK,?iM,?kc⟩}⟩;(case a|pg|hd|po|sa|mk|kc|iK|iM|nQ|nR|lV|uh|rA|rB|rC|rD|rE|yx|yC|yD|yE|yF|yG|yH|yI|yJ|yK|yL|yM|yN|yO|yP|Ky|Kz|KC|KD|KH|rF|rG|rH|rJ|rK=>k_is);case fD|iw|fO|fB=>unfold L2.eX;k_is
  obtain⟨Ct⟩:Nonempty (K.ħ mg):=by
   refine' K.a3r KX G ?GC ?KJ ?Ln
   case GC|KJ|Ln=>k_is
  exact L2.a2z hmg Wk λbase=>K.a3U B Bz cF bR dG dz U Ct jV jr ou mO Hj vy ur wU wV zy vp qu wO wB xY yp zA sW jW jX mZ Ů ň Gd ZF ZG ZK Ř ų Wk
 case S=>exact λK H a ns hl hO hS=>⟨a,ns,rfl,Lw.Yy.of hO hS,hl,λ_=>rfl⟩
 case C=>exact λ_ _ _ _ z=>z
