import PyProof.Rows.All
import Wide.All
import OpenK.AllK
import Wide.FinOn
import PySem.Challenge.RW_bagwood_k61_ties_brought
set_option Elab.async false
set_option linter.all false
set_option compiler.extract_closed false
set_option genSizeOf false
set_option tactic.hygienic false
set_option maxRecDepth 100000
local macro_rules | `(tactic| omega) => `(tactic| first | lia | omega (config := {}))
set_option maxHeartbeats 16000000
local macro_rules | `(tactic| decide) => `(tactic| decide +kernel)
set_option hygiene false
local macro_rules | `(tactic| exists $x) => `(tactic| refine $x fun dD A outer s H vs Q E hr h=>?_)
local macro_rules | `(()) => `(by first|decide|omega|exact Nat.le_of_ble_eq_true rfl|grind)
local macro_rules | `($x⁻¹) => `(($x).heap.objs.size)
noncomputable section
def Z{α:Sort _}{a:α}:a=a:=rfl
def M:=@PySem.wpAny_bind
def aj:=@PySem.wpAny_pure
def bL:=@List.getElem?_eq_getElem
def bx:=@PySem.Heap.get?_push_of_some
def aV:=@List.mem_cons_self
def bh:=@List.mem_cons_of_mem
def aM:=@List.length_map
def bM:=@List.mem_singleton
def aQ:=@PySem.Paired.length
def bT:=@PySem.Heap.get?_push_size
def aN:=@Nat.le_refl
def cC:=@List.length_append
def aX:=@PySem.Heap.lt_size
def bN:=@decide_eq_true
def aq:=@if_neg
def fY:=@List.getElem?_eq_some_iff
def cY:=@Bool.false_ne_true
def aB:=@if_pos
def cL:=@List.mem_append
def bU:=@List.mem_cons
def b7:=@List.map_cons
def bZ:=@Nat.ne_of_lt
def cZ:=@decide_eq_false
def fj:=@decide_eq_true_iff
def dO:=@Option.some.inj
def iG:=@List.mem_append_right
def fu:=@List.not_mem_nil
def eO:=@List.map_append
def gk:=@List.getElem?_map
def gn:=@of_decide_eq_true
def fZ:=@List.length_take
def dF:=@Nat.le_trans
def jf:=@List.mem_of_getElem?
def gq:=@PySem.wpAny_call_entry
def gR:=@List.size_toArray
def lE:=@PySem.F.plainAttrs_list
def iU:=@PySem.wpAny_setField_rec
def dG:=@Nat.zero_le
def fB:=@PySem.wpAny_holding
def dY:=@List.mem_map
def d7:=@Nat.le_of_lt
def jC:=@Nat.lt_of_lt_of_le
def iV:=@List.take_length
def oO:=@PySem.wpAny_callSpecial?_slot
def iW:=@List.nodup_cons
def oR:=@Option.map_eq_some_iff
def lF:=@PySem.W.mg_none_of
def j5:=@Int.toNat_natCast
def j6:=@PySem.wpAny_newObj_type
def nF:=@PySem.Around.under_plainId
def nH:=@List.mem_of_mem_take
def jH:=@List.length_cons
def gG:=@Nat.ne_of_gt
def qI:=@List.find?_cons_of_neg
def nJ:=@PySem.Heap.SameBut.update
def jJ:=@PySem.PassesOwn.never
def gw:=@PySem.wpAny_field
def lG:=@List.length_drop
def oU:=@List.getElem_of_mem
def nO:=@PySem.wpAny_dictEntries
def lH:=@List.mem_filter
def sI:=@List.mem_append_left
def j7:=@PySem.Heap.size_push
def Af:=@List.take_succ_eq_append_getElem
def mH:=@List.append_nil
def mJ:=@PySem.codeAny_builtin
def uX:=@List.find?_cons_of_pos
def oV:=@List.getElem_mem
def qJ:=@List.length_range
def nP:=@PySem.wpAny_loadPart'
def eU:=@PyProof.Rows.wpS_bind
def mK:=@List.take_succ
def sJ:=@Int.emod_lt_of_pos
def jg:=@PySem.sizeLine_eq
def iH:=@PySem.wpAny_mono
def xW:=@Array.getElem?_eq_getElem
def qK:=@Bool.and_eq_true
def nQ:=@List.mem_range
def Ag:=@PyProof.Rows.callWith_type1
def uY:=@Array.length_toList
def Ah:=@List.getElem?_append_right
def oW:=@PySem.wpAny_seqItems
def Ai:=@List.getElem?_append_left
def mL:=@List.map_map
def sO:=@Int.emod_nonneg
def oX:=@PySem.plainId_quiet
def tW:=@PySem.wpAny_isInstance
def wj:=@beq_eq_false_iff_ne
def xX:=@PySem.Heap.get?_update_self
def xY:=@List.filterMap_append
def xZ:=@List.take_append_drop
def Aj:=@List.pairwise_singleton
def Ak:=@PySem.F.plainAttrs_dict
def j8:=@PySem.wpAny_rule
def tX:=@Bool.eq_iff_iff
def tY:=@PySem.W.kia_one
def Al:=@PySem.SeqAt.canLay_of_shaped
def yc:=@List.map_congr_left
def wu:=@PySem.wpAny_pyIter_list
def wz:=@List.nodup_append
def Am:=@PySem.wpAny_notOrdered_dict
def jK:=@PySem.wpAny_ite
def mO:=@True.intro
def yd:=@PySem.wpAny_Call_Name_kw
def ye:=@PySem.tupleKind_room_in1
def jo:=@PyProof.Rows.wpS_pure
def Ao:=@List.mem_of_mem_drop
def tZ:=@List.any_cons
def uc:=@PySem.wpAny_attempt
def Ig:=@List.perm_ext_iff_of_nodup
def yg:=@Bool.eq_false_iff
def Np:=@PySem.F.slot_tuple_iterator_next
def wA:=@List.range_succ
def wB:=@PySem.wpAny_dictEpoch
def Nq:=@PyProof.Rows.slot_tuple_getitem
def Ih:=@List.drop_eq_getElem_cons
def Ec:=@List.length_singleton
def Ed:=@List.length_filter_le
def Aq:=@List.pairwise_cons
def Nr:=@PySem.wpAny_typeNameOfWhole_itemiter
def Ii:=@PySem.SetTable.toList_insertAt
def wC:=@List.Perm.refl
def Nt:=@PySem.wpAny_typeNameOfWhole_keyiter
def Nu:=@PySem.F.slot_dict_itemiterator_next
def Ef:=@List.dropLast_concat
def Ar:=@PySem.wpAny_truthy_bool
def Av:=@List.append_assoc
def Ij:=@PySem.F.slot_dict_items
def Ik:=@PySem.F.type_dict_items
def Nv:=@PySem.F.slot_dict_keyiterator_next
def Eg:=@PySem.mem_of_lookup
def Eh:=@List.length_reverse
def uZ:=@PySem.wpAny_typeOf
def u5:=@Nat.lt_trans
def Nx:=@List.idxOf_lt_length_of_mem
def Il:=@List.take_of_length_le
def wD:=@Nat.lt_irrefl
def wF:=@List.sum_cons
def Aw:=@Nat.lt_succ_self
def Ei:=@PySem.wpAny_pyIter_tuple
def Ej:=@List.find?_eq_none
def Ax:=@PySem.wpAny_passesOwn
def Ay:=@Nat.not_lt_zero
def Az:=@PySem.wpAny_specialOf
def Im:=@List.Pairwise.filter
def Ek:=@List.pairwise_map
def El:=@PySem.typeIs_bool
def Ny:=@PySem.F.args_tuple_add_2
def Nz:=@List.filterMap_cons_some
def Io:=@List.getElem?_range
def NK:=@PySem.F.entry_tuple_add
def NP:=@List.length_eq_zero_iff
def Ba:=@List.nodup_nil
def NQ:=@PySem.F.slot_list_index
def NT:=@PySem.F.type_list_index
def TQ:=@List.eq_nil_iff_forall_not_mem
def NZ:=@PySem.F.slot_tuple_add
def N5:=@PySem.Heap.get?_update_other
def yh:=@Nat.lt_or_ge
def N6:=@Array.getElem?_eq_none
def Ip:=@List.filter_append
def Bb:=@PySem.wpAny_onRaise
def N7:=@Array.getElem?_toList
def N8:=@PySem.F.slot_dict_get
def á:=@PySem.wpAny_callSpecialIfBoundUnlessNone?_slot
def Oa:=@PySem.F.slot_zip_next
def Ir:=@Nat.lt_succ_of_lt
def Iu:=@PySem.wpAny_storeSet_of
def Iw:=@PySem.wpAny_pyIter_slot
def TV:=@PySem.wpAny_richCompare_same_room
def yj:=@Nat.le_succ
def yp:=@PySem.wpAny_letGo
def Em:=@PySem.wpAny_fieldsOf
def Ob:=@PySem.Obj.data_mapDictKeys
def Oc:=@List.getLast?_concat
def â:=@Std.Legacy.Range.forIn_eq_forIn_range'
def Iz:=@List.lookup_cons
def IK:=@List.all_eq_true
def Bc:=@Nat.sub_zero
def Od:=@PySem.Heap.get?_update_ne
def TX:=@List.length_filterMap_le
def En:=@List.cons.inj
def Oe:=@PySem.W.callWith_K
def Og:=@Array.forIn_toList
def ã:=@PySem.F.args_tuple_iterator_next_1
def TY:=@PyProof.Rows.F.plain_set_update_loop
def T4:=@List.filter_cons_of_pos
def T5:=@List.mem_singleton_self
def ä:=@PySem.F.entry_tuple_iterator_next
def T6:=@PySem.wpAny_pyNext_list_item
def Eo:=@PySem.codeAny_mono
def Oh:=@List.take_sublist
def T7:=@PySem.Calls.callWith_builtin
def Oi:=@PySem.wpAny_pyIter_enum
def Ep:=@PyProof.Rows.wpS_forRange
def IV:=@PySem.wpAny_newTuple
def Oj:=@PySem.Heap.get?_push_ne
def T8:=@Nat.lt_of_succ_lt_succ
def Ol:=@PySem.Heap.SameBut.refl
def IW:=@PySem.isSubtype_stop
def T9:=@PySem.wpAny_isOneOf_itemiter
def Ua:=@PySem.wpAny_nextOf_list_item
def Er:=@Nat.sub_self
def å:=@PySem.F.args_dict_itemiterator_next_1
def Ub:=@PySem.F.slot_list_pop
def Uc:=@PySem.F.type_list_pop
def Om:=@PySem.noFill_tuple_add
def Oo:=@PySem.F.plain_all_loop
def Oq:=@PySem.F.plain_any_loop
def Ot:=@List.filter_cons
def Ou:=@PySem.wpAny_askSetting
def Ov:=@PySem.wpAny_forIn_list
def Ow:=@PySem.F.slot_bool_hash
def æ:=@PySem.F.entry_dict_itemiterator_next
def Ox:=@beq_self_eq_true
def Oz:=@PySem.Around.in1_units
def Ja:=@PySem.W.mg_of
def Jb:=@Bool.true_and
def Ud:=@List.length_dropLast
def Ue:=@List.pairwise_append
def ç:=@PySem.F.entry_dict_keyiterator_next
def OD:=@PySem.wpAny_execs_nil
def OJ:=@List.length_set
def O1:=@PySem.wpAny_updateSeq
def O3:=@PySem.size_of_entries
def O4:=@PySem.F.slot_zip_next
def Ug:=@List.filterMap_cons
def Uh:=@PySem.W.plainGet_of
def Ui:=@List.filter_sublist
def Uj:=@List.flatMap_append
def è:=@PySem.Calls.Name_function_global
def Uk:=@List.mem_filterMap
def Ul:=@List.filterMap_map
def ê:=@PySem.wpAny_letOwnedTupleGo_enum
def Um:=@of_decide_eq_false
def ë:=@PySem.F.kt_typeCall_dict_1
def Uo:=@List.map_singleton
def Uq:=@List.sum_singleton
def ì:=@PySem.Calls.call_function_entry
def í:=@List.pairwise_iff_getElem
def î:=@Classical.byContradiction
def ï:=@List.getLastD_eq_getLast?
def Jc:=@PySem.wpAny_of_eq
def Ur:=@List.find?_append
def O5:=@PySem.wpAny_standAt
def O6:=@PySem.seq_tuple_add
def ð:=@PySem.wpAny_comprehension_free
def O7:=@PySem.wpAny_handled
def ò:=@PySem.F.args_dict_init_2
def ó:=@List.find?_range_eq_some
def Us:=@PySem.wpAny_execs_cons
def Ut:=@Nat.min_le_right
def Uu:=@PySem.Heap.size_update
def Uv:=@List.ext_getElem
def Uw:=@PySem.Heap.IsList.push
def Ux:=@Option.getD_some
def Jd:=@beq_iff_eq
def O8:=@Nat.le_of_eq
def O9:=@PySem.concat_meets
def Je:=@PySem.call_meets
def Pa:=@Nat.succ.inj
def Pb:=@PySem.call_meetsIn
def Uy:=@List.of_mem_zip
def Uz:=@PyProof.Rows.get?_update_seq
def UG:=@PySem.isSubtype_type
def UJ:=@PySem.entryFor_alias
def Pg:=@PySem.wpAny_throw
def UL:=@List.drop_zero
def UW:=@PyProof.Rows.listUpdate_at
def U4:=@PySem.wpAny_newList
def U5:=@List.map_drop
def U6:=@List.map_take
def Ph:=@PyProof.Rows.wpS_modify
def Pj:=@PyProof.Rows.size_push'
def Et:=@PyProof.Rows.wpS_get
def Jf:=@PyProof.Rows.wpS_mono
open PySem PySem.Spec
abbrev aH:=PySem.W.Frag
abbrev bY:=Int×Int
def fK{α:Type}{l:List α}{i:Nat}{a:α}:l.getD i a=l[i]?.getD a:=List.getD_eq_getElem?_getD ..
namespace L2
open PyProof.Rows
abbrev Key:=Sum Int Str
def Jg:Key->Value->Bool
 |.inl k,v=>Value.isInt k v
 |.inr x,v=>Value.isStrOf x v
def a4N(w:World):Key->Int
 |.inl k=>hashInt k
 |.inr x=>hashStr w x
def iZ:∀{k:Key}{v:Value},Jg k v=true->(∃i t,k=Sum.inl i/\v=Value.int i t)\/(∃x t,k=Sum.inr x/\v=Value.str x t)
 |.inl i,v,h=>by
  obtain⟨t,e⟩:=Value.isInt_shape (k:=i) (v:=v) h
  exact .inl ⟨i,t,Z,e⟩
 |.inr x,v,h=>by
  obtain⟨t,e⟩:=Value.isStrOf_shape (x:=x) (v:=v) h
  exact .inr ⟨x,t,Z,e⟩
def YM(i:Int)(t:Tok):Jg (.inl i) (.int i t)=true:=by simp[Jg,Value.isInt]
def YQ(x:Str)(t:Tok):Jg (.inr x) (.str x t)=true:=by simp[Jg,Value.isStrOf]
def a2B(a b:Int):decide ((Sum.inl a:Key)=Sum.inl b)=(a==b):=by
 by_cases e:a=b
 ·subst e;simp
 ·have h:¬(Sum.inl a:Key)=Sum.inl b:=λq=>e (Sum.inl.inj q);rw[cZ h];exact(wj.mpr e).symm
def a2C(a b:Str):decide ((Sum.inr a:Key)=Sum.inr b)=decide (a=b):=by
 by_cases e:a=b
 ·subst e;simp
 ·have h:¬(Sum.inr a:Key)=Sum.inr b:=λq=>e (Sum.inr.inj q);rw[cZ h,cZ e]
def a2D(a:Int)(b:Str):decide ((Sum.inl a:Key)=Sum.inr b)=false:=cZ (λq=>nomatch q)
def a2E(a:Str)(b:Int):decide ((Sum.inr a:Key)=Sum.inl b)=false:=cZ (λq=>nomatch q)
def dN(prog:Program)(w:World):PySem.KeyKind prog w Key where
 is:=Jg
 hash:=a4N w
 inj:=λv a b ha hb=>by
  rcases iZ ha with⟨i,t,rfl,rfl⟩|⟨x,t,rfl,rfl⟩
  ·rcases iZ hb with⟨j,u,rfl,e⟩|⟨y,u,rfl,e⟩
   ·injection e with e1 _;rw[e1]
   ·exact nomatch e
  ·rcases iZ hb with⟨j,u,rfl,e⟩|⟨y,u,rfl,e⟩
   ·exact nomatch e
   ·injection e with e1 _;rw[e1]
 byValue:=λk v h=>by
  rcases iZ h with⟨i,t,rfl,rfl⟩|⟨x,t,rfl,rfl⟩<;>rfl
 pyHash:=λhv h=>by
  rcases iZ hv with⟨i,t,rfl,rfl⟩|⟨x,t,rfl,rfl⟩
  ·exact wpAny_pyHash_int h
  ·exact wpAny_pyHash_str h
 eqBool:=λhu hv h=>by
  rcases iZ hu with⟨i,t,rfl,rfl⟩|⟨x,t,rfl,rfl⟩
  ·rcases iZ hv with⟨j,u,rfl,rfl⟩|⟨y,u,rfl,rfl⟩
   ·rw[a2B]at h;exact wpAny_eqBool_int h
   ·rw[a2D]at h;exact SeqAt.EqAt.int_str i t y u _ _ _ _ h
  ·rcases iZ hv with⟨j,u,rfl,rfl⟩|⟨y,u,rfl,rfl⟩
   ·rw[a2E]at h;exact SeqAt.EqAt.str_int x t j u _ _ _ _ h
   ·rw[a2C]at h;exact wpAny_eqBool_str h
 «strs» := λk x t v h=>by
  rcases iZ h with⟨i,u,rfl,e⟩|⟨y,u,rfl,e⟩
  ·exact nomatch e
  ·injection e with e1 _
   subst e1
   cases v<;>rfl
def U7(prog:Program)(w:World)(k:Key)(v:Value):(dN prog w).is k v=Jg k v:=rfl
def Q7(prog:Program)(w:World)(i:Int)(t:Tok):(dN prog w).is (.inl i) (.int i t)=true:=YM i t
def gH(prog:Program)(w:World)(x:Str)(t:Tok):(dN prog w).is (.inr x) (.str x t)=true:=YQ x t
inductive V where
 |non|bl (b:Bool)|int (i:Int)|str (x:Str)|W6 (b:Array UInt8)|flt (b:UInt64)|ref (a:Addr)|ty (n:String)
 deriving DecidableEq
variable{pos p:Pos}{K:aH}{A:Around}{h h' base:Heap}{e tg c:Expr}{es:List Expr}{k t' n:Nat}{Z98:Model}{op:CmpOp}{ch fp:List Addr}{N:List Str}{body:List Stmt}{mA mg:Str->Option Value}{pl:Sem Bool}{kw:List (Str×Value)}
def cQ:V->Value->Prop
 |.non,u=>u=Value.none
 |.bl b,u=>u=Value.bool b
 |.int i,u=>∃t,u=Value.int i t
 |.str x,u=>∃t,u=Value.str x t
 |.W6 b,u=>∃t,u=Value.bytes b t
 |.flt b,u=>∃t,u=Value.float b t
 |.ref a,u=>u=Value.ref a
 |.ty n,u=>u=Value.type n
abbrev cN:List V->List Value->Prop:=Paired cQ
def cN.length{xs:List V}{us:List Value}(r:cN xs us):xs.length=us.length:=aQ r
theorem cN.get:∀{xs:List V}{us:List Value}{i:Nat}{x:V},cN xs us->xs[i]?=some x->∃u,us[i]?=some u/\cQ x u
 |_,_,_,_,.nil,e=>by simp at e
 |_,_,0,_,.cons r _,e=>by simp at e;subst e;exact⟨_,Z,r⟩
 |_,_,i+1,x,.cons _ t,e=>by
  obtain⟨u,h1,h2⟩:=cN.get (i:=i) (x:=x) t (by simpa using e)
  exact⟨u,by simpa using h1,h2⟩
theorem cN.set{x:V}{u:Value}(r:cQ x u):∀{xs:List V}{us:List Value} (i:Nat),cN xs us->cN (xs.set i x) (us.set i u)
 |_,_,_,.nil=>.nil
 |_,_,0,.cons _ t=>.cons r t
 |_,_,i+1,.cons q t=>.cons q (cN.set r i t)
def cN.append{xs ys:List V}{us ws:List Value}(h:cN xs us)(s:cN ys ws):cN (xs++ys) (us++ws):=by
 induction h with
 |nil=>exact s
 |cons r _ ih=>exact .cons r ih
theorem cN.take:∀{xs:List V}{us:List Value} (n:Nat),cN xs us->cN (xs.take n) (us.take n)
 |_,_,0,_=>.nil
 |_,_,_+1,.nil=>.nil
 |_,_,n+1,.cons r t=>.cons r (cN.take n t)
theorem cN.drop:∀{xs:List V}{us:List Value} (n:Nat),cN xs us->cN (xs.drop n) (us.drop n)
 |_,_,0,r=>r
 |_,_,_+1,.nil=>.nil
 |_,_,n+1,.cons _ t=>cN.drop n t
def tB:Option V->Option Value->Prop
 |some v,some u=>cQ v u
 |none,none=>True
 |_,_=>False
def KV{κ:Type}:List (κ×V)->List (κ×Value)->Prop:=Paired λ(p:κ×V) (q:κ×Value)=>p.1=q.1/\cQ p.2 q.2
def kV:Key->V
 |.inl i=>.int i
 |.inr x=>.str x
inductive HO where
 |lst (xs:List V)
 |tup (xs:List V)
 |dK (O:List (Key×V))|dT (O:List (List Key×V))
 |set (S:Int->Bool) (n:Nat)
 |ins (C dx:Addr) (fs:List (Str×V))
 |own (x:Addr)
 |xd (fs:List (Str×V))
 |met (f x:Addr)
 |rng (lo hi:Int)
 |jq (o:Obj) (u:HO)
 |tbl (ps:Array Value)
 |ext (φ:Heap->Prop)
abbrev Hp:=Addr->Option HO
def cM(H:Hp)(a:Addr)(o:HO):Hp:=λb=>if b=a then some o else H b
def cV{H:Hp}{a:Addr}{o:HO}:cM H a o a=some o:=by unfold cM;rw[aB rfl]
def aU{H:Hp}{a b:Addr}{o:HO}(h:b≠a):cM H a o b=H b:=by unfold cM;rw[aq h]
def W7{H:Hp}{a b:Addr}{o u:HO}(h:H a=some o)(h':H b=some u)(d:o≠u):a≠b:=by
 intro e;subst e;rw[h]at h';exact d (dO h')
def dR{H:Hp}{a b:Addr}{o:HO}(h:H a=some o)(h':H b=none):a≠b:=by
 intro e;subst e;rw[h]at h';cases h'
section
variable(P:Program)(w:World)
def fW(H:Hp)(h:Heap)(a:Addr):HO->Prop
 |.lst xs=>xs.length<=sizeLine/\∃(bV:List Value) (n:Nat),cN xs bV/\h.get? a=some { cls:=.type "list",data:=.seq bV.toArray n}
 |.tup xs=>xs.length<=sizeLine/\∃bV:List Value,cN xs bV/\IsTup h a bV.toArray
 |.dK O=>O.length<=sizeLine/\(a==sysModules)=false/\∃vs,KV O vs/\h.DictOf (dN P w) a vs
 |.dT O=>O.length<=sizeLine/\(a==sysModules)=false/\∃xs:List (List Key×Addr×Value),
   Paired (λ(p:List Key×V) (q:List Key×Addr×Value)=>p.1=q.1/\H q.2.1=some (.tup (p.1.map kV))/\cQ p.2 q.2.2) O xs/\
   ∃o es ep,h.get? a=some o/\o.ExactDict/\o.data=.dict es ep/\es.toList=xs.map (entryOfKey (tupleKind (dN P w)))/\(xs.map (·.1)).Nodup
 |.set S n=>h.SetOf (intKind P w) a S n
 |.ins C dx fs=>H dx=some (.own a)/\fs.length<=1000/\dx≠a/\h.get? a=some (PySem.W.instObj C dx)/\
   ∃mA,h.Ns1 dx mA/\(∀f,tB (fs.lookup f) (mA f))/\PySem.Within mA (fs.map (·.1))
 |.own _=>∃o,h.get? a=some o
 |.xd fs=>∃mA,h.Ns1 a mA/\∀f,tB (fs.lookup f) (mA f)
 |.rng lo hi=>∃t u v,h.get? a=some { cls:=.type "range",data:=.fields #[.int lo t,.int hi u,.int 1 v]}
 |.jq o u=>h.get? a=some o/\fW H h a u
 |.tbl ps=>h.get? a=some { cls:=.none,data:=.fields ps}
 |.met f x=>h.get? a=some (PySem.W.methodObj (.ref f) (.ref x))
 |.ext φ=>φ h/\(∃o,h.get? a=some o)/\∀h1 h2:Heap,φ h1->(∀o,h1.get? a=some o->h2.get? a=some o)->φ h2
def zQ(H:Hp)(h:Heap):Prop:=∀a o,H a=some o->fW P w H h a o
end
section
variable{P:Program}{w:World}{H H':Hp}{a:Addr}{o:HO}
def fW.lt(x:fW P w H h a o):a<h.objs.size:=by
 cases o with
 |lst xs=>obtain⟨_,_,_,_,e⟩:=x;exact aX e
 |tup xs=>obtain⟨_,_,_,p⟩:=x;exact p.lt
 |dK O=>obtain⟨_,_,_,_,o,_,_,e,_⟩:=x;exact aX e
 |dT O=>obtain⟨_,_,_,_,o,_,_,e,_⟩:=x;exact aX e
 |set S n=>obtain⟨o,_,_,_,e,_⟩:=x;exact aX e
 |ins C dx fs=>obtain⟨_,_,_,e,_⟩:=x;exact aX e
 |own y=>obtain⟨_,e⟩:=x;exact aX e
 |xd fs=>obtain⟨_,⟨_,_,_,e,_⟩,_⟩:=x;exact aX e
 |rng lo hi=>obtain⟨_,_,_,e⟩:=x;exact aX e
 |jq ob u=>obtain⟨e,_⟩:=x;exact aX e
 |tbl ps=>exact aX (show h.get? a=some _ from x)
 |met f y=>exact aX (show h.get? a=some _ from x)
 |ext φ=>obtain⟨_,⟨_,e⟩,_⟩:=x;exact aX e
def Paired.cB{α β:Type}{F G:α->β->Prop}{l₁:List α}{l₂:List β}(h:Paired F l₁ l₂)(f:∀a b,F a b->G a b):Paired G l₁ l₂:=by
 induction h with
 |nil=>exact .nil
 |cons r _ ih=>exact .cons (f _ _ r) ih
def fW.stay(x:fW P w H h a o)(k:∀b u,(b=a\/H b=some (.own a))->h.get? b=some u->h'.get? b=some u)
  (ho:∀b,H b=some (.own a)->H' b=some (.own a)) (ht:∀b xs,H b=some (.tup xs)->H' b=some (.tup xs)):fW P w H' h' a o:=by
 induction o with
 |lst xs=>obtain⟨z,bV,n,r,e⟩:=x;exact⟨z,bV,n,r,k _ _ (.inl Z) e⟩
 |tup xs=>obtain⟨z,bV,r,ob,e,c⟩:=x;exact⟨z,bV,r,ob,k _ _ (.inl Z) e,c⟩
 |dK O=>obtain⟨z,y,vs,r,ob,es,ep,e,c⟩:=x;exact⟨z,y,vs,r,ob,es,ep,k _ _ (.inl Z) e,c⟩
 |dT O =>
  obtain⟨z,y,xs,r,ob,es,ep,e,c⟩:=x;exact⟨z,y,xs,Paired.cB r λp q z=>⟨z.1,ht _ _ z.2.1,z.2.2⟩,ob,es,ep,k _ _ (.inl Z) e,c⟩
 |set S n=>obtain⟨ob,es,ep,t,e,c⟩:=x;exact⟨ob,es,ep,t,k _ _ (.inl Z) e,c⟩
 |ins C dx fs =>
  obtain⟨d,z,ne,e,mA,⟨od,es,ep,e2,c⟩,r⟩:=x;exact⟨ho _ d,z,ne,k _ _ (.inl Z) e,mA,⟨od,es,ep,k _ _ (.inr d) e2,c⟩,r⟩
 |own y=>obtain⟨ob,e⟩:=x;exact⟨ob,k _ _ (.inl Z) e⟩
 |xd fs=>obtain⟨mA,⟨od,es,ep,e,c⟩,r⟩:=x;exact⟨mA,⟨od,es,ep,k _ _ (.inl Z) e,c⟩,r⟩
 |rng lo hi=>obtain⟨t,u,v,e⟩:=x;exact⟨t,u,v,k _ _ (.inl Z) e⟩
 |jq ob u ih=>obtain⟨e,q⟩:=x;exact⟨k _ _ (.inl Z) e,ih q⟩
 |tbl ps =>
  have e:h.get? a=some { cls:=.none,data:=.fields ps}:=x;show h'.get? a=some { cls:=.none,data:=.fields ps};exact k a _ (.inl Z) e
 |met f y =>
  have e:h.get? a=some (PySem.W.methodObj (.ref f) (.ref y)):=x;show h'.get? a=some (PySem.W.methodObj (.ref f) (.ref y));exact k a _ (.inl Z) e
 |ext φ=>obtain⟨p,⟨o,e⟩,st⟩:=x;exact⟨st _ _ p λo q=>k _ _ (.inl Z) q,⟨o,k _ _ (.inl Z) e⟩,st⟩
def zQ.lt(x:zQ P w H h)(e:H a=some o):a<h.objs.size:=(x a o e).lt
def zQ.fresh(x:zQ P w H h)(e:h.objs.size<=a):H a=none:=by
 cases q:H a with
 |none=>rfl
 |some u=>exact absurd (jC (x.lt q) e) (wD _)
def zQ.kept(x:zQ P w H h)(k:∀b u,h.get? b=some u->h'.get? b=some u):zQ P w H h':=λa o e =>
 (x a o e).stay (λb u _ q=>k b u q) (λ_ q=>q) λ_ _ q=>q
def zQ.laid(x:zQ P w H h)(k:∀b u,h.get? b=some u->h'.get? b=some u)(hp:h.objs.size<=a)(new:fW P w (cM H a o) h' a o):zQ P w (cM H a o) h':=λb u e=>by
 have hn:=x.fresh hp;by_cases hb:b=a
 ·subst hb;rw[cV]at e;cases e;exact new
 ·rw[aU hb]at e;exact(x b u e).stay (λc v _ q=>k c v q) (λc q=>by rw[aU (dR q hn)];exact q) λc xs q=>by rw[aU (dR q hn)];exact q
end
def Rd(H:Hp)(a:Addr)(u:HO):Prop:=H a=some u\/∃o,H a=some (.jq o u)
def Rd.ok{P:Program}{w:World}{H:Hp}{a:Addr}{u:HO}(r:Rd H a u)(x:zQ P w H h):fW P w H h a u:=by
 rcases r with r|⟨o,r⟩
 ·exact x a u r
 ·obtain⟨_,q⟩:=x a _ r;exact q
def Mut:Option HO->Prop
 |some (.lst _)=>True
 |some (.dK _)=>True
 |some (.dT _)=>True
 |some (.set _ _)=>True
 |some (.ins _ _ _)=>True
 |some (.ext _)=>True
 |_=>False
section
variable{P:Program}{w:World}{H:Hp}{x e:Addr}{o':HO}
def zQ.write(ok:zQ P w H h)(mu:Mut (H x))(he:e=x\/H e=some (.own x))(k:∀b u,b≠e->h.get? b=some u->h'.get? b=some u)(heo:∃u,h'.get? e=some u)
  (new:fW P w (cM H x o') h' x o'):zQ P w (cM H x o') h':=λb u q=>by
 have a4O:∀c y,H c=some (.own y)->c≠x:=λc y r z=>by subst z;rw[r]at mu;exact mu
 have a2F:∀c xs,H c=some (.tup xs)->c≠x:=λc xs r z=>by subst z;rw[r]at mu;exact mu
 by_cases hb:b=x
 ·subst hb;rw[cV]at q;cases q;exact new
 ·rw[aU hb]at q;by_cases hbe:b=e
  ·have q':H b=some (.own x):=by
    rcases he with z|z
    ·exact absurd (hbe.trans z) hb
    ·rw[hbe];exact z
   rw[q]at q';cases q';obtain⟨v,hv⟩:=heo;exact⟨v,by rw[hbe];exact hv⟩
  ·refine(ok b u q).stay (λc v hc r=>k c v ?_ r) (λc r=>by rw[aU (a4O c b r)];exact r) λc xs r=>by rw[aU (a2F c xs r)];exact r
   rcases hc with rfl|hc
   ·exact hbe
   ·rintro rfl;rcases he with z|z
    ·exact a4O c b hc z
    ·rw[hc]at z;cases z;exact hb rfl
end
structure Un(fs ex:List Addr)(H H':Hp)(h h':Heap):Prop where
 keep:∀b o,h.get? b=some o->H b=none->b∉fs->b∉ex->h'.get? b=some o
 slot:∀b o,h.get? b=some o->H b=none->b∈fs->b∉ex->∃sl,h'.get? b=some { o with slots:=sl}
 free:∀b o,h.get? b=some o->H b=none->b∉ex->H' b=none
 there:∀b o,h.get? b=some o->b∉ex->∃o',h'.get? b=some o'
 tups:∀b xs,H b=some (.tup xs)->H' b=some (.tup xs)
 Jh:∀b o u,H b=some (.jq o u)->H' b=some (.jq o u)
 Pk:∀b ps,H b=some (.tbl ps)->∃more,H' b=some (.tbl (ps++more))
section
variable{fs fs' ex ex':List Addr}{H H1 H2:Hp}{h1 h2:Heap}{a x e:Addr}{o:HO}
def Un.any(u:Un fs ex H H1 h h1){b:Addr}{ob:Obj}(q:h.get? b=some ob)(n:H b=none)(hx:b∉ex):∃sl,h1.get? b=some { ob with slots:=sl}:=by
 by_cases hb:b∈fs
 ·exact u.slot b ob q n hb hx
 ·exact⟨ob.slots,u.keep b ob q n hb hx⟩
def Un.kept(k:∀b u,h.get? b=some u->h'.get? b=some u):Un fs ex H H h h' :=
 ⟨λb ob q _ _ _=>k b ob q,λb ob q _ _ _=>⟨ob.slots,k b ob q⟩,λ_ _ _ n _=>n,λb ob q _=>⟨ob,k b ob q⟩,λ_ _ q=>q,λ_ _ _ q=>q,λ_ ps q=>⟨#[],by rw[q];simp⟩⟩
def Un.refl:Un fs ex H H h h:=Un.kept λ_ _ q=>q
def Un.laid(k:∀b u,h.get? b=some u->h'.get? b=some u)(hp:h.objs.size<=a)(hn:H a=none):Un fs ex H (cM H a o) h h' where
 keep:=λb u q _ _ _=>k b u q
 slot:=λb u q _ _ _=>⟨u.slots,k b u q⟩
 free:=λb u q n _=>by rw[aU (bZ (jC (aX q) hp))];exact n
 there:=λb u q _=>⟨u,k b u q⟩
 tups:=λb xs q=>by rw[aU (dR q hn)];exact q
 Jh:=λb u xs q=>by rw[aU (dR q hn)];exact q
 Pk:=λb ps q=>⟨#[],by rw[aU (dR q hn),q];simp⟩
def Un.write(mu:Mut (H x))(he:e=x\/H e=some (.own x))(k:∀b u,b≠e->h.get? b=some u->h'.get? b=some u)(heo:∃u,h'.get? e=some u):Un fs ex H (cM H x o) h h':=by
 have hx:∀b,H b=none->b≠x:=λb n z=>by subst z;rw[n]at mu;exact mu
 have hb:∀b,H b=none->b≠e:=λb n z=>by
  subst z;rcases he with r|r
  ·exact hx b n r
  ·rw[n]at r;cases r
 have hm:∀b u,H b=some u->¬Mut (some u)->b≠x:=λb u q nm z=>by subst z;rw[q]at mu;exact nm mu
 refine⟨λb u q n _ _=>k b u (hb b n) q,λb u q n _ _=>⟨u.slots,k b u (hb b n) q⟩,λb u q n _=>by rw[aU (hx b n)];exact n,λb u q _=>?_,
  λb xs q=>by rw[aU (hm b _ q λz=>z)];exact q,λb u xs q=>by rw[aU (hm b _ q λz=>z)];exact q,λb ps q=>⟨#[],by rw[aU (hm b _ q λz=>z),q];simp⟩⟩
 by_cases hbe:b=e
 ·subst hbe;exact heo
 ·exact⟨u,k b u hbe q⟩
end
def trk(h:Heap)(H:Hp):List Addr:=(List.range h.objs.size).filter λa=>(H a).isSome
def Pn(h:Heap)(H:Hp):Heap:=PySem.W.hideAll h (trk h H)
def YS(h:Heap)(H:Hp):(Pn h H).objs.size=h.objs.size:=PySem.W.hideAll_size _ _
def ô{H:Hp}{b:Addr}{o:Obj}(e:h.get? b=some o)(n:H b=none):(Pn h H).get? b=some o :=
 PySem.W.hideAll_get _ e λhm=>by
  have q:(H b).isSome=true:=(lH.mp hm).2;rw[n]at q;simp at q
def a0a{H:Hp}{b:Addr}{o:Obj}(e:(Pn h H).get? b=some o):h.get? b=some o/\H b=none:=by
 have e':h.get? b=some o:=PySem.W.of_hideAll (trk h H) e;refine⟨e',?_⟩;cases q:H b with
 |none=>rfl
 |some x =>
  have hm:b∈trk h H:=lH.mpr ⟨nQ.mpr (aX e'),by simp[q]⟩;have z:(Pn h H).get? b=none:=PySem.W.hideAll_none (trk h H) hm;rw[z]at e;cases e
structure Mod(K:aH)(mg:Str->Option Value)(base:Heap):Prop where
 kin:K.In base
 glob:base.Ns mainGlobals mg
 blt:∃mb,base.Ns builtinsNs mb/\∀x:Str,x≠ "__name__" ->mb x=bootBuiltins x
 nolimit:base.NoLimit
set_option genInjectivity false in
structure Cx where
 prog:Program
 w:World
 K:aH
 mg:Str->Option Value
 base:Heap
 A:Around
 N:List Str
 s₀:Shared
 H₀:Hp
 env:Env
 outer:List Env
 stack:List Env
 ex:List Addr
 fn:Str->Bool
 calm:Bool
 pn:List (Addr×Obj)
 xe:Value->Shared->Prop
def frs(l:List Env):List Addr:=l.filterMap (·.frame)
abbrev Cx.fs(X:Cx):List Addr:=frs X.outer
def Vis(sc:Scope)(x:Str):Prop:=sc.names.lookup x=some .local\/sc.names.lookup x=some .cell\/sc.names.lookup x=some .free
def Loc(sc:Scope)(x:Str):Prop:=sc.names.lookup x=some .local\/sc.names.lookup x=some .cell
def Look(env:Env)(h:Heap)(m:Str->Option Value)(x:Str)(u:Value):Prop :=
 (env.kindOf x=some .local/\m x=some u)\/((env.kindOf x=some .cell\/env.kindOf x=some .free)/\∃c,env.cells.lookup x=some c/\h.IsCell c (some u))
structure Cx.Ok(X:Cx):Prop where
 mod:Mod X.K X.mg X.base
 kind:X.env.scope.kind=.function
 glob:X.env.globals=mainGlobals
 blt:X.env.builtins=builtinsNs
 above:X.s₀.heap.objs.size<=X.env.locals
 inj:∀x y c,X.env.cells.lookup x=some c->X.env.cells.lookup y=some c->x=y
 has:∀x,(X.env.kindOf x=some .cell\/X.env.kindOf x=some .free)->∃c,X.env.cells.lookup x=some c
 cab:∀x c,X.fn x=true->X.env.cells.lookup x=some c->X.s₀.heap.objs.size<=c
 hd:X.calm=true->X.A.handled=none
 frames:X.A.frames=some X.stack
 stk:X.stack=X.outer\/(X.stack=X.env::X.outer/\X.env.frame=some X.env.locals)
 exf:∀b∈X.ex,b≠X.env.locals/\∀x c,X.env.cells.lookup x=some c->c≠b
 bs:∀b o,X.base.get? b=some o->X.s₀.heap.get? b=some o/\X.H₀ b=none
 η:X.base.objs.size<=X.s₀.heap.objs.size
 U8:∀b o,X.base.get? b=some o->b∉X.ex
 YT:∀b∈X.ex,b∉X.fs
 Ce:X.s₀.heap.FunFrames X.base X.outer
 frf:∀b∈X.fs,X.H₀ b=none
structure bC(X:Cx)(Y:List (Addr×Obj))(σ:List (Option V))(H:Hp)(s:Shared):Prop where
 ok:X.Ok
 os:s.os=X.s₀.os
 bare:AllBare s.gens
 base:Un X.fs X.ex X.H₀ H X.s₀.heap s.heap
 loc:∃m,s.heap.Ns X.env.locals m/\∀(i:Nat) (x:Str) (v:V),X.N[i]?=some x->σ[i]?=some (some v)->Vis X.env.scope x->∃u,cQ v u/\Look X.env s.heap m x u
 cell:∀x c,X.env.cells.lookup x=some c->∃v,s.heap.IsCell c v
 free:H X.env.locals=none
 ud:∀x c,X.env.cells.lookup x=some c->H c=none
 pin:∀p∈X.pn++Y,s.heap.get? p.1=some p.2/\H p.1=none/\p.1≠X.env.locals/\p.1∉X.fs/\∀v,p.2.data≠.cell v
 hok:zQ X.prog X.w H s.heap
 len:σ.length=X.N.length
section
variable{X:Cx}{Y:List (Addr×Obj)}{σ:List (Option V)}{H H':Hp}{s:Shared}
def Cx.Ok.a6P(ok:X.Ok){b:Addr}{o:Obj}(e:X.base.get? b=some o):b∉X.fs:=λhb=>by
 have:=(ok.Ce.mem hb).1;rw[e]at this;cases this
def bC.bs(I:bC X Y σ H s):∀b o,X.base.get? b=some o->s.heap.get? b=some o/\H b=none:=λb o e =>
 ⟨I.base.keep b o (I.ok.bs b o e).1 (I.ok.bs b o e).2 (I.ok.a6P e) (I.ok.U8 b o e),I.base.free b o (I.ok.bs b o e).1 (I.ok.bs b o e).2 (I.ok.U8 b o e)⟩
def bC.bk(I:bC X Y σ H s):∀b o,X.base.get? b=some o->s.heap.get? b=some o:=λb o e=>(I.bs b o e).1
def bC.mod(I:bC X Y σ H s):Mod X.K X.mg X.base:=I.ok.mod
def bC.DY(I:bC X Y σ H s):X.K.In s.heap:=I.ok.mod.kin.keeps I.bk
def bC.lt(I:bC X Y σ H s):X.env.locals<s⁻¹:=let⟨_,hn,_⟩:=I.loc;hn.lt
def bC.sz(I:bC X Y σ H s):X.s₀.heap.objs.size<=s⁻¹:=dF I.ok.above (d7 I.lt)
def bC.a4P(I:bC X Y σ H s){a:Addr}(h:s⁻¹<=a):a∉X.fs:=λhb=>by
 obtain⟨_,o,ho,_⟩:=I.ok.Ce.mem hb;exact absurd (jC (aX ho) (dF I.sz h)) (wD _)
def bC.cne(I:bC X Y σ H s):∀x c,X.env.cells.lookup x=some c->c≠X.env.locals:=λx c e z=>by
 obtain⟨v,o,ho,hd⟩:=I.cell x c e;obtain⟨m,⟨o',es,ep,ho',hd',_⟩,_⟩:=I.loc;rw[z,ho']at ho;cases ho;rw[hd']at hd;cases hd
def bC.Ce(I:bC X Y σ H s):s.heap.FunFrames X.base X.outer:=by
 have all:∀(l:List Env),(∀b∈frs l,b∈X.fs)->X.s₀.heap.FunFrames X.base l->s.heap.FunFrames X.base l:=by
  intro l
  induction l with
  |nil=>intro _ _;trivial
  |cons env r ih =>
   intro hs hl;obtain⟨hk,⟨L,o,hf,hn,ho,hd⟩,hr⟩:=hl;have hL:L∈X.fs:=hs L (by unfold frs;rw[Ug,hf];exact aV);obtain⟨sl,e⟩:=I.base.slot L o ho (I.ok.frf L hL) hL λz=>I.ok.YT L z hL;exact⟨hk,⟨L,_,hf,hn,e,hd⟩,ih (λb hb=>hs b (by unfold frs;rw[Ug,hf];exact bh _ hb)) hr⟩
 exact all X.outer (λ_ hb=>hb) I.ok.Ce
def bC.stack(I:bC X Y σ H s):s.heap.FunFrames X.base X.stack:=by
 rcases I.ok.stk with e|⟨e,hf⟩
 ·rw[e];exact I.Ce
 ·rw[e];obtain⟨m,hn,_⟩:=I.loc;refine .cons (by rw[I.ok.kind];decide) hf hn ?_ I.Ce;exact Heap.get?_none_of_le (dF I.ok.η I.ok.above)
def bC.Eu(I:bC X Y σ H s):∀b∈frs X.stack,b∈X.env.locals::X.fs:=λb hb=>by
 rcases I.ok.stk with e|⟨e,hf⟩
 ·rw[e]at hb;exact bh _ hb
 ·rw[e]at hb;unfold frs at hb;rw[Ug,hf]at hb;exact hb
def bC.W8(I:bC X Y σ H s):∀b∈frs X.stack,H b=none:=λb hb=>by
 rcases bU.mp (I.Eu b hb)with e|hb
 ·rw[e];exact I.free
 ·obtain⟨_,o,ho,_⟩:=I.ok.Ce.mem hb;exact I.base.free b o ho (I.ok.frf b hb) λz=>I.ok.YT b z hb
def bC.step{g':Array GenState}{d':Drawn}(I:bC X Y σ H s)
  (hch:∀b∈ch,(b∈X.ex\/X.s₀.heap.objs.size<=b)/\b≠X.env.locals/\(∀x c,X.env.cells.lookup x=some c->c≠b)/\∀p∈X.pn++Y,p.1≠b)
  (keep:∀b o,b≠X.env.locals->b∉X.fs->b∉ch->s.heap.get? b=some o->H b=none->h'.get? b=some o)
  (slot:∀b o,b≠X.env.locals->b∈X.fs->b∉ch->s.heap.get? b=some o->H b=none->∃sl,h'.get? b=some { o with slots:=sl}) (free:∀b o,b∉ch->s.heap.get? b=some o->H b=none->H' b=none)
  (there:∀b o,b∉ch->s.heap.get? b=some o->∃o',h'.get? b=some o')
  (tups:∀b xs,H b=some (.tup xs)->H' b=some (.tup xs)) (Jh:∀b o u,H b=some (.jq o u)->H' b=some (.jq o u)) (Pk:∀b ps,H b=some (.tbl ps)->∃more,H' b=some (.tbl (ps++more)))
  (ns:∀m,s.heap.Ns X.env.locals m->h'.Ns X.env.locals m) (hok:zQ X.prog X.w H' h') (hg:AllBare g') :
  bC X Y σ H' { s with heap:=h',gens:=g',drawn:=d',toks:=t'}:=by
 have neL:∀b o,X.s₀.heap.get? b=some o->b≠X.env.locals:=λb o e=>bZ (jC (aX e) I.ok.above);have neC:∀b o,X.s₀.heap.get? b=some o->b∉X.ex->b∉ch:=λb o e hx hb=>by
  rcases(hch b hb).1 with z|z
  ·exact hx z
  ·exact absurd (jC (aX e) z) (wD _)
 have cellK:∀x c,X.env.cells.lookup x=some c->∀v,s.heap.IsCell c v->h'.IsCell c v:=λx c e v ⟨o,ho,hd⟩=>by
  have nch:c∉ch:=λz=>(hch c z).2.2.1 x c e rfl;by_cases hc:c∈X.fs
  ·obtain⟨sl,q⟩:=slot c o (I.cne x c e) hc nch ho (I.ud x c e);exact⟨_,q,hd⟩
  ·exact⟨o,keep c o (I.cne x c e) hc nch ho (I.ud x c e),hd⟩
 refine⟨I.ok,I.os,hg,⟨λb o e n hb hx=>?_,λb o e n hb hx=>?_,λb o e n hx=>?_,λb o e hx=>?_,λb xs e=>tups b xs (I.base.tups b xs e),λb o xs e=>Jh b o xs (I.base.Jh b o xs e),λb ps e=>?_⟩,?_,λx c e=>?_,?_,λx c e=>?_,λp hp=>?_,hok,I.len⟩
 ·exact keep b o (neL b o e) hb (neC b o e hx) (I.base.keep b o e n hb hx) (I.base.free b o e n hx)
 ·obtain⟨sl,e1⟩:=I.base.slot b o e n hb hx;obtain⟨sl',e2⟩:=slot b _ (neL b o e) hb (neC b o e hx) e1 (I.base.free b o e n hx);exact⟨sl',e2⟩
 ·obtain⟨o',e1⟩:=I.base.there b o e hx;exact free b o' (neC b o e hx) e1 (I.base.free b o e n hx)
 ·obtain⟨o',e1⟩:=I.base.there b o e hx;exact there b o' (neC b o e hx) e1
 ·obtain⟨m1,e1⟩:=I.base.Pk b ps e;obtain⟨m2,e2⟩:=Pk b _ e1;exact⟨m1++m2,by rw[e2,Array.append_assoc]⟩
 ·obtain⟨m,hn,hl⟩:=I.loc;refine⟨m,ns m hn,λi x v e1 e2 e3=>?_⟩;obtain⟨u,r,l⟩:=hl i x v e1 e2 e3;refine⟨u,r,?_⟩;rcases l with l|⟨k,c,e,z⟩
  ·exact .inl l
  ·exact .inr ⟨k,c,e,cellK x c e _ z⟩
 ·obtain⟨v,z⟩:=I.cell x c e;exact⟨v,cellK x c e v z⟩
 ·obtain⟨m,⟨o,_,_,ho,_⟩,_⟩:=I.loc;exact free _ o (λz=>(hch _ z).2.1 Z) ho I.free
 ·obtain⟨v,o,ho,hd⟩:=I.cell x c e;exact free c o (λz=>(hch c z).2.2.1 x c e Z) ho (I.ud x c e)
 ·obtain⟨e,n,ne,nf,d⟩:=I.pin p hp;have nch:p.1∉ch:=λz=>(hch p.1 z).2.2.2 p hp rfl;exact⟨keep p.1 p.2 ne nf nch e n,free p.1 p.2 nch e n,ne,nf,d⟩
def bC.un(I:bC X Y σ H s)(u:Un X.fs [] H H' s.heap h')(hok:zQ X.prog X.w H' h'):bC X Y σ H' { s with heap:=h',toks:=t'}:=by
 obtain⟨m,⟨o,es,ep,ho,r⟩,_⟩:=id I.loc;obtain⟨sl,hL⟩:=u.any ho I.free (by simp);exact I.step (g':=s.gens) (d':=s.drawn) (ch:=[]) (λ_ z=>nomatch z) (λb o _ hb _ e n=>u.keep b o e n hb (by simp)) (λb o _ hb _ e n=>u.slot b o e n hb (by simp)) (λb o _ e n=>u.free b o e n (by simp)) (λb o _ e=>u.there b o e (by simp)) u.tups u.Jh u.Pk (λm' hm=>by
  obtain⟨o',es',ep',ho',r'⟩:=hm;rw[ho]at ho';cases ho';exact⟨_,es',ep',hL,r'⟩) hok I.bare
def bC.call{g':Array GenState}{d':Drawn}(I:bC X Y σ H s)(u:Un (frs X.stack) ch H H' s.heap h')(hok:zQ X.prog X.w H' h')(hg:AllBare g')
  (hch:∀b∈ch,(b∈X.ex\/X.s₀.heap.objs.size<=b)/\b≠X.env.locals/\(∀x c,X.env.cells.lookup x=some c->c≠b)/\∀p∈X.pn++Y,p.1≠b) :
  bC X Y σ H' { s with heap:=h',gens:=g',drawn:=d',toks:=t'}:=by
 obtain⟨m,⟨o,es,ep,ho,r⟩,_⟩:=id I.loc;obtain⟨sl,hL⟩:=u.any ho I.free λz=>(hch _ z).2.1 rfl;exact I.step (ch:=ch) hch (λb o hL hb hc e n=>u.keep b o e n (λz=>(bU.mp (I.Eu b z)).elim hL hb) hc) (λb o _ _ hc e n=>u.any e n hc) (λb o hc e n=>u.free b o e n hc) (λb o hc e=>u.there b o e hc) u.tups u.Jh u.Pk (λm' hm=>by
  obtain⟨o',es',ep',ho',r'⟩:=hm;rw[ho]at ho';cases ho';exact⟨_,es',ep',hL,r'⟩) hok hg
def bC.turned{it:Addr}(I:bC X Y σ H s)(k:∀b o,b≠it->s.heap.get? b=some o->h'.get? b=some o)(hn:H it=none)(hL:it≠X.env.locals)
  (h1:it∈X.ex\/X.s₀.heap.objs.size<=it) (h2:∀x c,X.env.cells.lookup x=some c->c≠it) (h3:∀p∈X.pn++Y,p.1≠it):bC X Y σ H { s with heap:=h',toks:=t'}:=by
 have nit:∀b u,H b=some u->b≠it:=λb u e z=>by rw[z,hn]at e;cases e
 refine I.step (g':=s.gens) (d':=s.drawn) (ch:=[it]) (λb hb=>?_) (λb o _ _ hc e _=>k b o (λz=>hc (by simp[z])) e) (λb o _ _ hc e _=>⟨o.slots,k b o (λz=>hc (by simp[z])) e⟩) (λ_ _ _ _ n=>n)
  (λb o hc e=>⟨o,k b o (λz=>hc (by simp[z])) e⟩) (λ_ _ e=>e) (λ_ _ _ e=>e) (λb ps e=>⟨#[],by rw[e];simp⟩) (λm hm=>?_) (λb u e=>?_) I.bare
 ·have e:b=it:=by simpa using hb
  subst e;exact⟨h1,hL,h2,h3⟩
 ·obtain⟨o,es,ep,ho,r⟩:=hm;exact⟨o,es,ep,k _ o (Ne.symm hL) ho,r⟩
 ·refine(I.hok b u e).stay (λc v hc q=>k c v ?_ q) (λ_ q=>q) λ_ _ q=>q;rcases hc with z|z
  ·rw[z];exact nit b u e
  ·exact nit c _ z
def bC.tok(I:bC X Y σ H s)(t:Nat):bC X Y σ H { s with toks:=t}:=I.un (h':=s.heap) (t':=t) Un.refl I.hok
def bC.kept{t':Nat}(I:bC X Y σ H s)(k:∀b u,s.heap.get? b=some u->h'.get? b=some u):bC X Y σ H { s with heap:=h',toks:=t'}:=I.un (Un.kept k) (I.hok.kept k)
def bC.laid{a:Addr}{o:HO}{t':Nat}(I:bC X Y σ H s)(k:∀b u,s.heap.get? b=some u->h'.get? b=some u)(hp:s⁻¹<=a)(new:fW X.prog X.w (cM H a o) h' a o) :
  bC X Y σ (cM H a o) { s with heap:=h',toks:=t'}:=I.un (Un.laid k hp (I.hok.fresh hp)) (I.hok.laid k hp new)
def bC.write{x e:Addr}{o:HO}{t':Nat}(I:bC X Y σ H s)(mu:Mut (H x))(he:e=x\/H e=some (.own x))(k:∀b u,b≠e->s.heap.get? b=some u->h'.get? b=some u)(heo:∃u,h'.get? e=some u)
  (new:fW X.prog X.w (cM H x o) h' x o):bC X Y σ (cM H x o) { s with heap:=h',toks:=t'}:=I.un (Un.write mu he k heo) (I.hok.write mu he k heo new)
def bC.Hj{a2f:List (Addr×Obj)}(I:bC X Y σ H s)(h:∀p∈a2f,s.heap.get? p.1=some p.2/\H p.1=none/\p.1≠X.env.locals/\p.1∉X.fs/\∀v,p.2.data≠.cell v):bC X a2f σ H s :=
 ⟨I.ok,I.os,I.bare,I.base,I.loc,I.cell,I.free,I.ud,λp hp=>(cL.mp hp).elim (λz=>I.pin p (sI _ z)) (h p),I.hok,I.len⟩
def Q8(hN:N.Nodup){i j:Nat}{x:Str}(a:N[i]?=some x)(b:N[j]?=some x):i=j:=by
 obtain⟨h1,e1⟩:=fY.mp a;obtain⟨h2,e2⟩:=fY.mp b;exact(List.getElem_inj hN).mp (e1.trans e2.symm)
def LQ{E:Value->Shared->Prop}{i:Nat}{x:Str}{v:V}{u:Value}{Q:Unit->Shared->Prop}(I:bC X Y σ H s)(hN:X.N.Nodup)(hi:X.N[i]?=some x)(hx:Loc X.env.scope x)(r:cQ v u)
  (h:∀s',bC X Y (σ.set i (some v)) H s'->(∃a,Heap.SameBut a s.heap s'.heap/\(a=X.env.locals\/X.env.cells.lookup x=some a))->Q ⟨⟩ s') (hf:X.fn x=true\/X.env.scope.names.lookup x=some .local:=by first|exact .inl rfl|exact .inr rfl|assumption):wpAny Z98 A (storeName X.env x u) Q E s:=by
 obtain⟨m,hn,hl⟩:=id I.loc;have hcls:(X.env.scope.kind==.class||(X.env.scope.kind==.module&&X.env.locals != X.env.globals))=false:=by rw[I.ok.kind];rfl
 have a4Q:i<σ.length:=by rw[I.len];exact(fY.mp hi).1
 have cne:=I.cne;have tracked:∀{a:Addr}{h':Heap},(∃o,s.heap.get? a=some o/\H a=none)->Heap.SameBut a s.heap h'->zQ X.prog X.w H h':=λ{a h'} ha hs b ob e=>by
  obtain⟨_,_,hfree⟩:=ha;refine(I.hok b ob e).stay (λc w' hc q=>(hs.2 c ?_).trans q) (λ_ q=>q) λ_ _ q=>q;rintro rfl;rcases hc with rfl|hc
  ·rw[hfree]at e;cases e
  ·rw[hfree]at hc;cases hc
 rcases hx with hk|hk
 ·refine wpAny_storeName_local hk hn (λh' hn' hs=>?_) hcls;obtain⟨oL,_,_,hoL,_⟩:=id hn;refine h _ ⟨I.ok,I.os,I.bare,⟨λb o e n hb hx=>?_,λb o e n hb hx=>?_,I.base.free,λb o e hx=>?_,I.base.tups,I.base.Jh,I.base.Pk⟩,⟨_,hn',λj y v' e1 e2 e3=>?_⟩,λy c e=>?_,I.free,I.ud,λp hp=>?_,tracked ⟨oL,hoL,I.free⟩ hs,by simpa using I.len⟩ ⟨_,hs,.inl Z⟩
  ·exact(hs.2 b (bZ (jC (aX e) I.ok.above))).trans (I.base.keep b o e n hb hx)
  ·obtain⟨sl,e1⟩:=I.base.slot b o e n hb hx;exact⟨sl,(hs.2 b (bZ (jC (aX e) I.ok.above))).trans e1⟩
  ·obtain⟨o',e1⟩:=I.base.there b o e hx;exact⟨o',(hs.2 b (bZ (jC (aX e) I.ok.above))).trans e1⟩
  ·by_cases hj:j=i
   ·subst hj;rw[hi]at e1;cases e1;rw[List.getElem?_set_self a4Q]at e2;cases e2;exact⟨u,r,.inl ⟨hk,by simp⟩⟩
   ·rw[List.getElem?_set_ne (Ne.symm hj)]at e2;obtain⟨u',r',q⟩:=hl j y v' e1 e2 e3;refine⟨u',r',?_⟩;rcases q with⟨k,e⟩|⟨k,c,e,z⟩
    ·refine .inl ⟨k,?_⟩;have:y≠x:=λe=>hj (Q8 hN e1 (e▸hi));simp[this,e]
    ·exact .inr ⟨k,c,e,z.sameBut hs (cne y c e)⟩
  ·obtain⟨w',z⟩:=I.cell y c e;exact⟨w',z.sameBut hs (cne y c e)⟩
  ·obtain⟨e,n,ne,nf,d⟩:=I.pin p hp;exact⟨(hs.2 p.1 ne).trans e,n,ne,nf,d⟩
 ·have hfn:X.fn x=true:=by
   rcases hf with z|z
   ·exact z
   ·rw[z]at hk;cases hk
  obtain⟨c,hc⟩:=I.ok.has x (.inl hk);obtain⟨w',z⟩:=I.cell x c hc;refine wpAny_storeName_cell I.ok.kind hk hc z (λh' hc' hs=>?_);obtain⟨oc,hoc,a6Q⟩:=id z;refine h { s with heap:=h'} ⟨I.ok,I.os,I.bare,⟨λb o e n hb hx=>?_,λb o e n hb hx=>?_,I.base.free,λb o e hx=>?_,I.base.tups,I.base.Jh,I.base.Pk⟩,⟨m,hn.sameBut hs (Ne.symm (cne x c hc)),λj y v' e1 e2 e3=>?_⟩,λy c' e=>?_,I.free,I.ud,λp hp=>?_,tracked ⟨oc,hoc,I.ud x c hc⟩ hs,by simpa using I.len⟩ ⟨c,hs,.inr hc⟩
  ·exact(hs.2 b (bZ (jC (aX e) (I.ok.cab x c hfn hc)))).trans (I.base.keep b o e n hb hx)
  ·obtain⟨sl,e1⟩:=I.base.slot b o e n hb hx;exact⟨sl,(hs.2 b (bZ (jC (aX e) (I.ok.cab x c hfn hc)))).trans e1⟩
  ·obtain⟨o',e1⟩:=I.base.there b o e hx;exact⟨o',(hs.2 b (bZ (jC (aX e) (I.ok.cab x c hfn hc)))).trans e1⟩
  ·by_cases hj:j=i
   ·subst hj;rw[hi]at e1;cases e1;rw[List.getElem?_set_self a4Q]at e2;cases e2;exact⟨u,r,.inr ⟨.inl hk,c,hc,hc'⟩⟩
   ·rw[List.getElem?_set_ne (Ne.symm hj)]at e2;obtain⟨u',r',q⟩:=hl j y v' e1 e2 e3;refine⟨u',r',?_⟩;rcases q with q|⟨k,c',e,z'⟩
    ·exact .inl q
    ·refine .inr ⟨k,c',e,z'.sameBut hs ?_⟩;rintro rfl;exact hj (Q8 hN e1 (I.ok.inj _ _ _ e hc▸hi))
  ·by_cases hcc:c'=c
   ·subst hcc;exact⟨_,hc'⟩
   ·obtain⟨w2,z2⟩:=I.cell y c' e;exact⟨w2,z2.sameBut hs hcc⟩
  ·obtain⟨e,n,ne,nf,d⟩:=I.pin p hp;refine⟨(hs.2 p.1 ?_).trans e,n,ne,nf,d⟩;intro q;rw[q,hoc]at e;have q':oc=p.2:=dO e;exact d w' (by rw[<-q'];exact a6Q)
def Q9{E:Value->Shared->Prop}{i:Nat}{x:Str}{v:V}{u:Value}{Q:Unit->Shared->Prop}(I:bC X Y σ H s)(hN:X.N.Nodup)(hi:X.N[i]?=some x)(hx:Loc X.env.scope x)(r:cQ v u)
  (h:∀s',bC X Y (σ.set i (some v)) H s'->Q ⟨⟩ s') (hf:X.fn x=true\/X.env.scope.names.lookup x=some .local:=by first|exact .inl rfl|exact .inr rfl|assumption):wpAny Z98 A (storeName X.env x u) Q E s :=
 LQ I hN hi hx r (λs' I' _=>h s' I') hf
def bC.call'{s':Shared}(I:bC X Y σ H s)(ho:s'.os=s.os)(u:Un (frs X.stack) ch H H' s.heap s'.heap)(hok:zQ X.prog X.w H' s'.heap)(hg:AllBare s'.gens)
  (hch:∀b∈ch,(b∈X.ex\/X.s₀.heap.objs.size<=b)/\b≠X.env.locals/\(∀x c,X.env.cells.lookup x=some c->c≠b)/\∀p∈X.pn++Y,p.1≠b):bC X Y σ H' s':=by
 obtain⟨h',g',d',t',o'⟩:=s';have e:o'=s.os:=ho;subst e;exact I.call (g':=g') (t':=t') (d':=d') u hok hg hch
end
abbrev XK:=Value->Option Addr->Hp->Prop
abbrev St:=List (Option V)
abbrev VK:=V->Hp->Prop
abbrev TE:=St->Hp->VK->Prop
variable{ta te:TE}
abbrev TT:=St->Hp->(Bool->Hp->Prop)->Prop
abbrev TA:=St->Hp->(List V->Hp->Prop)->Prop
structure Ends where
 nx:St->Hp->Prop
 rt:VK
 bk:St->Hp->Prop:=λ_ _=>False
 ct:St->Hp->Prop:=λ_ _=>False
variable{D:Ends}
abbrev TS:=Ends->St->Hp->Prop
variable{tb:TS}
inductive EP(X:Cx)(Y:List (Addr×Obj))(σ:St)(Q:VK)(u:Value)(s':Shared):Prop
 |mk (v H':_) (_:bC X Y σ H' s') (_:cQ v u) (_:Q v H')
def TP(X:Cx)(Y:List (Addr×Obj))(σ:St)(Q:Bool->Hp->Prop)(b:Bool)(s':Shared):Prop:=∃H',bC X Y σ H' s'/\Q b H'
inductive AP(X:Cx)(Y:List (Addr×Obj))(σ:St)(Q:List V->Hp->Prop)(us:List Value)(s':Shared):Prop
 |mk (vs H':_) (_:bC X Y σ H' s') (_:cN vs us) (_:Q vs H')
def SP(X:Cx)(Y:List (Addr×Obj))(D:Ends)(f:Flow)(s':Shared):Prop :=
 match f with
 |.next=>∃σ' H',bC X Y σ' H' s'/\D.nx σ' H'
 |.brk=>∃σ' H',bC X Y σ' H' s'/\D.bk σ' H'
 |.cont=>∃σ' H',bC X Y σ' H' s'/\D.ct σ' H'
 |.ret u=>∃v σ' H',bC X Y σ' H' s'/\cQ v u/\D.rt v H'
def PE(X:Cx)(e:Expr)(t:TE):Prop :=
 ∀(Y:List (Addr×Obj)) (s:Shared) (σ:St) (H:Hp) (Q:VK),bC X Y σ H s->t σ H Q->wpAny (model X.prog X.w) X.A (eval e X.env) (EP X Y σ Q) X.xe s
def PT(X:Cx)(e:Expr)(t:TT):Prop :=
 ∀(Y:List (Addr×Obj)) (s:Shared) (σ:St) (H:Hp) (Q:Bool->Hp->Prop),bC X Y σ H s->t σ H Q->wpAny (model X.prog X.w) X.A (isTrue e X.env (eval e X.env)) (TP X Y σ Q) X.xe s
def PW(X:Cx)(e:Expr)(t:TT):Prop :=
 ∀(whole:Sem Value) (Y:List (Addr×Obj)) (s:Shared) (σ:St) (H:Hp) (Q:Bool->Hp->Prop),bC X Y σ H s->t σ H Q->wpAny (model X.prog X.w) X.A (isTrue e X.env whole) (TP X Y σ Q) X.xe s
def PW.pt{X:Cx}{t:TT}(h:PW X e t):PT X e t:=h _
def PA(X:Cx)(es:List Expr)(t:TA):Prop :=
 ∀(pos:Pos) (Y:List (Addr×Obj)) (s:Shared) (σ:St) (H:Hp) (Q:List V->Hp->Prop),bC X Y σ H s->t σ H Q->wpAny (model X.prog X.w) X.A (spliced (backTo pos (starEach es X.env))) (AP X Y σ Q) X.xe s
def PS(X:Cx)(st:Stmt)(t:TS):Prop :=
 ∀(Y:List (Addr×Obj)) (s:Shared) (σ:St) (H:Hp) (D:Ends),bC X Y σ H s->t D σ H->wpAny (model X.prog X.w) X.A (exec st X.env) (SP X Y D) X.xe s
def Ra(X:Cx)(st:List Stmt)(t:TS):Prop :=
 ∀(Y:List (Addr×Obj)) (s:Shared) (σ:St) (H:Hp) (D:Ends),bC X Y σ H s->t D σ H->wpAny (model X.prog X.w) X.A (execs st X.env) (SP X Y D) X.xe s
def jx{α:Type}{t:Sem α}{Q Q':α->Shared->Prop}{E:Value->Shared->Prop}{s:Shared}(h:wpAny Z98 A t Q E s)(hQ:∀a s,Q a s->Q' a s):wpAny Z98 A t Q' E s:=iH h hQ λ_ _ x=>x
section
variable{X:Cx}
inductive EA{α:Type}(P Q:α->Prop):Prop
 |mk (v:α) (p:P v) (q:Q v)
inductive EC{α:Type}(P R Q:α->Prop):Prop
 |mk (v:α) (p:P v) (r:R v) (q:Q v)
inductive õ(i:Nat)(σ:St)(H:Hp)(Q:VK):Prop
 |mk (v:_) (_:σ[i]?=some (some v)) (_:Q v H)
def tC(v:V):TE:=λ_ H Q=>Q v H
def a2G{i:Nat}{x:Str}(hN:X.N[i]?=some x)(hv:Vis X.env.scope x)(hd:(x==("__debug__" : Str))=false:=by decide)(hcd:(x==("__classdict__" : Str))=false:=by decide):PE X (.Name x pos) (õ i):=by
 intro Y s σ H Q I h;obtain⟨v,e,h⟩:=h;obtain⟨m,hn,hl⟩:=I.loc;obtain⟨u,r,l⟩:=hl i x v hN e hv;have fin:EP X Y σ Q u s:=⟨v,H,I,r,h⟩;rcases l with⟨hk,hm⟩|⟨hk,c,hc,hcell⟩
 ·exact wpAny_Name (wpAny_loadName_local I.ok.kind hk hn hm fin) hd
 ·rcases hk with hk|hk
  ·exact wpAny_Name (wpAny_loadName_cell I.ok.kind hk hc hcell fin) hd
  ·exact wpAny_Name (wpAny_loadName_free I.ok.kind hk hc hcell fin hcd) hd
def aA{i j pos}:PE X (.Constant (.int i) j pos) (tC (.int i)):=λ_ _ _ H _ I h=>wpAny_Constant_int ⟨.int i,H,I.tok _,⟨_,Z⟩,h⟩
def zW{b j pos}:PE X (.Constant (.bool b) j pos) (tC (.bl b)):=λ_ _ _ H _ I h=>Constant_bool ⟨.bl b,H,I,Z,h⟩
def oY{j pos}:PE X (.Constant .none j pos) (tC .non):=λ_ _ _ H _ I h=>Constant_none ⟨.non,H,I,Z,h⟩
def gA{x j pos}:PE X (.Constant (.str x) j pos) (tC (.str x)):=λ_ _ _ H _ I h=>Calls.Constant_str ⟨.str x,H,I.tok _,⟨_,Z⟩,h⟩
def Gl(X:Cx)(x:Str):Prop:=X.env.kindOf x=some .globalImplicit
def Cg{E:Value->Shared->Prop}{Y:List (Addr×Obj)}{s:Shared}{σ:St}{H:Hp}{x:Str}{u:Value}{Q:Value->Shared->Prop}(I:bC X Y σ H s)(hg:Gl X x)(hm:X.mg x=some u)(h:Q u s)
  (hd:(x==("__debug__" : Str))=false:=by decide):wpAny (model X.prog X.w) X.A (eval (.Name x pos) X.env) Q E s :=
 è I.ok.kind hg (Calls.loadGlobal_global (by rw[I.ok.glob];exact I.mod.glob.keeps I.bk) hm h) hd
def wG{E:Value->Shared->Prop}{Y:List (Addr×Obj)}{s:Shared}{σ:St}{H:Hp}{x:Str}{u:Value}{Q:Value->Shared->Prop}(I:bC X Y σ H s)(hg:Gl X x)(hm:X.mg x=none)(hv:bootBuiltins x=some u)(h:Q u s)
  (hn:x≠ "__name__" := by decide) (hd:(x==("__debug__" : Str))=false:=by decide):wpAny (model X.prog X.w) X.A (eval (.Name x pos) X.env) Q E s:=by
 obtain⟨mb,h1,h2⟩:=I.mod.blt;exact è I.ok.kind hg (Calls.loadGlobal_builtin (by rw[I.ok.glob];exact I.mod.glob.keeps I.bk) hm (by rw[I.ok.blt];exact h1.keeps I.bk) ((h2 x hn).trans hv) h) hd
def Pq{x:Str}{v:V}{u:Value}(hg:Gl X x)(hm:X.mg x=some u)(r:cQ v u)(hd:(x==("__debug__" : Str))=false:=by decide):PE X (.Name x pos) (tC v) :=
 λ_ _ _ H _ I h=>Cg I hg hm ⟨v,H,I,r,h⟩ hd
def uM{x:Str}{v:V}{u:Value}(hg:Gl X x)(hm:X.mg x=none)(hv:bootBuiltins x=some u)(r:cQ v u)(hn:x≠ "__name__" := by decide)(hd:(x==("__debug__" : Str))=false:=by decide):PE X (.Name x pos) (tC v) :=
 λ_ _ _ H _ I h=>wG I hg hm hv ⟨v,H,I,r,h⟩ hn hd
variable{a b:Expr}{tb:TE}
variable{tA tB':TT}{rest:List Expr}
def a2H(t u:TT):TT:=λσ H Q=>t σ H λc H1=>if c=true then u σ H1 Q else Q false H1
def tOr(t u:TT):TT:=λσ H Q=>t σ H λc H1=>if c=true then Q true H1 else u σ H1 Q
def a6R(t:TT):TT:=λσ H Q=>t σ H λc H1=>Q (!c) H1
def mZ(ha:PT X a tA):PW X (.BoolOp .And [a] pos) tA:=by
 intro wh Y s σ H Q I h;refine isTrue_and (jx (ha Y s σ H Q I h) λc s1 e=>?_);cases c with
 |true=>exact isTrue_and_nil e
 |false=>exact e
def Ew(ha:PT X a tA):PW X (.BoolOp .Or [a] pos) tA:=by
 intro wh Y s σ H Q I h;refine isTrue_or (jx (ha Y s σ H Q I h) λc s1 e=>?_);cases c with
 |false=>exact isTrue_or_nil e
 |true=>exact e
def j9(ha:PT X a tA)(hb:PW X (.BoolOp .And (b::rest) pos) tB'):PW X (.BoolOp .And (a::b::rest) pos) (a2H tA tB'):=by
 intro wh Y s σ H Q I h;refine isTrue_and (jx (ha Y s σ H _ I h) λc s1 ⟨H1,I1,q1⟩=>?_);cases c with
 |true=>exact hb wh Y s1 σ H1 Q I1 q1
 |false=>exact⟨H1,I1,q1⟩
def FQ(ha:PT X a tA)(hb:PW X (.BoolOp .Or (b::rest) pos) tB'):PW X (.BoolOp .Or (a::b::rest) pos) (tOr tA tB'):=by
 intro wh Y s σ H Q I h;refine isTrue_or (jx (ha Y s σ H _ I h) λc s1 ⟨H1,I1,q1⟩=>?_);cases c with
 |true=>exact⟨H1,I1,q1⟩
 |false=>exact hb wh Y s1 σ H1 Q I1 q1
def qL(ha:PT X a tA):PT X (.UnaryOp .Not a pos) (a6R tA):=by
 intro Y s σ H Q I h;exact isTrue_not (ha Y s σ H (λc H1=>Q (!c) H1) I h)
def a4R(ta tb:TE):TE:=λσ H Q=>ta σ H λx H1=>EA (λc=>x=.bl c) λc=>if c=true then tb σ H1 Q else Q (.bl false) H1
def a4S(ta:TE):TE:=λσ H Q=>ta σ H λx H1=>EA (λc=>x=.bl c) λc=>Q (.bl (!c)) H1
def U9{op}{t:TE}(h:PE X a t):PE X (.BoolOp op [a] pos) t:=λY s σ H Q I hw=>BoolOp_one (h Y s σ H Q I hw)
def Va(ha:PE X a ta)(hb:PE X (.BoolOp .And (b::rest) pos) tb):PE X (.BoolOp .And (a::b::rest) pos) (a4R ta tb):=by
 intro Y s σ H Q I h;refine BoolOp_and (jx (ha Y s σ H _ I h) λv s1 ⟨x,H1,I1,r1,q1⟩=>?_);obtain⟨c,rfl,q1⟩:=q1;cases r1;refine Ar ?_;cases c with
 |true=>exact hb Y s1 σ H1 Q I1 q1
 |false=>exact⟨.bl false,H1,I1,Z,q1⟩
def a2I(ha:PE X a ta):PE X (.UnaryOp .Not a pos) (a4S ta):=by
 intro Y s σ H Q I h;refine UnaryOp_ (jx (ha Y s σ H _ I h) λv s1 ⟨x,H1,I1,r1,q1⟩=>?_);obtain⟨c,rfl,q1⟩:=q1;cases r1;exact not_of (Ar ⟨.bl (!c),H1,I1,Z,q1⟩)
def tIf(t:TT)(ta tb:TE):TE:=λσ H Q=>t σ H λc H1=>if c=true then ta σ H1 Q else tb σ H1 Q
def oZ(hc:PT X c tA)(ha:PE X a ta)(hb:PE X b tb):PE X (.IfExp c a b pos) (tIf tA ta tb):=by
 intro Y s σ H Q I h;refine wpAny_IfExp (jx (hc Y s σ H _ I h) λd s1 ⟨H1,I1,q1⟩=>?_);cases d with
 |true=>exact ha Y s1 σ H1 Q I1 q1
 |false=>exact hb Y s1 σ H1 Q I1 q1
end
def bI(K:aH)(H:Hp)(a:Addr)(xs:List V):Prop :=
 Rd H a (.lst xs)\/
  ∃(o:Obj) (bV:Array Value) (n:Nat),K.lookup a=some o/\o.cls=.type "list" /\o.dict=none/\o.data=.seq bV n/\bV.size<=sizeLine/\cN xs bV.toList
def cH(K:aH)(H:Hp)(a:Addr)(xs:List V):Prop :=
 Rd H a (.tup xs)\/
  ∃(o:Obj) (bV:Array Value) (n:Nat),K.lookup a=some o/\o.cls=.type "tuple" /\o.data=.seq bV n/\bV.size<=sizeLine/\cN xs bV.toList
def a6S:Value->Option V
 |.none=>some .non
 |.bool b=>some (.bl b)
 |.int i _=>some (.int i)
 |.str x _=>some (.str x)
 |.bytes b _=>some (.W6 b)
 |.float b _=>some (.flt b)
 |.ref a=>some (.ref a)
 |.type n=>some (.ty n)
 |_=>none
def cQ.abs{x:V}{u:Value}(r:cQ x u):a6S u=some x:=by
 cases x with
 |non=>cases r;rfl
 |bl _=>cases r;rfl
 |int _=>obtain⟨t,rfl⟩:=r;rfl
 |str _=>obtain⟨t,rfl⟩:=r;rfl
 |W6 _=>obtain⟨t,rfl⟩:=r;rfl
 |flt _=>obtain⟨t,rfl⟩:=r;rfl
 |ref _=>cases r;rfl
 |ty _=>cases r;rfl
def cQ.inj{x y:V}{u:Value}(r:cQ x u)(q:cQ y u):x=y:=dO (r.abs.symm.trans q.abs)
def cN.inj{xs ys:List V}{us:List Value}(h:cN xs us)(g:cN ys us):xs=ys:=by
 induction h generalizing ys with
 |nil=>cases g;rfl
 |cons r _ ih =>
  cases g with
  |cons q t=>rw[r.inj q,ih t]
section
variable{X:Cx}{Y:List (Addr×Obj)}{σ:St}{H:Hp}{s:Shared}{a:Addr}{xs ys:List V}
def bI.of(h:H a=some (.lst xs)):bI K H a xs:=.inl (.inl h)
def cH.of(h:H a=some (.tup xs)):cH K H a xs:=.inl (.inl h)
def bC.list(I:bC X Y σ H s)(h:bI X.K H a xs):∃bV:List Value,cN xs bV/\PlainL s.heap a bV.toArray/\xs.length<=sizeLine:=by
 rcases h with h|⟨o,bV,n,hk,hc,hd,hs,hz,r⟩
 ·obtain⟨z,bV,n,r,e⟩:=h.ok I.hok;exact⟨bV,r,⟨_,n,e,Z,Z,Z⟩,z⟩
 ·refine⟨bV.toList,r,⟨o,n,I.DY a o hk,hc,hd,by simpa using hs⟩,?_⟩;have e:=r.length;simp only[Array.length_toList]at e;omega
def bC.tuple(I:bC X Y σ H s)(h:cH X.K H a xs):∃bV:List Value,cN xs bV/\IsTup s.heap a bV.toArray/\xs.length<=sizeLine:=by
 rcases h with h|⟨o,bV,n,hk,hc,hs,hz,r⟩
 ·obtain⟨z,bV,r,p⟩:=h.ok I.hok;exact⟨bV,r,p,z⟩
 ·refine⟨bV.toList,r,⟨o,I.DY a o hk,hc,n,by simpa using hs⟩,?_⟩;have e:=r.length;simp only[Array.length_toList]at e;omega
def bC.yq(I:bC X Y σ H s)(h:bI X.K H a xs)(h':bI X.K H a ys):xs=ys:=by
 obtain⟨bV,r,⟨o,n,e,_,_,d⟩,_⟩:=I.list h;obtain⟨its',r',⟨o',n',e',_,_,d'⟩,_⟩:=I.list h';rw[e]at e';cases e';rw[d]at d';injection d' with d1 _
 have:bV=its':=by simpa using congrArg Array.toList d1
 subst this;exact r.inj r'
def bC.zA(I:bC X Y σ H s)(h:cH X.K H a xs)(h':cH X.K H a ys):xs=ys:=by
 obtain⟨bV,r,⟨o,e,_,n,d⟩,_⟩:=I.tuple h;obtain⟨its',r',⟨o',e',_,n',d'⟩,_⟩:=I.tuple h';rw[e]at e';cases e';rw[d]at d';injection d' with d1 _
 have:bV=its':=by simpa using congrArg Array.toList d1
 subst this;exact r.inj r'
end
abbrev Cx.wish(X:Cx)(E:Value->Shared->Prop):Cx:={ X with xe:=E}
abbrev Cx.nox(X:Cx):Cx:=X.wish λ_ _=>False
def Cx.Ok.wish{X:Cx}(ok:X.Ok)(E:Value->Shared->Prop):(X.wish E).Ok :=
 ⟨ok.mod,ok.kind,ok.glob,ok.blt,ok.above,ok.inj,ok.has,ok.cab,ok.hd,ok.frames,ok.stk,ok.exf,ok.bs,ok.η,ok.U8,ok.YT,ok.Ce,ok.frf⟩
def Cx.Ok.u6{X:Cx}{E:Value->Shared->Prop}(ok:(X.wish E).Ok):X.Ok :=
 ⟨ok.mod,ok.kind,ok.glob,ok.blt,ok.above,ok.inj,ok.has,ok.cab,ok.hd,ok.frames,ok.stk,ok.exf,ok.bs,ok.η,ok.U8,ok.YT,ok.Ce,ok.frf⟩
section
variable{X:Cx}{Y:List (Addr×Obj)}{σ:St}{H:Hp}{s:Shared}{E:Value->Shared->Prop}
def bC.wish(I:bC X Y σ H s)(E:Value->Shared->Prop):bC (X.wish E) Y σ H s:=⟨I.ok.wish E,I.os,I.bare,I.base,I.loc,I.cell,I.free,I.ud,I.pin,I.hok,I.len⟩
def bC.u6(I:bC (X.wish E) Y σ H s):bC X Y σ H s:=⟨I.ok.u6,I.os,I.bare,I.base,I.loc,I.cell,I.free,I.ud,I.pin,I.hok,I.len⟩
def SP.u6{D:Ends}{f:Flow}{s':Shared}(h:SP (X.wish E) Y D f s'):SP X Y D f s':=by
 cases f with
 |next=>obtain⟨σ',H',I,q⟩:=h;exact⟨σ',H',I.u6,q⟩
 |brk=>obtain⟨σ',H',I,q⟩:=h;exact⟨σ',H',I.u6,q⟩
 |cont=>obtain⟨σ',H',I,q⟩:=h;exact⟨σ',H',I.u6,q⟩
 |ret u=>obtain⟨v,σ',H',I,r,q⟩:=h;exact⟨v,σ',H',I.u6,r,q⟩
def Ra.nox{st:List Stmt}{t:TS}(h:Ra X.nox st t):Ra X st t:=λY s σ H D I hw =>
 iH (h Y s σ H D (I.wish _) hw) (λ_ _ q=>q.u6) λ_ _ z=>False.elim z
end
section
variable{X:Cx}{st:Stmt}{rest:List Stmt}{t u:TS}
def ö:TS:=λD σ H=>D.nx σ H
def a2J(t u:TS):TS:=λD σ H=>t { D with nx:=u D} σ H
def bK:Ra X [] ö:=λ_ _ σ H _ I h=>OD ⟨σ,H,I,h⟩
def aG(h1:PS X st t)(h2:Ra X rest u):Ra X (st::rest) (a2J t u):=by
 intro Y s σ H D I h;refine Us (jx (h1 Y s σ H { D with nx:=u D} I h) λf s1 q=>?_);cases f with
 |next =>
  obtain⟨σ',H',I',q⟩:=q;exact h2 Y s1 σ' H' D I' q
 |ret v=>exact q
 |brk=>exact q
 |cont=>exact q
def aF(h1:PS X st t):Ra X [st] t:=by
 intro Y s σ H D I h;refine Us (jx (h1 Y s σ H D I h) λf s1 q=>?_);cases f with
 |next=>exact OD q
 |ret v=>exact q
 |brk=>exact q
 |cont=>exact q
def a2K:TS:=λD σ H=>D.bk σ H
def ø:PS X (.Break pos) a2K:=λ_ _ σ H _ I h=>wpAny_Break ⟨σ,H,I,h⟩
def bC.quiet{Y:List (Addr×Obj)}{σ:St}{H:Hp}{s:Shared}(I:bC X Y σ H s):interactive X.env=false:=by simp[interactive,I.ok.kind]
def a4T(te:TE):TS:=λD σ H=>te σ H λ_ H1=>D.nx σ H1
def gW(he:PE X e te)(hs:swapsWith e none pos.line X.env=pure false:=by rfl):PS X (.Expr e pos) (a4T te):=by
 intro Y s σ H D I h;exact wpAny_Expr_any (jx (he Y s σ H _ I h) λv s1 ⟨x,H1,I1,r1,q1⟩=>⟨σ,H1,I1,q1⟩) I.quiet hs
def a4U(te:TE):TS:=λD σ H=>te σ H D.rt
def bA(he:PE X e te):PS X (.Return (some e) pos) (a4U te):=by
 intro Y s σ H D I h;exact wpAny_Return_some (jx (he Y s σ H _ I h) λv s1 ⟨x,H1,I1,r1,q1⟩=>⟨x,σ,H1,I1,r1,q1⟩)
def a4V(c:TT)(t u:TS):TS:=λD σ H=>c σ H λb H1=>if b=true then t D σ H1 else u D σ H1
def dH{a b:List Stmt}{tc:TT}(hc:PT X c tc)(ha:Ra X a t)(hb:Ra X b u):PS X (.If c a b pos) (a4V tc t u):=by
 intro Y s σ H D I h;refine wpAny_If (jx (hc Y s σ H _ I h) λd s1 ⟨H1,I1,q1⟩=>?_);cases d with
 |true=>exact ha Y s1 σ H1 D I1 q1
 |false=>exact hb Y s1 σ H1 D I1 q1
def a2L:TS:=λ_ _ _=>False
def Ci:PS X st a2L:=λ_ _ _ _ _ _ h=>h.elim
end
abbrev TG:=V->St->Hp->(St->Hp->Prop)->Prop
abbrev ù:=List V->St->Hp->(St->Hp->Prop)->Prop
def PG(X:Cx)(target:Expr)(t:TG):Prop :=
 ∀(Y:List (Addr×Obj)) (s:Shared) (σ:St) (H:Hp) (v:V) (u:Value) (Q:St->Hp->Prop),bC X Y σ H s->cQ v u->t v σ H Q->
  wpAny (model X.prog X.w) X.A (assign target X.env u) (λ_ s'=>∃σ' H',bC X Y σ' H' s'/\Q σ' H') X.xe s
def PGs(X:Cx)(ts:List Expr)(t:ù):Prop :=
 ∀(Y:List (Addr×Obj)) (s:Shared) (σ:St) (H:Hp) (vs:List V) (us:List Value) (Q:St->Hp->Prop),bC X Y σ H s->cN vs us->t vs σ H Q->
  wpAny (model X.prog X.w) X.A (assignInOrder ((assignEach ts X.env).map (·.2)) us) (λ_ s'=>∃σ' H',bC X Y σ' H' s'/\Q σ' H') X.xe s
abbrev a2M:=V->V->V->Hp->(Hp->Prop)->Prop
def a0b(X:Cx)(t:a2M):Prop :=
 ∀(Y:List (Addr×Obj)) (s:Shared) (σ:St) (H:Hp) (o i v:V) (ov iv u:Value) (Q:Hp->Prop),bC X Y σ H s->cQ o ov->cQ i iv->cQ v u->t o i v H Q->
  wpAny (model X.prog X.w) X.A (setItem ov iv u) (λ_ s'=>∃H',bC X Y σ H' s'/\Q H') X.xe s
section
variable{X:Cx}
def W9(i:Nat):TG:=λv σ H Q=>Q (σ.set i (some v)) H
def aP(i:Nat){x:Str}(hN:X.N.Nodup)(hi:X.N[i]?=some x:=by rfl)(hx:Loc X.env.scope x:=by first|exact Or.inl rfl|exact Or.inr Z)(hf:X.fn x=true\/X.env.scope.names.lookup x=some .local:=by first|exact .inl rfl|exact .inr rfl|assumption):PG X (.Name x pos) (W9 i):=by
 intro Y s σ H v u Q I r h;exact wpAny_assign_Name (Q9 I hN hi hx r (λs' I'=>⟨_,H,I',h⟩) hf)
def a6T:ù:=λvs σ H Q=>vs=[]/\Q σ H
def a4W(t:TG)(u:ù):ù:=λvs σ H Q=>∃v r,vs=v::r/\t v σ H λσ' H'=>u r σ' H' Q
def jz:PGs X [] a6T:=by
 intro Y s σ H vs us Q I r h;obtain⟨e,h⟩:=h;subst e;cases r;exact assignInOrder_nil ⟨σ,H,I,h⟩
def cu{t:TG}{u:ù}(h1:PG X e t)(h2:PGs X es u)
  (hs:(assignEach (e::es) X.env).map (·.2)=assign e X.env::(assignEach es X.env).map (·.2):=by rfl):PGs X (e::es) (a4W t u):=by
 intro Y s σ H vs us Q I r h;obtain⟨v,vr,e1,h⟩:=h;subst e1;cases r with
 |cons r rr =>
  rw[hs];exact assignInOrder_cons (jx (h1 Y s σ H _ _ _ I r h) λ_ s1 ⟨σ1,H1,I1,q1⟩=>h2 Y s1 σ1 H1 _ _ Q I1 rr q1)
inductive a4X(K:aH)(n:Nat)(t:ù)(v:V)(σ:St)(H:Hp)(Q:St->Hp->Prop):Prop
 |mk (a xs:_) (_:v=.ref a) (_:cH K H a xs) (_:xs.length=n) (_:t xs σ H Q)
def a2N{t:ù}(hc:X.calm=true)(h:PGs X es t)
  (hn:(assignEach es X.env).length=n:=by rfl) (hst:(assignEach es X.env).findIdx? (·.1)=none:=by rfl):PG X (.Tuple es k pos) (a4X X.K n t):=by
 intro Y s σ H v u Q I r hw;obtain⟨a,xs,e1,hq,hl,hw⟩:=hw;subst e1;cases r;obtain⟨bV,rv,ht,hz⟩:=I.tuple hq;refine assign_Tuple_tuple (I.ok.hd hc) ht (by simp[hn,<-hl,rv.length]) hst λh' hx=>?_;have I1:bC X Y σ H { s with heap:=h'}:=I.kept (t':=s.toks) λb o e=>hx b o (bZ (aX e)) e;exact h Y _ σ H xs _ Q I1 (by simpa using rv) hw
def a6U(to ti:TE)(t:a2M):TG:=λv σ H Q=>to σ H λo H1=>ti σ H1 λi H2=>t o i v H2 λH3=>Q σ H3
def Ji{o i:Expr}{to ti:TE}{t:a2M}(ho:PE X o to)(hi:PE X i ti)(hs:a0b X t)
  (ha:∀v,assign (.Subscript o i pos) X.env v=(do
   let ov <-holding [v] (eval o X.env)
   let iv <-holding [v,ov] (eval i X.env)
   standAt pos
   holding [v,ov,iv] (setItem ov iv v)
   release [v,ov,iv] []):=by intro _;rfl):PG X (.Subscript o i pos) (a6U to ti t):=by
 intro Y s σ H v u Q I r h;rw[ha];exact M (fB (jx (ho Y s σ H _ I h) λov s1 ⟨x,H1,I1,r1,q1⟩=>M (fB (jx (hi Y s1 σ H1 _ I1 q1) λiv s2 ⟨y,H2,I2,r2,q2⟩=>M (O5 (M (fB (jx (hs Y s2 σ H2 x y v ov iv u _ I2 r1 r2 r q2) λ_ s3 ⟨H3,I3,q3⟩=>wpAny_release ⟨σ,H3,I3,q3⟩))))))))
def a2O(te:TE)(g:TG):TS:=λD σ H=>te σ H λx H1=>g x σ H1 D.nx
def wH{g:TG}(he:PE X e te)(hg:PG X tg g)(hs:swapsWithSole [tg] e pos.line X.env=pure false:=by rfl)(hw:swappedStores [tg] e X.env=pure none:=by rfl)
  (h1:(assignEach [tg] X.env).map (·.2)=[assign tg X.env]:=by rfl):PS X (.Assign [tg] e pos) (a2O te g):=by
 intro Y s σ H D I h;refine wpAny_Assign_stores (jx (he Y s σ H _ I h) λv s1 ⟨x,H1,I1,r1,q1⟩=>?_) hs hw;rw[h1];exact jx (hg Y s1 σ H1 x v _ I1 r1 q1) λ_ s2 q=>q
def bD(i:Nat){x:Str}{pos':Pos}(hN:X.N.Nodup)(he:PE X e te)(hi:X.N[i]?=some x:=by rfl)(hx:Loc X.env.scope x:=by first|exact Or.inl rfl|exact Or.inr Z)(hs:swapsWith e (some (.Name x pos')) pos.line X.env=pure false:=by rfl)(hf:X.fn x=true\/X.env.scope.names.lookup x=some .local:=by first|exact .inl rfl|exact .inr rfl|assumption) :
  PS X (.Assign [.Name x pos'] e pos) (a2O te (W9 i)):=by
 intro Y s σ H D I h;exact wpAny_Assign_Name (jx (he Y s σ H _ I h) λv s1 ⟨y,H1,I1,r1,q1⟩=>Q9 I1 hN hi hx r1 (λs2 I2=>⟨_,H1,I2,q1⟩) hf) hs
end
section
variable{X:Cx}
def a2P(c:TT)(tb:TS):TS:=λD σ H=>∃W:Nat->St->Hp->Prop,(∃m,W m σ H)/\∀m σ H,W m σ H->
 c σ H λb H1=>if b=true then ∃N:St->Hp->Prop,(∀σ' H',N σ' H'->∃m',m'<m/\W m' σ' H')/\tb { D with nx:=N,ct:=N,bk:=D.nx} σ H1 else D.nx σ H1
def ú{tc:TT}(hp:PassesOwn (model X.prog X.w) X.A X.env X.xe)(hc:PT X c tc)(hb:Ra X body tb):PS X (.While c body [] pos) (a2P tc tb):=by
 intro Y s σ H D I h;obtain⟨W,⟨m0,w0⟩,turn⟩:=h;refine wpAny_While (codeAny_whileLoop (λn s'=>∃σ' H',bC X Y σ' H' s'/\W n σ' H') ?_ m0 ⟨σ,H,I,w0⟩);rintro n s1 ⟨σ1,H1,I1,w1⟩;refine Ax hp (jx (hc Y s1 σ1 H1 _ I1 (turn n σ1 H1 w1)) λb s2 ⟨H2,I2,q2⟩=>?_);cases b with
 |true =>
  obtain⟨N,hN,q2⟩:=q2;rw[aB rfl];refine Ax hp (jx (hb Y s2 σ1 H2 _ I2 q2) λf s3 q3=>?_);cases f with
  |next =>
   obtain⟨σ3,H3,I3,n3⟩:=q3;obtain⟨m',hm,w3⟩:=hN σ3 H3 n3;exact⟨m',hm,σ3,H3,I3,w3⟩
  |cont =>
   obtain⟨σ3,H3,I3,n3⟩:=q3;obtain⟨m',hm,w3⟩:=hN σ3 H3 n3;exact⟨m',hm,σ3,H3,I3,w3⟩
  |brk=>exact q3
  |ret v=>exact q3
 |false =>
  rw[aq cY];exact OD ⟨σ1,H2,I2,q2⟩
end
structure It where
 go:Nat->Hp->Prop
 Û:Nat->Hp->V->Hp->Prop
 stop:Nat->Hp->Prop
def Gu(X:Cx)(Y:List (Addr×Obj))(H:Hp)(b:Addr):Prop :=
 H b=none/\b≠X.env.locals/\b∉X.fs/\(b∈X.ex\/X.s₀.heap.objs.size<=b)/\(∀x c,X.env.cells.lookup x=some c->c≠b)/\∀p∈X.pn++Y,p.1≠b
def bC.Gv{X:Cx}{Y:List (Addr×Obj)}{σ:St}{H H':Hp}{s:Shared}{b:Addr}(I:bC X Y σ H s)(hb:s⁻¹<=b)(hn:H' b=none):Gu X Y H' b:=by
 refine⟨hn,gG (jC I.lt hb),I.a4P hb,.inr (dF I.sz hb),λx c e z=>?_,λp hp z=>?_⟩
 ·obtain⟨v,q⟩:=I.cell x c e;exact absurd (jC q.lt (by rw[z];exact hb)) (wD _)
 ·exact absurd (jC (aX (I.pin p hp).1) (by rw[z];exact hb)) (wD _)
structure Turn(P:Program)(w:World)(K:aH)(tg:Expr)(Z97:It)(fp:List Addr)(it:Addr)(tn:Nat->Heap->Prop):Prop where
 mem:it∈fp
 obj:∀i h,tn i h->∀b∈fp,∃o,h.get? b=some o/\∀v,o.data≠.cell v
 keep:∀i h h',tn i h->(∀b∈fp,∀o,h.get? b=some o->h'.get? b=some o)->tn i h'
 item:∀(X:Cx),X.prog=P->X.w=w->X.K=K->X.calm=true->∀(i:Nat) (Y:List (Addr×Obj)) (s:Shared) (σ:St) (H:Hp) (E:Value->Shared->Prop),bC X Y σ H s->(∀b∈fp,Gu X Y H b)->tn i s.heap->Z97.go i H->
  wpAny (model P w) X.A (pyNext (.ref it)) (λr s1=>∃u,r=some u/\
   wpAny (model P w) X.A (letOwnedTupleGo tg (.ref it) u) (λ_ s2=>∃x H',bC X Y σ H' s2/\cQ x u/\Z97.Û i H x H'/\tn (i+1) s2.heap/\∀b∈fp,H' b=none) E s1) E s
 done:∀(X:Cx),X.prog=P->X.w=w->X.K=K->X.calm=true->∀(i:Nat) (Y:List (Addr×Obj)) (s:Shared) (σ:St) (H:Hp) (E:Value->Shared->Prop),bC X Y σ H s->(∀b∈fp,Gu X Y H b)->tn i s.heap->Z97.stop i H->
  wpAny (model P w) X.A (pyNext (.ref it)) (λr s1=>r=none/\bC X Y σ H s1) E s
 self:∀(A:Around) (i:Nat) (s:Shared) (Q:Value->Shared->Prop) (E:Value->Shared->Prop),tn i s.heap->Q (.ref it) s->wpAny (model P w) A (pyIter (.ref it)) Q E s
abbrev TI:=St->Hp->(It->Hp->Prop)->Prop
inductive PIE(X:Cx)(Y:List (Addr×Obj))(σ:St)(tg:Expr)(R:It->Hp->Prop)(itv:Value)(s2:Shared):Prop
 |mk (it:Addr) (fp:List Addr) (tn:Nat->Heap->Prop) (Z97:It) (H':Hp) (_:itv=.ref it) (_:bC X Y σ H' s2) (_:Turn X.prog X.w X.K tg Z97 fp it tn) (_:tn 0 s2.heap) (_:(∀b∈fp,Gu X Y H' b)) (_:R Z97 H')
def PI(X:Cx)(tg iter:Expr)(wi:TI):Prop :=
 ∀(Y:List (Addr×Obj)) (s:Shared) (σ:St) (H:Hp) (R:It->Hp->Prop),bC X Y σ H s->wi σ H R->
  wpAny (model X.prog X.w) X.A (eval iter X.env) (λv s1=>wpAny (model X.prog X.w) X.A (pyIter v) (PIE X Y σ tg R) X.xe s1) X.xe s
def Xa{E : Value → Shared → Prop}{s : Shared}{it : Addr}{u : Value}{o : Obj}{n : String}{vs : Array Value}{Q : Unit → Shared → Prop}(ho : s.heap.get? it = some o)(hc : o.cls = .type n)(hd : o.data = .fields vs)
    (hn : ["enumerate", "zip", "dict_itemiterator", "dict_reverseitemiterator", "odict_iterator", "itertools.zip_longest", "itertools.pairwise"].contains n = false) (hQ : Q ⟨⟩ s) : wpAny Z98 A (letOwnedTupleGo tg (.ref it) u) Q E s := by
  unfold letOwnedTupleGo;cases tg <;> first
    | exact aj hQ
    | (cases u <;> first
        | exact aj hQ
        | (refine M (wpAny_load ho ?_)
           rw [hc, hd];show wpAny Z98 A (if (["enumerate", "zip", "dict_itemiterator", "dict_reverseitemiterator", "odict_iterator", "itertools.zip_longest", "itertools.pairwise"].contains n && vs[0]? == some (rawInt _)) = true then _ else _) Q E s;rw [aq (by intro h; rw [hn, Bool.false_and] at h; cases h)];exact aj hQ))
def θ(K:aH)(a:Addr):It :=
 ⟨λi H=>∃xs x,bI K H a xs/\xs[i]?=some x,λi H x H'=>H'=H/\∀xs,bI K H a xs->xs[i]?=some x,λi H=>∃xs,bI K H a xs/\xs.length<=i⟩
def Itt(K:aH)(a:Addr):It :=
 ⟨λi H=>∃xs x,cH K H a xs/\xs[i]?=some x,λi H x H'=>H'=H/\∀xs,cH K H a xs->xs[i]?=some x,λi H=>∃xs,cH K H a xs/\xs.length<=i⟩
def Xb(lo:Int)(n:Nat):It:=⟨λi _=>i<n,λi H x H'=>H'=H/\x=.int (lo+i),λi _=>n<=i⟩
def YW{P:Program}{w:World}(a it:Addr):Turn P w K tg (θ K a) [it] it (λi h=>h.IsListIter it a i) where
 mem:=by simp
 obj:=λi h st b hb=>by
  have e:b=it:=by simpa using hb
  subst e
  obtain⟨o,e,c,d⟩:=st
  exact⟨o,e,λv z=>by rw[d]at z;cases z⟩
 keep:=λi h h' st k=>st.at λo e=>k it (by simp) o e
 item:=by
  intro X hP hw hK hc i Y s σ H E I hf st hg
  subst hP hw hK
  obtain⟨xs,x,hq,hx⟩:=hg
  obtain⟨bV,rv,p,hz⟩:=I.list hq
  obtain⟨u,hu,ru⟩:=rv.get hx
  obtain⟨f0,f1,f2,f3,f4,f5⟩:=hf it (by simp)
  refine T6 st p.isList (x:=u) (by simpa using hu) λh' st' sb=>?_
  have I1:bC X Y σ H { s with heap:=h'}:=I.turned (t':=s.toks) (λb o hb e=>(sb.2 b hb).trans e) f0 f1 f3 f4 f5
  obtain⟨o,e,c,d⟩:=id st'
  exact⟨u,Z,Xa (s:={ s with heap:=h'}) e c d () ⟨x,H,I1,ru,⟨rfl,λys hy=>by rw[I.yq hy hq];exact hx⟩,st',λb hb=>(hf b hb).1⟩⟩
 done:=by
  intro X hP hw hK hc i Y s σ H E I hf st hg
  subst hP hw hK
  obtain⟨xs,hq,hx⟩:=hg
  obtain⟨bV,rv,p,hz⟩:=I.list hq
  obtain⟨f0,f1,f2,f3,f4,f5⟩:=hf it (by simp)
  have hl:=rv.length
  exact wpAny_pyNext_list_end (I.ok.hd hc) st p.isList (by simp;omega) λh' eb=>⟨Z,I.turned (t':=s.toks) (λb o hb e=>eb b o hb e) f0 f1 f3 f4 f5⟩
 self:=λ_ _ _ _ _ st h=>wpAny_pyIter_listiter st h
def Vb{P:Program}{w:World}(a it:Addr):Turn P w K tg (Itt K a) [it] it (λi h=>h.IsTupleIter it a i) where
 mem:=by simp
 obj:=λi h st b hb=>by
  have e:b=it:=by simpa using hb
  subst e
  obtain⟨o,e,c,d⟩:=st
  exact⟨o,e,λv z=>by rw[d]at z;cases z⟩
 keep:=λi h h' st k=>st.at λo e=>k it (by simp) o e
 item:=by
  intro X hP hw hK hc i Y s σ H E I hf st hg
  subst hP hw hK
  obtain⟨xs,x,hq,hx⟩:=hg
  obtain⟨bV,rv,p,hz⟩:=I.tuple hq
  obtain⟨u,hu,ru⟩:=rv.get hx
  obtain⟨f0,f1,f2,f3,f4,f5⟩:=hf it (by simp)
  refine wpAny_pyNext_tuple_item st (show s.heap.IsTuple a bV.toArray from p) (x:=u) (by simpa using hu) λh' st' sb=>?_
  have I1:bC X Y σ H { s with heap:=h'}:=I.turned (t':=s.toks) (λb o hb e=>(sb.2 b hb).trans e) f0 f1 f3 f4 f5
  obtain⟨o,e,c,d⟩:=id st'
  exact⟨u,Z,Xa (s:={ s with heap:=h'}) e c d () ⟨x,H,I1,ru,⟨rfl,λys hy=>by rw[I.zA hy hq];exact hx⟩,st',λb hb=>(hf b hb).1⟩⟩
 done:=by
  intro X hP hw hK hc i Y s σ H E I hf st hg
  subst hP hw hK
  obtain⟨xs,hq,hx⟩:=hg
  obtain⟨bV,rv,p,hz⟩:=I.tuple hq
  obtain⟨f0,f1,f2,f3,f4,f5⟩:=hf it (by simp)
  have hl:=rv.length
  exact wpAny_pyNext_tuple_end (I.ok.hd hc) st (show s.heap.IsTuple a bV.toArray from p) (by simp;omega) λh' eb=>⟨Z,I.turned (t':=s.toks) (λb o hb e=>eb b o hb e) f0 f1 f3 f4 f5⟩
 self:=λ_ _ _ _ _ st h=>wpAny_pyIter_tupleiter st h
def Vc{P:Program}{w:World}(it:Addr)(lo:Int)(n:Nat):Turn P w K tg (Xb lo n) [it] it (λi h=>IsRangeIter h it (lo+(i:Nat)*1) ((n:Int)-(i:Nat)) 1) where
 mem:=by simp
 obj:=λi h st b hb=>by
  have e:b=it:=by simpa using hb
  subst e
  exact⟨_,st,λv z=>by
   have z':Data.fields _=Data.cell v:=z
   cases z'⟩
 keep:=λi h h' st k=>k it (by simp) _ st
 item:=by
  intro X hP hw hK hc i Y s σ H E I hf st hg
  subst hP hw hK
  obtain⟨f0,f1,f2,f3,f4,f5⟩:=hf it (by simp)
  have W:=Walks.range (prog:=X.prog) (w:=X.w) (I.ok.hd hc) it lo 1 n
  refine W.item i s _ _ hg st λv h' tk hv st' kk=>?_
  obtain⟨t,rfl⟩:=hv
  have I1:bC X Y σ H { s with heap:=h',toks:=tk}:=I.turned (λb o hb e=>kk b o (by simpa using hb) e) f0 f1 f3 f4 f5
  refine⟨_,Z,Xa (s:={ s with heap:=h',toks:=tk}) (n:="range_iterator") st' rfl rfl () ⟨.int (lo+i),H,I1,⟨t,?_⟩,⟨rfl,rfl⟩,st',λb hb=>(hf b hb).1⟩⟩
  rw[Int.mul_one]
 done:=by
  intro X hP hw hK hc i Y s σ H E I hf st hg
  subst hP hw hK
  obtain⟨f0,f1,f2,f3,f4,f5⟩:=hf it (by simp)
  exact wpAny_pyNext_range_end (I.ok.hd hc) st (by have:n<=i:=hg;omega) λh' eb=>⟨Z,I.turned (t':=s.toks) (λb o hb e=>eb b o hb e) f0 f1 f3 f4 f5⟩
 self:=λ_ _ _ _ _ st h=>wpAny_pyIter_rangeiter st h
section
variable{X:Cx}
def a2g(K:aH)(tl:TE):TI:=λσ H R=>tl σ H λx H1=>EC (λa=>x=.ref a) (λa=>(∃xs,bI K H1 a xs)) λa=>R (θ K a) H1
def a4Y(K:aH)(tl:TE):TI:=λσ H R=>tl σ H λx H1=>EC (λa=>x=.ref a) (λa=>(∃xs,cH K H1 a xs)) λa=>R (Itt K a) H1
def a0c{l:Expr}{tl:TE}(hl:PE X l tl):PI X tg l (a2g X.K tl):=by
 intro Y s σ H R I h;refine jx (hl Y s σ H _ I h) λv s1 ⟨x,H1,I1,r1,q1⟩=>?_;obtain⟨a,e,⟨xs,hq⟩,q⟩:=q1;subst e;cases r1;obtain⟨bV,rv,p,hz⟩:=I1.list hq;refine wu p.isList ⟨s1⁻¹,[s1⁻¹],_,_,H1,Z,I1.kept (t':=s1.toks) λb o e=>bx _ e,YW a _,⟨_,bT _ Z,Z,Z⟩,λb hb=>?_,q⟩;have e:b=s1⁻¹:=by simpa using hb
 subst e;exact I1.Gv (aN _) (I1.hok.fresh (aN _))
def a2Q{l:Expr}{tl:TE}(hl:PE X l tl):PI X tg l (a4Y X.K tl):=by
 intro Y s σ H R I h;refine jx (hl Y s σ H _ I h) λv s1 ⟨x,H1,I1,r1,q1⟩=>?_;obtain⟨a,e,⟨xs,hq⟩,q⟩:=q1;subst e;cases r1;obtain⟨bV,rv,p,hz⟩:=I1.tuple hq;refine Ei (show s1.heap.IsTuple a bV.toArray from p) ⟨s1⁻¹,[s1⁻¹],_,_,H1,Z,I1.kept (t':=s1.toks) λb o e=>bx _ e,Vb a _,⟨_,bT _ Z,Z,Z⟩,λb hb=>?_,q⟩;have e:b=s1⁻¹:=by simpa using hb
 subst e;exact I1.Gv (aN _) (I1.hok.fresh (aN _))
def Rb{Y:List (Addr×Obj)}{σ:St}{H:Hp}{s:Shared}{R:It->Hp->Prop}{E:Value->Shared->Prop}{lo hi:Int}{t u v:Tok}{tk:Nat}(I:bC X Y σ H s)(h1 : -(2^62)<=lo)(h2:lo<2^62)(h3 : -(2^62)<=hi)(h4:hi<2^62)
  (q:R (Xb lo (hi-lo).toNat) H):wpAny (model X.prog X.w) X.A (pyIter (.ref s⁻¹)) (PIE X Y σ tg R) E { s with heap:=s.heap.push { cls:=.type "range",data:=.fields #[.int lo t,.int hi u,.int 1 v]},toks:=tk}:=by
 refine wpAny_pyIter_range (IsRange.new ..) (small_one h1 h2 h3 h4) ?_;have I1:bC X Y σ H { s with heap:=s.heap.push { cls:=.type "range",data:=.fields #[.int lo t,.int hi u,.int 1 v]},toks:=tk}:=I.kept λb o e=>bx _ e;refine⟨(s.heap.push { cls:=.type "range",data:=.fields #[.int lo t,.int hi u,.int 1 v]}).objs.size,[(s.heap.push { cls:=.type "range",data:=.fields #[.int lo t,.int hi u,.int 1 v]}).objs.size],_,_,H,Z,
  I1.kept (t':=tk) λb o e=>bx _ e,Vc _ lo (hi-lo).toNat,?_,λb hb=>?_,q⟩
 ·have e1:lo+((0:Nat):Int)*1=lo:=by simp
  have e2:(((hi-lo).toNat:Nat):Int)-((0:Nat):Int)=Builtin.Range.rangeSize lo hi 1:=by rw[rangeSize_one];split<;>omega
  show IsRangeIter _ _ (lo+((0:Nat):Int)*1) ((((hi-lo).toNat:Nat):Int)-((0:Nat):Int)) 1;rw[e1,e2];exact bT _ rfl
 ·have e:b=(s.heap.push { cls:=.type "range",data:=.fields #[.int lo t,.int hi u,.int 1 v]}).objs.size:=by simpa using hb
  subst e;exact I1.Gv (aN _) (I1.hok.fresh (aN _))
def a4Z(ta:TA):TI:=λσ H R=>ta σ H λvs H1=>EA (λj:Int=>vs=[.int j]) λj=>-(2^62)<=j/\j<2^62/\R (Xb 0 j.toNat) H1
def a5a(ta:TA):TI:=λσ H R=>ta σ H λvs H1=>∃i j:Int,vs=[.int i,.int j]/\(-(2^62)<=i/\i<2^62/\ -(2^62)<=j/\j<2^62)/\R (Xb i (j-i).toNat) H1
def jX{a:Expr}{ta:TA}(hg:Gl X "range")(hm:X.mg "range" = none)(ha:PA X [a] ta)(hs:starEach [a] X.env=[(false,eval a X.env)]:=by rfl):PI X tg (.Call (.Name "range" p) [a] [] pos) (a4Z ta):=by
 intro Y s σ H R I h;refine Call_ (wG I hg hm boot_range (Ag (jx (ha pos Y s σ H _ I h) λus s1 ⟨vs,H1,I1,r1,q1⟩=>?_) hs Z));obtain⟨j,e,q1,q2,q⟩:=q1;subst e;cases r1 with
 |cons r rr =>
  cases rr;obtain⟨t,rfl⟩:=r;exact call_range_1 (Rb I1 () () q1 q2 (by simpa using q))
def LR{a b:Expr}{ta:TA}(hg:Gl X "range")(hm:X.mg "range" = none)(ha:PA X [a,b] ta)(hs:starEach [a,b] X.env=[(false,eval a X.env),(false,eval b X.env)]:=by rfl)(hs2:starEach [b] X.env=[(false,eval b X.env)]:=by rfl) :
  PI X tg (.Call (.Name "range" p) [a,b] [] pos) (a5a ta):=by
 intro Y s σ H R I h;refine Call_ (wG I hg hm boot_range (Ag (jx (ha pos Y s σ H _ I h) λus s1 ⟨vs,H1,I1,r1,q1⟩=>?_) (by rw[hs,hs2]) (by rw[hs2];rfl)));obtain⟨i,j,e,⟨q1,q2,q3,q4⟩,q⟩:=q1;subst e;cases r1 with
 |cons r rr =>
  cases rr with
  |cons r' rr =>
   cases rr;obtain⟨t,rfl⟩:=r;obtain⟨t',rfl⟩:=r';exact call_range_2 (Rb I1 q1 q2 q3 q4 q)
def a6V(wi:TI)(g:TG)(tb:TS):TS:=λD σ H=>wi σ H λZ97 H1=>∃W:Nat->Nat->St->Hp->Prop,(∃m,W 0 m σ H1)/\∀i m σ H,W i m σ H->
 (Z97.stop i H/\D.nx σ H)\/(Z97.go i H/\∃N:St->Hp->Prop,(∀σ' H',N σ' H'->∃m',m'<m/\W (i+1) m' σ' H')/\∀x H',Z97.Û i H x H'->g x σ H' λσ2 H2=>tb { D with nx:=N,ct:=N,bk:=D.nx} σ2 H2)
def wI(fp:List Addr)(h:Heap):List (Addr×Obj):=fp.filterMap λb=>(h.get? b).map λo=>(b,o)
def uf{b:Addr}{o:Obj}(hb:b∈fp)(e:h.get? b=some o):(b,o)∈wI fp h:=Uk.mpr ⟨b,hb,by rw[e];rfl⟩
def YX{p:Addr×Obj}(hp:p∈wI fp h):p.1∈fp/\h.get? p.1=some p.2:=by
 obtain⟨b,hb,e⟩:=Uk.mp hp;cases q:h.get? b with
 |none=>rw[q]at e;cases e
 |some o =>
  rw[q]at e;have e':(b,o)=p:=dO e;subst e';exact⟨hb,q⟩
def bC.pinned{Y:List (Addr×Obj)}{σ:St}{H:Hp}{s:Shared}(I:bC X Y σ H s)(hf:∀b∈fp,Gu X Y H b)(ho:∀b∈fp,∃o,s.heap.get? b=some o/\∀v,o.data≠.cell v):bC X (Y++wI fp s.heap) σ H s :=
 I.Hj λp hp=>(cL.mp hp).elim (λz=>I.pin p (iG _ z)) λz=>by
  obtain⟨hb,e⟩:=YX z;obtain⟨f0,f1,f2,_⟩:=hf p.1 hb;obtain⟨o,e',d⟩:=ho p.1 hb;rw[e]at e';cases e';exact⟨e,f0,f1,f2,d⟩
def bC.yr{Y pl:List (Addr×Obj)}{σ:St}{H:Hp}{s:Shared}(I:bC X (Y++pl) σ H s):bC X Y σ H s:=I.Hj λp hp=>I.pin p (iG _ (sI _ hp))
def kh{iter:Expr}{wi:TI}{g:TG}(hp:PassesOwn (model X.prog X.w) X.A X.env X.xe)(hc:X.calm=true)(hi:PI X tg iter wi)(hg:PG X tg g)(hb:Ra X body tb)
  (hs:∀x,foldedSetIterable iter X.env x=pure x:=by intro _;rfl):PS X (.For tg iter body [] pos) (a6V wi g tb):=by
 intro Y s σ H D I h;refine wpAny_For (jx (hi Y s σ H _ I h) λv s1 h1=>jx h1 λitv s2 h2=>?_) hs;obtain⟨it,fp,tn,Z97,H2,e,I2,T,st2,f2,W,⟨m0,w0⟩,turn⟩:=h2;subst e;have stat:∀{H':Hp},(∀b∈fp,H' b=none)->∀b∈fp,Gu X Y H' b:=λhn b hb=>⟨hn b hb,(f2 b hb).2⟩;refine codeAny_forLoop_any (λn s'=>∃i σ' H',bC X Y σ' H' s'/\tn i s'.heap/\(∀b∈fp,H' b=none)/\W i n σ' H') ?_ m0 ⟨0,σ,H2,I2,st2,λb hb=>(f2 b hb).1,w0⟩;rintro n s3 ⟨i,σ3,H3,I3,st3,fr3,w3⟩;rcases turn i n σ3 H3 w3 with⟨stop,qn⟩|⟨go,N,hN,step⟩
 ·refine Ax hp (jx (T.done X Z Z Z hc i Y s3 σ3 H3 X.xe I3 (stat fr3) st3 stop) λr s4 ⟨hr,I4⟩=>?_);subst hr;exact OD ⟨σ3,H3,I4,qn⟩
 ·refine Ax hp (jx (T.item X Z Z Z hc i Y s3 σ3 H3 X.xe I3 (stat fr3) st3 go) λr s4 ⟨u,hr,h4⟩=>?_);subst hr;refine Ax hp (jx h4 λ_ s5 ⟨x,H5,I5,r5,y5,st5,fr5⟩=>?_);have I5':=I5.pinned (stat fr5) (T.obj _ _ st5);refine Ax hp (jx (hg _ s5 σ3 H5 x u _ I5' r5 (step x H5 y5)) λ_ s6 ⟨σ6,H6,I6,q6⟩=>Ax hp (jx (hb _ s6 σ6 H6 _ I6 q6) λf s7 q7=>?_));have again:∀{Xc:St}{H7:Hp},bC X (Y++wI fp s5.heap) Xc H7 s7->N Xc H7->∃m,m<n/\∃i σ' H',bC X Y σ' H' s7/\tn i s7.heap/\(∀b∈fp,H' b=none)/\W i m σ' H':=λ{Xc H7} I7 n7=>by
   obtain⟨m',hm,w7⟩:=hN Xc H7 n7;refine⟨m',hm,i+1,Xc,H7,I7.yr,T.keep _ _ _ st5 λb hb o e=>(I7.pin (b,o) (iG _ (iG _ (uf hb e)))).1,λb hb=>?_,w7⟩;obtain⟨o,e,d⟩:=T.obj _ _ st5 b hb;exact(I7.pin (b,o) (iG _ (iG _ (uf hb e)))).2.1
  cases f with
  |next=>obtain⟨Xc,H7,I7,n7⟩:=q7;exact again I7 n7
  |cont=>obtain⟨Xc,H7,I7,n7⟩:=q7;exact again I7 n7
  |brk=>obtain⟨Xc,H7,I7,q7⟩:=q7;exact⟨Xc,H7,I7.yr,q7⟩
  |ret v=>obtain⟨x7,Xc,H7,I7,r7,q7⟩:=q7;exact⟨x7,Xc,H7,I7.yr,r7,q7⟩
end
def Cj{a:Addr}{xs:List V}{g:TG}{σ:St}{H:Hp}(Pv:Nat->St->Hp->Prop)(h0:Pv 0 σ H)(hl:∀i σ H,i<=xs.length->Pv i σ H->bI K H a xs)
  (hs:∀i x σ H,xs[i]?=some x->Pv i σ H->g x σ H λσ2 H2=>tb { D with nx:=Pv (i+1),ct:=Pv (i+1),bk:=D.nx} σ2 H2) (hd:∀σ H,Pv xs.length σ H->D.nx σ H) :
  ∃W:Nat->Nat->St->Hp->Prop,(∃m,W 0 m σ H)/\∀i m σ H,W i m σ H->
   ((θ K a).stop i H/\D.nx σ H)\/((θ K a).go i H/\∃N:St->Hp->Prop,(∀σ' H',N σ' H'->∃m',m'<m/\W (i+1) m' σ' H')/\∀x H',(θ K a).Û i H x H'->g x σ H' λσ2 H2=>tb { D with nx:=N,ct:=N,bk:=D.nx} σ2 H2):=by
 refine⟨λi m σ H=>m=xs.length-i/\i<=xs.length/\Pv i σ H,⟨xs.length,by simp,dG _,h0⟩,?_⟩;rintro i m σ H ⟨rfl,hi,p⟩;have q:=hl i σ H hi p;by_cases hlt:i<xs.length
 ·refine .inr ⟨⟨xs,xs[i],q,by simp[hlt]⟩,Pv (i+1),λσ' H' p'=>⟨xs.length-(i+1),(),Z,hlt,p'⟩,λx H' y=>?_⟩;obtain⟨e,y⟩:=y;subst e;exact hs i x σ _ (y xs q) p
 ·have e:i=xs.length:=()
  subst e;exact .inl ⟨⟨xs,q,aN _⟩,hd σ H p⟩
def a0d{a:Addr}{xs:List V}{g:TG}{σ:St}{H:Hp}(Pv:Nat->St->Hp->Prop)(h0:Pv 0 σ H)(hl:∀i σ H,i<=xs.length->Pv i σ H->cH K H a xs)
  (hs:∀i x σ H,xs[i]?=some x->Pv i σ H->g x σ H λσ2 H2=>tb { D with nx:=Pv (i+1),ct:=Pv (i+1),bk:=D.nx} σ2 H2) (hd:∀σ H,Pv xs.length σ H->D.nx σ H) :
  ∃W:Nat->Nat->St->Hp->Prop,(∃m,W 0 m σ H)/\∀i m σ H,W i m σ H->
   ((Itt K a).stop i H/\D.nx σ H)\/((Itt K a).go i H/\∃N:St->Hp->Prop,(∀σ' H',N σ' H'->∃m',m'<m/\W (i+1) m' σ' H')/\∀x H',(Itt K a).Û i H x H'->g x σ H' λσ2 H2=>tb { D with nx:=N,ct:=N,bk:=D.nx} σ2 H2):=by
 refine⟨λi m σ H=>m=xs.length-i/\i<=xs.length/\Pv i σ H,⟨xs.length,by simp,dG _,h0⟩,?_⟩;rintro i m σ H ⟨rfl,hi,p⟩;have q:=hl i σ H hi p;by_cases hlt:i<xs.length
 ·refine .inr ⟨⟨xs,xs[i],q,by simp[hlt]⟩,Pv (i+1),λσ' H' p'=>⟨xs.length-(i+1),(),Z,hlt,p'⟩,λx H' y=>?_⟩;obtain⟨e,y⟩:=y;subst e;exact hs i x σ _ (y xs q) p
 ·have e:i=xs.length:=()
  subst e;exact .inl ⟨⟨xs,q,aN _⟩,hd σ H p⟩
def vG{lo:Int}{g:TG}{σ:St}{H:Hp}(Pv:Nat->St->Hp->Prop)(h0:Pv 0 σ H)
  (hs:∀i σ H,i<n->Pv i σ H->g (.int (lo+i)) σ H λσ2 H2=>tb { D with nx:=Pv (i+1),ct:=Pv (i+1),bk:=D.nx} σ2 H2) (hd:∀σ H,Pv n σ H->D.nx σ H) :
  ∃W:Nat->Nat->St->Hp->Prop,(∃m,W 0 m σ H)/\∀i m σ H,W i m σ H->
   ((Xb lo n).stop i H/\D.nx σ H)\/((Xb lo n).go i H/\∃N:St->Hp->Prop,(∀σ' H',N σ' H'->∃m',m'<m/\W (i+1) m' σ' H')/\∀x H',(Xb lo n).Û i H x H'->g x σ H' λσ2 H2=>tb { D with nx:=N,ct:=N,bk:=D.nx} σ2 H2):=by
 refine⟨λi m σ H=>m=n-i/\i<=n/\Pv i σ H,⟨n,by simp,dG _,h0⟩,?_⟩;rintro i m σ H ⟨rfl,hi,p⟩;by_cases hlt:i<n
 ·refine .inr ⟨hlt,Pv (i+1),λσ' H' p'=>⟨n-(i+1),(),Z,hlt,p'⟩,λx H' y=>?_⟩;obtain⟨e,y⟩:=y;subst e y;exact hs i σ _ hlt p
 ·have e:i=n:=()
  subst e;exact .inl ⟨aN _,hd σ H p⟩
abbrev R2:=V->V->Hp->VK->Prop
def sS(X:Cx)(f:Value->Value->Sem Value)(r:R2):Prop :=
 ∀(Y:List (Addr×Obj)) (s:Shared) (σ:St) (H:Hp) (x y:V) (v u:Value) (Q:VK),bC X Y σ H s->cQ x v->cQ y u->r x y H Q->
  wpAny (model X.prog X.w) X.A (f v u) (EP X Y σ Q) X.xe s
def jG(X:Cx)(f:Value)(r:List V->Hp->VK->Prop):Prop :=
 ∀(Y:List (Addr×Obj)) (s:Shared) (σ:St) (H:Hp) (xs:List V) (us:List Value) (Q:VK),bC X Y σ H s->cN xs us->r xs H Q->
  wpAny (model X.prog X.w) X.A (call f us) (EP X Y σ Q) X.xe s
def a6W(X:Cx)(r:V->Hp->(Bool->Hp->Prop)->Prop):Prop :=
 ∀(Y:List (Addr×Obj)) (s:Shared) (σ:St) (H:Hp) (x:V) (v:Value) (Q:Bool->Hp->Prop),bC X Y σ H s->cQ x v->r x H Q->
  wpAny (model X.prog X.w) X.A (truthy v) (TP X Y σ Q) X.xe s
def tOp(r:R2)(ta tb:TE):TE:=λσ H Q=>ta σ H λx H1=>tb σ H1 λy H2=>r x y H2 Q
inductive rI(C:Int->Int->Prop)(g:Int->Int->V)(x:V)(y:V)(H:Hp)(Q:VK):Prop
 |mk (i j:_) (_:x=.int i) (_:y=.int j) (_:C i j) (_:Q (g i j) H)
inductive rI0(g:Int->Int->V)(x:V)(y:V)(H:Hp)(Q:VK):Prop
 |mk (i j:_) (_:x=.int i) (_:y=.int j) (_:Q (g i j) H)
section
variable{X:Cx}{a b:Expr}{tb tc:TE}
def a2R(ha:PE X a ta)(hb:PE X b tb){Y:List (Addr×Obj)}{s:Shared}{σ:St}{H:Hp}{R:V->V->Hp->Prop}(I:bC X Y σ H s)
  (h:ta σ H λx H1=>tb σ H1 λy H2=>R x y H2) {Q:Value->Shared->Prop}{f:Value->Value->Sem Value}
  (hf:∀v u s2 x y H2,bC X Y σ H2 s2->cQ x v->cQ y u->R x y H2->wpAny (model X.prog X.w) X.A (f v u) Q X.xe s2) :
  wpAny (model X.prog X.w) X.A (eval a X.env) (λv s₁=>wpAny (model X.prog X.w) X.A (eval b X.env) (λu s₂=>wpAny (model X.prog X.w) X.A (f v u) Q X.xe s₂) X.xe s₁) X.xe s:=by
 exact jx (ha Y s σ H _ I h) λv s1 ⟨x,H1,I1,r1,q1⟩=>jx (hb Y s1 σ H1 _ I1 q1) λu s2 ⟨y,H2,I2,r2,q2⟩=>hf v u s2 x y H2 I2 r1 r2 q2
def bQ{op:Operator}{r:R2}(ho:sS X (binaryOp op) r)(ha:PE X a ta)(hb:PE X b tb):PE X (.BinOp a op b pos) (tOp r ta tb):=by
 intro Y s σ H Q I h;exact wpAny_BinOp (a2R ha hb I h λv u s2 x y H2 I2 rx ry q=>ho Y s2 σ H2 x y v u Q I2 rx ry q)
def opI{f:Value->Value->Sem Value}{C:Int->Int->Prop}{g:Int->Int->Int}
  (rule:∀(i j:Int) (t u:Tok) (s:Shared) (Q:Value->Shared->Prop) (E:Value->Shared->Prop),C i j->Q (.int (g i j) s.toks) { s with toks:=s.toks+1}->wpAny (model X.prog X.w) X.A (f (.int i t) (.int j u)) Q E s) :
  sS X f (rI C λi j=>.int (g i j)):=by
 intro Y s σ H x y v u Q I rx ry h;obtain⟨i,j,rfl,rfl,hc,q⟩:=h;obtain⟨t,rfl⟩:=rx;obtain⟨t',rfl⟩:=ry;exact rule i j t t' s _ _ hc ⟨.int (g i j),H,I.tok _,⟨_,Z⟩,q⟩
def a5b{f:Value->Value->Sem Value}{g:Int->Int->Int}
  (rule:∀(i j:Int) (t u:Tok) (s:Shared) (Q:Value->Shared->Prop) (E:Value->Shared->Prop),Q (.int (g i j) s.toks) { s with toks:=s.toks+1}->wpAny (model X.prog X.w) X.A (f (.int i t) (.int j u)) Q E s) :
  sS X f (rI0 λi j=>.int (g i j)):=by
 intro Y s σ H x y v u Q I rx ry h;obtain⟨i,j,rfl,rfl,q⟩:=h;obtain⟨t,rfl⟩:=rx;obtain⟨t',rfl⟩:=ry;exact rule i j t t' s _ _ ⟨.int (g i j),H,I.tok _,⟨_,Z⟩,q⟩
def a0e{f:Value->Value->Sem Value}{g:Int->Int->Bool}
  (rule:∀(i j:Int) (t u:Tok) (s:Shared) (Q:Value->Shared->Prop) (E:Value->Shared->Prop),Q (.bool (g i j)) s->wpAny (model X.prog X.w) X.A (f (.int i t) (.int j u)) Q E s) :
  sS X f (rI0 λi j=>.bl (g i j)):=by
 intro Y s σ H x y v u Q I rx ry h;obtain⟨i,j,rfl,rfl,q⟩:=h;obtain⟨t,rfl⟩:=rx;obtain⟨t',rfl⟩:=ry;exact rule i j t t' s _ _ ⟨.bl (g i j),H,I,Z,q⟩
def a6X(i j:Int):Prop:=0<j/\j<1073741824
def a6Y(i j:Int):Prop:=0<=j/\j<=1000000/\i.natAbs<2^64
def a2S(i j:Int):Prop:=(-(2^64)<i/\i<2^64)\/(-(2^64)<j/\j<2^64)
def a2S.ok{i j:Int}(h:a2S i j):IntMulOk i j:=by
 rcases h with⟨h1,h2⟩|⟨h1,h2⟩
 ·exact .of_left (intBits_le_64 h1 h2)
 ·exact .of_right (intBits_le_64 h1 h2)
def fL:sS X (binaryOp .Add) (rI0 λi j=>.int (i+j)):=a5b λ_ _ _ _ _ _ _ q=>add_int q
def Vd:sS X (binaryOp .Sub) (rI0 λi j=>.int (i-j)):=a5b λ_ _ _ _ _ _ _ q=>sub_int q
def wJ:sS X (binaryOp .Mult) (rI a2S λi j=>.int (i*j)):=opI λ_ _ _ _ _ _ _ hc q=>mul_int q hc.ok
def a0f:sS X (binaryOp .FloorDiv) (rI a6X λi j=>.int (i/j)):=opI λi j _ _ _ _ _ hc q=>by
 have h1:(0:Int)<j:=hc.1;have h2:j<1073741824:=hc.2;exact floordiv_int () (by rw[Int.fdiv_eq_ediv_of_nonneg i ()];exact q) (.inl (PyProof.noPylong_small ()))
def jL:sS X (binaryOp .Mod) (rI (λ_ j=>0<j) λi j=>.int (i%j)):=opI λi j _ _ _ _ _ hc q=>by
 have h1:(0:Int)<j:=hc;exact mod_int' () (by rw[Int.fmod_eq_emod_of_nonneg i ()];exact q)
def a2T:sS X (binaryOp .Pow) (rI a6Y λi j=>.int (i^j.toNat)):=opI λ_ _ _ _ _ _ _ hc q=>pow_int_small hc.1 hc.2.1 hc.2.2 q
end
def a5c:V->V->Bool
 |.non,.non=>true |.non,.int _=>true |.int _,.non=>true |.non,.bl _=>true |.bl _,.non=>true |.non,.str _=>true |.str _,.non=>true
 |.int _,.int _=>true |.bl _,.bl _=>true |.str _,.str _=>true |.W6 _,.W6 _=>true
 |.int _,.str _=>true |.str _,.int _=>true |.bl _,.str _=>true |.str _,.bl _=>true
 |_,_=>false
def rEq:R2:=λx y H Q=>a5c x y=true/\Q (.bl (decide (x=y))) H
def rNe:R2:=λx y H Q=>a5c x y=true/\Q (.bl (!decide (x=y))) H
def Xd{i j:Int}:decide (V.int i=V.int j)=(i==j):=by
 rw[tX];simp
def û{i j:Bool}:decide (V.bl i=V.bl j)=(i==j):=by
 rw[tX];simp
def Xe{i j:Str}:decide (V.str i=V.str j)=(i==j):=by
 rw[tX];simp
def Xf{i j:Array UInt8}:decide (V.W6 i=V.W6 j)=(i.toList==j.toList):=by
 rw[tX];cases i;cases j;simp
section
variable{X:Cx}{a b:Expr}{tb tc:TE}
def eV{Y:List (Addr×Obj)}{σ:St}{H:Hp}{s:Shared}{Q:VK}{k k':Bool}(I:bC X Y σ H s)(q:Q (.bl k) H)(e:k=k'):EP X Y σ Q (.bool k') s:=by
 subst e;exact⟨.bl k,H,I,Z,q⟩
def iR:sS X (compareOp .Eq) rEq:=by
 intro Y s σ H x y v u Q I rx ry h;obtain⟨hs,q⟩:=h;cases x with
 |non =>
  cases rx;cases y with
  |non=>cases ry;exact PySem.EqNone.eq_none_none (eV I q (by simp))
  |bl j=>cases ry;exact PySem.EqNone.eq_none_bool (eV I q (by simp))
  |int j=>obtain⟨t',rfl⟩:=ry;exact PySem.EqNone.eq_none_int (eV I q (by simp))
  |str j=>obtain⟨t',rfl⟩:=ry;exact PySem.EqNone.eq_none_str (eV I q (by simp))
  |_=>exact absurd (show false=true from hs) cY
 |bl i =>
  cases rx;cases y with
  |non=>cases ry;exact PySem.EqNone.eq_bool_none (eV I q (by simp))
  |bl j=>cases ry;exact eq_bool (eV I q û)
  |str j=>obtain⟨t',rfl⟩:=ry;exact PySem.EqMixed.eq_bool_str (eV I q (by simp))
  |_=>exact absurd (show false=true from hs) cY
 |int i =>
  obtain⟨t,rfl⟩:=rx;cases y with
  |non=>cases ry;exact PySem.EqNone.eq_int_none (eV I q (by simp))
  |int j=>obtain⟨t',rfl⟩:=ry;exact eq_int (eV I q Xd)
  |str j=>obtain⟨t',rfl⟩:=ry;exact PySem.EqMixed.eq_int_str (eV I q (by simp))
  |_=>exact absurd (show false=true from hs) cY
 |str i =>
  obtain⟨t,rfl⟩:=rx;cases y with
  |non=>cases ry;exact PySem.EqNone.eq_str_none (eV I q (by simp))
  |bl j=>cases ry;exact PySem.EqMixed.eq_str_bool (eV I q (by simp))
  |int j=>obtain⟨t',rfl⟩:=ry;exact PySem.EqMixed.eq_str_int (eV I q (by simp))
  |str j=>obtain⟨t',rfl⟩:=ry;exact eq_str (eV I q Xe)
  |_=>exact absurd (show false=true from hs) cY
 |W6 i =>
  obtain⟨t,rfl⟩:=rx;cases y with
  |W6 j=>obtain⟨t',rfl⟩:=ry;exact PySem.W.eq_bytes (eV I q Xf)
  |_=>exact absurd (show false=true from hs) cY
 |_=>cases y<;>exact absurd (show false=true from hs) cY
def Ma:sS X (compareOp .NotEq) rNe:=by
 intro Y s σ H x y v u Q I rx ry h;obtain⟨hs,q⟩:=h;cases x with
 |non =>
  cases rx;cases y with
  |non=>cases ry;exact PySem.EqNone.ne_none_none (eV I q (by simp))
  |bl j=>cases ry;exact PySem.EqNone.ne_none_bool (eV I q (by simp))
  |int j=>obtain⟨t',rfl⟩:=ry;exact PySem.EqNone.ne_none_int (eV I q (by simp))
  |str j=>obtain⟨t',rfl⟩:=ry;exact PySem.EqNone.ne_none_str (eV I q (by simp))
  |_=>exact absurd (show false=true from hs) cY
 |bl i =>
  cases rx;cases y with
  |non=>cases ry;exact PySem.EqNone.ne_bool_none (eV I q (by simp))
  |bl j=>cases ry;exact ne_bool (eV I q (congrArg not û))
  |str j=>obtain⟨t',rfl⟩:=ry;exact PySem.EqMixed.ne_bool_str (eV I q (by simp))
  |_=>exact absurd (show false=true from hs) cY
 |int i =>
  obtain⟨t,rfl⟩:=rx;cases y with
  |non=>cases ry;exact PySem.EqNone.ne_int_none (eV I q (by simp))
  |int j=>obtain⟨t',rfl⟩:=ry;exact ne_int (eV I q (congrArg not Xd))
  |str j=>obtain⟨t',rfl⟩:=ry;exact PySem.EqMixed.ne_int_str (eV I q (by simp))
  |_=>exact absurd (show false=true from hs) cY
 |str i =>
  obtain⟨t,rfl⟩:=rx;cases y with
  |non=>cases ry;exact PySem.EqNone.ne_str_none (eV I q (by simp))
  |bl j=>cases ry;exact PySem.EqMixed.ne_str_bool (eV I q (by simp))
  |int j=>obtain⟨t',rfl⟩:=ry;exact PySem.EqMixed.ne_str_int (eV I q (by simp))
  |str j=>obtain⟨t',rfl⟩:=ry;exact ne_str (eV I q (congrArg not Xe))
  |_=>exact absurd (show false=true from hs) cY
 |W6 i =>
  obtain⟨t,rfl⟩:=rx;cases y with
  |W6 j=>obtain⟨t',rfl⟩:=ry;exact PySem.W.ne_bytes (eV I q (congrArg not Xf))
  |_=>exact absurd (show false=true from hs) cY
 |_=>cases y<;>exact absurd (show false=true from hs) cY
def FT:sS X (compareOp .Lt) (rI0 λi j=>.bl (decide (i<j))):=a0e λ_ _ _ _ _ _ _ q=>lt_int q
def a5d:sS X (compareOp .LtE) (rI0 λi j=>.bl (decide (i<=j))):=a0e λ_ _ _ _ _ _ _ q=>le_int q
def Jj:sS X (compareOp .Gt) (rI0 λi j=>.bl (decide (j<i))):=a0e λ_ _ _ _ _ _ _ q=>gt_int q
def a5e:sS X (compareOp .GtE) (rI0 λi j=>.bl (decide (j<=i))):=a0e λ_ _ _ _ _ _ _ q=>ge_int q
def ý : sS X (compareOp .Is) (fun x y H Q => y = .non ∧ Q (.bl (decide (x = .non))) H) := by
  intro Y s σ H x y v u Q I rx ry h;obtain ⟨rfl, q⟩ := h;cases ry;refine is_none_gen (eV I q ?_);cases x <;> first
    | (cases rx; rfl)
    | (obtain ⟨t, rfl⟩ := rx; rfl)
def Xg : sS X (compareOp .IsNot) (fun x y H Q => y = .non ∧ Q (.bl (!decide (x = .non))) H) := by
  intro Y s σ H x y v u Q I rx ry h;obtain ⟨rfl, q⟩ := h;cases ry;refine isnot_none_gen (eV I q ?_);cases x <;> first
    | (cases rx; rfl)
    | (obtain ⟨t, rfl⟩ := rx; rfl)
def Ve(b:Expr)(h:op≠.In:=by decide)(h2:op≠.NotIn:=by decide):behindInMarks op b=false:=by
 have e1:(op==CmpOp.In)=false:=by cases op<;>first|rfl|exact absurd Z h
 have e2:(op==CmpOp.NotIn)=false:=by cases op<;>first|rfl|exact absurd Z h2
 cases b<;>simp[behindInMarks,e1,e2]
def wK{r:R2}(ho:sS X (compareOp op) r)(ha:PE X a ta)(hb:PE X b tb)(hm:behindInMarks op b=false:=by exact Ve _):PE X (.Compare a [op] [b] pos) (tOp r ta tb):=by
 intro Y s σ H Q I h;exact wpAny_Compare1 (a2R ha hb I h λv u s2 x y H2 I2 rx ry q=>ho Y s2 σ H2 x y v u Q I2 rx ry q) hm
def a2h(t:TE):TT:=λσ H Q=>t σ H λx H'=>EA (λk=>x=.bl k) λk=>Q k H'
def aL{r:R2}(ho:sS X (compareOp op) r)(ha:PE X a ta)(hb:PE X b tb)(hm:behindInMarks op b=false:=by exact Ve _):PT X (.Compare a [op] [b] pos) (a2h (tOp r ta tb)):=by
 intro Y s σ H Q I h;refine wpAny_isTrue_Compare1 (jx (ha Y s σ H _ I h) λv s1 ⟨x,H1,I1,r1,q1⟩=>jx (hb Y s1 σ H1 _ I1 q1) λu s2 ⟨y,H2,I2,r2,q2⟩ =>
  jx (ho Y s2 σ H2 x y v u _ I2 r1 r2 q2) λc s3 ⟨z,H3,I3,r3,k,e,q3⟩=>?_) hm
 subst e;cases r3;exact Ar ⟨H3,I3,q3⟩
def a2U(r r':R2)(ta tb tc:TE):TE:=λσ H Q=>ta σ H λx H1=>tb σ H1 λy H2=>r x y H2 λz H3=>∃k,z=.bl k/\
 (if k=true then tc σ H3 λw' H4=>r' y w' H4 Q else Q (.bl false) H3)
def þ{op':CmpOp}{r r':R2}(ho:sS X (compareOp op) r)(ho':sS X (compareOp op') r')(ha:PE X a ta)(hb:PE X b tb)(hc:PE X c tc)
  (hm:lastMarks [op,op'] [b,c]=false:=by with_unfolding_all rfl):PE X (.Compare a [op,op'] [b,c] pos) (a2U r r' ta tb tc):=by
 intro Y s σ H Q I h;refine Compare_chain (jx (ha Y s σ H _ I h) λv s1 ⟨x,H1,I1,r1,q1⟩=>chain_link (jx (hb Y s1 σ H1 _ I1 q1) λu s2 ⟨y,H2,I2,r2,q2⟩ =>
  jx (ho Y s2 σ H2 x y v u _ I2 r1 r2 q2) λd s3 ⟨z,H3,I3,r3,k,e,q3⟩=>?_)) hm
 subst e;cases r3;refine Ar ?_;cases k with
 |false=>exact ite_ff ⟨.bl false,H3,I3,Z,q3⟩
 |true=>exact ite_tt (chain_last (jx (hc Y s3 σ H3 _ I3 q3) λw' s4 ⟨z',H4,I4,r4,q4⟩=>ho' Y s4 σ H4 y z' u w' Q I4 r2 r4 q4))
def ÿ(K:aH)(x:V)(H:Hp)(k:Bool):Prop :=
 match x with
 |.non=>k=false
 |.bl b=>k=b
 |.int i=>k=(i != 0)
 |.str y=>y.length<=sizeLine/\k=((y.length:Int) != 0)
 |.W6 y=>y.size<=sizeLine/\k=((y.size:Int) != 0)
 |.ref p=>(∃xs,bI K H p xs/\k = !xs.isEmpty)\/(∃xs,cH K H p xs/\k = !xs.isEmpty)\/∃O,H p=some (.dK O)/\k = !O.isEmpty
 |_=>False
def Vf{κ:Type}{O:List (κ×V)}{vs:List (κ×Value)}(r:KV O vs):(!vs.isEmpty) = !O.isEmpty:=by
 cases r<;>rfl
def Jk{xs:List V}{bV:List Value}(r:cN xs bV):(!bV.toArray.isEmpty) = !xs.isEmpty:=by
 cases r<;>simp
def Jl:(sizeLine:Nat)<2^63:=by rw[jg];decide
def Vg:a6W X (λx H Q=>∃k,ÿ X.K x H k/\Q k H):=by
 intro Y s σ H x v Q I rx h;obtain⟨k,e,q⟩:=h;have hl:=Jl;have hs:sizeLine=16777216:=jg;cases x with
 |non =>
  cases rx;have e':k=false:=e;subst e';exact truthy_none ⟨H,I,q⟩
 |bl b =>
  cases rx;have e':k=b:=e;subst e';exact Ar ⟨H,I,q⟩
 |int i =>
  obtain⟨t,rfl⟩:=rx;have e':k=(i != 0):=e;subst e';exact PySem.P.truthy_int ⟨H,I,q⟩
 |str y =>
  obtain⟨t,rfl⟩:=rx;obtain⟨hy,e'⟩:y.length<=sizeLine/\k=((y.length:Int) != 0):=e;subst e';exact PySem.P.truthy_str () ⟨H,I.tok _,q⟩
 |W6 y =>
  obtain⟨t,rfl⟩:=rx;obtain⟨hy,e'⟩:y.size<=sizeLine/\k=((y.size:Int) != 0):=e;subst e';exact PySem.W.truthy_bytes () ⟨H,I.tok _,q⟩
 |ref p =>
  cases rx;have e':(∃xs,bI X.K H p xs/\k = !xs.isEmpty)\/(∃xs,cH X.K H p xs/\k = !xs.isEmpty)\/∃O,H p=some (.dK O)/\k = !O.isEmpty:=e;rcases e' with⟨xs,hx,e'⟩|⟨xs,hx,e'⟩|⟨O,hx,e'⟩
  ·subst e';obtain⟨bV,r,pl,hz⟩:=I.list hx;have hlen:=r.length;exact wpAny_truthy_list pl.isList (by simp only[List.size_toArray];omega) ⟨H,I.tok _,by rw[Jk r];exact q⟩
  ·subst e';obtain⟨bV,r,pl,hz⟩:=I.tuple hx;have hlen:=r.length;exact truthy_tuple pl (by simp only[List.size_toArray];omega) ⟨H,I.tok _,by rw[Jk r];exact q⟩
  ·subst e';obtain⟨hz,hS,vs,r,m⟩:O.length<=sizeLine/\(p==sysModules)=false/\∃vs,KV O vs/\s.heap.DictOf (dN X.prog X.w) p vs:=I.hok p _ hx;have hlen:O.length=vs.length:=aQ r;exact wpAny_truthy_dict hS m () ⟨H,I.tok _,by rw[Vf r];exact q⟩
 |_=>exact(show False from e).elim
def Ā(ha:PE X a ta)(he:∀whole,isTrue a X.env whole=(do let v <-whole;standAt a.pos;holding [v] (truthy v))) :
  PT X a (λσ H Q=>ta σ H λx H'=>∃k,ÿ X.K x H' k/\Q k H'):=by
 intro Y s σ H Q I h;exact isTrue_plain (jx (ha Y s σ H _ I h) λv s1 ⟨x,H1,I1,r1,q1⟩=>Vg Y s1 σ H1 x v Q I1 r1 q1) (he _)
def vals1{x:V}{us:List Value}(r:cN [x] us):∃u,us=[u]/\cQ x u:=by
 cases r with
 |cons r1 r2=>cases r2;exact⟨_,Z,r1⟩
def vals2{x y:V}{us:List Value}(r:cN [x,y] us):∃u w',us=[u,w']/\cQ x u/\cQ y w':=by
 cases r with
 |cons r1 r2 =>
  cases r2 with
  |cons r3 r4=>cases r4;exact⟨_,_,Z,r1,r3⟩
def YZ(hc:X.calm=true):jG X (.builtin "max") (λxs H Q=>∃i j,xs=[.int i,.int j]/\Q (.int (if j>i then j else i)) H):=by
 intro Y s σ H xs us Q I r h;obtain⟨i,j,rfl,q⟩:=h;obtain⟨u,w',rfl,⟨t,rfl⟩,⟨t',rfl⟩⟩:=vals2 r;refine max_two_ints (I.ok.hd hc) λh' tk k=>⟨_,H,I.kept k,?_,q⟩;by_cases hj:j>i
 ·rw[aB hj,aB hj];exact⟨_,Z⟩
 ·rw[aq hj,aq hj];exact⟨_,Z⟩
def Mf(hc:X.calm=true):jG X (.builtin "min") (λxs H Q=>∃i j,xs=[.int i,.int j]/\Q (.int (if j<i then j else i)) H):=by
 intro Y s σ H xs us Q I r h;obtain⟨i,j,rfl,q⟩:=h;obtain⟨u,w',rfl,⟨t,rfl⟩,⟨t',rfl⟩⟩:=vals2 r;refine min_two_ints (I.ok.hd hc) λh' tk k=>⟨_,H,I.kept k,?_,q⟩;by_cases hj:j<i
 ·rw[aB hj,aB hj];exact⟨_,Z⟩
 ·rw[aq hj,aq hj];exact⟨_,Z⟩
end
structure Vh(h:Heap)(x dx C:Addr)(mA:Str->Option Value):Prop where
 obj:h.get? x=some (PySem.W.instObj C dx)
 ns:h.Ns1 dx mA
 ne:dx≠x
set_option tactic.hygienic true in
def Y0{dx:Addr}(n:h.Ns1 dx mA):∃od,h.get? dx=some od/\∀name,PySem.W.lookIn name od=some (mA name):=by
 obtain⟨o,es,ep,ho,hd,hk,_,hm⟩:=n;refine⟨o,ho,λname=>?_⟩;have e:=hm name;unfold nsFind findBy at e;rw[<-Array.find?_toList]at e;unfold PySem.W.lookIn;rw[hd];dsimp only;split
 ·rename_i y q;rw[q]at e;exact congrArg some e
 ·rename_i q;rw[q]at e;have a:es.toList.any (·.refKey)=false:=by
   rw[List.any_eq_false];intro y hy;obtain⟨z,t,hkey⟩:=hk y (Array.mem_toList_iff.mp hy);simp[DictEntry.refKey,hkey]
  have a':¬es.toList.any (·.refKey)=true:=by rw[a];exact cY
  rw[aq a'];exact congrArg some e
def Vh.look{x dx C:Addr}(I:Vh h x dx C mA):∃od,PySem.W.InstAt h x (PySem.W.instObj C dx) C (some od)/\∀name,PySem.W.lookIn name od=some (mA name) :=
 let⟨od,ho,hl⟩:=Y0 I.ns
 ⟨od,⟨I.obj,Z,Z,ho⟩,hl⟩
section
variable{prog:Program}{w:World}{E:Value->Shared->Prop}{s:Shared}{x dx C f:Addr}{name:Str}{v:Value}
def get_map{expr:Bool}{Q:Value->Shared->Prop}(X:K.In s.heap)(I:Vh s.heap x dx C mA)(hg:PySem.W.plainGet K C name=true)(hh:PySem.W.hasDictIn K C=true)
  (ha:PySem.W.findIn K (.ref C) name=some none) (hv:mA name=some v) (hv':PySem.W.handedIn v=true) (h:Q v { s with toks:=s.toks+1}) :
  wpAny (model prog w) A (getAttr (.ref x) name expr) Q E s:=by
 obtain⟨od,Z97,hl⟩:=I.look;exact PySem.W.get_value X Z97 (Uh hg).1 (PySem.W.findObj_own hh ha Z (by rw[hl,hv])) hv' h
def ā{Q:Value×List Value->Shared->Prop}(X:K.In s.heap)(I:Vh s.heap x dx C mA)(hg:PySem.W.plainGet K C name=true)
  (hf:PySem.W.findIn K (.ref C) name=some (some (.ref f))) (ht:PySem.W.isFn K (.ref f)=true) (hv:mA name=none) (h:Q (.ref f,[.ref x]) s) :
  wpAny (model prog w) A (getMethod (.ref x) name pl) Q E s:=by
 obtain⟨od,Z97,hl⟩:=I.look;exact PySem.W.method_fn X Z97 (Uh hg).1 (Uh hg).2 hf (Jd.mp ht) (by show(PySem.W.lookIn name od).map (·.isSome)=some false;rw[hl,hv];rfl) h
def a0g{ns:List Str}{Q:Unit->Shared->Prop}(X:K.In s.heap)(I:Vh s.heap x dx C mA)
  (hs:PySem.W.findIn K (.ref C) "__setattr__" = some (some (.builtin "object.__setattr__"))) (hp:PySem.W.plainOver K C=true) (ht:PySem.W.takerIn K C name=some none) (hh:PySem.W.hasDictIn K C=true)
  (hw:PySem.Within mA ns) (hsz:ns.length<=sizeLine)
  (h:∀h',Vh h' x dx C (λy=>if y=name then some v else mA y)->Heap.SameBut dx s.heap h'->Q ⟨⟩ { s with heap:=h',toks:=s.toks+2}) :
  wpAny (model prog w) A (setAttr (.ref x) name v) Q E s:=by
 obtain⟨od,Z97,hl⟩:=I.look;refine PySem.W.set_plain X Z97 hs (PySem.W.osa_open (s:={ s with toks:=s.toks+1}) (r:=none) X Z97 hp ht λb=>?_);obtain⟨cd,hc,hd'⟩:=PySem.W.any_some hh;have hx:s.heap.get? x=some ⟨.ref C,some dx,.plain,#[]⟩:=I.obj;refine M (aj (M (M (wpAny_loadPart hx (M (PySem.W.Looks.here (s:={ s with toks:=s.toks+1}) (PySem.W.looks_clsIn X hc) ?_))))));rw[hd'];refine aj (a:=some dx) (M (aj (M (wpAny_nsSet1 (s:={ s with toks:=s.toks+1}) I.ns λh' hn2 hs2=>?_))));obtain⟨oD,esD,epD,hoD,hdD,hcD⟩:=hn2.count (PySem.Within.cons name v hw);refine M (wpAny_lookBehind hoD (by rw[hdD];exact pastItsLine_dict (dF hcD (by rw[jH];omega))) ?_);exact aj (h _ ⟨(hs2.2 _ (Ne.symm I.ne)).trans I.obj,hn2,I.ne⟩ hs2)
def Ă{R:Result->Shared->Prop}{vs:List Value}(X:K.In s.heap)(hm:PySem.W.makesIn K C=true)
  (hi:PySem.W.findIn K (.ref C) "__init__" = some (some (.ref f))) (hf:PySem.W.typeIn K (.ref f)=some (.type "function"))
  (h:codeAny (model prog w) (A.under (.builtin "type.__call__" ⟨.ref C::vs,kw⟩)) (.call (.ref f) ⟨.ref (s⁻¹+1)::vs,kw⟩) (PySem.W.InitBack (s⁻¹+1) R)
   { s with heap:=(s.heap.push PySem.W.emptyDict).push (PySem.W.instObj C s⁻¹)}) :
  codeAny (model prog w) A (.call (.ref C) ⟨vs,kw⟩) R s:=by
 obtain⟨hh,g,d,t,os⟩:=s;exact PySem.W.make_core (PySem.W.makes_of X hm) (PySem.W.looks_findIn X hi) (λself=>PySem.W.bind_fn X self hf) (.inl Z) h
end
def wL(f:Str)(v:V):List (Str×V)->List (Str×V)
 | []=>[(f,v)]
 |(g,x)::r=>if g=f then(g,v)::r else(g,x)::wL f v r
theorem FW(f g:Str)(v:V):∀fs:List (Str×V),(wL f v fs).lookup g=if g=f then some v else fs.lookup g
 | []=>by
  show List.lookup g [(f,v)]=_
  by_cases h:g=f
  ·have hb:(g==f)=true:=Jd.mpr h
   simp only[List.lookup,hb,if_pos h]
  ·have hb:(g==f)=false:=wj.mpr h
   simp only[List.lookup,hb,if_neg h]
 |(k,x)::r=>by
  have ih:=FW f g v r
  rw[show wL f v ((k,x)::r)=(if k=f then(k,v)::r else(k,x)::wL f v r)from rfl]
  by_cases hk:k=f
  ·rw[aB hk]
   by_cases h:g=k
   ·have hb:(g==k)=true:=Jd.mpr h
    simp only[List.lookup,hb,if_pos (h.trans hk)]
   ·have hb:(g==k)=false:=wj.mpr h
    simp only[List.lookup,hb,if_neg (λe:g=f=>h (e.trans hk.symm))]
  ·rw[aq hk]
   by_cases h:g=k
   ·have hb:(g==k)=true:=Jd.mpr h
    simp only[List.lookup,hb,if_neg (λe:g=f=>hk (h.symm.trans e))]
   ·have hb:(g==k)=false:=wj.mpr h
    simp only[List.lookup,hb]
    exact ih
theorem Ey(f:Str)(v:V):∀fs:List (Str×V),f∈(wL f v fs).map (·.1)/\∀g,g∈fs.map (·.1)->g∈(wL f v fs).map (·.1)
 | []=>⟨by simp[wL],λg h=>by simp at h⟩
 |(k,x)::r=>by
  obtain⟨i1,i2⟩:=Ey f v r
  rw[show wL f v ((k,x)::r)=(if k=f then(k,v)::r else(k,x)::wL f v r)from rfl]
  by_cases hk:k=f
  ·rw[aB hk]
   subst hk
   exact⟨by simp,λg h=>by simpa using h⟩
  ·rw[aq hk]
   refine⟨?_,λg h=>?_⟩
   ·rw[b7]
    exact bh _ i1
   ·rw[b7]at h ⊢
    rcases bU.mp h with e|e
    ·exact bU.mpr (.inl e)
    ·exact bh _ (i2 g e)
theorem FZ(f:Str)(v:V):∀fs:List (Str×V),(wL f v fs).length<=fs.length+1
 | []=>by simp[wL]
 |(k,x)::r=>by
  have ih:=FZ f v r
  rw[show wL f v ((k,x)::r)=(if k=f then(k,v)::r else(k,x)::wL f v r)from rfl]
  by_cases hk:k=f
  ·rw[aB hk,jH,jH];omega
  ·rw[aq hk,jH,jH];omega
def tB.some_of{v:V}{o:Option Value}(r:tB (some v) o):∃u,o=some u/\cQ v u:=by
 cases o with
 |none=>exact(show False from r).elim
 |some u=>exact⟨u,Z,r⟩
def tB.none_of{o:Option Value}(r:tB none o):o=none:=by
 cases o with
 |none=>rfl
 |some u=>exact(show False from r).elim
def Y4{v:V}{u:Value}(r:cQ v u):PySem.W.handedIn u=true:=by
 cases v with
 |non=>cases(show u=Value.none from r);rfl
 |bl b=>cases(show u=Value.bool b from r);rfl
 |int i=>obtain⟨t,e⟩:=(show ∃t,u=Value.int i t from r);cases e;rfl
 |str x=>obtain⟨t,e⟩:=(show ∃t,u=Value.str x t from r);cases e;rfl
 |W6 b=>obtain⟨t,e⟩:=(show ∃t,u=Value.bytes b t from r);cases e;rfl
 |flt b=>obtain⟨t,e⟩:=(show ∃t,u=Value.float b t from r);cases e;rfl
 |ref a=>cases(show u=Value.ref a from r);rfl
 |ty n=>cases(show u=Value.type n from r);rfl
section
variable{P:Program}{w:World}{H H':Hp}{a C dx:Addr}{fs fs':List (Str×V)}
def Hl(hok:zQ P w H h)(e:H a=some (.ins C dx fs)):∃mA,Vh h a dx C mA/\(∀f,tB (fs.lookup f) (mA f))/\PySem.Within mA (fs.map (·.1))/\fs.length<=1000/\H dx=some (.own a):=by
 obtain⟨d,z,ne,ob,mA,n,r,q⟩:=(show fW P w H h a (.ins C dx fs)from hok a _ e);exact⟨mA,⟨ob,n,ne⟩,r,q,z,d⟩
end
structure Cls(K:aH)(C:Addr):Prop where
 pg:PySem.W.plainGet K C Str.empty=true
 hd:PySem.W.hasDictIn K C=true
 po:PySem.W.plainOver K C=true
 sa:PySem.W.findIn K (.ref C) "__setattr__" = some (some (.builtin "object.__setattr__"))
def Cls.get{C:Addr}(c:Cls K C)(f:Str):PySem.W.plainGet K C f=true:=c.pg
def eX(K:aH)(C:Addr)(f:Str):Prop:=PySem.W.findIn K (.ref C) f=some none
def eX.taker{C:Addr}{f:Str}(n:eX K C f):PySem.W.takerIn K C f=some none:=by
 unfold PySem.W.takerIn;rw[show PySem.W.findIn K (.ref C) f=some none from n];rfl
structure Meth(K:aH)(C:Addr)(m:Str)(f:Addr):Prop where
 at_:PySem.W.findIn K (.ref C) m=some (some (.ref f))
 fn:PySem.W.isFn K (.ref f)=true
 kp:PySem.W.keepIn K (.ref f)=true
section
variable{X:Cx}{Y:List (Addr×Obj)}{σ:St}{H:Hp}{s:Shared}{a C dx:Addr}{fs:List (Str×V)}{f:Str}{v:V}{E:Value->Shared->Prop}
def Vi{b:Bool}{Q:Value->Shared->Prop}(I:bC X Y σ H s)(e:H a=some (.ins C dx fs))(c:Cls X.K C)(n:eX X.K C f)(l:fs.lookup f=some v)
  (h:∀u s',bC X Y σ H s'->cQ v u->Q u s'):wpAny (model X.prog X.w) A (getAttr (.ref a) f b) Q E s:=by
 obtain⟨mA,Z96,r,_,_,_⟩:=Hl I.hok e;obtain⟨u,hu,ru⟩:=tB.some_of (v:=v) (o:=mA f) (by rw[<-l];exact r f);exact get_map I.DY Z96 (c.get f) c.hd n hu (Y4 ru) (h u _ (I.tok _) ru)
def Vj{m:Str}{g:Addr}{Q:Value×List Value->Shared->Prop}(I:bC X Y σ H s)(e:H a=some (.ins C dx fs))(c:Cls X.K C)(k:Meth X.K C m g)(l:fs.lookup m=none)
  (h:Q (.ref g,[.ref a]) s):wpAny (model X.prog X.w) A (getMethod (.ref a) m pl) Q E s:=by
 obtain⟨mA,Z96,r,_,_,_⟩:=Hl I.hok e;have hn:mA m=none:=tB.none_of (by rw[<-l];exact r m);exact ā I.DY Z96 (c.get m) k.at_ k.fn hn h
def Vk{y:V}{u:Value}{Q:Unit->Shared->Prop}(I:bC X Y σ H s)(e:H a=some (.ins C dx fs))(c:Cls X.K C)(n:eX X.K C f)(hl:fs.length<1000)(ry:cQ y u)
  (h:∀s',bC X Y σ (cM H a (.ins C dx (wL f y fs))) s'->Q ⟨⟩ s'):wpAny (model X.prog X.w) A (setAttr (.ref a) f u) Q E s:=by
 obtain⟨mA,Z96,r,wi,_,ho⟩:=Hl I.hok e;have hz:(fs.map (·.1)).length<=sizeLine:=by rw[aM,jg];omega
 refine a0g I.DY Z96 c.sa c.po n.taker c.hd wi hz λh' O' sb=>h _ ?_;have hd:∃o,h'.get? dx=some o:=let⟨o,_,_,e',_⟩:=O'.ns;⟨o,e'⟩
 refine I.write (x:=a) (e:=dx) (by rw[e];exact mO) (.inr ho) (λb q hb z=>(sb.2 b hb).trans z) hd ?_;refine⟨by rw[aU Z96.ne];exact ho,?_,Z96.ne,O'.obj,_,O'.ns,λg=>?_,λg hg=>?_⟩
 ·have:=FZ f y fs;omega
 ·show tB ((wL f y fs).lookup g) (if g=f then some u else mA g);rw[FW];by_cases q:g=f
  ·rw[aB q,aB q];exact ry
  ·rw[aq q,aq q];exact r g
 ·by_cases q:g=f
  ·rw[q];exact(Ey f y fs).1
  ·refine(Ey f y fs).2 g (wi g λz=>hg ?_);show(if g=f then some u else mA g)=none;rw[aq q];exact z
def bC.made(I:bC X Y σ H s):bC X Y σ (cM (cM H s⁻¹ (.own (s⁻¹+1))) (s⁻¹+1) (.ins C s⁻¹ []))
  { s with heap:=(s.heap.push PySem.W.emptyDict).push (PySem.W.instObj C s⁻¹)}:=by
 have e1:(s.heap.push PySem.W.emptyDict).get? s⁻¹=some PySem.W.emptyDict:=bT s.heap rfl;have e2:((s.heap.push PySem.W.emptyDict).push (PySem.W.instObj C s⁻¹)).get? (s⁻¹+1)=some (PySem.W.instObj C s⁻¹):=by
  have:=bT (s.heap.push PySem.W.emptyDict) (o:=PySem.W.instObj C s⁻¹) rfl
  rwa [j7]at this
 have e3:(s.heap.push PySem.W.emptyDict).Ns s⁻¹ (λ_=>none):=⟨PySem.W.emptyDict,#[],_,e1,Z,(λe he=>absurd he (by simp)),λ_=>rfl⟩;have I1:=I.laid (a:=s⁻¹) (o:=.own (s⁻¹+1)) (h':=s.heap.push PySem.W.emptyDict) (t':=s.toks) (λb u q=>bx _ q) (aN _) ⟨_,e1⟩;refine I1.laid (a:=s⁻¹+1) (o:=.ins C s⁻¹ []) (t':=s.toks) (λb u q=>bx _ q) (O8 (j7 _ _)) ?_;have ne:s⁻¹≠s⁻¹+1:=bZ (Aw _);refine⟨by rw[aU ne,cV],dG _,ne,e2,λ_=>none,(Heap.Ns1.of_empty e3).at λo q=>bx _ q,λ_=>mO,λy hy=>absurd Z hy⟩
def a0h{prog:Program}{w:World}{env:Env}{f:Str}{s:Shared}{Q:Value->Shared->Prop}(hb:attributeBase e f env (eval e env)=eval e env)
  (h:wpAny (model prog w) A (eval e env) (λo s₁=>wpAny (model prog w) A (getAttr o f true) Q E s₁) E s):wpAny (model prog w) A (eval (.Attribute e f pos) env) Q E s :=
 Attribute_any_ h (by rw[arm_eval_Attribute,hb])
end
inductive a5f(K:aH)(f:Str)(x:V)(H1:Hp)(Q:VK):Prop
 |mk (a C dx fs v:_) (_:x=.ref a) (_:H1 a=some (.ins C dx fs)) (_:Cls K C) (_:eX K C f) (_:fs.lookup f=some v) (_:Q v H1)
def a5g(K:aH)(ta:TE)(f:Str):TE:=λσ H Q=>ta σ H λx H1=>a5f K f x H1 Q
inductive a5h(K:aH)(f:Str)(y x:V)(σ:St)(H2:Hp)(Q:St->Hp->Prop):Prop
 |mk (a C dx fs:_) (_:x=.ref a) (_:H2 a=some (.ins C dx fs)) (_:Cls K C) (_:eX K C f) (_:fs.length<1000) (_:Q σ (cM H2 a (.ins C dx (wL f y fs))))
def a6Z(K:aH)(ta tv:TE)(f:Str):TS:=λD σ H=>tv σ H λy H1=>ta σ H1 λx H2=>a5h K f y x σ H2 D.nx
section
variable{X:Cx}{o value:Expr}{f:Str}{pos' tpos:Pos}{tv:TE}
def a2V(he:PE X e ta)(hb:attributeBase e f X.env (eval e X.env)=eval e X.env):PE X (.Attribute e f pos) (a5g X.K ta f):=by
 intro Y s σ H Q I h;refine a0h hb (jx (he Y s σ H _ I h) λu s1 ⟨x,H1,I1,rx,a,C,dx,fs,v,ex,ea,c,n,l,q⟩=>?_);subst ex;obtain rfl:u=Value.ref a:=rx;exact Vi I1 ea c n l λu' s2 I2 ru=>⟨v,H1,I2,ru,q⟩
def Bd(ha:PE X o ta)(hv:PE X value tv)(hs:swapsWith value (some (.Attribute o f pos')) pos.line X.env=pure false):PS X (.Assign [.Attribute o f pos'] value pos) (a6Z X.K ta tv f):=by
 intro Y s σ H D I h;refine plainObj_wpAny_Assign_Attribute (jx (hv Y s σ H _ I h) λu s1 ⟨y,H1,I1,ry,q⟩=>jx (ha Y s1 σ H1 _ I1 q) λov s2 ⟨x,H2,I2,rx,a,C,dx,fs,ex,ea,c,n,l,q2⟩=>?_) hs;subst ex;obtain rfl:ov=Value.ref a:=rx;exact Vk I2 ea c n l ry λs3 I3=>⟨σ,_,I3,q2⟩
end
section
variable{X:Cx}{Y:List (Addr×Obj)}{σ:St}{H:Hp}{s:Shared}{E:Value->Shared->Prop}{Q:Value->Shared->Prop}{c:Value}{b:Bool}
inductive ug(K:aH)(H:Hp):V->Value->Prop where
 |non:ug K H .non (.type "NoneType")
 |bl (x:Bool):ug K H (.bl x) (.type "bool")
 |int (i:Int):ug K H (.int i) (.type "int")
 |str (x:Str):ug K H (.str x) (.type "str")
 |flt (x:UInt64):ug K H (.flt x) (.type "float")
 |lst {a:Addr}{xs:List V} (e:H a=some (.lst xs)):ug K H (.ref a) (.type "list")
 |jq {a:Addr}{o:Obj}{xs:List V} (e:H a=some (.jq o (.lst xs))):ug K H (.ref a) (.type "list")
 |tup {a:Addr}{xs:List V} (e:H a=some (.tup xs)):ug K H (.ref a) (.type "tuple")
 |dK {a:Addr}{O:List (Key×V)} (e:H a=some (.dK O)):ug K H (.ref a) (.type "dict")
 |dT {a:Addr}{O:List (List Key×V)} (e:H a=some (.dT O)):ug K H (.ref a) (.type "dict")
 |ins {a C dx:Addr}{fs:List (Str×V)} (e:H a=some (.ins C dx fs)) (cl:Cls K C) (ha:PySem.W.findIn K (.ref C) "__class__" = some (some (.builtin "object.__class__")))
   (hn:PySem.W.specialIn K (.builtin "object.__class__") "__get__" = some (some (.builtin "getset_descriptor.__get__"))) (htk:PySem.W.takesIn K (.builtin "object.__class__")=some true)
   (hm:PySem.W.mroIn K C (.type "object")=some true):ug K H (.ref a) (.ref C)
def Y5{x:V}{u t:Value}(I:bC X Y σ H s)(rx:cQ x u)(ty:ug X.K H x t)(e:PySem.W.kitOne X.K t c=some b)(h:∀tk,Q (.bool b) { s with toks:=tk}) :
  wpAny (model X.prog X.w) A (call (.builtin "isinstance") [u,c]) Q E s:=by
 cases ty with
 |non=>cases(show u=Value.none from rx);exact tY PySem.W.kitx_none I.DY mO e (λz=>nomatch z) h
 |bl y=>cases(show u=Value.bool y from rx);exact tY PySem.W.kitx_bool I.DY mO e (λz=>nomatch z) h
 |int i=>obtain⟨t,q⟩:=(show ∃t,u=Value.int i t from rx);cases q;exact tY PySem.W.kitx_int I.DY mO e (λz=>nomatch z) h
 |str y=>obtain⟨t,q⟩:=(show ∃t,u=Value.str y t from rx);cases q;exact tY PySem.W.kitx_str I.DY mO e (λz=>nomatch z) h
 |flt y=>obtain⟨t,q⟩:=(show ∃t,u=Value.float y t from rx);cases q;exact tY PySem.W.kitx_float I.DY mO e (λz=>nomatch z) h
 | @lst a xs ea =>
  cases(show u=Value.ref a from rx);obtain⟨_,_,n,_,h1⟩:=(show fW X.prog X.w H s.heap a (.lst xs)from I.hok a _ ea);exact tY PySem.W.kitx_list I.DY ⟨_,h1,Z⟩ e (λz=>nomatch z) h
 | @jq a ob xs ea =>
  cases(show u=Value.ref a from rx);obtain⟨_,_,_,n,_,h1⟩:=(show fW X.prog X.w H s.heap a (.jq ob (.lst xs))from I.hok a _ ea);exact tY PySem.W.kitx_list I.DY ⟨_,h1,Z⟩ e (λz=>nomatch z) h
 | @tup a xs ea =>
  cases(show u=Value.ref a from rx);obtain⟨_,_,_,p⟩:=(show fW X.prog X.w H s.heap a (.tup xs)from I.hok a _ ea);obtain⟨o,h1,h2,_⟩:=p;exact tY PySem.W.kitx_tuple I.DY ⟨o,h1,h2⟩ e (λz=>nomatch z) h
 | @dK a O ea =>
  cases(show u=Value.ref a from rx);obtain⟨_,_,vs,_,p⟩:=(show fW X.prog X.w H s.heap a (.dK O)from I.hok a _ ea);obtain⟨o,es,ep,h1,h2,_⟩:=p;exact tY PySem.W.kitx_dict I.DY ⟨o,h1,h2.1⟩ e (λz=>nomatch z) h
 | @dT a O ea =>
  cases(show u=Value.ref a from rx);obtain⟨_,_,xs,_,o,es,ep,h1,h2,_⟩:=(show fW X.prog X.w H s.heap a (.dT O)from I.hok a _ ea);exact tY PySem.W.kitx_dict I.DY ⟨o,h1,h2.1⟩ e (λz=>nomatch z) h
 | @ins a C dx fs ea cl ha hn htk hm =>
  cases(show u=Value.ref a from rx);obtain⟨mA,Z96,_⟩:=Hl I.hok ea;obtain⟨od,Z97,_⟩:=Z96.look;exact tY (PySem.W.kitx_own (cl.get _) cl.hd ha hn htk hm) I.DY Z97 e (λz=>nomatch z) h
end
structure rE(k:Nat)(A:Around):Prop where
 hd:A.handled=none
 dp:A.depth+3*k+5<recursionLimit
 un:A.units+16*k+200<cLine
def rE.mono{j:Nat}(r:rE k A)(h:j<=k):rE j A:=⟨r.hd,by have:=r.dp;omega,by have:=r.un;omega⟩
def rE.deeper{k:Nat}{A:Around}(r:rE (k+1) A)(env:Env):rE k (A.deeper env) :=
 ⟨r.hd,by have:=r.dp;show A.depth+1+3*k+5<_;omega,by have:=r.un;show A.units+3+16*k+200<_;omega⟩
def Vl{C:Addr}{us:List Value}:(A.under (.builtin "type.__call__" ⟨.ref C::us,kw⟩)).depth=A.depth+1:=by
 first|rfl|simp[Around.under,Code.weight,Code.isCreation,Code.isGuard,Code.isCaller,Code.frames,Code.isFrame,guardIds]
def Vm{C:Addr}{us:List Value}:(A.under (.builtin "type.__call__" ⟨.ref C::us,kw⟩)).units=A.units+1:=by
 first|rfl|simp[Around.under,Code.cUnits,Code.frames,Code.isFrame]
def rE.make(r:rE (k+1) A)(C:Addr)(us:List Value)(kw:List (Str×Value)):rE k (A.under (.builtin "type.__call__" ⟨.ref C::us,kw⟩)) :=
 ⟨r.hd,by have:=r.dp;rw[Vl];omega,by have:=r.un;rw[Vm];omega⟩
def rE.depth{k:Nat}{A:Around}(r:rE k A):A.depth<recursionLimit:=by have:=r.dp;omega
def a0i:TA:=λ_ H Q=>Q [] H
def Ck(ta:TE)(tr:TA):TA:=λσ H Q=>ta σ H λx H1=>tr σ H1 λxs H2=>Q (x::xs) H2
section
variable{X:Cx}{t:TA}
def ao:PA X [] a0i:=λ_ _ _ _ H Q I h=>Calls.spliced_nil ⟨[],H,I,.nil,h⟩
def J(ha:PE X e te)(hr:PA X es t)(hs:starEach (e::es) X.env=(false,eval e X.env)::starEach es X.env:=by rfl):PA X (e::es) (Ck te t):=by
 intro pos Y s σ H Q I h;rw[hs];show wpAny _ _ (spliced ((false,eval e X.env)::backTo pos (starEach es X.env))) _ _ s;exact Calls.spliced_cons (jx (ha Y s σ H _ I h) λu s1 ⟨x,H1,I1,r1,q1⟩=>jx (hr pos Y s1 σ H1 _ I1 q1) λus s2 ⟨xs,H2,I2,r2,q2⟩=>⟨x::xs,H2,I2,.cons r1 r2,q2⟩)
end
abbrev Sp:=List V->Hp->VK->XK->Prop
abbrev Q0:=List Env->Hp->Shared->XK->Value->Shared->Prop
structure Vn(P:Program)(w:World)(K:aH)(mg:Str->Option Value)(base:Heap)(A:Around)(outer:List Env)(s:Shared)(H:Hp):Prop where
 frames:A.frames=some outer
 mod:Mod K mg base
 bs:∀b o,base.get? b=some o->s.heap.get? b=some o/\H b=none
 η:base.objs.size<=s⁻¹
 Ce:s.heap.FunFrames base outer
 frf:∀b∈frs outer,H b=none
 hok:zQ P w H s.heap
 bare:AllBare s.gens
inductive CE(outer:List Env)(P:Program)(w:World)(H:Hp)(s:Shared)(Q:VK)(u:Value)(s':Shared):Prop
 |mk (v H':_) (_:s'.os=s.os) (_:AllBare s'.gens) (_:Un (frs outer) [] H H' s.heap s'.heap) (_:zQ P w H' s'.heap) (_:cQ v u) (_:Q v H')
def CR(CX:Q0)(outer:List Env)(P:Program)(w:World)(H:Hp)(s:Shared)(Q:VK)(E:XK)(r:Result)(s':Shared):Prop :=
 match r with
 |.ok (.ret u)=>CE outer P w H s Q u s'
 |.ok _=>False
 |.error e=>CX outer H s E e s'
structure aZ(P:Program)(w:World)(K:aH)(mg:Str->Option Value)(base:Heap)(CX:Q0)(k:Nat)(f:Addr)(fd:FuncData)(ps:List Str)(sp:Sp):Prop where
 len:∀vs H Q E,sp vs H Q E->vs.length=ps.length
 run:∀(A:Around) (outer:List Env) (s:Shared) (H:Hp) (args:Args) (us:List Value) (vs:List V) (Q:VK) (E:XK),rE k A->Vn P w K mg base A outer s H->BindsTo s fd args (ps.zip us)->cN vs us->sp vs H Q E->
  codeAny (model P w) A (.call (.ref f) args) (CR CX outer P w H s Q E) s
def aZ.mono{P:Program}{w:World}{K:aH}{mg:Str->Option Value}{base:Heap}{CX:Q0}{j k:Nat}{f:Addr}{fd:FuncData}{ps:List Str}{sp:Sp}(F:aZ P w K mg base CX j f fd ps sp)(h:j<=k) :
  aZ P w K mg base CX k f fd ps sp:=⟨F.len,λA outer s H args us vs Q E hr=>F.run A outer s H args us vs Q E (hr.mono h)⟩
def Vn.make{P:Program}{w:World}{outer:List Env}{s:Shared}{H:Hp}(e:Vn P w K mg base A outer s H)(C:Addr)(us:List Value)(kw:List (Str×Value)) :
  Vn P w K mg base (A.under (.builtin "type.__call__" ⟨.ref C::us,kw⟩)) outer s H:=⟨by first|exact e.frames|(simpa [Around.under,Code.envs,Code.isFrame,pushEnvs]using e.frames),e.mod,e.bs,e.η,e.Ce,e.frf,e.hok,e.bare⟩
section
variable{X:Cx}{Y:List (Addr×Obj)}{σ:St}{H:Hp}{s s':Shared}
def bC.env0(I:bC X Y σ H s):Vn X.prog X.w X.K X.mg X.base X.A X.stack s H :=
 ⟨I.ok.frames,I.ok.mod,I.bs,dF I.ok.η I.sz,I.stack,I.W8,I.hok,I.bare⟩
def bC.after{Q:VK}{u:Value}(I:bC X Y σ H s)(h:CE X.stack X.prog X.w H s Q u s'):EP X Y σ Q u s':=by
 obtain⟨v,H',os,bare,un,hok,r,q⟩:=h;obtain⟨hh,g,d,t,os'⟩:=s';obtain rfl:os'=s.os:=os;exact⟨v,H',I.call (h':=hh) (g':=g) (d':=d) (t':=t) (ch:=[]) un hok bare (λb z=>absurd z (by simp)),r,q⟩
end
def ă(sp:Sp)(Ea:List V)(E:XK)(t:TA):TE:=λσ H Q=>t σ H λvs H1=>sp (vs++Ea) H1 Q E
inductive a2W(C:Addr)(m:Str)(x:V)(H1:Hp)(Q:Prop):Prop
 |mk (a dx fs:_) (_:x=.ref a) (_:H1 a=some (.ins C dx fs)) (_:fs.lookup m=none) (_:Q)
def a5i(C:Addr)(m:Str)(sp:Sp)(Ea:List V)(E:XK)(ta:TE)(t:TA):TE:=λσ H Q=>ta σ H λx H1=>a2W C m x H1 (t σ H1 λvs H2=>sp (x::(vs++Ea)) H2 Q E)
def a2i(C:Addr)(sp:Sp)(Ea:List V)(E:XK)(t:TA):TE:=λσ H Q=>t σ H λvs H1=>∀x dx,H1 x=none->H1 dx=none->dx≠x->
 sp (.ref x::(vs++Ea)) (cM (cM H1 dx (.own x)) x (.ins C dx [])) (λv H2=>v=.non/\Q (.ref x) H2) E
def Binds(K:aH)(fd:FuncData)(ps:List Str)(ds:List Value):Prop :=
 ∀(s:Shared) (us:List Value),K.In s.heap->(us++ds).length=ps.length->BindsTo s fd ⟨us,[]⟩ (ps.zip (us++ds))
def Binds.all{fd:FuncData}{ps:List Str}(h:∀us:List Value,us.length=ps.length->bindArgs fd ⟨us,[]⟩=pure (ps.zip us)):Binds K fd ps []:=λs us _ hl=>by
 rw[mH]at hl ⊢;exact .of_eq (h us hl)
def wM(CX:Q0)(X:Cx)(E:XK):Prop:=∀(Y:List (Addr×Obj)) (σ:St) (H:Hp) (s:Shared) (e:Value) (s':Shared),bC X Y σ H s->CX X.stack H s E e s'->X.xe e s'
section
variable{X:Cx}{CX:Q0}{f C:Addr}{fd:FuncData}{ps:List Str}{sp:Sp}{Ea:List V}{ds:List Value}{E:XK}{x m:Str}{apos:Pos}{o:Expr}{t:TA}
def Vo{Y:List (Addr×Obj)}{σ:St}{H:Hp}{s:Shared}{Q:VK}{us:List Value}{vs:List V}(F:aZ X.prog X.w X.K X.mg X.base CX k f fd ps sp)(hr:rE k X.A)(hb:Binds X.K fd ps ds)(hd:cN Ea ds)(hx:wM CX X E)
  (I:bC X Y σ H s) (r:cN vs us) (h:sp (vs++Ea) H Q E):wpAny (model X.prog X.w) X.A (call (.ref f) us) (EP X Y σ Q) X.xe s:=by
 have r2:cN (vs++Ea) (us++ds):=r.append hd;have hl:(us++ds).length=ps.length:=by rw[<-r2.length];exact F.len _ _ _ _ h
 refine wpAny_call (Eo (F.run X.A X.stack s H ⟨us,[]⟩ (us++ds) (vs++Ea) Q E hr I.env0 (hb s us I.DY hl) r2 h) λr s' hq=>?_);cases r with
 |error e=>exact hx Y σ H s e s' I hq
 |ok fl =>
  cases fl with
  |ret u=>exact I.after hq
  |next=>exact False.elim hq
  |brk=>exact False.elim hq
  |cont=>exact False.elim hq
def aY(F:aZ X.prog X.w X.K X.mg X.base CX k f fd ps sp)(hr:rE k X.A)(hg:Gl X x)(hm:X.mg x=some (.ref f))(hk:PySem.W.keepIn X.K (.ref f)=true)(hb:Binds X.K fd ps ds)(hd:cN Ea ds)(hx:wM CX X E)
  (ha:PA X (e::es) t) (hdb:(x==("__debug__" : Str))=false:=by decide) (he:starEach (e::es) X.env=(false,eval e X.env)::starEach es X.env:=by rfl) (hpl:(backTo pos (starEach es X.env)).any (·.1)=false:=by rfl) :
  PE X (.Call (.Name x p) (e::es) [] pos) (ă sp Ea E t):=by
 intro Y s σ H Q I h;exact yd (Cg I hg hm (Oe (h₀:=X.base) I.ok.mod.kin hk (jx (ha pos Y s σ H _ I h) λus s1 ⟨vs,H1,I1,r,q⟩=>⟨I1.DY,Vo F hr hb hd hx I1 r q⟩) he hpl) hdb)
def wN(he:PE X o ta)(c:Cls X.K C)(hm:Meth X.K C m f)(F:aZ X.prog X.w X.K X.mg X.base CX k f fd ps sp)(hr:rE k X.A)(hb:Binds X.K fd ps ds)(hd:cN Ea ds)(hx:wM CX X E)(ha:PA X (e::es) t)
  (hst:starEach (e::es) X.env=(false,eval e X.env)::starEach es X.env:=by rfl) (hpl:(backTo pos (starEach es X.env)).any (·.1)=false:=by rfl)
  (ht:eval (.Call (.Attribute o m apos) (e::es) [] pos) X.env=(do
   let ov <-eval o X.env
   standAt apos.atName
   let(f,first) <-holding [ov] (getMethod ov m pl)
   callWith pos f first (backTo pos (starEach (e::es) X.env)) (backToKw pos (keywordEach [] X.env))):=by rfl) :
  PE X (.Call (.Attribute o m apos) (e::es) [] pos) (a5i C m sp Ea E ta t):=by
 intro Y s σ H Q I h;refine PySem.W.methodCall_KW (pl:=pl) (jx (he Y s σ H _ I h) λu s1 ⟨x,H1,I1,rx,a,dx,fs,ex,ea,l,q⟩=>?_) ht;subst ex;obtain rfl:u=Value.ref a:=rx;exact Vj I1 ea c hm l (Oe (first:=[.ref a]) (h₀:=X.base) I.ok.mod.kin hm.kp (jx (ha pos Y s1 σ H1 _ I1 q) λus s2 ⟨vs,H2,I2,r,q2⟩=>⟨I2.DY,Vo (us:=.ref a::us) (vs:=.ref a::vs) F hr hb hd hx I2 (.cons Z r) q2⟩) hst hpl)
structure Mk(K:aH)(C f:Addr):Prop where
 makes:PySem.W.makesIn K C=true
 init:PySem.W.findIn K (.ref C) "__init__" = some (some (.ref f))
 fn:PySem.W.isFn K (.ref f)=true
 kp:PySem.W.keepIn K (.ref C)=true
def Ą{Y:List (Addr×Obj)}{σ:St}{H:Hp}{s:Shared}{Q:VK}{us:List Value}{vs:List V}(Z98:Mk X.K C f)(F:aZ X.prog X.w X.K X.mg X.base CX k f fd ps sp)(hr:rE (k+1) X.A)(hb:Binds X.K fd ps ds)(hd:cN Ea ds)
  (hx:wM CX X E) (I:bC X Y σ H s) (r:cN vs us)
  (h:∀x dx,H x=none->H dx=none->dx≠x->sp (.ref x::(vs++Ea)) (cM (cM H dx (.own x)) x (.ins C dx [])) (λv H2=>v=.non/\Q (.ref x) H2) E) :
  wpAny (model X.prog X.w) X.A (call (.ref C) us) (EP X Y σ Q) X.xe s:=by
 have hq:=h (s⁻¹+1) s⁻¹ (I.hok.fresh (yj _)) (I.hok.fresh (aN _)) (bZ (Aw _));have I2:=bC.made (C:=C) I;have r2:cN (V.ref (s⁻¹+1)::(vs++Ea)) (Value.ref (s⁻¹+1)::(us++ds)):=.cons Z (r.append hd);have hl:(Value.ref (s⁻¹+1)::us++ds).length=ps.length:=by
  have e:=r2.length;rw[F.len _ _ _ _ hq]at e;exact e.symm
 refine wpAny_call (Ă (f:=f) I.DY Z98.makes Z98.init (Jd.mp Z98.fn) (Eo (F.run _ X.stack _ _ ⟨Value.ref (s⁻¹+1)::us,[]⟩ (Value.ref (s⁻¹+1)::(us++ds)) _ _ E (hr.make C us [])
  (I2.env0.make C us []) (hb _ (Value.ref (s⁻¹+1)::us) I2.DY hl) r2 hq) λr s' hq'=>?_))
 cases r with
 |error e=>exact hx Y σ _ _ e s' I2 hq'
 |ok fl =>
  cases fl with
  |ret u =>
   obtain⟨v,H',I3,rv,ev,q3⟩:=I2.after hq';subst ev;exact⟨rv,⟨V.ref (s⁻¹+1),H',I3,Z,q3⟩⟩
  |next=>exact False.elim hq'
  |brk=>exact False.elim hq'
  |cont=>exact False.elim hq'
def Ho(Z98:Mk X.K C f)(F:aZ X.prog X.w X.K X.mg X.base CX k f fd ps sp)(hr:rE (k+1) X.A)(hg:Gl X x)(hm:X.mg x=some (.ref C))(hb:Binds X.K fd ps ds)(hd:cN Ea ds)(hx:wM CX X E)
  (ha:PA X (e::es) t) (hdb:(x==("__debug__" : Str))=false:=by decide) (he:starEach (e::es) X.env=(false,eval e X.env)::starEach es X.env:=by rfl) (hpl:(backTo pos (starEach es X.env)).any (·.1)=false:=by rfl) :
  PE X (.Call (.Name x p) (e::es) [] pos) (a2i C sp Ea E t):=by
 intro Y s σ H Q I h;exact yd (Cg I hg hm (Oe (h₀:=X.base) I.ok.mod.kin Z98.kp (jx (ha pos Y s σ H _ I h) λus s1 ⟨vs,H1,I1,r,q⟩=>⟨I1.DY,Ą Z98 F hr hb hd hx I1 r q⟩) he hpl) hdb)
end
structure bB(N P:List Str)(sc:Scope):Prop where
 kind:sc.kind=.function:=by rfl
 co:sc.isCoroutine=false:=by rfl
 gen:sc.isGenerator=false:=by rfl
 nd:N.Nodup:=by decide
 pre:N.take P.length=P:=by rfl
 par:∀x∈P,sc.names.lookup x=some .local\/sc.names.lookup x=some .cell:=by decide
 a2X:∀y∈sc.names,y.2≠.free:=by decide
theorem Mg{kindOf:Str->Option NameKind}{x:Str}:∀{binds:List (Str×Value)}{m:Str->Option Value},(∀v,(x,v)∉binds)->bindL kindOf binds m x=m x
 | [],_,_=>rfl
 |(n,v)::r,m,h=>by
  unfold bindL
  rw[Mg λw hw=>h w (bh _ hw)]
  split
  ·have:x≠n:=by rintro rfl;exact h v aV
   simp[this]
  ·rfl
theorem Mh{kindOf:Str->Option NameKind}{x:Str}:∀{binds:List (Str×Value)}{m:Str->Option Value},(∀v,(x,v)∉binds)->bindC kindOf binds m x=m x
 | [],_,_=>rfl
 |(n,v)::r,m,h=>by
  unfold bindC
  rw[Mh λw hw=>h w (bh _ hw)]
  split
  ·rfl
  ·have:x≠n:=by rintro rfl;exact h v aV
   simp[this]
theorem Mi{kindOf:Str->Option NameKind}{x:Str}{v:Value}:∀{P:List Str}{vs:List Value}{i:Nat}{m:Str->Option Value},P.Nodup->P[i]?=some x->vs[i]?=some v->kindOf x=some .local->
  bindL kindOf (P.zip vs) m x=some v
 | [],_,_,_,_,h,_,_=>by simp at h
 |_::_,[],_,_,_,_,h,_=>by simp at h
 |p::P,w::vs,0,m,nd,h1,h2,hk=>by
  simp at h1 h2;subst h1;subst h2
  show bindL kindOf ((p,w)::P.zip vs) m p=_
  unfold bindL
  rw[Mg λv hv=>(iW.mp nd).1 (Uy hv).1,aB hk]
  simp
 |p::P,w::vs,i+1,m,nd,h1,h2,hk=>by
  show bindL kindOf ((p,w)::P.zip vs) m x=_
  unfold bindL
  exact Mi (i:=i) (iW.mp nd).2 (by simpa using h1) (by simpa using h2) hk
theorem Mj{kindOf:Str->Option NameKind}{x:Str}{v:Value}:∀{P:List Str}{vs:List Value}{i:Nat}{m:Str->Option Value},P.Nodup->P[i]?=some x->vs[i]?=some v->kindOf x≠some .local->
  bindC kindOf (P.zip vs) m x=some v
 | [],_,_,_,_,h,_,_=>by simp at h
 |_::_,[],_,_,_,_,h,_=>by simp at h
 |p::P,w::vs,0,m,nd,h1,h2,hk=>by
  simp at h1 h2;subst h1;subst h2
  show bindC kindOf ((p,w)::P.zip vs) m p=_
  unfold bindC
  rw[Mh λv hv=>(iW.mp nd).1 (Uy hv).1,aq hk]
  simp
 |p::P,w::vs,i+1,m,nd,h1,h2,hk=>by
  show bindC kindOf ((p,w)::P.zip vs) m x=_
  unfold bindC
  exact Mj (i:=i) (iW.mp nd).2 (by simpa using h1) (by simpa using h2) hk
def start(N:List Str)(vs:List V):St:=vs.map some++List.replicate (N.length-vs.length) none
def Vp(CX:Q0)(P:Program)(w:World)(K:aH)(mg:Str->Option Value)(base:Heap)(N:List Str)(qual:Str)(scope:Scope)(f:Addr)(cd:Value)(A:Around)(outer:List Env)(s:Shared)(H:Hp)(E:XK):Cx where
 prog:=P
 w:=w
 K:=K
 mg:=mg
 base:=base
 A:=A.deeper (envOfC qual scope s⁻¹ f cd)
 N:=N
 s₀:=s
 H₀:=H
 env:=envOfC qual scope s⁻¹ f cd
 outer:=outer
 stack:=envOfC qual scope s⁻¹ f cd::outer
 ex:=[]
 calm:=true
 fn:=λ_=>true
 pn:=[]
 xe:=λe s'=>wpAny (model P w) (A.deeper (envOfC qual scope s⁻¹ f cd)) (leaving (envOfC qual scope s⁻¹ f cd) e) (λ_ s''=>CX outer H s E e s'') (λe' s''=>CX outer H s E e' s'') s'
def Rc{sc:Scope}{x:Str}(h:sc.names.lookup x=some .cell):∃c,(cellsFrom n sc.names []).lookup x=some c:=by
 have q:=PySem.W.cellsFrom_some sc.names n [] (.inl h);exact Option.isSome_iff_exists.mp q
def Y6{CX:Q0}{P:Program}{w:World}{ps:List Str}{qual:Str}{scope:Scope}{f:Addr}{cd:Value}{outer:List Env}{s s1:Shared}{H:Hp}{E:XK}{us:List Value}{vs:List V}
  (S:bB N ps scope) (hd:A.handled=none) (e0:Vn P w K mg base A outer s H) (hl:vs.length=ps.length) (r:cN vs us)
  (x:InCallC s s⁻¹ (bindL (envOfC qual scope s⁻¹ f cd).kindOf (ps.zip us) λ_=>none) (cellsFrom (s⁻¹+1) scope.names []) (bindC (envOfC qual scope s⁻¹ f cd).kindOf (ps.zip us) λ_=>none) s1) :
  bC (Vp CX P w K mg base N qual scope f cd A outer s H E) [] (start N vs) H s1:=by
 have hpl:ps.length<=N.length:=by have:=congrArg List.length S.pre;rw[fZ]at this;omega
 obtain⟨h1,tk,rfl,hk⟩:=x.done;have noA:∀b:Addr,b∉(Vp CX P w K mg base N qual scope f cd A outer s H E).ex:=λb z=>absurd (show b∈([]:List Addr)from z) (by simp);refine⟨⟨e0.mod,S.kind,Z,Z,aN _,λy z c h1 h2=>?_,λy hy=>?_,λy c _ h=>?_,λ_=>hd,Around.frames_deeper e0.frames,.inr ⟨Z,Z⟩,λb z=>absurd z (noA b),e0.bs,e0.η,λb _ _=>noA b,λb z=>absurd z (noA b),e0.Ce,e0.frf⟩,
  rfl,e0.bare,Un.kept hk,⟨_,x.toInCall.ns,λi y v h1 h2 h3=>?_⟩,λy c h=>⟨_,x.cell y c h⟩,e0.hok.fresh (aN _),λy c h=>?_,λp hp=>absurd (show p∈([]:List (Addr×Obj))from hp) (by simp),e0.hok.kept hk,?_⟩
 ·exact name_of_addr x.apart (Eg h1) (Eg h2)
 ·have hy:scope.names.lookup y=some .cell\/scope.names.lookup y=some .free:=hy;rcases hy with hy|hy
  ·exact Rc hy
  ·exact absurd Z (S.a2X _ (Eg hy))
 ·exact d7 (x.above y c (Eg h))
 ·have hi:i<vs.length:=by
   unfold start at h2;by_cases hi:i<vs.length
   ·exact hi
   ·rw[Ah (by simpa using hi)]at h2;rw[List.getElem?_replicate]at h2;split at h2<;>cases h2
  have ha:vs[i]?=some v:=by
   unfold start at h2;rw[Ai (by simpa using hi),gk]at h2;cases e:vs[i]? with
   |none=>rw[e]at h2;cases h2
   |some a=>rw[e]at h2;cases h2;rfl
  obtain⟨u,hu,rv⟩:=r.get ha;have hp:ps[i]?=some y:=by
   rw[<-S.pre,List.getElem?_take_of_lt ()];exact h1
  have ndP:ps.Nodup:=by rw[<-S.pre];exact S.nd.sublist (Oh _ _)
  refine⟨u,rv,?_⟩;rcases S.par y (jf hp)with k|k
  ·exact .inl ⟨k,Mi ndP hp hu k⟩
  ·obtain⟨c,e⟩:=Rc (n:=s⁻¹+1) k;refine .inr ⟨.inl k,c,e,?_⟩;have q:=x.cell y c e;rw[Mj ndP hp hu (by show scope.names.lookup y≠_;rw[k];decide)]at q;exact q
 ·exact e0.hok.fresh (d7 (x.above y c (Eg h)))
 ·unfold start;show _=N.length;rw[cC,aM,List.length_replicate];omega
def a2j{CX:Q0}{P:Program}{w:World}{f:Addr}{name qual:Str}{params:Arguments}{scope:Scope}{dV kV doc pm dD ct oc:Value}{an od:Option Addr}
  {osl:Array (Option Value)}{ps:List Str}{sp:Sp} (lk:K.lookup f=some ⟨oc,od,.func (PySem.W.fnOf name qual params body scope dV kV doc pm an dD ct),osl⟩) (hcd:PySem.W.codeIn K dD qual=true) (S:bB N ps scope)
  (len:∀vs H Q E,sp vs H Q E->vs.length=ps.length)
  (hbody:∀(A:Around) (outer:List Env) (s:Shared) (H:Hp) (vs:List V) (Q:VK) (E:XK),rE k (A.deeper (envOfC qual scope s⁻¹ f dD))->sp vs H Q E->
   ∃t,Ra (Vp CX P w K mg base N qual scope f dD A outer s H E) body t/\t { nx:=λ_ H'=>Q .non H',rt:=Q} (start N vs) H) :
  aZ P w K mg base CX (k+1) f (PySem.W.fnOf name qual params body scope dV kV doc pm an dD ct) ps sp:=by
 refine⟨len,λA outer s H args us vs Q E hr e0 hb r hsp=>?_⟩;have hl:=len _ _ _ _ hsp;have KX:K.In s.heap:=e0.mod.kin.keeps λb o e=>(e0.bs b o e).1;have lim:s.heap.NoLimit:=e0.mod.nolimit.keeps λb o e=>(e0.bs b o e).1;have hkind:∀y∈ps.zip us,scope.names.lookup y.1=some .local\/(scope.names.lookup y.1=some .cell/\((cellsFrom (s⁻¹+1) scope.names []).lookup y.1).isSome=true):=λ⟨n,v⟩ hy=>by
  rcases S.par n (Uy hy).1 with q|q
  ·exact .inl q
  ·exact .inr ⟨q,PySem.W.cellsFrom_some _ _ _ (.inl q)⟩
 refine codeAny_call_function hr.depth (KX _ _ lk) Z S.co S.gen Z (PySem.W.codeRec_of KX hcd) (hb _ _ _ _ (wpAny_newFunctionEnv_cells S.kind hkind λenv he s1 x=>?_));subst he;refine⟨lim.keeps x.toInCall.keep,codeAny_func ?_⟩;obtain⟨t,ht,hq⟩:=hbody A outer s H vs Q E (hr.deeper _) hsp;have I:bC (Vp CX P w K mg base N qual scope f dD A outer s H E) [] (start N vs) H s1:=Y6 S hr.hd e0 hl r x;refine iH (ht [] s1 (start N vs) H _ I hq) (λfl s' hs=>?_) λe s' hs=>hs;have fin:∀{σ':St}{H':Hp}{v:V}{u:Value},bC (Vp CX P w K mg base N qual scope f dD A outer s H E) [] σ' H' s'->cQ v u->Q v H'->CE outer P w H s Q u s' :=
  λ{σ' H' v u} Z97 rv q=>⟨v,H',Z97.os,Z97.bare,Z97.base,Z97.hok,rv,q⟩
 cases fl with
 |ret u =>
  obtain⟨v,σ',H',Z97,rv,q⟩:=hs;exact fin Z97 rv q
 |next =>
  obtain⟨σ',H',Z97,q⟩:=hs;exact fin (v:=V.non) (u:=Value.none) Z97 Z q
 |brk =>
  obtain⟨_,_,_,q⟩:=hs;exact False.elim q
 |cont =>
  obtain⟨_,_,_,q⟩:=hs;exact False.elim q
section
variable{X:Cx}{x:Str}{t:TA}{id T:String}{r:List V->Hp->VK->Prop}
def tCB(r:List V->Hp->VK->Prop)(t:TA):TE:=λσ H Q=>t σ H λvs H1=>r vs H1 Q
def bG(hc:jG X (.builtin id) r)(hg:Gl X x)(hm:X.mg x=none)(hv:bootBuiltins x=some (.builtin id))(ha:PA X (e::es) t)(hn:x≠ "__name__" := by decide)(hdb:(x==("__debug__" : Str))=false:=by decide)
  (he:starEach (e::es) X.env=(false,eval e X.env)::starEach es X.env:=by rfl) (hpl:(backTo pos (starEach es X.env)).any (·.1)=false:=by rfl):PE X (.Call (.Name x p) (e::es) [] pos) (tCB r t):=by
 intro Y s σ H Q I h;exact yd (wG I hg hm hv (PyProof.Rows.callWith_builtin1 (jx (ha pos Y s σ H _ I h) λus s1 ⟨vs,H1,I1,r1,q1⟩=>hc Y s1 σ H1 vs us Q I1 r1 q1) he hpl) hn hdb)
def iC(hc:jG X (.type T) r)(hg:Gl X x)(hm:X.mg x=none)(hv:bootBuiltins x=some (.type T))(ha:PA X (e::es) t)(hn:x≠ "__name__" := by decide)(hdb:(x==("__debug__" : Str))=false:=by decide)
  (he:starEach (e::es) X.env=(false,eval e X.env)::starEach es X.env:=by rfl) (hpl:(backTo pos (starEach es X.env)).any (·.1)=false:=by rfl):PE X (.Call (.Name x p) (e::es) [] pos) (tCB r t):=by
 intro Y s σ H Q I h;exact yd (wG I hg hm hv (Ag (jx (ha pos Y s σ H _ I h) λus s1 ⟨vs,H1,I1,r1,q1⟩=>hc Y s1 σ H1 vs us Q I1 r1 q1) he hpl) hn hdb)
end
end L2
namespace HT
open PyProof.Rows
section
variable{prog:Program}{w:World}{A:Around}{E:Value->Shared->Prop}{s:Shared}
def a0j{t b:Addr}{vs ws:List Value}{Q:Value->Shared->Prop}(ht:IsTup s.heap t vs.toArray)(hb:IsTup s.heap b ws.toArray)(hv:vs≠[])
  (h1:ws=[]->Q (.ref t) s) (h2:ws≠[]->Q (.ref s⁻¹) { s with heap:=s.heap.push { cls:=.type "tuple",data:=.seq (vs++ws).toArray}})
  (hsz:vs.length+ws.length<=sizeLine):wpAny (model prog w) A (binaryOp .Add (.ref t) (.ref b)) Q E s:=by
 obtain⟨⟨cls,dd,data,sl⟩,ho,hc,n,hd⟩:=id ht;obtain⟨⟨cls2,dd2,data2,sl2⟩,ho2,hc2,n2,hd2⟩:=id hb;simp only at hc hd hc2 hd2;subst hc hd hc2 hd2;have e:vs.toArray++ws.toArray=(vs++ws).toArray:=by simp
 by_cases hw:ws=[]
 ·exact O9 ⟨_,ho,Z⟩ ⟨_,ho2,Z⟩ Om O6 NZ NK (Ny _ _)
   (tuple_addW1 t b vs.toArray ws.toArray n n2 dd dd2 sl sl2 (by simpa using hv) (by simp[hw])) ⟨ho,ho2,h1 hw⟩
 ·refine O9 ⟨_,ho,Z⟩ ⟨_,ho2,Z⟩ Om O6 NZ NK (Ny _ _)
   (tuple_addW2 t b vs.toArray ws.toArray n n2 dd dd2 sl sl2 (by simpa using hv) (by simpa using hw) (by rw[gR,gR];exact hsz)) ⟨ho,ho2,?_⟩
  rw[e];exact h2 hw
def lK(n d:Nat):Option Int->Nat
 |none=>d
 |some v=>if v<0 then(v+(n:Int)).toNat else min v.toNat n
def Rf(n d:Nat):lK n d none=d:=rfl
def Pr(n d k:Nat):lK n d (some (k:Int))=min k n:=by
 show(if(k:Int)<0 then((k:Int)+(n:Int)).toNat else min (k:Int).toNat n)=min k n;rw[aq (),j5]
def a2Y(n d:Nat)(hd:d<=n)(o:Option Int):lK n d o<=n:=by
 cases o with
 |none=>exact hd
 |some v =>
  show(if v<0 then(v+(n:Int)).toNat else min v.toNat n)<=n;by_cases hv:v<0
  ·rw[aB hv];omega
  ·rw[aq hv];exact Ut _ _
def Xh(v:Int)(n d:Nat):(if v<0 then max (v+(n:Int)) 0 else min v (n:Int))=((lK n d (some v):Nat):Int):=by
 show(if v<0 then max (v+(n:Int)) 0 else min v (n:Int))=(((if v<0 then(v+(n:Int)).toNat else min v.toNat n):Nat):Int);by_cases hv:v<0
 ·simp only[if_pos hv];omega
 ·simp only[if_neg hv];omega
def Vq(lo hi:Option Int)(n:Nat):Builtin.Slice.sliceAdjust lo hi 1 (n:Int)=(((lK n 0 lo:Nat):Int),((lK n n hi:Nat):Int)):=by
 have h1:¬((1:Int)<0):=()
 unfold Builtin.Slice.sliceAdjust;simp only[h1,if_false];refine Prod.ext ?_ ?_
 ·cases lo with
  |none=>rfl
  |some v=>exact Xh v n 0
 ·cases hi with
  |none=>rfl
  |some v=>exact Xh v n n
def Vr(i j:Nat):Builtin.Slice.slicePlaces (i:Int) (j:Int) 1=j-i:=by
 unfold Builtin.Slice.slicePlaces;have h1:(1:Int)>0:=()
 simp only[h1,if_true,Int.ediv_one];split<;>omega
def Jm{v:Value}{o:Option Int}{Q:Option Int->Shared->Prop}(p:IsPart v o)(h:Q o s):wpAny (model prog w) A (Builtin.Slice.slicePartIndex v) Q E s:=by
 cases p with
 |none=>exact slicePart_none h
 |int i t=>exact slicePart_int h
def vH{sl:Addr}{vl vu:Value}{lo hi:Option Int}{n:Nat}{Q:Int×Int×Nat->Shared->Prop}(hs:s.heap.IsSliceOf sl vl vu .none)(pl:IsPart vl lo)(pu:IsPart vu hi)
  (h:Q (((lK n 0 lo:Nat):Int),1,lK n n hi-lK n 0 lo) s):wpAny (model prog w) A (Builtin.Slice.sliceApplied (.ref sl) (pure (n:Int))) Q E s:=by
 obtain⟨os,hos,hcs,hds⟩:=id hs;unfold Builtin.Slice.sliceApplied Builtin.Slice.sliceFields;refine M (M (gw hos hds (x:=vl) Z (M (gw hos hds (x:=vu) Z (M (gw hos hds (x:=.none) Z (aj (M (slicePart_none ?_)))))))));show wpAny _ _ (if((1:Int)==0)=true then _ else _) _ _ s;rw[aq ()];refine M (Jm pl (M (Jm pu (M (aj ?_)))));show wpAny _ _ (match Builtin.Slice.sliceAdjust lo hi 1 (n:Int)with|(lo,hi)=>pure (lo,(1:Int),Builtin.Slice.slicePlaces lo hi 1)) _ _ s;rw[Vq lo hi n];show wpAny _ _ (pure (((lK n 0 lo:Nat):Int),(1:Int),Builtin.Slice.slicePlaces ((lK n 0 lo:Nat):Int) ((lK n n hi:Nat):Int) 1)) _ _ s;rw[Vr];exact aj h
def ą(xs:Array Value)(i k:Nat):((List.range k).filterMap λ(m:Nat)=>xs[((i:Int)+(m:Int)*1).toNat]?).toArray=((xs.toList.drop i).take k).toArray:=by
 have e:(λ(m:Nat)=>xs[((i:Int)+(m:Int)*1).toNat]?)=λm=>xs[i+m]?:=by
  funext m;have:((i:Int)+(m:Int)*1).toNat=i+m:=()
  rw[this]
 rw[e];have:=pick_run xs i k;rw[Ul]at this;have e2:((λx=>xs[x]?)∘λx=>i+x)=λm=>xs[i+m]?:=rfl;rw[e2]at this;rw[this]
def Cm{t sl:Addr}{items:Array Value}{vl vu:Value}{lo hi:Option Int}{Q:Value->Shared->Prop}(ht:IsTup s.heap t items)(hs:s.heap.IsSliceOf sl vl vu .none)(pl:IsPart vl lo)(pu:IsPart vu hi)
  (hw:¬(lK items.size 0 lo=0/\lK items.size items.size hi=items.size))
  (h:Q (.ref s⁻¹) { s with heap:=s.heap.push { cls:=.type "tuple",data:=.seq ((items.toList.drop (lK items.size 0 lo)).take (lK items.size items.size hi-lK items.size 0 lo)).toArray}})
  (hsz:items.size<=sizeLine):wpAny (model prog w) A (getItem (.ref t) (.ref sl)) Q E s:=by
 have Xi:sizeOk (.seq ((items.toList.drop (lK items.size 0 lo)).take (lK items.size items.size hi-lK items.size 0 lo)).toArray):=by
  show((items.toList.drop (lK items.size 0 lo)).take (lK items.size items.size hi-lK items.size 0 lo)).toArray.size<=sizeLine;rw[gR,fZ,lG,uY];omega
 have hj:lK items.size items.size hi<=items.size:=a2Y _ _ (aN _) hi;obtain⟨os,hos,hcs,hds⟩:=id hs;have hTs:s.TypeIs (.ref sl) "slice" :=⟨os,hos,hcs⟩;unfold getItem;try with_reducible refine fB ?_
 first|refine M (aj ?_)|skip
 refine M (wpAny_sequenceKey ht.typeIs () ?_);refine M (oO (name:=Str.ofString "__getitem__") ht.typeIs Nq
  (gq Nq ht.typeIs entry_tuple_getitem ?_ (args_tuple_getitem _ _)))
 show wpAny _ _ (Builtin.Tuple.tupleItemsOf (.ref t) >>= _) _ _ s;refine M (tupleItemsOf_ ht (M (uZ hTs ?_)));rw[aB ()];refine M (vH hs pl pu ?_);have hno:¬((((lK items.size 0 lo:Nat):Int)==0&&(1:Int)==1&&(lK items.size items.size hi-lK items.size 0 lo)==items.size)=true):=by
  intro q;rw[qK,qK]at q;have q1:((lK items.size 0 lo:Nat):Int)=0:=eq_of_beq q.1.1;have q2:lK items.size items.size hi-lK items.size 0 lo=items.size:=eq_of_beq q.2;exact hw ⟨(),()⟩
 show wpAny _ _ (if(((lK items.size 0 lo:Nat):Int)==0&&(1:Int)==1&&(lK items.size items.size hi-lK items.size 0 lo)==items.size)=true then _ else _) _ _ s;rw[aq hno,ą];first
  |exact M (m:=Builtin.Tuple.tupleExact _) (j6 (aj ⟨_,Z,aj h⟩) Xi)
  |exact M (m:=Builtin.Tuple.tupleExact _) (j6 (M (aj (aj ⟨_,Z,aj h⟩))) Xi)
  |exact M (M (m:=Builtin.Tuple.tupleExact _) (j6 (aj (aj ⟨_,Z,aj h⟩)) Xi))
  |exact M (M (m:=Builtin.Tuple.tupleExact _) (j6 (aj ⟨_,Z,aj h⟩) Xi))
end
end HT
namespace L2
open PyProof.Rows
variable{s:Shared}{X:Cx}{us bV:List Value}{n:Nat}{α:Type}{Y:List (Addr×Obj)}{σ:St}
abbrev TO:=St->Hp->(Option Int->Hp->Prop)->Prop
def PO(X:Cx)(e:Option Expr)(t:TO):Prop :=
 ∀(Y:List (Addr×Obj)) (s:Shared) (σ:St) (H:Hp) (Q:Option Int->Hp->Prop),bC X Y σ H s->t σ H Q->
  wpAny (model X.prog X.w) X.A (evalPart e X.env) (λu s'=>∃o H',bC X Y σ H' s'/\IsPart u o/\Q o H') X.xe s
def a0k:TO:=λ_ H Q=>Q none H
def a5j(t:TE):TO:=λσ H Q=>t σ H λx H1=>EA (λi=>x=.int i) λi=>Q (some i) H1
section
variable{e:Expr}{te:TE}{lo hi:Option Expr}{tl th:TO}{pos p2:Pos}
def lV:PO X none a0k:=by
 intro Y s σ H Q I h;rw[evalPart_none];exact aj ⟨none,H,I,.none,h⟩
def lW(h:PE X e te):PO X (some e) (a5j te):=by
 intro Y s σ H Q I hw;rw[evalPart_some];refine jx (h Y s σ H _ I hw) λu s1 ⟨x,H1,I1,r1,q1⟩=>?_;obtain⟨i,rfl,q⟩:=q1;obtain⟨t,rfl⟩:=r1;exact⟨some i,H1,I1,.int i t,q⟩
def SlR(X:Cx)(r:V->Option Int->Option Int->Hp->VK->Prop):Prop :=
 ∀(Y:List (Addr×Obj)) (s:Shared) (σ:St) (H:Hp) (x:V) (v vl vu:Value) (lo hi:Option Int) (sl:Addr) (Q:VK),bC X Y σ H s->cQ x v->s.heap.IsSliceOf sl vl vu .none->IsPart vl lo->IsPart vu hi->r x lo hi H Q->
  ∃T id,typeLookup (.type T) "__getitem__" = pure (some (.builtin id))/\s.TypeIs v T/\wpAny (model X.prog X.w) X.A (getItem v (.ref sl)) (EP X Y σ Q) X.xe s
def tSl(r:V->Option Int->Option Int->Hp->VK->Prop)(te:TE)(tl th:TO):TE:=λσ H Q=>te σ H λx H1=>tl σ H1 λl H2=>th σ H2 λu H3=>r x l u H3 Q
def jD{r:V->Option Int->Option Int->Hp->VK->Prop}(hr:SlR X r)(he:PE X e te)(hl:PO X lo tl)(hu:PO X hi th):PE X (.Subscript e (.Slice lo hi none p2) pos) (tSl r te tl th):=by
 intro Y s σ H Q I h;refine Subscript_ (jx (he Y s σ H _ I h) λv s1 ⟨x,H1,I1,r1,q1⟩=>wpAny_Slice (jx (hl Y s1 σ H1 _ I1 q1) λvl s2 ⟨l,H2,I2,pl,q2⟩=>jx (hu Y s2 σ H2 _ I2 q2) λvu s3 ⟨u,H3,I3,pu,q3⟩=>?_));rw[evalPart_none];refine aj ?_;have I4:bC X Y σ H3 { s3 with heap:=s3.heap.push { cls:=.type "slice",data:=.fields #[vl,vu,.none]}}:=I3.kept (t':=s3.toks) λb ob q=>bx _ q;obtain⟨T,id,hT,ht,hg⟩:=hr Y { s3 with heap:=s3.heap.push { cls:=.type "slice",data:=.fields #[vl,vu,.none]}} σ H3 x v vl vu l u s3⁻¹ Q I4 r1 (Heap.IsSliceOf.new ..) pl pu q3;show wpAny (model X.prog X.w) X.A (subscriptTail e (.Slice lo hi none p2) v (.ref s3⁻¹)) (EP X Y σ Q) X.xe { s3 with heap:=s3.heap.push { cls:=.type "slice",data:=.fields #[vl,vu,.none]}};exact tail_any (ops:=[.ref s3⁻¹,v]) ht hT hg (by with_unfolding_all rfl)
def u9(xs:List V)(lo hi:Option Int):List V:=(xs.drop (HT.lK xs.length 0 lo)).take (HT.lK xs.length xs.length hi-HT.lK xs.length 0 lo)
def Ga(xs:List V)(lo hi:Option Int):(u9 xs lo hi).length<=xs.length:=by
 unfold u9;rw[fZ,lG];omega
inductive a65(K:aH)(x:V)(lo:Option Int)(hi:Option Int)(H:Hp)(Q:VK):Prop
 |mk (a xs:_) (_:x=.ref a) (_:cH K H a xs) (_:¬(HT.lK xs.length 0 lo=0/\HT.lK xs.length xs.length hi=xs.length)) (_:∀p,H p=none->Q (.ref p) (cM H p (.tup (u9 xs lo hi))))
def Ć:SlR X (a65 X.K):=by
 intro Y s σ H x v vl vu lo hi sl Q I rx hs pl pu h;obtain⟨a,xs,rfl,hx,hw,q⟩:=h;cases rx;obtain⟨bV,r,ht,hz⟩:=I.tuple hx;have hlen:bV.toArray.size=xs.length:=by rw[gR];exact r.length.symm
 refine⟨"tuple",_,PyProof.Rows.slot_tuple_getitem.lookup,ht.typeIs,?_⟩;refine HT.Cm ht hs pl pu (by rw[hlen];exact hw) ?_ (by rw[hlen];exact hz);rw[hlen];exact⟨.ref s⁻¹,_,I.laid (t':=s.toks) (o:=.tup (u9 xs lo hi)) (λb ob q=>bx _ q) (aN _) ⟨dF (Ga xs lo hi) hz,_,(r.drop (HT.lK xs.length 0 lo)).take (HT.lK xs.length xs.length hi-HT.lK xs.length 0 lo),IsTup.new _ _⟩,Z,q _ (I.hok.fresh (aN _))⟩
inductive a5k(K:aH)(x:V)(y:V)(H:Hp)(Q:VK):Prop
 |mk (a b xs ys:_) (_:x=.ref a) (_:y=.ref b) (_:cH K H a xs) (_:cH K H b ys) (_:xs≠[]) (_:xs.length+ys.length<=sizeLine) (_:(ys=[]->Q (.ref a) H)) (_:(ys≠[]->∀p,H p=none->Q (.ref p) (cM H p (.tup (xs++ys)))))
def cN.Cp{xs:List V}(r:cN xs us):us=[]↔xs=[]:=by
 cases r with
 |nil=>simp
 |cons _ _=>simp
def Xj:sS X (binaryOp .Add) (a5k X.K):=by
 intro Y s σ H x y v u Q I rx ry h;obtain⟨a,b,xs,ys,rfl,rfl,ha,hb,hx,hz,q1,q2⟩:=h;cases rx;cases ry;obtain⟨bV,r1,p1,_⟩:=I.tuple ha;obtain⟨its2,r2,p2,_⟩:=I.tuple hb;refine HT.a0j p1 p2 (λz=>hx (r1.Cp.mp z)) (λz=>⟨.ref a,H,I,Z,q1 (r2.Cp.mp z)⟩) (λz=>?_) (by rw[<-r1.length,<-r2.length];exact hz);refine⟨.ref s⁻¹,_,I.laid (t':=s.toks) (o:=.tup (xs++ys)) (λb ob q=>bx _ q) (aN _) ?_,Z,q2 (λw=>z (r2.Cp.mpr w)) _ (I.hok.fresh (aN _))⟩;exact⟨by rw[cC];exact hz,_,r1.append r2,IsTup.new _ _⟩
end
def ξ(n:Nat)(i:Int):Option Nat:=if 0<=i then(if i<n then some i.toNat else none)else if -(n:Int)<=i then some (i+n).toNat else none
def Tt{α:Type}(xs:List α)(i:Int):Option α:=(ξ xs.length i).bind λj=>xs[j]?
def Xk{i:Int}{j:Nat}(h:ξ n i=some j):seqIndex? i n=some j/\j<n/\ -(n:Int)<=i/\i<n:=by
 unfold ξ at h;by_cases h0:0<=i
 ·rw[aB h0]at h;by_cases h1:i<n
  ·rw[aB h1]at h;have e:i.toNat=j:=dO h;exact⟨by rw[seqIndex_of h0 h1,e],(),(),h1⟩
  ·rw[aq h1]at h;cases h
 ·rw[aq h0]at h;by_cases h1 : -(n:Int)<=i
  ·rw[aB h1]at h;have e:(i+n).toNat=j:=dO h;exact⟨by rw[seqIndex_neg () h1,e],(),h1,()⟩
  ·rw[aq h1]at h;cases h
def Pu{xs:List α}{i:Int}{v:α}(h:Tt xs i=some v):∃j,seqIndex? i xs.length=some j/\xs[j]?=some v/\j<xs.length/\ -(xs.length:Int)<=i/\i<xs.length:=by
 unfold Tt at h;cases e:ξ xs.length i with
 |none=>rw[e]at h;cases h
 |some j =>
  rw[e]at h;obtain⟨h1,h2,h3,h4⟩:=Xk e;exact⟨j,h1,h,h2,h3,h4⟩
def cA{xs:List α}{j:Nat}{v:α}(h:xs[j]?=some v):Tt xs (j:Int)=some v:=by
 have hj:j<xs.length:=(fY.mp h).1;have e:ξ xs.length (j:Int)=some j:=by
  unfold ξ;rw[aB (),aB ()];simp
 unfold Tt;rw[e];exact h
def a0l(b:Expr):Prop:=∀o i,subscripted b false o i=operate [o,i] (getItem o i)
def IxR(X:Cx)(r:R2):Prop :=
 ∀(value slice:Expr) (Y:List (Addr×Obj)) (s:Shared) (σ:St) (H:Hp) (x y:V) (v u:Value) (Q:VK),bC X Y σ H s->cQ x v->cQ y u->r x y H Q->
  subscripted slice false v u=operate [v,u] (getItem v u)->wpAny (model X.prog X.w) X.A (subscriptTail value slice v u) (EP X Y σ Q) X.xe s
def MtR(X:Cx)(id:String)(r:V->List V->Hp->VK->Prop):Prop :=
 ∀(Y:List (Addr×Obj)) (s:Shared) (σ:St) (H:Hp) (x:V) (xs:List V) (v:Value) (us:List Value) (Q:VK),bC X Y σ H s->cQ x v->cN xs us->r x xs H Q->
  wpAny (model X.prog X.w) X.A (call (.builtin id) (v::us)) (EP X Y σ Q) X.xe s
section
variable{a b:Expr}{ta tb:TE}{pos:Pos}
def aO{r:R2}(hr:IxR X r)(ha:PE X a ta)(hb:PE X b tb)(hs:a0l b:=by exact λ_ _=>rfl):PE X (.Subscript a b pos) (tOp r ta tb):=by
 intro Y s σ H Q I h;exact Subscript_ (a2R ha hb I h λv u s2 x y H2 I2 rx ry q=>hr a b Y s2 σ H2 x y v u Q I2 rx ry q (hs _ _))
inductive a5l(K:aH)(x:V)(y:V)(H:Hp)(Q:VK):Prop
 |mk (p xs i v:_) (_:x=.ref p) (_:y=.int i) (_:bI K H p xs) (_:Tt xs i=some v) (_:Q v H)
inductive a5m(K:aH)(x:V)(y:V)(H:Hp)(Q:VK):Prop
 |mk (p xs i v:_) (_:x=.ref p) (_:y=.int i) (_:cH K H p xs) (_:Tt xs i=some v) (_:Q v H)
def a0m:IxR X (a5l X.K):=by
 intro value slice Y s σ H x y v u Q I rx ry h hs;obtain⟨p,xs,i,z,rfl,rfl,hq,he,q⟩:=h;cases rx;obtain⟨t,rfl⟩:=ry;obtain⟨bV,r,pl,hz⟩:=I.list hq;obtain⟨j,h1,h2,h3,h4,h5⟩:=Pu he;obtain⟨w,ew,Y7⟩:=r.get h2;have hl:=r.length;have hn:=Jl;have fin:EP X Y σ Q w s:=⟨z,H,I,Y7,q⟩;by_cases h0:0<=i
 ·have hj:i.toNat=j:=by
   rw[seqIndex_of h0 h5]at h1;exact dO h1
  exact item_listR pl.isList h0 () (by rw[hj];simpa using ew) fin hs
 ·have hj:(i+(bV.toArray.size:Int)).toNat=j:=by
   rw[seqIndex_neg () h4]at h1;rw[gR,<-hl];exact dO h1
  exact subscriptTail_builtinR (x:=w) pl.isList.typeIs slot_list_getitem.lookup
   (wpAny_getItem_list_neg (Q:=λr s'=>r=w/\EP X Y σ Q r s') pl.isList () (by rw[gR]<;>omega) () (by rw[hj];simpa using ew) ⟨Z,fin⟩) hs
def a2Z:IxR X (a5m X.K):=by
 intro value slice Y s σ H x y v u Q I rx ry h hs;obtain⟨p,xs,i,z,rfl,rfl,hq,he,q⟩:=h;cases rx;obtain⟨t,rfl⟩:=ry;obtain⟨bV,r,pl,hz⟩:=I.tuple hq;obtain⟨j,h1,h2,h3,h4,h5⟩:=Pu he;obtain⟨w,ew,Y7⟩:=r.get h2;have hl:=r.length;have hn:=Jl;have fin:EP X Y σ Q w s:=⟨z,H,I,Y7,q⟩;exact subscriptTail_builtinR (x:=w) pl.typeIs slot_tuple_getitem.lookup
  (getItem_tuple (j:=j) (Q:=λr s'=>r=w/\EP X Y σ Q r s') pl () () (by rw[gR,<-hl];exact h1) (by simpa using ew) ⟨Z,fin⟩) hs
def Vs(bV:List Value)(n j:Nat)(u:Value):Obj.mapSeq (·.setIfInBounds j u) { cls:=.type "list",data:=.seq bV.toArray n}={ cls:=.type "list",data:=.seq (bV.set j u).toArray n}:=by
 simp[Obj.mapSeq]
def bC.lst{Y:List (Addr×Obj)}{σ:St}{H:Hp}{s:Shared}{p:Addr}{xs:List V}(I:bC X Y σ H s)(h:H p=some (.lst xs)) :
  ∃(bV:List Value) (n:Nat),cN xs bV/\s.heap.get? p=some { cls:=.type "list",data:=.seq bV.toArray n}/\xs.length<=sizeLine:=by
 obtain⟨z,bV,n,r,e⟩:=I.hok p _ h;exact⟨bV,n,r,e,z⟩
def bC.a3a{H:Hp}{p:Addr}{xs ys:List V}{its':List Value}{n':Nat}{f:Obj->Obj}(I:bC X Y σ H s)(h:H p=some (.lst xs))
  (ho:s.heap.get? p=some { cls:=.type "list",data:=.seq bV.toArray n}) (hf:f { cls:=.type "list",data:=.seq bV.toArray n}={ cls:=.type "list",data:=.seq its'.toArray n'}) (r:cN ys its') (hz:ys.length<=sizeLine) (t:Nat) :
  bC X Y σ (cM H p (.lst ys)) { s with heap:=s.heap.update p f,toks:=t}:=by
 have e:(s.heap.update p f).get? p=some { cls:=.type "list",data:=.seq its'.toArray n'}:=by
  rw[xX f ho (by rw[hf]<;>rfl),hf]
 refine I.write (x:=p) (e:=p) (by rw[h];trivial) (.inl Z) (λb u hb q=>(N5 _ _ (Ne.symm hb)).trans q) ⟨_,e⟩ ?_;exact⟨hz,its',n',r,e⟩
inductive a5n(o:V)(i:V)(v:V)(H:Hp)(Q:Hp->Prop):Prop
 |mk (p xs k j:_) (_:o=.ref p) (_:i=.int k) (_:H p=some (.lst xs)) (_:ξ xs.length k=some j) (_:Q (cM H p (.lst (xs.set j v))))
def set_list:a0b X a5n:=by
 intro Y s σ H o i v ov iv u Q I ro ri rv h;obtain⟨p,xs,k,j,rfl,rfl,hp,hj,q⟩:=h;cases ro;obtain⟨t,rfl⟩:=ri;obtain⟨bV,n,r,ho,hz⟩:=I.lst hp;obtain⟨h1,h2,h3,h4⟩:=Xk hj;have hl:=r.length;have hn:=Jl;have I':bC X Y σ (cM H p (.lst (xs.set j v))) { s with heap:=s.heap.update p (Obj.mapSeq (·.setIfInBounds j u))} :=
  I.a3a hp ho (Vs bV n j u) (r.set rv j) (by rw[OJ];exact hz) s.toks
 by_cases h0:0<=k
 ·have hk:k.toNat=j:=by
   rw[seqIndex_of h0 h4]at h1;exact dO h1
  exact PySem.W.ki_setAt ho h0 () (by rw[gR,<-hl];exact h4) (by rw[hk];exact⟨_,I',q⟩)
 ·have hk:(k+(bV.toArray.size:Int)).toNat=j:=by
   rw[seqIndex_neg () h3]at h1;rw[gR,<-hl];exact dO h1
  exact PySem.W.ki_setBack ho () (by rw[gR,<-hl];exact h3) () (by rw[hk];exact⟨_,I',q⟩)
def Px(lo hi:Option Int)(n:Nat):(sliceBounds lo hi none n).1=((HT.lK n 0 lo:Nat):Int)/\(sliceBounds lo hi none n).2.1=((HT.lK n n hi:Nat):Int)/\(sliceBounds lo hi none n).2.2=1:=by
 refine⟨?_,?_,Z⟩
 ·cases lo with
  |none=>simp[sliceBounds,HT.lK]
  |some i =>
   simp only[sliceBounds,HT.lK,Option.getD_none,show(1:Int)>0 by decide,if_true];by_cases h:i<0
   ·simp only[h,if_true]<;>omega
   ·simp only[h,if_false]<;>omega
 ·cases hi with
  |none=>simp[sliceBounds,HT.lK]
  |some i =>
   simp only[sliceBounds,HT.lK,Option.getD_none,show(1:Int)>0 by decide,if_true];by_cases h:i<0
   ·simp only[h,if_true]<;>omega
   ·simp only[h,if_false]<;>omega
def K8(bV:List Value)(lo hi:Option Int):slicePick bV.toArray lo hi none=((bV.drop (HT.lK bV.length 0 lo)).take (HT.lK bV.length bV.length hi-HT.lK bV.length 0 lo)).toArray:=by
 obtain⟨h1,h2,h3⟩:=Px lo hi bV.toArray.size;unfold slicePick;rw[h1,h2,h3];simp only[sliceRange_one,pick_run,List.size_toArray]<;>rfl
inductive a66(K:aH)(x:V)(lo:Option Int)(hi:Option Int)(H:Hp)(Q:VK):Prop
 |mk (a xs:_) (_:x=.ref a) (_:bI K H a xs) (_:∀p,H p=none->Q (.ref p) (cM H p (.lst (u9 xs lo hi))))
def a0n:SlR X (a66 X.K):=by
 intro Y s σ H x v vl vu lo hi sl Q I rx hs pl pu h;obtain⟨a,xs,rfl,hx,q⟩:=h;cases rx;obtain⟨bV,r,ht,hz⟩:=I.list hx;have hlen:=r.length;refine⟨"list",_,slot_list_getitem.lookup,ht.isList.typeIs,?_⟩;refine wpAny_getItem_list_slice ht.isList hs pl pu .none (by simp) ?_ (by rw[gR]<;>omega);rw[K8,<-hlen];exact⟨.ref s⁻¹,_,I.laid (t':=s.toks) (o:=.lst (u9 xs lo hi)) (λb ob q=>bx _ q) (aN _) ⟨dF (Ga xs lo hi) hz,_,0,(r.drop (HT.lK xs.length 0 lo)).take (HT.lK xs.length xs.length hi-HT.lK xs.length 0 lo),bT _ Z⟩,Z,q _ (I.hok.fresh (aN _))⟩
def Cq:V->Bool
 |.non=>true
 |.bl _=>true
 |.int _=>true
 |.str _=>true
 |_=>false
def ć:V->V->Bool
 |.non,.non=>true
 |.bl a,.bl b=>a==b
 |.bl a,.int b=>(if a then 1 else 0)==b
 |.int a,.bl b=>a==(if b then 1 else 0)
 |.int a,.int b=>a==b
 |.str a,.str b=>a==b
 |_,_=>false
def a3b{A:Around}{y x:V}{u v:Value}(ry:cQ y u)(rx:cQ x v)(fy:Cq y=true)(fx:Cq x=true):SeqAt.EqAt A s u v (ć y x):=by
 cases y with
 |non =>
  cases ry;cases x with
  |non=>cases rx;exact SeqAt.EqAt.same _
  |bl b=>cases rx;exact SeqAt.EqAt.none_bool b
  |int b=>obtain⟨t,rfl⟩:=rx;exact SeqAt.EqAt.none_int b t
  |str b=>obtain⟨t,rfl⟩:=rx;exact SeqAt.EqAt.none_str b t
  |_=>exact absurd (show false=true from fx) cY
 |bl a =>
  cases ry;cases x with
  |non=>cases rx;exact SeqAt.EqAt.bool_none a
  |bl b=>cases rx;exact SeqAt.EqAt.bool_bool a b
  |int b=>obtain⟨t,rfl⟩:=rx;exact SeqAt.EqAt.bool_int a b t
  |str b=>obtain⟨t,rfl⟩:=rx;exact SeqAt.EqAt.bool_str a b t
  |_=>exact absurd (show false=true from fx) cY
 |int a =>
  obtain⟨t',rfl⟩:=ry;cases x with
  |non=>cases rx;exact SeqAt.EqAt.int_none a t'
  |bl b=>cases rx;exact SeqAt.EqAt.int_bool a t' b
  |int b=>obtain⟨t,rfl⟩:=rx;exact SeqAt.EqAt.int_int a t' b t
  |str b=>obtain⟨t,rfl⟩:=rx;exact SeqAt.EqAt.int_str a t' b t
  |_=>exact absurd (show false=true from fx) cY
 |str a =>
  obtain⟨t',rfl⟩:=ry;cases x with
  |non=>cases rx;exact SeqAt.EqAt.str_none a t'
  |bl b=>cases rx;exact SeqAt.EqAt.str_bool a t' b
  |int b=>obtain⟨t,rfl⟩:=rx;exact SeqAt.EqAt.str_int a t' b t
  |str b=>obtain⟨t,rfl⟩:=rx;exact SeqAt.EqAt.str_str a t' b t
  |_=>exact absurd (show false=true from fx) cY
 |_=>exact absurd (show false=true from fy) cY
def Vt(x:V)(u:Value):Bool:=match u with
 |.none=>ć .non x
 |.bool b=>ć (.bl b) x
 |.int i _=>ć (.int i) x
 |.str z _=>ć (.str z) x
 |_=>false
def Ĉ{x y:V}{u:Value}(r:cQ y u)(f:Cq y=true):Vt x u=ć y x:=by
 cases y with
 |non=>cases r;rfl
 |bl b=>cases r;rfl
 |int i=>obtain⟨t,rfl⟩:=r;rfl
 |str z=>obtain⟨t,rfl⟩:=r;rfl
 |_=>exact absurd (show false=true from f) cY
def Hq{x:V}{xs:List V}(h:cN xs us)(f:xs.all Cq=true):us.any (Vt x)=xs.any λy=>ć y x:=by
 induction h with
 |nil=>rfl
 |cons r t ih =>
  rw[List.all_cons,qK]at f;rw[tZ,tZ,Ĉ r f.1,ih f.2]
def Cr{A:Around}{x:V}{v:Value}(rx:cQ x v)(fx:Cq x=true){xs:List V}(h:cN xs us)(f:xs.all Cq=true):∀u∈us,SeqAt.EqAt A s u v (Vt x u):=by
 induction h with
 |nil=>intro u hu;cases hu
 |cons r t ih =>
  intro u' hu;rw[List.all_cons,qK]at f;rcases bU.mp hu with rfl|hu
  ·rw[Ĉ r f.1];exact a3b r rx f.1 fx
  ·exact ih f.2 u' hu
def inV(x:V)(xs:List V):Bool:=xs.any λy=>ć y x
inductive rIn(K:aH)(neg:Bool)(x:V)(y:V)(H:Hp)(Q:VK):Prop
 |mk (p xs:_) (_:y=.ref p) (_:(bI K H p xs\/cH K H p xs)) (_:Cq x=true) (_:xs.all Cq=true) (_:Q (.bl (if neg then !inV x xs else inV x xs)) H)
def Y8:sS X (compareOp .In) (rIn X.K false):=by
 intro Y s σ H x y v u Q I rx ry h;obtain⟨p,xs,rfl,hq,fx,fs,q⟩:=h;cases ry;rcases hq with hq|hq
 ·obtain⟨bV,r,pl,hz⟩:=I.list hq;refine SeqAt.in_listAt (Vt x) pl.isList (λw hw=>Cr rx fx r fs w (by simpa using hw)) ⟨.bl _,H,I,Z,?_⟩;rw[show bV.toArray.any (Vt x)=bV.any (Vt x) by simp,Hq r fs];exact q
 ·obtain⟨bV,r,pl,hz⟩:=I.tuple hq;refine SeqAt.in_tupleAt (Vt x) pl (λw hw=>Cr rx fx r fs w (by simpa using hw)) ⟨.bl _,H,I,Z,?_⟩;rw[show bV.toArray.any (Vt x)=bV.any (Vt x) by simp,Hq r fs];exact q
def Py:sS X (compareOp .NotIn) (rIn X.K true):=by
 intro Y s σ H x y v u Q I rx ry h;obtain⟨p,xs,rfl,hq,fx,fs,q⟩:=h;cases ry;rcases hq with hq|hq
 ·obtain⟨bV,r,pl,hz⟩:=I.list hq;refine SeqAt.notIn_listAt (Vt x) pl.isList (λw hw=>Cr rx fx r fs w (by simpa using hw)) ⟨.bl _,H,I,Z,?_⟩;rw[show bV.toArray.any (Vt x)=bV.any (Vt x) by simp,Hq r fs];exact q
 ·obtain⟨bV,r,pl,hz⟩:=I.tuple hq;refine SeqAt.notIn_tupleAt (Vt x) pl (λw hw=>Cr rx fx r fs w (by simpa using hw)) ⟨.bl _,H,I,Z,?_⟩;rw[show bV.toArray.any (Vt x)=bV.any (Vt x) by simp,Hq r fs];exact q
def Pz:jG X (.builtin "len") (λxs H Q=>∃p ys,xs=[.ref p]/\(bI X.K H p ys\/cH X.K H p ys)/\Q (.int ys.length) H):=by
 intro Y s σ H xs us Q I r h;obtain⟨p,ys,rfl,hq,q⟩:=h;obtain⟨u,rfl,rx⟩:=vals1 r;cases rx;have hn:=Jl;rcases hq with hq|hq
 ·obtain⟨bV,r',pl,hz⟩:=I.list hq;have hlen:=r'.length;exact Calls.call_len_list pl.isList (by simp only[List.size_toArray]<;>omega) ⟨.int ys.length,H,I.tok _,⟨s.toks+1,by rw[gR,hlen]⟩,q⟩
 ·obtain⟨bV,r',pl,hz⟩:=I.tuple hq;have hlen:=r'.length;exact len_tuple pl (by simp only[List.size_toArray]<;>omega) ⟨.int ys.length,H,I.tok _,⟨s.toks+1,by rw[gR,hlen]⟩,q⟩
def PJ:jG X (.type "list") (λxs H Q=>∃p ys,xs=[.ref p]/\(bI X.K H p ys\/cH X.K H p ys)/\∀l,H l=none->Q (.ref l) (cM H l (.lst ys))):=by
 intro Y s σ H xs us Q I r h;obtain⟨p,ys,rfl,hq,q⟩:=h;obtain⟨u,rfl,rx⟩:=vals1 r;cases rx;have fin:∀(bV:List Value),cN ys bV->ys.length<=sizeLine->∀(h':Heap) (c':Nat),(∀b o',s.heap.get? b=some o'->h'.get? b=some o')->
   h'.get? s⁻¹=some { cls:=.type "list",dict:=none,data:=.seq bV.toArray c',slots:=#[]}->EP X Y σ Q (.ref s⁻¹) { s with heap:=h'}:=λbV r' hz h' c' kp e =>
  ⟨.ref s⁻¹,_,I.laid (t':=s.toks) kp (aN _) (show fW X.prog X.w _ h' _ (.lst ys)from⟨hz,bV,c',r',e⟩),Z,q _ (I.hok.fresh (aN _))⟩
 rcases hq with hq|hq
 ·obtain⟨bV,r',pl,hz⟩:=I.list hq;have hlen:=r'.length;obtain⟨o,ho,hc,n,hd⟩:=pl.isList;exact call_list_seq p (.inl Z) ho hc hd (λh' c' kp e=>fin bV r' hz h' c' kp e) (by simp only[List.size_toArray]<;>omega)
 ·obtain⟨bV,r',pl,hz⟩:=I.tuple hq;have hlen:=r'.length;obtain⟨o,ho,hc,n,hd⟩:=pl;exact call_list_seq p (.inr Z) ho hc hd (λh' c' kp e=>fin bV r' hz h' c' kp e) (by simp only[List.size_toArray]<;>omega)
def rz:jG X (.type "tuple") (λxs H Q=>∃p ys,xs=[.ref p]/\((bI X.K H p ys/\∀l,H l=none->Q (.ref l) (cM H l (.tup ys)))\/(cH X.K H p ys/\Q (.ref p) H))):=by
 intro Y s σ H xs us Q I r h;obtain⟨p,ys,rfl,h⟩:=h;obtain⟨u,rfl,rx⟩:=vals1 r;cases rx;rcases h with⟨hq,q⟩|⟨hq,q⟩
 ·obtain⟨bV,r',pl,hz⟩:=I.list hq;have hlen:=r'.length;refine call_tuple_list pl.isList (λh' kp=>?_) (by simp only[List.size_toArray]<;>omega);have I1:bC X Y σ H { s with heap:=h'}:=I.kept (t':=s.toks) kp;have I2:bC X Y σ (cM H h'.objs.size (.tup ys)) { s with heap:=h'.push { cls:=.type "tuple",data:=.seq bV.toArray}} :=
   I1.laid (t':=s.toks) (λb o e=>bx _ e) (aN _) (show fW X.prog X.w _ _ _ (.tup ys)from⟨hz,bV,r',IsTup.new _ _⟩)
  exact⟨.ref h'.objs.size,_,I2,Z,q _ (I1.hok.fresh (aN _))⟩
 ·obtain⟨bV,r',pl,hz⟩:=I.tuple hq;exact call_tuple_same pl ⟨.ref p,H,I,Z,q⟩
def tyV(K:aH)(T:String)(x:V)(H:Hp):Prop:=match x with
 |.str _=>T = "str"
 |.int _=>T = "int"
 |.ref p=>(T = "list" /\∃xs,bI K H p xs)\/(T = "tuple" /\∃o,K.lookup p=some o/\o.cls=.type "tuple" /\o.dict=none)\/
   (T = "dict" /\((∃O,H p=some (.dK O))\/∃O,H p=some (.dT O)))\/(T = "set" /\∃S n,H p=some (.set S n))
 |_=>False
def ĉ{H:Hp}{T:String}{x:V}{v:Value}(I:bC X Y σ H s)(r:cQ x v)(ty:tyV X.K T x H) :
  s.TypeIs v T/\∀a,v=.ref a->∃ob,s.heap.get? a=some ob/\ob.dict=none:=by
 cases x with
 |str z =>
  obtain⟨t,rfl⟩:=r;cases(show T = "str" from ty);exact⟨typeIs_str s z t,λ_ e=>nomatch e⟩
 |int i =>
  obtain⟨t,rfl⟩:=r;cases(show T = "int" from ty);exact⟨typeIs_int s i t,λ_ e=>nomatch e⟩
 |ref p =>
  cases r;rcases ty with⟨rfl,xs,hq⟩|⟨rfl,o,hk,hc,hd⟩|⟨rfl,hk⟩|⟨rfl,S,n,hk⟩
  ·obtain⟨bV,_,pl,_⟩:=I.list hq;refine⟨pl.isList.typeIs,λa e=>?_⟩;cases e;obtain⟨o,n,e,c,hd,_⟩:=pl;exact⟨o,e,hd⟩
  ·refine⟨⟨o,I.DY p o hk,hc⟩,λa e=>?_⟩;cases e;exact⟨o,I.DY _ o hk,hd⟩
  ·have z:∃o,s.heap.get? p=some o/\o.ExactDict:=by
    rcases hk with⟨O,hk⟩|⟨O,hk⟩
    ·obtain⟨_,_,_,_,o,_,_,e,ex,_⟩:=I.hok p _ hk;exact⟨o,e,ex⟩
    ·obtain⟨_,_,_,_,o,_,_,e,ex,_⟩:=I.hok p _ hk;exact⟨o,e,ex⟩
   obtain⟨o,e,ex⟩:=z;refine⟨⟨o,e,ex.1⟩,λa e2=>?_⟩;cases e2;exact⟨o,e,ex.2.1⟩
  ·obtain⟨o,_,_,_,e,ex,_⟩:=I.hok p _ hk;refine⟨⟨o,e,ex.1⟩,λa e2=>?_⟩;cases e2;exact⟨o,e,ex.2.1⟩
 |_=>exact False.elim ty
def a5o(K:aH)(T:String)(r:V->List V->Hp->VK->Prop)(to:TE):TE:=λσ H Q=>to σ H λx H1=>tyV K T x H1/\r x [] H1 Q
def tBM(K:aH)(T:String)(r:V->List V->Hp->VK->Prop)(to:TE)(t:TA):TE:=λσ H Q=>to σ H λx H1=>tyV K T x H1/\t σ H1 λxs H2=>r x xs H2 Q
variable{o e:Expr}{es:List Expr}{to:TE}{t:TA}{name:Str}{apos cpos:Pos}{T id:String}{r:V->List V->Hp->VK->Prop}
def a3c(pa:PlainAttrs T)(slot:Slot T name id)(hty:typeOf (.builtin id)=pure (.type "method_descriptor"))(hm:MtR X id r)(ho:PE X o to)
  (hbase:attributeBase o name X.env (eval o X.env)=eval o X.env:=by rfl) (hline:(apos.endLine==cpos.line)=true:=by rfl):PE X (.Call (.Attribute o name apos) [] [] cpos) (a5o X.K T r to):=by
 intro Y s σ H Q I h;refine wpAny_Call_method0_late hbase hline (jx (ho Y s σ H _ I h) λv s1 ⟨x,H1,I1,r1,ty,q1⟩=>?_);obtain⟨h1,h2⟩:=ĉ I1 r1 ty;exact⟨T,id,pa,slot,hty,h1,h2,T7 Z (PySem.evalArgs_none (hm Y s1 σ H1 x [] v [] Q I1 r1 .nil q1))⟩
def a5p(pa:PlainAttrs T)(slot:Slot T name id)(hty:typeOf (.builtin id)=pure (.type "method_descriptor"))(hm:MtR X id r)(ho:PE X o to)(ha:PA X (e::es) t)
  (hbase:attributeBase o name X.env (eval o X.env)=eval o X.env:=by rfl)
  (hfew:((backTo cpos (starEach (e::es) X.env)).all (λx=>!x.1)&&(backToKw cpos (keywordEach [] X.env)).all (λx=>x.1.isSome)
   && decide ((e::es).length+([]:List Keyword).length+(if([]:List Keyword).isEmpty then 0 else 1)<30))=true:=by rfl)
  (hline:(apos.endLine==cpos.line)=true:=by rfl) (hs:starEach (e::es) X.env=(false,eval e X.env)::starEach es X.env:=by rfl) (hplain:(backTo cpos (starEach es X.env)).any (·.1)=false:=by rfl) :
  PE X (.Call (.Attribute o name apos) (e::es) [] cpos) (tBM X.K T r to t):=by
 intro Y s σ H Q I h;refine wpAny_Call_method_late hbase hfew hline Z (jx (ho Y s σ H _ I h) λv s1 ⟨x,H1,I1,r1,ty,q1⟩=>?_);obtain⟨h1,h2⟩:=ĉ I1 r1 ty;refine⟨T,id,pa,slot,hty,h1,h2,?_⟩;have hA:=ha cpos Y s1 σ H1 _ I1 q1;rw[hs]at hA ⊢;refine T7 (by show(false||(backTo cpos (starEach es X.env)).any (·.1))=false;rw[hplain]<;>rfl) (Calls.evalArgs_plain ?_);exact jx hA λus s2 ⟨vs,H2,I2,r2,q2⟩=>hm Y s2 σ H2 x vs v us Q I2 r1 r2 q2
end
def Vu(X:Cx)(id:String)(r:V->List V->Hp->VK->Prop):Prop :=
 ∀(Y:List (Addr×Obj)) (s:Shared) (σ:St) (H:Hp) (x:V) (xs:List V) (v:Value) (us:List Value) (Q:VK),bC X Y σ H s->cQ x v->cN xs us->r x xs H Q->
  wpAny (model X.prog X.w) X.A (call (.builtin id) (v::us)) (EP X Y σ Q) X.xe s
def cN.gh{x:V}(h:cN [x] us):∃u,us=[u]/\cQ x u:=by
 cases h with
 |cons r t =>
  cases t;exact⟨_,Z,r⟩
def cN.zero:∀{us:List Value},cN [] us->us=[]
 |_,.nil=>rfl
def cN.dropLast{xs:List V}{us:List Value}(h:cN xs us):cN xs.dropLast us.dropLast:=by
 induction h with
 |nil=>exact .nil
 |cons r t ih =>
  cases t with
  |nil=>exact .nil
  |cons q t'=>exact .cons r ih
def Vv(l:List α):l.eraseIdx (l.length-1)=l.dropLast:=by
 induction l with
 |nil=>rfl
 |cons a r ih =>
  cases r with
  |nil=>rfl
  |cons b r =>
   have e:(a::b::r).length-1=((b::r).length-1)+1:=by
    have h1:(a::b::r).length=r.length+2:=rfl;have h2:(b::r).length=r.length+1:=rfl;omega
   rw[e,List.eraseIdx_cons_succ,ih];all_goals rfl
section
variable{H:Hp}{l b:Addr}{xs ys zs:List V}
def bC.a3d{its':List Value}{f:Array Value->Array Value}{t':Nat}(I:bC X Y σ H s)(hH:H l=some (.lst xs))
  (e:s.heap.get? l=some { cls:=.type "list",data:=.seq bV.toArray n}) (hf:f bV.toArray=its'.toArray) (hv:cN ys its') (hz:ys.length<=sizeLine) :
  bC X Y σ (cM H l (.lst ys)) { s with heap:=s.heap.update l (Obj.mapSeq f),toks:=t'}:=by
 have q:=PySem.IsL.update e f;rw[hf]at q;refine I.write (x:=l) (e:=l) (by rw[hH];exact trivial) (.inl Z) (λb' u hb hu=>(N5 s.heap (Obj.mapSeq f) (Ne.symm hb)).trans hu) ⟨_,q⟩ ?_;exact⟨hz,its',_,hv,q⟩
def bC.a67{t':Nat}(I:bC X Y σ H s)(hv:cN ys bV)(hz:ys.length<=sizeLine) :
  bC X Y σ (cM H s⁻¹ (.lst ys)) { s with heap:=s.heap.push { cls:=.type "list",data:=.seq bV.toArray},toks:=t'} :=
 I.laid (λ_ _ q=>bx _ q) (aN _) ⟨hz,bV,0,hv,bT _ Z⟩
def bC.fresh(I:bC X Y σ H s):H s⁻¹=none:=I.hok.fresh (aN _)
def bC.Y9(I:bC X Y σ H s)(hH:H l=some (.lst xs)):xs.length<=sizeLine/\∃(bV:List Value) (n:Nat),cN xs bV/\xs.length=bV.length/\s.heap.get? l=some { cls:=.type "list",data:=.seq bV.toArray n}:=by
 obtain⟨z,bV,n,r,e⟩:=I.hok l _ hH;exact⟨z,bV,n,r,r.length,e⟩
end
inductive a0o(x:V)(vs:List V)(H:Hp)(Q:VK):Prop
 |mk (l xs y:_) (_:x=.ref l) (_:vs=[y]) (_:H l=some (.lst xs)) (_:xs.length<sizeLine) (_:Q .non (cM H l (.lst (xs++[y]))))
def Za:Vu X "list.append" a0o:=by
 intro Y s σ H x vs v us Q I rx rv h;obtain⟨l,xs,y,rfl,rfl,hH,hz,q⟩:=h;cases rx;obtain⟨u,rfl,ru⟩:=rv.gh;obtain⟨z,bV,n,r,hl,e⟩:=I.Y9 hH;refine Je F.slot_list_append ⟨_,e,Z⟩ F.entry_list_append (F.args_list_append_2 _ _) (PySem.list_append l bV.toArray n u (by rw[List.size_toArray];omega)) ⟨e,?_⟩;refine⟨.non,_,I.a3d (its':=bV++[u]) hH e (by simp) (r.append (.cons ru .nil)) ?_,Z,q⟩;rw[cC,Ec];omega
inductive a68(x:V)(vs:List V)(H:Hp)(Q:VK):Prop
 |mk (l xs y:_) (_:x=.ref l) (_:vs=[]) (_:H l=some (.lst xs)) (_:xs[xs.length-1]?=some y) (_:Q y (cM H l (.lst xs.dropLast)))
def a3e:Vu X "list.pop" a68:=by
 intro Y s σ H x vs v us Q I rx rv h;obtain⟨l,xs,y,rfl,rfl,hH,hy,q⟩:=h;cases rx;have hus:=rv.zero;subst hus;obtain⟨z,bV,n,r,hl,e⟩:=I.Y9 hH;obtain⟨u,hu,ru⟩:=r.get hy;have hy':bV.toArray[bV.toArray.size-1]?=some u:=by
  show bV.toArray[bV.length-1]?=some u;rw[<-N7,<-hl];exact hu
 refine Je F.slot_list_pop ⟨_,e,Z⟩ F.entry_list_pop (F.args_list_pop_1 _) (MeetsSeq.list_pop_last l bV.toArray n u hy' (by rw[gR];omega)) ⟨e,?_⟩;refine⟨y,_,I.a3d (its':=bV.dropLast) hH e ?_ r.dropLast ?_,ru,q⟩
 ·show bV.toArray.eraseIdxIfInBounds (bV.toArray.size-1)=bV.dropLast.toArray;rw[gR,List.eraseIdxIfInBounds_toArray,Vv]
 ·rw[Ud];omega
inductive a69(x:V)(y:V)(H:Hp)(Q:VK):Prop
 |mk (l b xs zs:_) (_:x=.ref l) (_:y=.ref b) (_:H l=some (.lst xs)) (_:H b=some (.lst zs)) (_:xs.length+zs.length<=sizeLine) (_:∀p,H p=none->Q (.ref p) (cM H p (.lst (xs++zs))))
def a3f:sS X (binaryOp .Add) a69:=by
 intro Y s σ H x y v u Q I rx ry h;obtain⟨l,b,xs,zs,rfl,rfl,hH,hB,hz,q⟩:=h;cases rx;cases ry;obtain⟨z,bV,n,r,hl,e⟩:=I.Y9 hH;obtain⟨z2,its2,n2,r2,hl2,e2⟩:=I.Y9 hB;refine PySem.P.add_list e e2 ?_ (by rw[gR,gR];omega);have ea:bV.toArray++its2.toArray=(bV++its2).toArray:=by simp
 rw[ea];exact⟨.ref _,_,I.a67 (t':=s.toks) (r.append r2) (by rw[List.length_append];omega),Z,q _ I.fresh⟩
end L2
namespace Att
open PySem.W PySem.Calls PyProof.Rows
def Gw{P:Params}{h:Heap}:∀(ns:List Int) (vs:List Value),WellAll P h vs (ns.map WData.int)->IntsAre vs ns:=by
 intro ns
 induction ns with
 |nil =>
  intro vs w;rw[List.map_nil]at w;cases w;exact .nil
 |cons n ns ih =>
  intro vs w;rw[b7]at w;cases w with
  |cons a b =>
   cases a;exact .cons _ _ (ih _ b)
def Zb{l : OpenLaw}{n : Nat}(hn : l.most = some n){P : Params}{h : Heap}{args : List WData}{vals : List Value}
    (hpre : l.row.toRowW.claim.pre args = true) (hwl : WellAll P h vals args) :
    ∃ a vs ns, vals = [Value.ref a] ∧ args = [WData.list (ns.map WData.int)] ∧ h.get? a = some { cls := .type "list", data := .seq vs.toArray } ∧ IntsAre vs ns ∧ ns.length ≤ n := by
  have hsh : WShape.hasAll [] args [.list .int] = true := (pre_splitW hpre).1;have hc : l.pre.holds [] { args := args } = true := (pre_splitW hpre).2;obtain ⟨d, r, rfl, h1, h2⟩ := hasAllW_cons hsh;obtain rfl := hasAllW_nil h2;obtain ⟨xs, rfl, h3⟩ := hasW_list h1;obtain ⟨ns, rfl⟩ := items_int h3;have hlen : ns.length ≤ n := by
    unfold OpenLaw.pre at hc;have h4 : (WTm.not (.lt (.lit (.int (n : Int))) (.len (.arg 0)))).holds [] { args := [.list (ns.map .int)] } = true := by
      have h4 := (holds_andW hc).1;rw [hn] at h4;exact h4
    have h5 := condW_of h4 (w_not (w_lt w_lit (w_len_list (w_arg Z))));rw [aM] at h5;refine Nat.le_of_not_lt fun q => ?_;have q' : (n : Int) < ((ns.length : Nat) : Int) := by omega
    first
      | (rw [bN q'] at h5; exact absurd h5 ())
      | (simp at h5; omega)
  cases hwl with
  | cons w1 w2 =>
    cases w2;cases w1 with
    | list ho hall => exact ⟨_, _, ns, Z, Z, ho, Gw ns _ hall, hlen⟩
def Zc(l : OpenLaw)(args : List WData) : l.row.toRowW.claim.post args (.bool true) args = true :=
  postW_of (r := l.row.toRowW) (X := (true == true))
    (show WShape.has [] (.bool true) .bool = true by first | rfl | decide | simp [WShape.has, WShape.arms, WShape.armsAll])
    (show (WTm.eq .res (.lit (.bool true))).value [] { args := args, res := some (.bool true), after := args } = some (.bool (true == true)) from w_eq_bool (w_res Z) w_lit) rfl
def Rg{l:OpenLaw}{n:Nat}{q:Program}{loose:List Str}{XP:(Str->Option Value)->Heap->Prop}{YP:World->Heap->Prop}{d:DefRec}
  (hn:l.most=some n) (hdf:d.params.defaults=[])
  (call:∀(w:World) (s₀ s₁:Shared) (mg mb:Str->Option Value) (fa:Addr) (o:Obj) (pm cd doc:Value) (a:Addr) (vs:List Value) (ns:List Int),
   Ground q loose [] XP w s₀ mg mb s₁.heap->YP w s₁.heap->
   s₁.heap.get? fa=some o->o.data=.func (docDef d.name d.params d.body d.scope pm cd doc)->s₁.heap.CodeRec cd d.name->mg d.name=some (.ref fa)->
   s₁.heap.get? a=some { cls:=.type "list",data:=.seq vs.toArray}->IntsAre vs ns->ns.length<=n->s₁.gens = #[]->
   codeAny (model l.prog w) callerA (.call (.ref fa) ⟨[.ref a],[]⟩) (λr s'=>r=.ok (.ret (.bool true))/\OldK s₁.heap s'.heap/\s'.os=s₁.os/\AllBare s'.gens) s₁) :
  WalkO q loose XP YP l.row.toRowW d [] (λf vs=>PySem.call f vs):=by
 intro w s₀ s₁ mg mb G Z99 fa o pm cd doc dV kV ho hd hcd hD hmg hg args vals as hpre hlay hrd hwl hlo;obtain rfl:dV=.none:=Dflts.none hD hdf;obtain rfl:kV=.none:=Dflts.noKw hD;obtain⟨a,vs,ns,rfl,rfl,hobj,hints,hlen⟩:=Zb hn hpre hwl;refine enter_call (Eo (call w s₀ s₁ mg mb fa o pm cd doc a vs ns G Z99 ho (fd_plain hd) hcd hmg hobj hints hlen hg) λr s' hq=>?_);obtain⟨rfl,h2,h3,h4⟩:=hq;exact⟨.inl ⟨.bool true,.bool true,[],Z,λ_=>rfl,.bool true,Zc l _,λ_=>⟨List.Pairwise.nil,λ_ hm=>(nomatch hm)⟩⟩,h2,h3,h4⟩
end Att
namespace L2
open PyProof.Rows
variable{X:Cx}{σ:St}{ix:List (Option Nat)}{x qual:Str}{Y:List (Addr×Obj)}{a it:Addr}{n k:Nat}{scope:Scope}{g:TG}{tt:TT}{te:TE}{pos:Pos}{H1 H':Hp}{s:Shared}{Q:VK}{o:HO}{N':List Str}{tg elt iter:Expr}{w:World}{fd:FuncData}{A B:Prop}{R:Result->Shared->Prop}{ifs es:List Expr}{r:V->List V->Hp->VK->Prop}
def Ml:∀{vs:List Value}{ns:List Int},IntsAre vs ns->cN (ns.map V.int) vs
 |_,_,.nil=>.nil
 |_,_,.cons n t h=>.cons ⟨t,Z⟩ (Ml h)
def Only(H:Hp):Prop:=∀b,H b=none\/∃o xs,H b=some (.jq o (.lst xs))
def Ċ{P:Program}{K:aH}{mg mb:Str->Option Value}{CX:Q0}{fa:Addr}{sp:Sp}{s₁:Shared}{vs:List Value}{ns:List Int}
  (KX:K.In s₁.heap) (hns:s₁.heap.Ns mainGlobals mg) (hb:s₁.heap.Ns builtinsNs mb) (hbb:∀x:Str,x≠ "__name__" ->mb x=bootBuiltins x) (hlim:s₁.heap.NoLimit) (hg:s₁.gens = #[])
  (ha:s₁.heap.get? a=some { cls:=.type "list",data:=.seq vs.toArray}) (hi:IntsAre vs ns) (hl:ns.length<=sizeLine) (hr:rE k callerA)
  (F:∀base:Heap,K.In base->base.Ns mainGlobals mg->aZ P w K mg base CX k fa fd [x] sp) (hbind:∀(s:Shared) (u:Value),BindsTo s fd ⟨[u],[]⟩ [(x,u)])
  (hsp:∀H:Hp,Only H->bI K H a (ns.map V.int)->sp [.ref a] H (λv _=>v=.bl true) λ_ _ _=>False)
  (hCX:∀H e s',CX [] H s₁ (λ_ _ _=>False) e s'->False) :
  codeAny (model P w) callerA (.call (.ref fa) ⟨[.ref a],[]⟩) (λr s'=>r=.ok (.ret (.bool true))/\OldK s₁.heap s'.heap/\s'.os=s₁.os/\AllBare s'.gens) s₁:=by
 have rv:=Ml hi;have lenV:=hi.length;have core:∀H:Hp,Only H->bI K H a (ns.map V.int)->zQ P w H s₁.heap->(∀b,H b≠none->b=a)->(H a≠none->K.lookup a=none)->
   codeAny (model P w) callerA (.call (.ref fa) ⟨[.ref a],[]⟩) (λr s'=>r=.ok (.ret (.bool true))/\OldK s₁.heap s'.heap/\s'.os=s₁.os/\AllBare s'.gens) s₁:=by
  intro H hO hS hok hA hK;have Xl:∀{b:Addr}{o:Obj},s₁.heap.get? b=some o->H b=none->(Pn s₁.heap H).get? b=some o:=λe n=>ô e n;have noA:∀{b:Addr}{o:Obj}{es:Array DictEntry}{ep:Nat},s₁.heap.get? b=some o->o.data=.dict es ep->H b=none:=λ{b o es ep} e d=>by
   cases q:H b with
   |none=>rfl
   |some u =>
    have e':b=a:=hA b (by rw[q];simp);subst e';rw[ha]at e;cases e;have d':Data.seq vs.toArray _=Data.dict es ep:=d;cases d'
  have nsK:∀{b:Addr}{m:Str->Option Value},s₁.heap.Ns b m->(Pn s₁.heap H).Ns b m:=λ{b m} ⟨o,es,ep,e,d,r⟩=>⟨o,es,ep,Xl e (noA e d),d,r⟩;have hKb:K.In (Pn s₁.heap H):=λb o e=>Xl (KX b o e) (by
   cases q:H b with
   |none=>rfl
   |some u =>
    have e':b=a:=hA b (by rw[q];simp);subst e';rw[hK (by rw[q];simp)]at e;cases e)
  have hM:Mod K mg (Pn s₁.heap H):=⟨hKb,nsK hns,⟨mb,nsK hb,hbb⟩,let⟨mc,h1,h2⟩:=hlim;⟨mc,nsK h1,h2⟩⟩;have e0:Vn P w K mg (Pn s₁.heap H) callerA [] s₁ H:=⟨Z,hM,λb o e=>a0a e,O8 (YS _ _),trivial,λb hb=>absurd (show b∈([]:List Addr)from hb) (by simp),hok,.of_eq hg⟩;refine Eo ((F _ hKb (nsK hns)).run callerA [] s₁ H ⟨[.ref a],[]⟩ [.ref a] [.ref a] _ _ hr e0 (hbind s₁ (.ref a)) (.cons Z .nil) (hsp H hO hS)) λr s' h=>?_;cases r with
  |error e=>exact(hCX H e s' h).elim
  |ok fl =>
   cases fl with
   |next=>exact False.elim h
   |brk=>exact False.elim h
   |cont=>exact False.elim h
   |ret u =>
    obtain⟨v,H',os,bare,un,hok',r',q⟩:=h;have q':v=.bl true:=q;subst q';obtain rfl:u=Value.bool true:=r';refine⟨Z,OldK.of_keep λb o e=>?_,os,bare⟩;cases q:H b with
    |none=>exact un.keep b o e q (by intro z;exact absurd (show b∈([]:List Addr)from z) (by simp)) (by simp)
    |some u =>
     rcases hO b with z|⟨ob,xs,z⟩
     ·rw[q]at z;cases z
     ·have z2:=un.Jh b ob _ z;obtain⟨e1,_⟩:=hok b _ z;obtain⟨e2,_⟩:=hok' b _ z2;rw[e]at e1;cases e1;exact e2
 cases hk:K.lookup a with
 |some o =>
  have e:=KX a o hk;rw[ha]at e;cases e;refine core (λ_=>none) (λ_=>.inl Z) (.inr ⟨_,vs.toArray,_,hk,Z,Z,Z,by rw[gR,lenV];exact hl,by simpa using rv⟩) (λb u z=>by have z':(none:Option HO)=some u:=z;cases z') (λb z=>absurd Z z) λz=>absurd Z z
 |none =>
  refine core (λb=>if b=a then some (.jq { cls:=.type "list",data:=.seq vs.toArray} (.lst (ns.map V.int)))else none) (λb=>?_) (.inl (.inr ⟨{ cls:=.type "list",data:=.seq vs.toArray},aB Z⟩)) (λb u z=>?_) (λb z=>?_) λ_=>hk
  ·by_cases hb:b=a
   ·exact .inr ⟨_,_,aB hb⟩
   ·exact .inl (aq hb)
  ·by_cases hb:b=a
   ·have z':=(aB hb).symm.trans z;cases z';subst hb;exact⟨ha,by rw[aM];exact hl,vs,_,rv,ha⟩
   ·have z':=(aq hb).symm.trans z;cases z'
  ·by_cases hb:b=a
   ·exact hb
   ·exact absurd (aq hb) z
abbrev KOf{K:aH}{h:Heap}(_:K.In h):aH:=K
def a0p{l:PySem.W.OpenLaw}{q:Program}{loose:List Str}{XP:(Str->Option Value)->Heap->Prop}{YP:World->Heap->Prop}{d:DefRec}{K:Params->aH}{CX:World->Q0}{sp:World->Sp}
  (hn:l.most=some n) (hn2:n<=sizeLine) (hdf:d.params.defaults=[]) (hr:rE k callerA)
  (hY:∀(w:World) (h:Heap),YP w h->(K w.params).In h)
  (F:∀(w:World) (mg:Str->Option Value) (fa:Addr) (h:Heap),(K w.params).In h->h.Ns mainGlobals mg->mg d.name=some (.ref fa)->
   ∃fd:FuncData,(∀(s:Shared) (u:Value),BindsTo s fd ⟨[u],[]⟩ [(x,u)])/\
    ∀base:Heap,(K w.params).In base->base.Ns mainGlobals mg->aZ l.prog w (K w.params) mg base (CX w) k fa fd [x] (sp w))
  (hsp:∀(w:World) (H:Hp) (a:Addr) (ns:List Int),ns.length<=n->Only H->bI (K w.params) H a (ns.map V.int)->sp w [.ref a] H (λv _=>v=.bl true) λ_ _ _=>False)
  (hCX:∀(w:World) (H:Hp) (s:Shared) (e:Value) (s':Shared),CX w [] H s (λ_ _ _=>False) e s'->False) :
  PySem.W.WalkO q loose XP YP l.row.toRowW d [] (λf vs=>PySem.call f vs):=by
 refine Att.Rg hn hdf λw s₀ s₁ mg mb fa o pm cd doc a vs ns G Z99 ho hd hcd hmg hobj hints hlen hg=>?_;have KX:=hY w _ Z99;obtain⟨fd,hb,hF⟩:=F w mg fa _ KX G.T.g hmg;exact Ċ KX G.T.g G.T.b G.T.builtins G.T.nolimit hg hobj hints (dF hlen hn2) hr hF hb (λH hO hS=>hsp w H a ns hlen hO hS) λH e s'=>hCX w H s₁ e s'
def ċ{l:PySem.W.OpenLaw}{q:Program}{loose:List Str}{XP:(Str->Option Value)->Heap->Prop}{YP:World->Heap->Prop}{d:DefRec}{K:Params->aH}{CX:Q0}{sp:aH->Sp}
  (hn:l.most=some n) (hn2:n<=sizeLine) (hdf:d.params.defaults=[]) (hr:rE k callerA)
  (hY:∀(w:World) (h:Heap),YP w h->(K w.params).In h)
  (F:∀(w:World) (mg:Str->Option Value) (fa:Addr) (h:Heap),(K w.params).In h->h.Ns mainGlobals mg->mg d.name=some (.ref fa)->
   ∃fd:FuncData,(∀(s:Shared) (u:Value),BindsTo s fd ⟨[u],[]⟩ [(x,u)])/\
    ∀base:Heap,(K w.params).In base->base.Ns mainGlobals mg->aZ l.prog w (K w.params) mg base CX k fa fd [x] (sp (K w.params)))
  (hsp:∀(K:aH) (H:Hp) (a:Addr) (ns:List Int),ns.length<=n->Only H->bI K H a (ns.map V.int)->sp K [.ref a] H (λv _=>v=.bl true) λ_ _ _=>False)
  (hCX:∀(H:Hp) (s:Shared) (e:Value) (s':Shared),CX [] H s (λ_ _ _=>False) e s'->False) :
  PySem.W.WalkO q loose XP YP l.row.toRowW d [] (λf vs=>PySem.call f vs) :=
 a0p (K:=K) (CX:=λ_=>CX) (sp:=λw=>sp (K w.params)) hn hn2 hdf hr hY F (λw H a ns h1 h2 h3=>hsp (K w.params) H a ns h1 h2 h3) λ_ H s e s'=>hCX H s e s'
def inClass(s:Stmt)(j:Nat):Stmt:=match s with
 |.ClassDef _ _ _ body _ _ _ _ _ _ _=>body.getD j (.Pass ⟨0,0,0,0⟩)
 |_=>.Pass ⟨0,0,0,0⟩
def dZ(s:Stmt):Arguments:=match s with
 |.FunctionDef _ a _ _ _ _ _ _ _ _=>a
 |_=>{ posonlyargs:=[],args:=[],vararg:=none,kwonlyargs:=[],kw_defaults:=[],kwarg:=none,defaults:=[]}
def dJ(s:Stmt):List Stmt:=match s with
 |.FunctionDef _ _ b _ _ _ _ _ _ _=>b
 |_=>[]
def aD(s:Stmt):Scope:=match s with
 |.FunctionDef _ _ _ _ _ _ sc _ _ _=>sc
 |_=>{ kind:=.function,names:=[],isGenerator:=false,isCoroutine:=false}
abbrev fV:Q0:=λ_ _ _ _ _ _=>False
abbrev E0:XK:=λ_ _ _=>False
def bW:wM fV X E0:=λ_ _ _ _ _ _ _ h=>h.elim
structure Fun(K:aH)(x qual:Str)(st:Stmt)(f:Addr)(fd:FuncData):Prop where
 ex:∃(oc:Value) (od:Option Addr) (kV doc pm:Value) (an:Option Addr) (dD ct:Value) (osl:Array (Option Value)),
  fd=PySem.W.fnOf x qual (dZ st) (dJ st) (aD st) .none kV doc pm an dD ct/\K.lookup f=some ⟨oc,od,.func fd,osl⟩/\PySem.W.codeIn K dD qual=true
 kp:PySem.W.keepIn K (.ref f)=true
section
variable{P:Program}{K:aH}{mg:Str->Option Value}{base:Heap}
def Fun.ok{st:Stmt}{f:Addr}{N ps:List Str}{sp:Sp}(F:Fun K x qual st f fd)(S:bB N ps (aD st))(hbody:∀(dD:Value) (A:Around) (outer:List Env) (s:Shared) (H:Hp) (vs:List V) (Q:VK) (E:XK),rE k (A.deeper (envOfC qual (aD st) s⁻¹ f dD))->sp vs H Q E->
   ∃t,Ra (Vp fV P w K mg base N qual (aD st) f dD A outer s H E).nox (dJ st) t/\t { nx:=λ_ H'=>Q .non H',rt:=Q} (start N vs) H)
  (len:∀vs H Q E,sp vs H Q E->vs.length=ps.length:=by intro vs H Q E h;first|(cases h;subst_vars;rfl)|(repeat first|(obtain⟨e,_⟩:=h;rw[e];rfl)|(obtain⟨_,h⟩:=h))):aZ P w K mg base fV (k+1) f fd ps sp:=by
 obtain⟨oc,od,kV,doc,pm,an,dD,ct,osl,rfl,lk,hcd⟩:=F.ex;refine a2j lk hcd S len λA outer s H vs Q E hr hsp=>?_;obtain⟨t,h,q⟩:=hbody dD A outer s H vs Q E hr hsp;exact⟨t,h.nox,q⟩
def Fun.binds{st:Stmt}{f:Addr}{ps:List Str}(F:Fun K x qual st f fd)
  (h:∀(kV doc pm:Value) (an:Option Addr) (dD ct:Value) (us:List Value),us.length=ps.length->bindArgs (PySem.W.fnOf x qual (dZ st) (dJ st) (aD st) .none kV doc pm an dD ct) ⟨us,[]⟩=pure (ps.zip us)):Binds K fd ps []:=by
 obtain⟨oc,od,kV,doc,pm,an,dD,ct,osl,rfl,lk,hcd⟩:=F.ex;exact .all (h kV doc pm an dD ct)
def Vw{st:Stmt}{f:Addr}{oc:Value}{od an:Option Addr}{osl:Array (Option Value)}{kV doc pm dD ct:Value}(l:K.lookup f=some ⟨oc,od,.func (PySem.W.fnOf x qual (dZ st) (dJ st) (aD st) .none kV doc pm an dD ct),osl⟩)
  (c:PySem.W.codeIn K dD qual=true) (k:PySem.W.keepIn K (.ref f)=true):Fun K x qual st f (PySem.W.fnOf x qual (dZ st) (dJ st) (aD st) .none kV doc pm an dD ct):=⟨⟨oc,od,kV,doc,pm,an,dD,ct,osl,Z,l,c⟩,k⟩
end
def cO(h:n<=1000):n<sizeLine:=Nat.lt_of_le_of_lt h ()
def pv(i:Nat)(hN:X.N[i]?=some x:=by rfl)(hv:Vis X.env.scope x:=by first|exact Or.inl rfl|exact Or.inr (Or.inl Z)|exact Or.inr (Or.inr Z))(hd:(x==("__debug__" : Str))=false:=by decide)
  (hcd:(x==("__classdict__" : Str))=false:=by decide):PE X (.Name x pos) (õ i):=a2G hN hv hd hcd
def cX(h:B):if false=true then A else B:=by
 rw[aq cY];exact h
def gY(h:A):if true=true then A else B:=by
 rw[aB rfl];exact h
def vd{c:Prop} [Decidable c] (h1:c->A) (h2:¬c->B):if c then A else B:=by
 by_cases h:c
 ·rw[aB h];exact h1 h
 ·rw[aq h];exact h2 h
def aJ(H H':Hp):Prop:=∀b o,H b=some o->H' b=some o
def aJ.refl(H:Hp):aJ H H:=λ_ _ h=>h
def aJ.trans{H H2:Hp}(a:aJ H H1)(b:aJ H1 H2):aJ H H2:=λc o h=>b c o (a c o h)
def aJ.free{H:Hp}(e:aJ H H'){l:Addr}(h:H' l=Option.none):H l=Option.none:=by
 cases q:H l with
 |none=>rfl
 |some o =>
  rw[e l o q]at h;cases h
def aJ.seq{K:aH}{H:Hp}{xs:List V}(e:aJ H H')(h:bI K H a xs):bI K H' a xs:=by
 rcases h with(h|⟨o,h⟩)|h
 ·exact .inl (.inl (e _ _ h))
 ·exact .inl (.inr ⟨o,e _ _ h⟩)
 ·exact .inr h
def wO(cells:List (Str×Addr)):List (Str×NameKind)->List (Str×Addr)->List (Str×Addr)
 | [],acc=>acc
 |(n,k)::r,acc=>wO cells r (if k==.free then(match cells.lookup n with|some c=>(n,c)::acc|none=>acc)else acc)
theorem Č{env:Env}:∀(ns:List (Str×NameKind)) (acc:List (Str×Addr)),(∀x∈ns,x.2=.free->∃c,env.cells.lookup x.1=some c)->
  (forIn ns acc λ(x:Str×NameKind) (cs:List (Str×Addr))=>(if x.2==NameKind.free then do let a <-cellOf env x.1;pure (ForInStep.yield ((x.1,a)::cs))else pure (ForInStep.yield cs):Sem (ForInStep (List (Str×Addr)))))=pure (wO env.cells ns acc)
 | [],acc,_=>by simp[wO]
 |(n,k)::r,acc,h=>by
  rw[List.forIn_cons]
  have ih:=λa=>Č (env:=env) r a λx hx=>h x (bh _ hx)
  unfold wO
  by_cases hk:(k==NameKind.free)=true
  ·obtain⟨c,hc⟩:=h (n,k) aV ()
   have hc':env.cells.lookup n=some c:=hc
   have hce:cellOf env n=pure c:=by simp only[cellOf,hc']
   simp only[hk,if_true,hce,pure_bind,hc']
   exact ih _
  ·simp only[hk,if_false,pure_bind,ih]
   simp
def Jo{env:Env}(h:∀x∈scope.names,x.2=.free->∃c,env.cells.lookup x.1=some c):closureFor scope env=pure (wO env.cells scope.names []):=by
 have q:=Č (env:=env) scope.names [] h;unfold closureFor;grind
set_option tactic.hygienic true in
theorem Cu{cells:List (Str×Addr)}:∀(ns:List (Str×NameKind)) (acc:List (Str×Addr)) {x:Str}{c:Addr},(∀y d,acc.lookup y=some d->cells.lookup y=some d)->(wO cells ns acc).lookup x=some c->cells.lookup x=some c
 | [],acc,x,c,ha,h=>ha x c h
 |(n,k)::r,acc,x,c,ha,h=>by
  unfold wO at h
  refine Cu r _ (λy d hy=>?_) h
  split at hy
  ·split at hy
   ·rename_i c' hc'
    rw[Iz]at hy
    split at hy
    ·rename_i e
     have e':y=n:=by simpa using e
     subst e'
     rw[hc'];exact hy
    ·exact ha y d hy
   ·exact ha y d hy
  ·exact ha y d hy
theorem Mp{cells:List (Str×Addr)}:∀(ns:List (Str×NameKind)) (acc:List (Str×Addr)) {x:Str},(∃c,acc.lookup x=some c)->∃c,(wO cells ns acc).lookup x=some c
 | [],acc,x,h=>h
 |(n,k)::r,acc,x,h=>by
  unfold wO
  refine Mp r _ ?_
  split
  ·split
   ·rw[Iz]
    split
    ·exact⟨_,Z⟩
    ·exact h
   ·exact h
  ·exact h
theorem Jp{cells:List (Str×Addr)}:∀(ns:List (Str×NameKind)) (acc:List (Str×Addr)) {x:Str},(x,NameKind.free)∈ns->(∃c,cells.lookup x=some c)->∃c,(wO cells ns acc).lookup x=some c
 | [],acc,x,h,_=>nomatch h
 |(n,k)::r,acc,x,h,hc=>by
  unfold wO
  rcases bU.mp h with e|h
  ·cases e
   obtain⟨c,hc⟩:=hc
   refine Mp r _ ?_
   simp[hc]
  ·exact Jp r _ h hc
def bC.track{H:Hp}(I:bC X Y σ H s)(hn:H a=none)(h0:X.s₀.heap.objs.size<=a)(hL:a≠X.env.locals)
  (hc:∀x c,X.env.cells.lookup x=some c->c≠a) (hp:∀p∈X.pn++Y,p.1≠a) (new:fW X.prog X.w (cM H a o) s.heap a o):bC X Y σ (cM H a o) s:=by
 have ne:∀b u,H b=some u->b≠a:=λb u e=>dR e hn;have q:=I.step (g':=s.gens) (d':=s.drawn) (t':=s.toks) (h':=s.heap) (H':=cM H a o) (ch:=[a]) (λb hb=>?_) (λb ob _ _ _ e _=>e) (λb ob _ _ _ e _=>⟨ob.slots,e⟩) (λb ob hb _ n=>?_)
  (λb ob _ e=>⟨ob,e⟩) (λb xs e=>by rw[aU (ne b _ e)];exact e) (λb ob u e=>by rw[aU (ne b _ e)];exact e) (λb ps e=>⟨#[],by rw[aU (ne b _ e),e];simp⟩) (λm hm=>hm) (λb u e=>?_) I.bare
 ·exact q
 ·have e:b=a:=by simpa using hb
  subst e;exact⟨.inr h0,hL,hc,hp⟩
 ·rw[aU (λz=>hb (by simp[z]))];exact n
 ·by_cases hb:b=a
  ·subst hb;rw[cV]at e;grind
  ·rw[aU hb]at e;exact(I.hok b u e).stay (λc v _ q=>q) (λc q=>by rw[aU (dR q hn)];exact q) λc xs q=>by rw[aU (dR q hn)];exact q
def uh(X:Cx)(N':List Str)(scope:Scope)(C:Addr)(s:Shared)(H:Hp)(fp:List Addr)(xe:Value->Shared->Prop):Cx :=
 { X with N:=N',s₀:=s,H₀:=H,env:=compEnvC scope (wO X.env.cells scope.names []) C X.env,outer:=X.stack,ex:=fp,fn:=λ_=>false,xe:=xe}
structure Xm(X:Cx)(N':List Str)(ix:List (Option Nat))(scope:Scope):Prop where
 kind:scope.kind=.function
 č:∀y∈scope.names,y.2≠.cell
 locs:∀y∈scope.names,y.2=.local->scope.names.lookup y.1=some .local
 free:∀y∈scope.names,y.2=.free->X.env.kindOf y.1=some .cell\/X.env.kindOf y.1=some .free
 len:ix.length=N'.length
 cap:∀(i j:Nat),ix[i]?=some (some j)->∃x,N'[i]?=some x/\X.N[j]?=some x/\scope.names.lookup x=some .free
def rF(ix:List (Option Nat))(σ:St):St:=ix.map λo=>o.bind λj=>(σ[j]?).join
theorem Cv{env:Env}{x:Str}:∀{names:List (Str×NameKind)},names.lookup x=some .free->(names.map λ(n,k)=>if(k==NameKind.free&&env.scope.kind==.function&&env.kindOf n==some .cell)then(n,NameKind.cell)else(n,k)).lookup x=some .cell\/(names.map λ(n,k)=>if(k==NameKind.free&&env.scope.kind==.function&&env.kindOf n==some .cell)then(n,NameKind.cell)else(n,k)).lookup x=some .free
 | [],h=>by simp at h
 |(n,k)::r,h=>by
  have ih:=@Cv env x r
  grind
theorem Cw{env:Env}{x:Str}:∀{names:List (Str×NameKind)},(∀y∈names,y.2≠.cell)->((names.map λ(n,k)=>if(k==NameKind.free&&env.scope.kind==.function&&env.kindOf n==some .cell)then(n,NameKind.cell)else(n,k)).lookup x=some .cell\/(names.map λ(n,k)=>if(k==NameKind.free&&env.scope.kind==.function&&env.kindOf n==some .cell)then(n,NameKind.cell)else(n,k)).lookup x=some .free)->(x,NameKind.free)∈names
 | [],_,h=>by simp at h
 |(n,k)::r,hn,h=>by
  have ih:=@Cw env x r λy hy=>hn y (bh _ hy)
  grind
def Mq{H:Hp}{i:Nat}{v:V}(B:Xm X N' ix scope)(I:bC X Y σ H s)
  (h1:N'[i]?=some x) (h2:(rF ix σ)[i]?=some (some v)):∃u c,cQ v u/\(wO X.env.cells scope.names []).lookup x=some c/\X.env.cells.lookup x=some c/\s.heap.IsCell c (some u)/\
   ((relabel scope X.env).names.lookup x=some .cell\/(relabel scope X.env).names.lookup x=some .free):=by
 have ο:∀x c,(wO X.env.cells scope.names []).lookup x=some c->X.env.cells.lookup x=some c:=λx c h=>Cu scope.names [] (λ_ _ z=>by simp at z) h;obtain⟨j,hj,hv⟩:∃j,ix[i]?=some (some j)/\σ[j]?=some (some v):=by
  unfold rF at h2;rw[gk]at h2;cases e:ix[i]? with
  |none=>grind
  |some o =>
   rw[e]at h2;cases o with
   |none=>cases h2
   |some j =>
    grind
 obtain⟨x',hx1,hx2,hx3⟩:=B.cap i j hj;have exx:x'=x:=by
  grind
 subst exx;have hmem:=Eg hx3;have hout:=B.free _ hmem rfl;obtain⟨m0,_,hl⟩:=I.loc;obtain⟨u,r,l⟩:=hl j x' v hx2 hv (by
  rcases hout with e|e
  ·exact .inr (.inl e)
  ·exact .inr (.inr e))
 rcases l with⟨k,_⟩|⟨k,c,e,z⟩
 ·rcases hout with e|e
  ·rw[e]at k;cases k
  ·rw[e]at k;cases k
 ·obtain⟨c',hc'⟩:=Jp scope.names [] hmem (I.ok.has x' hout);have:=ο x' c' hc';rw[e]at this;cases this;exact⟨u,c,r,hc',e,z,Cv hx3⟩
def Zd{H:Hp}{s4:Shared}{C:Addr}{fp:List Addr}{xe:Value->Shared->Prop}{m:Str->Option Value}
  (B:Xm X N' ix scope) (I:bC X Y σ H s) (hf:∀b∈fp,Gu X Y H b) (hC:s⁻¹<=C) (hfs:∀b∈fp,b<s⁻¹)
  (ho:s4.os=s.os) (hg:s4.gens=s.gens) (hk:∀b o,s.heap.get? b=some o->s4.heap.get? b=some o) (hns:s4.heap.Ns C m) :
  bC (uh X N' scope C s H fp xe) Y (rF ix σ) H s4:=by
 have ο:∀x c,(wO X.env.cells scope.names []).lookup x=some c->X.env.cells.lookup x=some c:=λx c h=>Cu scope.names [] (λ_ _ z=>by simp at z) h;have hfree:H C=none:=I.hok.fresh hC;have neC:∀b o,s.heap.get? b=some o->b≠C:=λb o e=>bZ (jC (aX e) hC);refine⟨⟨I.ok.mod,B.kind,I.ok.glob,I.ok.blt,hC,λx y c h1 h2=>I.ok.inj x y c (ο x c h1) (ο y c h2),λx hx=>?_,λx c h=>absurd (show false=true from h) cY,I.ok.hd,I.ok.frames,.inl Z,λb hb=>⟨?_,λx c e=>?_⟩,I.bs,?_,λb o e hb=>?_,λb hb z=>?_,I.stack,I.W8⟩,
  ho,?_,Un.kept hk,⟨m,hns,λi x v h1 h2 h3=>?_⟩,λx c e=>?_,hfree,λx c e=>I.ud x c (ο x c e),λp hp=>?_,I.hok.kept hk,?_⟩
 ·have hx':=Cw (env:=X.env) (x:=x) B.č hx;exact Jp scope.names [] hx' (I.ok.has x (B.free _ hx' Z))
 ·exact bZ (jC (hfs b hb) hC)
 ·exact(hf b hb).2.2.2.2.1 x c (ο x c e)
 ·exact dF I.ok.η I.sz
 ·obtain⟨_,_,_,q,_⟩:=hf b hb;rcases q with q|q
  ·exact I.ok.U8 b o e q
  ·exact absurd (jC (aX (I.ok.bs b o e).1) q) (wD _)
 ·obtain⟨_,q1,q2,_⟩:=hf b hb;rcases bU.mp (I.Eu b z)with e|e
  ·exact q1 e
  ·exact q2 e
 ·rw[hg];exact I.bare
 ·obtain⟨u,c,r,hc1,_,⟨oc,z1,z2⟩,hk'⟩:=Mq B I h1 h2;exact⟨u,r,.inr ⟨hk',c,hc1,oc,hk _ _ z1,z2⟩⟩
 ·obtain⟨v,oc,h1,h2⟩:=I.cell x c (ο x c e);exact⟨v,oc,hk _ _ h1,h2⟩
 ·obtain⟨e,n,ne,nf,d⟩:=I.pin p hp;refine⟨hk _ _ e,n,neC _ _ e,λz=>?_,d⟩;rcases bU.mp (I.Eu p.1 z)with e'|e'
  ·exact ne e'
  grind
 ·show(ix.map _).length=N'.length;rw[aM];exact B.len
def Rh{prog:Program}{A:Around}{target:Expr}{it acc:Value}{env:Env}(Iv:Nat->Shared->Prop)
  (turn:∀n s,Iv n s->wpAny (model prog w) A (pyNext it) (λr s₁=>match r with
   |none=>R (.ok .next) s₁
   |some v=>wpAny (model prog w) A (letOwnedTupleGo target it v) (λ_ s₁'=>wpAny (model prog w) A (assign target env v) (λ_ s₂ =>
     wpAny (model prog w) A (forIn ifs true λc r=>if r=true then do let ok <-isTrue c env (eval c env);pure (ForInStep.yield ok)else pure (ForInStep.yield r)) (λok s₃ =>
      if ok=true then wpAny (model prog w) A (eval elt env) (λx s₄ =>
       wpAny (model prog w) A (call (.builtin "list.append") [acc,x]) (λ_ s₅=>∃m,m<n/\Iv m s₅) (notedBy (model prog w) A env λe s'=>R (.error e) s') s₄) (notedBy (model prog w) A env λe s'=>R (.error e) s') s₃
      else ∃m,m<n/\Iv m s₃) (notedBy (model prog w) A env λe s'=>R (.error e) s') s₂) (notedBy (model prog w) A env λe s'=>R (.error e) s') s₁') (notedBy (model prog w) A env λe s'=>R (.error e) s') s₁) (notedBy (model prog w) A env λe s'=>R (.error e) s') s)
  (n:Nat) (h:Iv n s) :
  codeAny (model prog w) A (.compLoop (.ListComp elt [⟨target,iter,ifs,0⟩] scope pos) 0 it acc env) R s:=by
 refine codeAny_loop Z Iv (λn s hI=>?_) n h;show wpAny _ A ((compTurn (.ListComp elt [⟨target,iter,ifs,0⟩] scope pos) 0 it acc env).onRaise λx=>do noteFrame x env;theTreesLotGoes x) _ _ s;refine wpAny_noted ?_;rw[compTurn_list];refine M (O5 (M (iH (turn n s hI) (λr s₁ h₁=>?_) λ_ _ h'=>h')));cases r with
 |none=>exact aj h₁
 |some v =>
  refine M (iH h₁ (λ_ s₁' h₁'=>M (iH h₁' (λ_ s₂ h₂=>M (iH h₂ (λok s₃ h₃=>?_) λ_ _ h'=>h')) λ_ _ h'=>h')) λ_ _ h'=>h');cases ok with
  |false=>exact aj ⟨Z,h₃⟩
  |true =>
   exact M (M (iH h₃ (λx s₄ h₄=>M (iH h₄ (λ_ s₅ h₅=>aj (aj ⟨Z,h₅⟩)) λ_ _ h'=>h')) λ_ _ h'=>h'))
def PTs(X:Cx)(ifs:List Expr)(t:TT):Prop :=
 ∀(Y:List (Addr×Obj)) (s:Shared) (σ:St) (H:Hp) (Q:Bool->Hp->Prop),bC X Y σ H s->t σ H Q->
  wpAny (model X.prog X.w) X.A (forIn ifs true λc r=>if r=true then do let ok <-isTrue c X.env (eval c X.env);pure (ForInStep.yield ok)else pure (ForInStep.yield r)) (TP X Y σ Q) X.xe s
def a5q:TT:=λ_ H Q=>Q true H
def gB:PTs X [] a5q:=λ_ _ _ H _ I h=>wpAny_tests_nil ⟨H,I,h⟩
def wQ{c:Expr}{t:TT}(h:PT X c t):PTs X [c] t:=λY s σ H Q I hw=>wpAny_tests_one (h Y s σ H Q I hw)
def nR(ix:List (Option Nat))(g:TG)(tt:TT)(te:TE)(σ:St)(H1:Hp)(Q:VK)(Z97:It):Prop:=∃W:Nat->Nat->List V->Hp->Prop,(∃m,W 0 m [] H1)/\∀i m ys H,W i m ys H->
 (Z97.stop i H/\ys.length<=sizeLine/\∀p,H p=none->Q (.ref p) (cM H p (.lst ys)))\/
 (Z97.go i H/\ys.length<=sizeLine/\∃N:List V->Hp->Prop,(∀ys' H',N ys' H'->∃m',m'<m/\W (i+1) m' ys' H')/\∀x H',Z97.Û i H x H'->g x (rF ix σ) H' λσ2 H2=>tt σ2 H2 λb H3=>if b=true then te σ2 H3 λv H4=>N (ys++[v]) H4 else N ys H3)
def tLC(ix:List (Option Nat))(wi:TI)(g:TG)(tt:TT)(te:TE):TE:=λσ H Q=>wi σ H λZ97 H1=>nR ix g tt te σ H1 Q Z97
section
variable{wi:TI}
def Ď(B:Xm X N' ix scope)(hc:X.calm=true)
  (hg:∀C s H fp xe,PG (uh X N' scope C s H fp xe) tg g) (ht:∀C s H fp xe,PTs (uh X N' scope C s H fp xe) ifs tt) (he:∀C s H fp xe,PE (uh X N' scope C s H fp xe) elt te) {s2:Shared}{H2:Hp}{fp:List Addr}{tn:Nat->Heap->Prop}{Z97:It}{RR:Value->Addr->Result->Shared->Prop}{E:Value->Shared->Prop}
  (I2:bC X Y σ H2 s2) (T:Turn X.prog X.w X.K tg Z97 fp it tn) (st2:tn 0 s2.heap) (f2:∀b∈fp,Gu X Y H2 b)
  (q:∃W:Nat->Nat->List V->Hp->Prop,(∃m,W 0 m [] H2)/\∀i m ys H,W i m ys H->
   (Z97.stop i H/\ys.length<=sizeLine/\∀p,H p=none->Q (.ref p) (cM H p (.lst ys)))\/
   (Z97.go i H/\ys.length<=sizeLine/\∃N:List V->Hp->Prop,(∀ys' H',N ys' H'->∃m',m'<m/\W (i+1) m' ys' H')/\∀x H',Z97.Û i H x H'->g x (rF ix σ) H' λσ2 H2=>tt σ2 H2 λb H3=>if b=true then te σ2 H3 λv H4=>N (ys++[v]) H4 else N ys H3))
  (hRR:∀D C s' H' ys,bC X Y σ (cM H' D (.lst ys)) s'->H' D=none->Q (.ref D) (cM H' D (.lst ys))->(∃m,s'.heap.Ns C m)->cM H' D (.lst ys) C=none->C≠X.env.locals->X.s₀.heap.objs.size<=C->(∀x c,X.env.cells.lookup x=some c->c≠C)->(∀p∈X.pn++Y,p.1≠C)->RR (.ref D) C (.ok .next) s') :
  wpAny (model X.prog X.w) X.A (newList []) (λacc s₃=>wpAny (model X.prog X.w) X.A (newFunctionEnv scope X.env.globals (wO X.env.cells scope.names []) [] X.env.qual none .none (some X.env)) (λcenv s₄ =>
   codeAny (model X.prog X.w) X.A (.compStart (.ListComp elt [⟨tg,iter,ifs,0⟩] scope pos) 0 (.ref it) acc { cenv with scope:=relabel scope X.env}) (RR acc cenv.locals) s₄) E s₃) E s2:=by
 have hfs:∀b∈fp,b<s2⁻¹:=λb hb=>by
  obtain⟨o,e,_⟩:=T.obj _ _ st2 b hb;exact aX e
 refine j6 (wpAny_newFunctionEnv B.č (by intro y hy;simp at hy) (λh₁ hns₁ hsb₁=>?_) B.kind);dsimp only at hns₁ hsb₁ ⊢;generalize hH3:s2.heap.push { cls:=.type "list",dict:=none,data:=.seq ([]:List Value).toArray}=H3 at hns₁ hsb₁ ⊢;have hC:H3.objs.size=s2⁻¹+1:=by rw[<-hH3,j7]
 have hDC:s2⁻¹≠H3.objs.size:=by rw[hC];exact bZ (Aw _)
 have below:∀b,b<s2⁻¹->b≠H3.objs.size/\b≠s2⁻¹:=λb hb=>⟨by rw[hC];exact bZ (Ir hb),bZ hb⟩;have old:∀b o,s2.heap.get? b=some o->h₁.get? b=some o:=λb o e=>hsb₁.extBut b o (below b (aX e)).1 (bx _ (hH3▸bx _ e));have hacc:h₁.get? s2⁻¹=some { cls:=.type "list",data:=.seq ([]:List Value).toArray 0}:=hsb₁.extBut _ _ hDC (bx _ (hH3▸bT _ Z));have hCle:s2⁻¹<=H3.objs.size:=by rw[hC];exact yj _
 generalize hD:s2⁻¹=D at *
 generalize hCC:H3.objs.size=C at *
 obtain⟨W,⟨m0,w0⟩,turn⟩:=q;let xe:Value->Shared->Prop:=notedBy (model X.prog X.w) X.A (compEnvC scope (wO X.env.cells scope.names []) C X.env) λe s'=>RR (.ref D) C (.error e) s';let X':Cx:=uh X N' scope C s2 H2 fp xe;have DL:D∉frs X.stack:=λz=>by
  rcases bU.mp (I2.Eu D z)with e|e
  ·exact absurd I2.lt (by rw[<-e,hD];exact wD _)
  ·exact I2.a4P (by rw[hD];exact aN _) e
 have Vx:∀x c,X.env.cells.lookup x=some c->c<D:=λx c e=>by
  obtain⟨v,oc,h,_⟩:=I2.cell x c e;rw[<-hD];exact aX h
 have ο:∀x c,(wO X.env.cells scope.names []).lookup x=some c->X.env.cells.lookup x=some c:=λx c h=>Cu scope.names [] (λ_ _ z=>by simp at z) h;have ď:∀p∈X.pn++Y,p.1<D:=λp hp=>by rw[<-hD];exact aX (I2.pin p hp).1
 have fpX:∀{pl:List (Addr×Obj)}{H':Hp},(∀b∈fp,H' b=none)->(∀p∈pl,p∈Y\/p.1=D)->∀b∈fp,Gu X' pl H' b:=λ{pl H'} hn hpl b hb=>by
  obtain⟨_,q1,q2,q3,q4,q5⟩:=f2 b hb;refine⟨hn b hb,(below b (hfs b hb)).1,λz=>?_,.inl hb,λx c e=>q4 x c (ο x c e),λp hp=>?_⟩
  ·rcases bU.mp (I2.Eu b z)with e|e
   ·exact q1 e
   ·exact q2 e
  ·rcases cL.mp hp with hp|hp
   ·exact q5 p (sI _ hp)
   ·rcases hpl p hp with z|z
    ·exact q5 p (iG _ z)
    ·rw[z];exact Ne.symm (below b (hfs b hb)).2
 have loop:∀s₃:Shared,s₃={ s2 with heap:=h₁,toks:=s2.toks+([]:List (Str×Value)).length}->
   codeAny (model X.prog X.w) X.A (.compLoop (.ListComp elt [⟨tg,iter,ifs,0⟩] scope pos) 0 (.ref it) (.ref D) (compEnvC scope (wO X.env.cells scope.names []) C X.env)) (RR (.ref D) C) s₃:=by
  rintro s₃ rfl;refine Rh (λn s'=>∃i H' ys bV k,bC X' Y (rF ix σ) H' s'/\tn i s'.heap/\(∀b∈fp,H' b=none)/\H' D=none/\s'.heap.get? D=some { cls:=.type "list",data:=.seq (List.toArray bV) k}/\cN ys bV/\W i n ys H') ?_ m0
   ⟨0,H2,[],[],0,Zd B I2 f2 (by rw[hD];exact hCle) (λb hb=>by rw[hD];exact hfs b hb) Z Z old hns₁,T.keep _ _ _ st2 λb _ o e=>old b o e,λb hb=>(f2 b hb).1,I2.hok.fresh (by rw[hD];exact aN _),hacc,.nil,w0⟩
  rintro n s' ⟨i,H',ys,bV,k,I',st',fr',hDn,hDo,rv,w'⟩;have hDX:∀v,({ cls:=.type "list",data:=.seq (List.toArray bV) k}:Obj).data≠.cell v:=λv z=>by
   have z':Data.seq (List.toArray bV) k=Data.cell v:=z;cases z'
  have a7a:∀{σ':St}{Tv:Hp}{s'':Shared}{its':List Value}{k':Nat},bC X' Y σ' Tv s''->Tv D=none->s''.heap.get? D=some { cls:=.type "list",data:=.seq (List.toArray its') k'}->bC X' (Y++[(D,{ cls:=.type "list",data:=.seq (List.toArray its') k'})]) σ' Tv s'':=λ{σ' Tv s'' its' k'} Z97 hn ho =>
   Z97.Hj λp hp=>(cL.mp hp).elim (λz=>Z97.pin p (iG _ z)) λz=>by
    have e:p=(D,{ cls:=.type "list",data:=.seq (List.toArray its') k'}):=by simpa using z
    subst e;exact⟨ho,hn,hDC,DL,λv z=>by
     have z':Data.seq (List.toArray its') k'=Data.cell v:=z;cases z'⟩
  have plD:∀{its':List Value}{k':Nat},∀p∈Y++[(D,({ cls:=.type "list",data:=.seq (List.toArray its') k'}:Obj))],p∈Y\/p.1=D:=λ{its' k'} p hp=>(cL.mp hp).elim .inl λz=>by
   have e:p=(D,{ cls:=.type "list",data:=.seq (List.toArray its') k'}):=by simpa using z
   subst e;exact .inr rfl
  have unD:∀{pl:List (Addr×Obj)}{σ':St}{Tv:Hp}{s'':Shared},bC X' (Y++pl) σ' Tv s''->bC X' Y σ' Tv s'':=λZ97=>Z97.Hj λp hp=>Z97.pin p (iG _ (sI _ hp));have I'p:=a7a I' hDn hDo;rcases turn i n ys H' w' with⟨stop,hsz,fin⟩|⟨go,hsz,N,hN,step⟩
  ·refine iH (T.done X' Z Z Z hc i _ s' (rF ix σ) H' X'.xe I'p (fpX fr' plD) st' stop) (λr s5 ⟨hr,I5⟩=>?_) λ_ _ z=>z;subst hr;have a7b:s5.heap.get? D=some { cls:=.type "list",data:=.seq (List.toArray bV) k}:=(I5.pin (D,_) (iG _ (iG _ (bM.mpr Z)))).1;have sz0:X.s₀.heap.objs.size<=D:=by rw[<-hD];exact I2.sz
   have Z97:bC X Y σ H' s5:=I2.call' (ch:=fp) I5.os I5.base I5.hok I5.bare λb hb=>by
    obtain⟨_,q1,_,q3,q4,q5⟩:=f2 b hb;exact⟨q3,q1,q4,q5⟩
   have nL:X.env.locals<D:=by rw[<-hD];exact I2.lt
   have J2:bC X Y σ (cM H' D (.lst ys)) s5:=bC.track Z97 hDn sz0 (gG nL) (λx c e=>bZ (Vx x c e)) (λp hp=>bZ (ď p hp)) ⟨hsz,bV,k,rv,a7b⟩;obtain⟨mC,hnC,_⟩:=I5.loc;have a3g:D<C:=Nat.lt_of_le_of_ne hCle hDC;refine hRR D C s5 H' ys J2 hDn (fin D hDn) ⟨mC,hnC⟩ ?_ (gG (u5 nL a3g)) (dF sz0 hCle) (λx c e=>bZ (u5 (Vx x c e) a3g)) λp hp=>bZ (u5 (ď p hp) a3g);rw[aU (Ne.symm hDC)];exact I5.free
  ·refine iH (T.item X' Z Z Z hc i _ s' (rF ix σ) H' X'.xe I'p (fpX fr' plD) st' go) (λr s5 ⟨u,hr,h5⟩=>?_) λ_ _ z=>z;subst hr;refine iH h5 (λ_ s6 ⟨x,H6,I6,r6,y6,st6,fr6⟩=>?_) λ_ _ z=>z;have I6':=I6.pinned (fpX fr6 plD) (T.obj _ _ st6);refine iH (hg C s2 H2 fp xe _ s6 (rF ix σ) H6 x u _ I6' r6 (step x H6 y6)) (λ_ s7 ⟨Xc,H7,I7,q7⟩=>?_) λ_ _ z=>z;have after:∀{σ8:St}{H8:Hp}{s8:Shared},bC X' ((Y++[(D,{ cls:=.type "list",data:=.seq (List.toArray bV) k})])++wI fp s6.heap) σ8 H8 s8->
     bC X' Y (rF ix σ) H8 s8/\tn (i+1) s8.heap/\(∀b∈fp,H8 b=none)/\H8 D=none/\s8.heap.get? D=some { cls:=.type "list",data:=.seq (List.toArray bV) k}:=λ{σ8 H8 s8} I8=>by
    have pD:=I8.pin (D,{ cls:=.type "list",data:=.seq (List.toArray bV) k}) (iG _ (sI _ (iG _ (bM.mpr Z))));have fpP:∀b∈fp,∀o,s6.heap.get? b=some o->s8.heap.get? b=some o/\H8 b=none:=λb hb o e=>by
     have z:=I8.pin (b,o) (iG _ (iG _ (uf hb e)));exact⟨z.1,z.2.1⟩
    refine⟨⟨I8.ok,I8.os,I8.bare,I8.base,?_,I8.cell,I8.free,I8.ud,λp hp=>?_,I8.hok,?_⟩,T.keep _ _ _ st6 λb hb o e=>(fpP b hb o e).1,λb hb=>?_,pD.2.1,pD.1⟩
    ·obtain⟨m8,hn8,_⟩:=I8.loc;refine⟨m8,hn8,λi x v h1 h2 h3=>?_⟩;obtain⟨u,c,r,hc1,hc2,⟨oc,z1,z2⟩,hk'⟩:=Mq B I2 h1 h2;obtain⟨sl,e8⟩:=I8.base.any z1 (I2.ud x c hc2) λz=>(f2 c z).2.2.2.2.1 x c hc2 rfl;exact⟨u,r,.inr ⟨hk',c,hc1,_,e8,z2⟩⟩
    ·rcases cL.mp hp with hp|hp
     ·exact I8.pin p (sI _ hp)
     ·exact I8.pin p (iG _ (sI _ (sI _ hp)))
    ·show(rF ix σ).length=N'.length;unfold rF;rw[aM];exact B.len
    ·obtain⟨o,e,_⟩:=T.obj _ _ st6 b hb;exact(fpP b hb o e).2
   refine iH (ht C s2 H2 fp xe _ s7 Xc H7 _ I7 q7) (λb s8 ⟨H8,I8,q8⟩=>?_) λ_ _ z=>z;cases b with
   |false =>
    rw[aq cY]at q8 ⊢;obtain⟨m',hm,w8⟩:=hN _ _ q8;obtain⟨Z97,tn8,f8,d8,o8⟩:=after I8;exact⟨m',hm,i+1,H8,ys,bV,k,Z97,tn8,f8,d8,o8,rv,w8⟩
   |true =>
    rw[aB rfl]at q8 ⊢;refine iH (he C s2 H2 fp xe _ s8 Xc H8 _ I8 q8) (λv s9 ⟨y,H9,I9,r9,q9⟩=>?_) λ_ _ z=>z;obtain⟨Z97,tn9,f9,d9,o9⟩:=after I9;obtain⟨m',hm,w9⟩:=hN _ _ q9;refine append_at (hsz:=by rw[gR,<-rv.length];exact hsz) o9 λh10 a5r a5s=>?_;refine⟨m',hm,i+1,H9,ys++[y],bV++[v],k+1,?_,T.keep _ _ _ tn9 λb hb o e=>a5r.extBut b o (λz=>?_) e,f9,d9,by rw[List.push_toArray]at a5s;exact a5s,rv.append (.cons r9 .nil),w9⟩
    ·refine Z97.turned (t':=s9.toks) (it:=D) (λb o hb e=>a5r.extBut b o hb e) d9 hDC (.inr (by show s2⁻¹<=D;rw[hD];exact aN _)) (λx c e=>bZ (Vx x c (ο x c e))) λp hp=>bZ (ď p hp)
    ·exact(below b (hfs b hb)).2 z
 exact codeAny_compStart_list (loop _ Z) (T.self X.A 0 _ _ _ (T.keep _ _ _ st2 λb _ o e=>old b o e) (loop _ Z))
end
def Cy(outer:Scope)(N N':List Str)(ix:List (Option Nat))(scope:Scope):Bool :=
 (scope.kind==.function)&&(scope.names.all λy=>y.2 != .cell)&&(scope.names.all λy=>y.2 != .local||scope.names.lookup y.1==some .local) &&
 (scope.names.all λy=>y.2 != .free||outer.names.lookup y.1==some .cell||outer.names.lookup y.1==some .free)&&(ix.length==N'.length) &&
 (List.range ix.length).all λi=>match ix[i]? with
  |some (some j)=>(match N'[i]? with|some x=>N[j]?==some x&&scope.names.lookup x==some .free|none=>false)
  |_=>true
def Đ(h:Cy X.env.scope X.N N' ix scope=true):Xm X N' ix scope:=by
 unfold Cy at h;simp only[Bool.and_eq_true]at h;obtain⟨⟨⟨⟨⟨h1,h2⟩,h3⟩,h4⟩,h5⟩,h6⟩:=h;refine⟨?_,λy hy=>?_,λy hy hl=>?_,λy hy hl=>?_,(),λi j e=>?_⟩
 ·grind
 ·grind
 ·grind
 ·have:=IK.mp h4 y hy;rw[hl]at this;simp at this;exact this
 grind
section
variable{wi:TI}
def kE(N':List Str)(ix:List (Option Nat))(hB:Cy X.env.scope X.N N' ix scope=true)(hc:X.calm=true)(hi:PI X tg iter wi)
  (hg:∀C s H fp xe,PG (uh X N' scope C s H fp xe) tg g) (ht:∀C s H fp xe,PTs (uh X N' scope C s H fp xe) ifs tt) (he:∀C s H fp xe,PE (uh X N' scope C s H fp xe) elt te)
  (hs:∀x,foldedSetIterable iter X.env x=pure x:=by intro _;rfl):PE X (.ListComp elt [⟨tg,iter,ifs,0⟩] scope pos) (tLC ix wi g tt te):=by
 intro Y s σ H Q I h;have B:=Đ hB;rw[eval_ListComp];refine ð (use:=none) Z hs (Jo λy hy hf=>I.ok.has y.1 (B.free y hy hf)) B.kind B.locs (jx (hi Y s σ H _ I h) λv s1 h1=>jx h1 λitv s2 h2=>?_);obtain⟨it,fp,tn,Z97,H2,e,I2,T,st2,f2,q⟩:=h2;subst e;refine Ď B hc hg ht he I2 T st2 f2 q ?_;intro D C s' H' ys J2 hDn hq ⟨m,hn⟩ hC1 hC2 hC3 hC4 hC5;exact⟨m,hn,λh' hs'=>⟨.ref D,_,J2.turned (t':=s'.toks) (it:=C) (λb o hb e=>hs'.extBut b o hb e) hC1 hC2 (.inr hC3) hC4 hC5,Z,hq⟩⟩
def Cz{i:Nat}{pos' spos:Pos}(N':List Str)(ix:List (Option Nat))(hN:X.N.Nodup)(hi':X.N[i]?=some x)(hx:X.env.scope.names.lookup x=some .local)
  (hB:Cy X.env.scope X.N N' ix scope=true) (hc:X.calm=true) (hi:PI X tg iter wi)
  (hg:∀C s H fp xe,PG (uh X N' scope C s H fp xe) tg g) (ht:∀C s H fp xe,PTs (uh X N' scope C s H fp xe) ifs tt) (he:∀C s H fp xe,PE (uh X N' scope C s H fp xe) elt te)
  (hsw:swapsWith (.ListComp elt [⟨tg,iter,ifs,0⟩] scope pos) (some (.Name x pos')) spos.line X.env=pure true)
  (hs:∀x,foldedSetIterable iter X.env x=pure x:=by intro _;rfl):PS X (.Assign [.Name x pos'] (.ListComp elt [⟨tg,iter,ifs,0⟩] scope pos) spos) (a2O (tLC ix wi g tt te) (W9 i)):=by
 intro Y s σ H D0 I h;have B:=Đ hB;rw[exec_Assign_Name_used _ _ _ _ hsw];refine M (O5 (M ?_));show wpAny _ X.A (do let _ <-comprehension (.ListComp elt [⟨tg,iter,ifs,0⟩] scope pos) scope X.env _ (newList []) false (eval iter X.env) (some (assign (.Name x pos') X.env))) _ _ s;refine M (iH (ð (use:=some (assign (.Name x pos') X.env)) (Q:=λ_ s'=>SP X Y D0 .next s') Z hs (Jo λy hy hf=>I.ok.has y.1 (B.free y hy hf)) B.kind B.locs
  (jx (hi Y s σ H _ I h) λv s1 h1=>jx h1 λitv s2 h2=>?_)) (λ_ s' hq=>aj (aj hq)) λ_ _ e=>e)
 obtain⟨it,fp,tn,Z97,H2,e,I2,T,st2,f2,q⟩:=h2;subst e;refine Ď (Q:=λx H1=>W9 i x σ H1 D0.nx) B hc hg ht he I2 T st2 f2 q ?_;intro D C s' H' ys J2 hDn hq ⟨m,hn⟩ hC1 hC2 hC3 hC4 hC5;show wpAny _ X.A (assign (.Name x pos') X.env (.ref D)) _ _ _;refine wpAny_assign_Name (LQ (v:=.ref D) J2 hN hi' (.inl hx) Z (λs'' I'' hsb=>?_) (.inr hx));obtain⟨a,hsb,ha⟩:=hsb;have aC:C≠a:=by
  rcases ha with rfl|ha
  ·exact hC2
  ·exact λz=>hC4 x a ha z.symm
 exact⟨m,hn.sameBut hsb aC,λh'' hs''=>⟨_,_,I''.turned (t':=s''.toks) (it:=C) (λb o hb e=>hs''.extBut b o hb e) hC1 hC2 (.inr hC3) hC4 hC5,hq⟩⟩
end
section
variable{K:aH}{xs:List V}
def uN(Pv:Nat->List V->Hp->Prop)(h0:Pv 0 [] H1)(hl:∀i ys H,i<=xs.length->Pv i ys H->bI K H a xs/\ys.length<=sizeLine)
  (hs:∀i x ys H,xs[i]?=some x->Pv i ys H->g x (rF ix σ) H λσ2 H2=>tt σ2 H2 λb H3=>if b=true then te σ2 H3 λv H4=>Pv (i+1) (ys++[v]) H4 else Pv (i+1) ys H3)
  (hd:∀ys H,Pv xs.length ys H->∀p,H p=none->Q (.ref p) (cM H p (.lst ys))):nR ix g tt te σ H1 Q (θ K a):=by
 refine⟨λi m ys H=>m=xs.length-i/\i<=xs.length/\Pv i ys H,⟨xs.length,by simp,dG _,h0⟩,?_⟩;rintro i m ys H ⟨rfl,hi,p⟩;obtain⟨q,z⟩:=hl i ys H hi p;by_cases hlt:i<xs.length
 ·refine .inr ⟨⟨xs,xs[i],q,by simp[hlt]⟩,z,Pv (i+1),λys' H' p'=>⟨xs.length-(i+1),(),Z,hlt,p'⟩,λx H' y=>?_⟩;obtain⟨e,y⟩:=y;subst e;exact hs i x ys _ (y xs q) p
 ·have e:i=xs.length:=()
  subst e;exact .inl ⟨⟨xs,q,aN _⟩,z,hd ys H p⟩
def yu{lo:Int}(Pv:Nat->List V->Hp->Prop)(h0:Pv 0 [] H1)(hl:∀i ys H,i<=n->Pv i ys H->ys.length<=sizeLine)
  (hs:∀i ys H,i<n->Pv i ys H->g (.int (lo+i)) (rF ix σ) H λσ2 H2=>tt σ2 H2 λb H3=>if b=true then te σ2 H3 λv H4=>Pv (i+1) (ys++[v]) H4 else Pv (i+1) ys H3)
  (hd:∀ys H,Pv n ys H->∀p,H p=none->Q (.ref p) (cM H p (.lst ys))):nR ix g tt te σ H1 Q (Xb lo n):=by
 refine⟨λi m ys H=>m=n-i/\i<=n/\Pv i ys H,⟨n,by simp,dG _,h0⟩,?_⟩;rintro i m ys H ⟨rfl,hi,p⟩;have z:=hl i ys H hi p;by_cases hlt:i<n
 ·refine .inr ⟨hlt,z,Pv (i+1),λys' H' p'=>⟨n-(i+1),(),Z,hlt,p'⟩,λx H' y=>?_⟩;obtain⟨e,y⟩:=y;subst e y;exact hs i ys _ hlt p
 ·have e:i=n:=()
  subst e;exact .inl ⟨aN _,z,hd ys H p⟩
end
def a5t{K:aH}{xs:List V}(f:V->Option V)(hx:bI K H1 a xs)(hz:xs.length<=sizeLine)
  (hs:∀x H (N:Option V->Hp->Prop),x∈xs->aJ H1 H->(∀H',aJ H1 H'->N (f x) H')->g x (rF ix σ) H λσ2 H2=>tt σ2 H2 λb H3=>if b=true then te σ2 H3 λv H4=>N (some v) H4 else N none H3)
  (hd:∀H p,aJ H1 H->H p=none->Q (.ref p) (cM H p (.lst (xs.filterMap f)))):nR ix g tt te σ H1 Q (θ K a):=by
 refine uN (K:=K) (a:=a) (xs:=xs) (λi ys H=>ys=(xs.take i).filterMap f/\aJ H1 H) ⟨Z,aJ.refl _⟩ (λi ys H hi ⟨e,s⟩=>⟨s.seq hx,?_⟩) (λi x ys H hi ⟨e,s⟩=>?_) λys H ⟨e,s⟩ p hp=>?_
 ·subst e;refine dF (TX _ _) (dF ?_ hz);rw[fZ];exact Ut _ _
 ·have hm:x∈xs:=jf hi;obtain⟨hil,hix⟩:=fY.mp hi;have et:xs.take (i+1)=xs.take i++[x]:=by rw[Af hil,hix]
  refine hs x H (λo H'=>match o with|some v=>(ys++[v]=(xs.take (i+1)).filterMap f/\aJ H1 H')|none=>(ys=(xs.take (i+1)).filterMap f/\aJ H1 H')) hm s λH' s'=>?_;cases ef:f x with
  |some v =>
   refine⟨?_,s'⟩;rw[e,et,xY];simp[ef]
  |none =>
   refine⟨?_,s'⟩;rw[e,et,xY];simp[ef]
 ·subst e;rw[iV];exact hd H p s hp
def a3h{lo:Int}(f:Nat->Option V)(hz:n<=sizeLine)
  (hs:∀i H (N:Option V->Hp->Prop),i<n->aJ H1 H->(∀H',aJ H1 H'->N (f i) H')->g (.int (lo+i)) (rF ix σ) H λσ2 H2=>tt σ2 H2 λb H3=>if b=true then te σ2 H3 λv H4=>N (some v) H4 else N none H3)
  (hd:∀H p,aJ H1 H->H p=none->Q (.ref p) (cM H p (.lst ((List.range n).filterMap f)))):nR ix g tt te σ H1 Q (Xb lo n):=by
 refine yu (λi ys H=>ys=(List.range i).filterMap f/\aJ H1 H) ⟨Z,aJ.refl _⟩ (λi ys H hi ⟨e,s⟩=>?_) (λi ys H hi ⟨e,s⟩=>?_) λys H ⟨e,s⟩ p hp=>?_
 ·grind
 ·refine hs i H (λo H'=>match o with|some v=>(ys++[v]=(List.range (i+1)).filterMap f/\aJ H1 H')|none=>(ys=(List.range (i+1)).filterMap f/\aJ H1 H')) hi s λH' s'=>?_;cases ef:f i with
  |some v =>
   refine⟨?_,s'⟩;rw[e,wA,xY];simp[ef]
  |none =>
   refine⟨?_,s'⟩;rw[e,wA,xY];simp[ef]
 grind
mutual
inductive K7(K:aH) (H:Hp):V->PyData->Prop
 |non:K7 K H .non .none
 |bl (b:Bool):K7 K H (.bl b) (.bool b)
 |int (i:Int):K7 K H (.int i) (.int i)
 |str (x:Str):K7 K H (.str x) (.str x)
 |lst {a:Addr}{xs:List V}{ds:List PyData}:bI K H a xs->wR K H xs ds->K7 K H (.ref a) (.list ds)
 |tup {a:Addr}{xs:List V}{ds:List PyData}:cH K H a xs->wR K H xs ds->K7 K H (.ref a) (.tuple ds)
inductive wR(K:aH) (H:Hp):List V->List PyData->Prop
 |nil:wR K H [] []
 |cons {x:V}{xs:List V}{d:PyData}{ds:List PyData}:K7 K H x d->wR K H xs ds->wR K H (x::xs) (d::ds)
end
def aJ.wU{K:aH}{H:Hp}{xs:List V}(e:aJ H H')(h:cH K H a xs):cH K H' a xs:=by
 rcases h with(h|⟨o,h⟩)|h
 ·exact .inl (.inl (e _ _ h))
 ·exact .inl (.inr ⟨o,e _ _ h⟩)
 ·exact .inr h
def K7.reads{H:Hp}(I:bC X Y σ H s){v:V}{d:PyData}{u:Value}(h:K7 X.K H v d)(r:cQ v u):∃as,Reads s.heap u d as:=by
 refine K7.rec (motive_1:=λv d _=>∀u,cQ v u->∃as,Reads s.heap u d as) (motive_2:=λxs ds _=>∀us,cN xs us->∃as,ReadsAll s.heap us ds as) (λu r=>?_) (λb u r=>?_) (λi u r=>?_) (λx u r=>?_) (λh q ih u r=>?_) (λh q ih u r=>?_) (λus q=>?_) (λh q ih jh us z=>?_) h u r
 ·cases r;exact⟨_,.none⟩
 ·cases r;exact⟨_,.bool b⟩
 ·obtain⟨t,rfl⟩:=r;exact⟨_,.int i t⟩
 ·obtain⟨t,rfl⟩:=r;exact⟨_,.str x t⟩
 ·cases r;obtain⟨bV,rv,⟨o,n,e,c,_,d⟩,_⟩:=I.list h;obtain⟨as,ra⟩:=ih _ rv;exact⟨_,.list e c d (by simpa using ra)⟩
 ·cases r;obtain⟨bV,rv,⟨o,e,c,n,d⟩,_⟩:=I.tuple h;obtain⟨as,ra⟩:=ih _ rv;exact⟨_,.tuple e c d (by simpa using ra)⟩
 ·cases q;exact⟨_,.nil⟩
 ·cases z with
  |cons r t =>
  obtain⟨as,ra⟩:=ih _ r;obtain⟨bs,rb⟩:=jh _ t;exact⟨_,.cons ra rb⟩
theorem wR.ints{K:aH}{H:Hp}:∀ns:List Int,wR K H (ns.map V.int) (ns.map PyData.int)
 | []=>.nil
 |n::ns=>.cons (.int n) (wR.ints ns)
inductive a0q(K:aH)(neg:Bool)(x:V)(y:V)(H:Hp)(Q:VK):Prop
 |mk (d d':_) (_:K7 K H x d) (_:K7 K H y d') (_:SeqAt.shaped d=true) (_:SeqAt.shaped d'=true) (_:Q (.bl (if neg then !PyData.eqv d d' else PyData.eqv d d')) H)
def a3i(hu:X.A.units+64<cLine):sS X (compareOp .Eq) (a0q X.K false):=by
 intro Y s σ H x y v u Q I rx ry h;obtain⟨d,d',h1,h2,s1,s2,q⟩:=h;obtain⟨as,ra⟩:=h1.reads I rx;obtain⟨bs,rb⟩:=h2.reads I ry;exact eq_dataH ra rb s1 s2 hu ⟨.bl _,H,I,Z,q⟩
def a3j(hu:X.A.units+64<cLine):sS X (compareOp .NotEq) (a0q X.K true):=by
 intro Y s σ H x y v u Q I rx ry h;obtain⟨d,d',h1,h2,s1,s2,q⟩:=h;obtain⟨as,ra⟩:=h1.reads I rx;obtain⟨bs,rb⟩:=h2.reads I ry;exact ne_dataH ra rb s1 s2 hu ⟨.bl _,H,I,Z,q⟩
inductive Vy(K:aH)(neg:Bool)(x:V)(y:V)(H:Hp)(Q:VK):Prop
 |mk (d ds:_) (_:K7 K H x d) (_:K7 K H y (.list ds)) (_:SeqAt.shaped d=true) (_:SeqAt.shaped (.list ds)=true) (_:Q (.bl (if neg then !ds.any (λe=>PyData.eqv e d)else ds.any (λe=>PyData.eqv e d))) H)
def a3k(hu:X.A.units+65<cLine):sS X (compareOp .In) (Vy X.K false):=by
 intro Y s σ H x y v u Q I rx ry h;obtain⟨d,ds,h1,h2,s1,s2,q⟩:=h;obtain⟨as,ra⟩:=h1.reads I rx;obtain⟨bs,rb⟩:=h2.reads I ry;exact SeqAt.in_list_reads rb ra (Al s2) (Al s1) (room_in_shaped s1 hu) ⟨.bl _,H,I,Z,q⟩
def Ze(hu:X.A.units+65<cLine):sS X (compareOp .NotIn) (Vy X.K true):=by
 intro Y s σ H x y v u Q I rx ry h;obtain⟨d,ds,h1,h2,s1,s2,q⟩:=h;obtain⟨as,ra⟩:=h1.reads I rx;obtain⟨bs,rb⟩:=h2.reads I ry;exact SeqAt.notIn_list_reads rb ra (Al s2) (Al s1) (room_in_shaped s1 hu) ⟨.bl _,H,I,Z,q⟩
def a3l:V->Option Value
 |.ty n=>some (.type n)
 |.ref a=>some (.ref a)
 |_=>none
def đ{c:V}{cv u:Value}(h:a3l c=some cv)(r:cQ c u):u=cv:=by
 cases c with
 |ty n=>cases h;exact r
 |ref a=>cases h;exact r
 |_=>cases h
def Ri:jG X (.builtin "isinstance") (λxs H Q=>∃x c cv t b,xs=[x,c]/\a3l c=some cv/\ug X.K H x t/\PySem.W.kitOne X.K t cv=some b/\Q (.bl b) H):=by
 intro Y s σ H xs us Q I r h;obtain⟨x,c,cv,t,b,rfl,hc,ty,hk,q⟩:=h;obtain⟨u1,u2,rfl,r1,r2⟩:=vals2 r;obtain rfl:=đ hc r2;exact Y5 I r1 ty hk λtk=>⟨.bl b,H,I.tok tk,Z,q⟩
abbrev Cx.in1(X:Cx):Cx:={ X with A:=X.A.in1}
def bC.in1{Y:List (Addr×Obj)}{σ:St}{H:Hp}{s:Shared}(I:bC X Y σ H s):bC X.in1 Y σ H s :=
 ⟨⟨I.ok.mod,I.ok.kind,I.ok.glob,I.ok.blt,I.ok.above,I.ok.inj,I.ok.has,I.ok.cab,I.ok.hd,I.ok.frames,I.ok.stk,I.ok.exf,I.ok.bs,I.ok.η,I.ok.U8,I.ok.YT,I.ok.Ce,I.ok.frf⟩,I.os,I.bare,I.base,I.loc,I.cell,I.free,I.ud,I.pin,I.hok,I.len⟩
def bC.of_in1{H:Hp}(I:bC X.in1 Y σ H s):bC X Y σ H s :=
 ⟨⟨I.ok.mod,I.ok.kind,I.ok.glob,I.ok.blt,I.ok.above,I.ok.inj,I.ok.has,I.ok.cab,I.ok.hd,I.ok.frames,I.ok.stk,I.ok.exf,I.ok.bs,I.ok.η,I.ok.U8,I.ok.YT,I.ok.Ce,I.ok.frf⟩,I.os,I.bare,I.base,I.loc,I.cell,I.free,I.ud,I.pin,I.hok,I.len⟩
def pB(K:aH)(H:Hp)(xs:List V)(bs:List Bool):Prop:=Paired (λx b=>ÿ K x H b) xs bs
theorem pB.get{K:aH}{H:Hp}:∀{xs:List V}{bs:List Bool}{i:Nat}{x:V},pB K H xs bs->xs[i]?=some x->∃b,bs[i]?=some b/\ÿ K x H b
 |_,_,_,_,.nil,h=>by simp at h
 |_,_,0,_,.cons h r,e=>by
  grind
 |_,_,i+1,_,.cons h r,e=>by
  obtain⟨d,e1,q⟩:=pB.get (i:=i) r (by simpa using e)
  exact⟨d,by simpa using e1,q⟩
theorem pB.bls{K:aH}{H:Hp}:∀bs:List Bool,pB K H (bs.map V.bl) bs
 | []=>.nil
 |b::bs=>.cons Z (pB.bls bs)
def Ē{H:Hp}{p:Addr}{ys:List V}{bs:List Bool}(hc:X.calm=true)(hq:bI X.K H p ys)(ht:pB X.K H ys bs)(f:Gu X Y H it) :
  ∀(k i:Nat) (s:Shared),ys.length-i=k->bC X Y σ H s->s.heap.IsListIter it p i->(∀s',bC X Y σ H s'->R (.ok (.ret (.bool ((bs.drop i).all id)))) s')->
  codeAny (model X.prog X.w) X.A (.builtin "all.loop" ⟨[.ref it],[]⟩) R s:=by
 obtain⟨f0,f1,f2,f3,f4,f5⟩:=f;intro k
 induction k with
 |zero =>
  intro i s hk I st hR;obtain⟨bV,rv,pl,hz⟩:=I.list hq;have hl:=rv.length;refine mJ F.entry_all_loop ?_;rw[nF Oo _];show wpAny _ X.A.in1 (pyNext (.ref it) >>= _) _ _ s;refine M (wpAny_pyNext_list_end (I.ok.hd hc) st pl.isList (by simp;omega) λh' eb=>?_);refine M (j8 (aj ?_));have q:=hR _ (I.turned (t':=s.toks) (λb o hb e=>eb b o hb e) f0 f1 f3 f4 f5);have hlb:bs.length=ys.length:=(aQ ht).symm;rw[List.drop_of_length_le ()]at q;exact q
 |succ k ih =>
  intro i s hk I st hR;obtain⟨bV,rv,pl,hz⟩:=I.list hq;have hl:=rv.length;have hlt:i<ys.length:=()
  have hx:ys[i]?=some ys[i]:=by simp[hlt]
  obtain⟨u,hu,ru⟩:=rv.get hx;obtain⟨b,hb,tb⟩:=ht.get hx;refine mJ F.entry_all_loop ?_;rw[nF Oo _];show wpAny _ X.A.in1 (pyNext (.ref it) >>= _) _ _ s;refine M (T6 st pl.isList (x:=u) () λh' st' sb=>?_);have I1:bC X Y σ H { s with heap:=h'}:=I.turned (t':=s.toks) (λb o hb e=>(sb.2 b hb).trans e) f0 f1 f3 f4 f5;have hdb:bs.drop i=b::bs.drop (i+1):=by
   obtain⟨hlb,eb⟩:=fY.mp hb;rw[Ih hlb,eb]
  rw[hdb]at hR;have I1p:bC X (Y++wI [it] h') σ H { s with heap:=h'}:=I1.pinned (fp:=[it]) (λc hcc=>by rw[bM.mp hcc];exact⟨f0,f1,f2,f3,f4,f5⟩) λc hcc=>by
   rw[bM.mp hcc];obtain⟨o,e,c',d⟩:=st';grind
  refine M (fB (iH (Vg (X:=X.in1.nox) _ _ σ H ys[i] u (λc H'=>c=b/\H'=H) ((bC.in1 I1p).wish _) ru ⟨b,tb,Z,Z⟩) (λc s2 ⟨H',I2,e1,e2⟩=>?_) λ_ _ z=>False.elim z));rw[e2]at I2;subst e1;have I2':bC X (Y++wI [it] h') σ H s2:=bC.of_in1 I2.u6;have ē:bC X Y σ H s2:=I2'.yr;have st2:s2.heap.IsListIter it p (i+1):=st'.at λo e=>(I2'.pin (it,o) (iG _ (iG _ (uf (bM.mpr Z) e)))).1;refine M (yp ?_);cases c with
  |true =>
   simp only[if_true];exact aj ⟨oX Oo _,ih (i+1) s2 () ē st2 λs' I'=>by simpa using hR s' I'⟩
  |false =>
   simp only[Bool.false_eq_true,if_false];refine M (j8 (aj ?_));simpa using hR s2 ē
def Zf(hc:X.calm=true):jG X (.builtin "all") (λxs H Q=>∃p ys bs,xs=[.ref p]/\bI X.K H p ys/\pB X.K H ys bs/\Q (.bl (bs.all id)) H):=by
 intro Y s σ H xs us Q I r h;obtain⟨p,ys,bs,rfl,hq,ht,q⟩:=h;obtain⟨u,rfl,rx⟩:=vals1 r;cases rx;refine call_function_tree F.kind_all F.plain_all F.entry_all (F.args_all1 _) ?_;unfold Builtin.«all»;refine M (m:=oneArg "all" _) (aj ?_);obtain⟨bV,rv,pl,hz⟩:=I.list hq;refine M (wu pl.isList ?_);have I1:bC X Y σ H { s with heap:=s.heap.push { cls:=.type "list_iterator",data:=.fields #[.ref p,.int 0 0]}}:=I.kept (t':=s.toks) λb o e=>bx _ e;refine aj ⟨oX Oo _,Ē hc hq ht (I.Gv (aN _) (I.hok.fresh (aN _))) ys.length 0 _ (Bc _) I1 ⟨_,bT _ Z,Z,Z⟩ λs' I'=>?_⟩;exact⟨.bl _,H,I',Z,by simpa using q⟩
def Ĕ{H:Hp}{p:Addr}{ys:List V}{bs:List Bool}(hc:X.calm=true)(hq:bI X.K H p ys)(ht:pB X.K H ys bs)(f:Gu X Y H it) :
  ∀(k i:Nat) (s:Shared),ys.length-i=k->bC X Y σ H s->s.heap.IsListIter it p i->(∀s',bC X Y σ H s'->R (.ok (.ret (.bool ((bs.drop i).any id)))) s')->
  codeAny (model X.prog X.w) X.A (.builtin "any.loop" ⟨[.ref it],[]⟩) R s:=by
 obtain⟨f0,f1,f2,f3,f4,f5⟩:=f;intro k
 induction k with
 |zero =>
  intro i s hk I st hR;obtain⟨bV,rv,pl,hz⟩:=I.list hq;have hl:=rv.length;refine mJ F.entry_any_loop ?_;rw[nF Oq _];show wpAny _ X.A.in1 (pyNext (.ref it) >>= _) _ _ s;refine M (wpAny_pyNext_list_end (I.ok.hd hc) st pl.isList (by simp;omega) λh' eb=>?_);refine M (j8 (aj ?_));have q:=hR _ (I.turned (t':=s.toks) (λb o hb e=>eb b o hb e) f0 f1 f3 f4 f5);have hlb:bs.length=ys.length:=(aQ ht).symm;rw[List.drop_of_length_le ()]at q;exact q
 |succ k ih =>
  intro i s hk I st hR;obtain⟨bV,rv,pl,hz⟩:=I.list hq;have hl:=rv.length;have hlt:i<ys.length:=()
  have hx:ys[i]?=some ys[i]:=by simp[hlt]
  obtain⟨u,hu,ru⟩:=rv.get hx;obtain⟨b,hb,tb⟩:=ht.get hx;refine mJ F.entry_any_loop ?_;rw[nF Oq _];show wpAny _ X.A.in1 (pyNext (.ref it) >>= _) _ _ s;refine M (T6 st pl.isList (x:=u) () λh' st' sb=>?_);have I1:bC X Y σ H { s with heap:=h'}:=I.turned (t':=s.toks) (λb o hb e=>(sb.2 b hb).trans e) f0 f1 f3 f4 f5;have hdb:bs.drop i=b::bs.drop (i+1):=by
   obtain⟨hlb,eb⟩:=fY.mp hb;rw[Ih hlb,eb]
  rw[hdb]at hR;have I1p:bC X (Y++wI [it] h') σ H { s with heap:=h'}:=I1.pinned (fp:=[it]) (λc hcc=>by rw[bM.mp hcc];exact⟨f0,f1,f2,f3,f4,f5⟩) λc hcc=>by
   rw[bM.mp hcc];obtain⟨o,e,c',d⟩:=st';grind
  refine M (fB (iH (Vg (X:=X.in1.nox) _ _ σ H ys[i] u (λc H'=>c=b/\H'=H) ((bC.in1 I1p).wish _) ru ⟨b,tb,Z,Z⟩) (λc s2 ⟨H',I2,e1,e2⟩=>?_) λ_ _ z=>False.elim z));rw[e2]at I2;subst e1;have I2':bC X (Y++wI [it] h') σ H s2:=bC.of_in1 I2.u6;have ē:bC X Y σ H s2:=I2'.yr;have st2:s2.heap.IsListIter it p (i+1):=st'.at λo e=>(I2'.pin (it,o) (iG _ (iG _ (uf (bM.mpr Z) e)))).1;refine M (yp ?_);cases c with
  |false =>
   simp only[Bool.false_eq_true,if_false];exact aj ⟨oX Oq _,ih (i+1) s2 () ē st2 λs' I'=>by simpa using hR s' I'⟩
  |true =>
   simp only[if_true];refine M (j8 (aj ?_));simpa using hR s2 ē
def Zg(hc:X.calm=true):jG X (.builtin "any") (λxs H Q=>∃p ys bs,xs=[.ref p]/\bI X.K H p ys/\pB X.K H ys bs/\Q (.bl (bs.any id)) H):=by
 intro Y s σ H xs us Q I r h;obtain⟨p,ys,bs,rfl,hq,ht,q⟩:=h;obtain⟨u,rfl,rx⟩:=vals1 r;cases rx;refine call_function_tree F.kind_any F.plain_any F.entry_any (F.args_any1 _) ?_;unfold Builtin.«any»;refine M (m:=oneArg "any" _) (aj ?_);obtain⟨bV,rv,pl,hz⟩:=I.list hq;refine M (wu pl.isList ?_);have I1:bC X Y σ H { s with heap:=s.heap.push { cls:=.type "list_iterator",data:=.fields #[.ref p,.int 0 0]}}:=I.kept (t':=s.toks) λb o e=>bx _ e;refine aj ⟨oX Oq _,Ĕ hc hq ht (I.Gv (aN _) (I.hok.fresh (aN _))) ys.length 0 _ (Bc _) I1 ⟨_,bT _ Z,Z,Z⟩ λs' I'=>?_⟩;exact⟨.bl _,H,I',Z,by simpa using q⟩
structure Dn(K:aH)(mg:Str->Option Value)(x:Str)(st:Stmt)(ps:List Str) where
 f:Addr
 fd:FuncData
 F:Fun K x x st f fd
 b:Binds K fd ps []
 m:mg x=some (.ref f)
 bd:∀(s:Shared) (us:List Value),us.length=ps.length->BindsTo s fd ⟨us,[]⟩ (ps.zip us)
structure Bl(mg:Str->Option Value):Prop where
 get:∀x:Str,x∈(["len","range","list","isinstance","int","bool","str","all","any","sorted","set","min","max","tuple","enumerate","dict","ValueError"]:List Str)->mg x=none
def Bl.len{mg:Str->Option Value}(B:Bl mg):mg "len" = none:=B.get _ ()
def Bl.range{mg:Str->Option Value}(B:Bl mg):mg "range" = none:=B.get _ ()
def Bl.list{mg:Str->Option Value}(B:Bl mg):mg "list" = none:=B.get _ ()
def Bl.isinstance{mg:Str->Option Value}(B:Bl mg):mg "isinstance" = none:=B.get _ ()
def Bl.int{mg:Str->Option Value}(B:Bl mg):mg "int" = none:=B.get _ ()
def Bl.bool{mg:Str->Option Value}(B:Bl mg):mg "bool" = none:=B.get _ ()
def Bl.all{mg:Str->Option Value}(B:Bl mg):mg "all" = none:=B.get _ ()
def Bl.any{mg:Str->Option Value}(B:Bl mg):mg "any" = none:=B.get _ ()
def Bl.sorted{mg:Str->Option Value}(B:Bl mg):mg "sorted" = none:=B.get _ ()
def Bl.set{mg:Str->Option Value}(B:Bl mg):mg "set" = none:=B.get _ ()
def Bl.min{mg:Str->Option Value}(B:Bl mg):mg "min" = none:=B.get _ ()
def Bl.max{mg:Str->Option Value}(B:Bl mg):mg "max" = none:=B.get _ ()
def Bl.tuple{mg:Str->Option Value}(B:Bl mg):mg "tuple" = none:=B.get _ ()
def Bl.enumerate{mg:Str->Option Value}(B:Bl mg):mg "enumerate" = none:=B.get _ ()
def Bl.dict{mg:Str->Option Value}(B:Bl mg):mg "dict" = none:=B.get _ ()
def Gb{K:aH}:PySem.W.kitOne K (.type "int") (.type "int")=some true:=by rfl
def CG{K:aH}:PySem.W.kitOne K (.type "int") (.type "bool")=some false:=by rfl
def Rj{K:aH}:PySem.W.kitOne K (.type "NoneType") (.type "int")=some false:=by rfl
def PK{K:aH}:PySem.W.kitOne K (.type "NoneType") (.type "bool")=some false:=by rfl
section
variable{K:aH}
def bF(e:X.K=K):IxR X (a5l K):=by subst e;exact a0m
def aK(e:X.K=K):IxR X (a5m K):=by subst e;exact a2Z
def a0r(e:X.K=K)(hu:X.A.units+64<cLine):sS X (compareOp .Eq) (a0q K false):=by subst e;exact a3i hu
def Xn(e:X.K=K)(hu:X.A.units+64<cLine):sS X (compareOp .NotEq) (a0q K true):=by subst e;exact a3j hu
def uO(e:X.K=K)(hu:X.A.units+65<cLine):sS X (compareOp .In) (Vy K false):=by subst e;exact a3k hu
def jM(e:X.K=K)(hu:X.A.units+65<cLine):sS X (compareOp .NotIn) (Vy K true):=by subst e;exact Ze hu
def a0s(e:X.K=K):sS X (compareOp .In) (rIn K false):=by subst e;exact Y8
def Vz(e:X.K=K):sS X (compareOp .NotIn) (rIn K true):=by subst e;exact Py
def a7c(K:aH):List V->Hp->VK->Prop:=λxs H Q=>∃p ys,xs=[.ref p]/\(bI K H p ys\/cH K H p ys)/\Q (.int ys.length) H
def cP(e:X.K=K):jG X (.builtin "len") (a7c K):=by subst e;exact Pz
def a0t(K:aH):List V->Hp->VK->Prop:=λxs H Q=>∃p ys,xs=[.ref p]/\(bI K H p ys\/cH K H p ys)/\∀l,H l=none->Q (.ref l) (cM H l (.lst ys))
def VB(e:X.K=K):jG X (.type "list") (a0t K):=by subst e;exact PJ
def a5u(K:aH):List V->Hp->VK->Prop:=λxs H Q=>∃x c cv t b,xs=[x,c]/\a3l c=some cv/\ug K H x t/\PySem.W.kitOne K t cv=some b/\Q (.bl b) H
def jb(e:X.K=K):jG X (.builtin "isinstance") (a5u K):=by subst e;exact Ri
def a7d(K:aH):List V->Hp->VK->Prop:=λxs H Q=>∃p ys bs,xs=[.ref p]/\bI K H p ys/\pB K H ys bs/\Q (.bl (bs.all id)) H
def a7e(K:aH):List V->Hp->VK->Prop:=λxs H Q=>∃p ys bs,xs=[.ref p]/\bI K H p ys/\pB K H ys bs/\Q (.bl (bs.any id)) H
def Zh(e:X.K=K)(hc:X.calm=true):jG X (.builtin "all") (a7d K):=by subst e;exact Zf hc
def Zi(e:X.K=K)(hc:X.calm=true):jG X (.builtin "any") (a7e K):=by subst e;exact Zg hc
def fM{l:Expr}{tl:TE}(e:X.K=K)(hl:PE X l tl):PI X tg l (a2g K tl):=by subst e;exact a0c hl
def CJ{l:Expr}{tl:TE}(e:X.K=K)(hl:PE X l tl):PI X tg l (a4Y K tl):=by subst e;exact a2Q hl
def a7f(K:aH)(ta:TE):TT:=λσ H Q=>ta σ H λx H'=>∃k,ÿ K x H' k/\Q k H'
def eN{a:Expr}{ta:TE}(e:X.K=K)(ha:PE X a ta)(he:∀whole,isTrue a X.env whole=(do let v <-whole;standAt a.pos;holding [v] (truthy v))):PT X a (a7f K ta):=by subst e;exact Ā ha he
def jN{t:ù}(e:X.K=K)(hc:X.calm=true)(h:PGs X es t)
  (hn:(assignEach es X.env).length=n:=by rfl) (hst:(assignEach es X.env).findIdx? (·.1)=none:=by rfl):PG X (.Tuple es k pos) (a4X K n t):=by subst e;exact a2N hc h hn hst
def tD{o:Expr}{to:TE}{name:Str}{apos cpos:Pos}{T id:String}(e:X.K=K)(pa:PlainAttrs T)(slot:Slot T name id)(hty:typeOf (.builtin id)=pure (.type "method_descriptor"))(hm:MtR X id r)(ho:PE X o to)
  (hbase:attributeBase o name X.env (eval o X.env)=eval o X.env:=by rfl) (hline:(apos.endLine==cpos.line)=true:=by rfl):PE X (.Call (.Attribute o name apos) [] [] cpos) (a5o K T r to):=by subst e;exact a3c pa slot hty hm ho hbase hline
def nU{o e:Expr}{to:TE}{t:TA}{name:Str}{apos cpos:Pos}{T id:String}(e0:X.K=K)(pa:PlainAttrs T)(slot:Slot T name id)(hty:typeOf (.builtin id)=pure (.type "method_descriptor"))(hm:MtR X id r)(ho:PE X o to)(ha:PA X (e::es) t)
  (hbase:attributeBase o name X.env (eval o X.env)=eval o X.env:=by rfl)
  (hfew:((backTo cpos (starEach (e::es) X.env)).all (λx=>!x.1)&&(backToKw cpos (keywordEach [] X.env)).all (λx=>x.1.isSome)
   && decide ((e::es).length+([]:List Keyword).length+(if([]:List Keyword).isEmpty then 0 else 1)<30))=true:=by rfl)
  (hline:(apos.endLine==cpos.line)=true:=by rfl) (hs:starEach (e::es) X.env=(false,eval e X.env)::starEach es X.env:=by rfl) (hplain:(backTo cpos (starEach es X.env)).any (·.1)=false:=by rfl) :
  PE X (.Call (.Attribute o name apos) (e::es) [] cpos) (tBM K T r to t):=by subst e0;exact a5p pa slot hty hm ho ha hbase hfew hline hs hplain
end
inductive a5v(t u:TS)(D:Ends)(σ:St)(H:Hp):Prop
 |mk (Z97:St->Hp->Prop) (_:t { D with nx:=Z97} σ H) (_:∀σ' H',Z97 σ' H'->u D σ' H')
def kI{st:Stmt}{rest:List Stmt}{t u:TS}(h1:PS X st t)(h2:Ra X rest u):Ra X (st::rest) (a5v t u):=by
 intro Y s σ H D I h;obtain⟨Z97,q1,q2⟩:=h;refine Us (jx (h1 Y s σ H { D with nx:=Z97} I q1) λf s1 q=>?_);cases f with
 |next =>
  obtain⟨σ',H',I',q⟩:=q;exact h2 Y s1 σ' H' D I' (q2 σ' H' q)
 |ret v=>exact q
 |brk=>exact q
 |cont=>exact q
structure gZ(H:Hp)(p:Addr)(o:HO)(H':Hp):Prop where
 fresh:H p=none
 here:H' p=some o
 rest:∀b,b≠p->H' b=H b
def gZ.oM{H:Hp}{p:Addr}(h:H p=none):gZ H p o (cM H p o):=⟨h,cV,λ_ hb=>aU hb⟩
def gZ.same{H:Hp}{p:Addr}(n:gZ H p o H'):aJ H H':=λb u e=>(n.rest b (dR e n.fresh)).trans e
def gZ.ne{H:Hp}{p b:Addr}{u:HO}(n:gZ H p o H')(h:H b=some u):b≠p:=dR h n.fresh
structure uP(H:Hp)(l:Addr)(o:HO)(H':Hp):Prop where
 here:H' l=some o
 rest:∀b,b≠l->H' b=H b
def uP.oM{H:Hp}{l:Addr}:uP H l o (cM H l o):=⟨cV,λ_ hb=>aU hb⟩
section
variable{K:aH}{t:TA}
def Rk(t:TA):TE:=λσ H Q=>t σ H λxs H1=>xs.length<=1000/\∀p H',gZ H1 p (.tup xs) H'->Q (.ref p) H'
def a2k(t:TA):TE:=λσ H Q=>t σ H λxs H1=>xs.length<=1000/\∀p H',gZ H1 p (.lst xs) H'->Q (.ref p) H'
def bf{x1}(h:PA X es t):PE X (.Tuple es x1 pos) (Rk t):=by
 intro Y s σ H Q I hq;refine wpAny_Tuple_spliced (jx (h pos Y s σ H _ I hq) λus s1 ⟨xs,H1,I1,r,z,q⟩=>?_);have z':xs.length<=sizeLine:=d7 (cO z);refine⟨by rw[<-r.length];exact z',?_⟩;have hf:H1 s1⁻¹=none:=I1.hok.fresh (aN _);exact⟨.ref s1⁻¹,cM H1 s1⁻¹ (.tup xs),I1.laid (t':=s1.toks) (λb u e=>bx _ e) (aN _) ⟨z',us,r,⟨_,bT _ Z,Z,_,Z⟩⟩,Z,q _ _ (gZ.oM hf)⟩
def cI(h:PA X es t):PE X (.List es pos) (a2k t):=by
 intro Y s σ H Q I hq;refine wpAny_List_spliced (jx (h pos Y s σ H _ I hq) λus s1 ⟨xs,H1,I1,r,z,q⟩=>?_);have z':xs.length<=sizeLine:=d7 (cO z);refine⟨by rw[<-r.length];exact z',?_⟩;have hf:H1 s1⁻¹=none:=I1.hok.fresh (aN _);exact⟨.ref s1⁻¹,cM H1 s1⁻¹ (.lst xs),I1.laid (t':=s1.toks) (λb u e=>bx _ e) (aN _) ⟨z',us,0,r,bT _ Z⟩,Z,q _ _ (gZ.oM hf)⟩
def sS.weak{f:Value->Value->Sem Value}{r r':R2}(h:sS X f r)(m:∀x y H Q,r' x y H Q->r x y H Q):sS X f r':=λY s σ H x y v u Q I rx ry q=>h Y s σ H x y v u Q I rx ry (m x y H Q q)
def jG.weak{f:Value}{r r':List V->Hp->VK->Prop}(h:jG X f r)(m:∀xs H Q,r' xs H Q->r xs H Q):jG X f r':=λY s σ H xs us Q I rs q=>h Y s σ H xs us Q I rs (m xs H Q q)
inductive a5w(x:V)(y:V)(H:Hp)(Q:VK):Prop
 |mk (l b xs zs:_) (_:x=.ref l) (_:y=.ref b) (_:H l=some (.lst xs)) (_:H b=some (.lst zs)) (_:xs.length+zs.length<=1000) (_:∀p H',gZ H p (.lst (xs++zs)) H'->Q (.ref p) H')
def pG:sS X (binaryOp .Add) a5w:=a3f.weak λx y H Q ⟨l,b,xs,zs,e1,e2,h1,h2,z,q⟩=>⟨l,b,xs,zs,e1,e2,h1,h2,d7 (cO z),λp hp=>q p _ (gZ.oM hp)⟩
inductive a7g(K:aH)(x:V)(lo:Option Int)(hi:Option Int)(H:Hp)(Q:VK):Prop
 |mk (a xs:_) (_:x=.ref a) (_:bI K H a xs) (_:∀p H',gZ H p (.lst (u9 xs lo hi)) H'->Q (.ref p) H')
def yw(e:X.K=K):SlR X (a7g K):=by
 subst e;exact λY s σ H x v vl vu lo hi sl Q I rx hs pl pu ⟨a,xs,e,h,q⟩=>a0n Y s σ H x v vl vu lo hi sl Q I rx hs pl pu ⟨a,xs,e,h,λp hp=>q p _ (gZ.oM hp)⟩
inductive a3m(K:aH)(xs:List V)(H:Hp)(Q:VK):Prop
 |mk (p ys:_) (_:xs=[.ref p]) (_:(bI K H p ys\/cH K H p ys)) (_:∀l H',gZ H l (.lst ys) H'->Q (.ref l) H')
def um(e:X.K=K):jG X (.type "list") (a3m K):=(VB e).weak λxs H Q ⟨p,ys,e,h,q⟩=>⟨p,ys,e,h,λl hl=>q l _ (gZ.oM hl)⟩
def Vu.weak{id:String}{r':V->List V->Hp->VK->Prop}(h:Vu X id r)(m:∀x xs H Q,r' x xs H Q->r x xs H Q):Vu X id r':=λY s σ H x xs v us Q I rx rs q=>h Y s σ H x xs v us Q I rx rs (m x xs H Q q)
inductive a5x(x:V)(vs:List V)(H:Hp)(Q:VK):Prop
 |mk (l xs y:_) (_:x=.ref l) (_:vs=[y]) (_:H l=some (.lst xs)) (_:xs.length<1000) (_:∀H',uP H l (.lst (xs++[y])) H'->Q .non H')
def jO:Vu X "list.append" a5x:=Za.weak λx vs H Q ⟨l,xs,y,e1,e2,h,z,q⟩=>⟨l,xs,y,e1,e2,h,cO (d7 z),q _ uP.oM⟩
end
def PL{K:aH}{xs:List V}(f:V->Option V)(hx:bI K H1 a xs)(hz:xs.length<=1000)
  (hs:∀x H (N:Option V->Hp->Prop),x∈xs->aJ H1 H->(∀H',aJ H1 H'->N (f x) H')->g x (rF ix σ) H λσ2 H2=>tt σ2 H2 λb H3=>if b=true then te σ2 H3 λv H4=>N (some v) H4 else N none H3)
  (hd:∀H p H',aJ H1 H->gZ H p (.lst (xs.filterMap f)) H'->Q (.ref p) H'):nR ix g tt te σ H1 Q (θ K a) :=
 a5t f hx (d7 (cO hz)) hs λH p s hp=>hd H p _ s (gZ.oM hp)
def a0u{lo:Int}(f:Nat->Option V)(hz:n<=1000)
  (hs:∀i H (N:Option V->Hp->Prop),i<n->aJ H1 H->(∀H',aJ H1 H'->N (f i) H')->g (.int (lo+i)) (rF ix σ) H λσ2 H2=>tt σ2 H2 λb H3=>if b=true then te σ2 H3 λv H4=>N (some v) H4 else N none H3)
  (hd:∀H p H',aJ H1 H->gZ H p (.lst ((List.range n).filterMap f)) H'->Q (.ref p) H'):nR ix g tt te σ H1 Q (Xb lo n) :=
 a3h f (d7 (cO hz)) hs λH p s hp=>hd H p _ s (gZ.oM hp)
end L2
namespace Lw
open L2
variable{H:Hp}{ns:List Int}{K:aH}{a:Addr}
def mV{p:Addr}(h:H p=none)(o:HO):aJ H (cM H p o):=λb u q=>by rw[aU (dR q h)];exact q
theorem CK{α β:Type}{f:α->Option β}{g:α->β}:∀{l:List α},(∀x∈l,f x=some (g x))->l.filterMap f=l.map g
 | [],_=>rfl
 |x::r,h=>by
  rw[Nz (h x aV),b7,CK λy hy=>h y (bh _ hy)]
theorem Ez{f:V->Option V}{p:Int->Bool}:∀{ns:List Int},(∀v∈ns,f (.int v)=if p v=true then some (.int v)else none)->(ns.map V.int).filterMap f=(ns.filter p).map V.int
 | [],_=>rfl
 |v::r,h=>by
  have ih:=Ez (f:=f) (p:=p) (ns:=r) λy hy=>h y (bh _ hy)
  grind
def Xo{k:Int}(h0:0<=k)(h:k<(ns.length:Int)):Tt (ns.map V.int) k=some (.int (ns.getD k.toNat 0)):=by
 have hk:k.toNat<ns.length:=()
 have ek:k=((k.toNat:Nat):Int):=()
 have q:Tt (ns.map V.int) ((k.toNat:Nat):Int)=some (.int (ns.getD k.toNat 0)):=cA (by
  grind)
 grind
def Ü(K:aH)(H:Hp)(a:Addr)(ns:List Int):Prop:=(∃o,H a=some (.jq o (.lst (ns.map V.int))))\/
 ∃(o:Obj) (bV:Array Value) (n:Nat),K.lookup a=some o/\o.cls=.type "list" /\o.dict=none/\o.data=.seq bV n/\bV.size<=sizeLine/\cN (ns.map V.int) bV.toList
def Ü.seq(h:Ü K H a ns):bI K H a (ns.map V.int):=by
 rcases h with⟨o,h⟩|h
 ·exact .inl (.inr ⟨o,h⟩)
 ·exact .inr h
def Ü.of(hO:Only H)(h:bI K H a (ns.map V.int)):Ü K H a ns:=by
 rcases h with(h|⟨o,h⟩)|h
 ·rcases hO a with z|⟨ob,xs,z⟩
  ·grind
  grind
 ·exact .inl ⟨o,h⟩
 ·exact .inr h
def Ü.same{H':Hp}(e:aJ H H')(h:Ü K H a ns):Ü K H' a ns:=by
 rcases h with⟨o,h⟩|h
 ·exact .inl ⟨o,e _ _ h⟩
 ·exact .inr h
inductive a2l(K:aH)(vs:List V)(H:Hp)(Q:VK)(u_3:XK):Prop
 |mk (a:Addr) (ns:List Int) (_:vs=[.ref a]) (_:Ü K H a ns) (_:ns.length<=63) (_:∀H',Q (.bl true) H')
end Lw
namespace L2
open PyProof.Rows
variable{K:aH}{mg:Str->Option Value}{k:Nat}
def Rm{h:Heap}{x:Str}{st:Stmt}{ps:List Str}{f:Addr}{oc:Value}{od an:Option Addr}{osl:Array (Option Value)}{kV doc pm dD ct:Value}(X:K.In h)(G:h.Ns mainGlobals mg)
  (a:PySem.W.nsIn K mainGlobals x=some (some (.ref f))) (l:K.lookup f=some ⟨oc,od,.func (PySem.W.fnOf x x (dZ st) (dJ st) (aD st) .none kV doc pm an dD ct),osl⟩) (c:PySem.W.codeIn K dD x=true) (k:PySem.W.keepIn K (.ref f)=true)
  (hb:∀(kV doc pm:Value) (an:Option Addr) (dD ct:Value) (us:List Value),us.length=ps.length->bindArgs (PySem.W.fnOf x x (dZ st) (dJ st) (aD st) .none kV doc pm an dD ct) ⟨us,[]⟩=pure (ps.zip us)) :
  Nonempty (Dn K mg x st ps) :=
 have F:=Vw (st:=st) l c k
 ⟨⟨f,_,F,F.binds hb,Ja X G a,λs us hl=>.of_eq (hb _ _ _ _ _ _ us hl)⟩⟩
def a5y{h:Heap}(X:K.In h)(G:h.Ns mainGlobals mg)
  (z1:PySem.W.nsIn K mainGlobals "len" = some none) (z2:PySem.W.nsIn K mainGlobals "range" = some none) (z3:PySem.W.nsIn K mainGlobals "list" = some none) (z4:PySem.W.nsIn K mainGlobals "isinstance" = some none) (z5:PySem.W.nsIn K mainGlobals "int" = some none)
  (z6:PySem.W.nsIn K mainGlobals "bool" = some none) (z7:PySem.W.nsIn K mainGlobals "str" = some none) (z8:PySem.W.nsIn K mainGlobals "all" = some none) (z9:PySem.W.nsIn K mainGlobals "any" = some none) (z10:PySem.W.nsIn K mainGlobals "sorted" = some none)
  (z11:PySem.W.nsIn K mainGlobals "set" = some none) (z12:PySem.W.nsIn K mainGlobals "min" = some none) (z13:PySem.W.nsIn K mainGlobals "max" = some none) (z14:PySem.W.nsIn K mainGlobals "tuple" = some none) (z15:PySem.W.nsIn K mainGlobals "enumerate" = some none)
  (z16:PySem.W.nsIn K mainGlobals "dict" = some none) (z17:PySem.W.nsIn K mainGlobals "ValueError" = some none):Bl mg:=by
 refine⟨λx hx=>?_⟩;simp only[List.mem_cons,List.not_mem_nil,or_false]at hx;rcases hx with rfl|rfl|rfl|rfl|rfl|rfl|rfl|rfl|rfl|rfl|rfl|rfl|rfl|rfl|rfl|rfl|rfl
 ·exact lF X G z1
 ·exact lF X G z2
 ·exact lF X G z3
 ·exact lF X G z4
 ·exact lF X G z5
 ·exact lF X G z6
 ·exact lF X G z7
 ·exact lF X G z8
 ·exact lF X G z9
 ·exact lF X G z10
 ·exact lF X G z11
 ·exact lF X G z12
 ·exact lF X G z13
 ·exact lF X G z14
 ·exact lF X G z15
 ·exact lF X G z16
 ·exact lF X G z17
def a3n{P:Program}{w:World}{fa:Addr}{st:Stmt}{sp:Sp}{x:Str}(hfa:mg "law" = some (.ref fa))(d:Dn K mg "law" st [x])(F:∀base:Heap,aZ P w K mg base fV k d.f d.fd [x] sp) :
  ∃fd:FuncData,(∀(s:Shared) (u:Value),BindsTo s fd ⟨[u],[]⟩ [(x,u)])/\∀base:Heap,K.In base->base.Ns mainGlobals mg->aZ P w K mg base fV k fa fd [x] sp:=by
 have e:fa=d.f:=by
  have:=hfa.symm.trans d.m;have:=dO this;cases this;rfl
 subst e;exact⟨d.fd,λs u=>d.bd s [u] Z,λbase _ _=>F base⟩
def Ite(K:aH)(a:Addr):It :=
 ⟨λi H=>∃xs x,bI K H a xs/\xs[i]?=some x,λi H x H'=>∃p y,x=.ref p/\gZ H p (.tup [.int i,y]) H'/\∀xs,bI K H a xs->xs[i]?=some y,λi H=>∃xs,bI K H a xs/\xs.length<=i⟩
def Zj{P:Program}{w:World}{elts:List Expr}{pos:Pos}(a it e:Addr)(hei:e≠it):Turn P w K (.Tuple elts k pos) (Ite K a) [e,it] e (λi h=>(∃old,IsEnum h e it i old)/\h.IsListIter it a i) where
 mem:=by simp
 obj:=λi h st b hb=>by
  obtain⟨⟨old,he⟩,hit⟩:=st
  rcases bU.mp hb with rfl|hb
  ·grind
  ·rw[bM.mp hb]
   obtain⟨o,e1,c,d⟩:=hit
   grind
 keep:=λi h h' st kk=>by
  obtain⟨⟨old,he⟩,hit⟩:=st
  exact⟨⟨old,kk e (by simp) _ he⟩,hit.at λo q=>kk it (by simp) o q⟩
 item:=by
  intro X hP hw hK hc i Y s σ H E I hf st hg
  subst hP hw hK
  obtain⟨xs,x,hq,hx⟩:=hg
  obtain⟨bV,rv,pl,hz⟩:=I.list hq
  obtain⟨u,hu,ru⟩:=rv.get hx
  obtain⟨⟨old,he⟩,hit⟩:=st
  obtain⟨f0,f1,f2,f3,f4,f5⟩:=hf e (by simp)
  obtain⟨g0,g1,g2,g3,g4,g5⟩:=hf it (by simp)
  refine wpAny_pyNext_enum_item he hit pl.isList (x:=u) () hei λh' ho hit' hT hsz hk=>?_
  refine⟨_,Z,ê ho λh2 he2 hs2=>?_⟩
  have eT:s⁻¹≠e:=gG (aX he)
  have iT:s⁻¹≠it:=by
   obtain⟨o,e1,_⟩:=hit
   exact gG (aX e1)
  have hT2:h2.get? s⁻¹=some { cls:=.type "tuple",data:=.seq #[.int i s.toks,u]}:=(hs2.2 _ eT).trans hT
  have kp:∀b o,b≠e->b≠it->s.heap.get? b=some o->h2.get? b=some o:=λb o h1 h2' q=>(hs2.2 b h1).trans (hk b o h1 h2' q)
  have I1:bC X Y σ H { s with heap:=h2,toks:=s.toks+1}:=by
   refine I.step (g':=s.gens) (d':=s.drawn) (H':=H) (ch:=[e,it]) (λb hb=>?_) (λb o _ _ hc q _=>kp b o (λz=>hc (by simp[z])) (λz=>hc (by simp[z])) q) (λb o _ _ hc q _=>⟨o.slots,kp b o (λz=>hc (by simp[z])) (λz=>hc (by simp[z])) q⟩) (λ_ _ _ _ n=>n)
    (λb o hc q=>⟨o,kp b o (λz=>hc (by simp[z])) (λz=>hc (by simp[z])) q⟩) (λ_ _ q=>q) (λ_ _ _ q=>q) (λb ps q=>⟨#[],by rw[q];simp⟩) (λm hm=>?_) (λb o q=>?_) I.bare
   ·grind
   ·obtain⟨o,es,ep,q,r⟩:=hm
    exact⟨o,es,ep,kp _ o (Ne.symm f1) (Ne.symm g1) q,r⟩
   ·have nb:∀c v,H c=some v->c≠e/\c≠it:=λc v q=>⟨dR q f0,dR q g0⟩
    refine(I.hok b o q).stay (λc v hcc r=>kp c v ?_ ?_ r) (λ_ q=>q) λ_ _ q=>q
    ·grind
    grind
  have hfree:H s⁻¹=none:=I.hok.fresh (aN _)
  have I2:bC X Y σ (cM H s⁻¹ (.tup [.int i,x])) { s with heap:=h2,toks:=s.toks+1}:=by
   refine bC.track I1 hfree I.sz (gG I.lt) (λy c q=>?_) (λp hp=>bZ (aX (I.pin p hp).1)) ?_
   ·obtain⟨v,oc,q1,_⟩:=I.cell y c q
    exact bZ (aX q1)
   ·exact⟨(by show 2<=sizeLine;decide),[.int i s.toks,u],.cons ⟨_,Z⟩ (.cons ru .nil),⟨_,hT2,Z,_,Z⟩⟩
  refine⟨.ref s⁻¹,_,I2,Z,⟨_,x,Z,gZ.oM hfree,λys hy=>by rw[I.yq hy hq];exact hx⟩,⟨⟨u,?_⟩,hit'.at λo q=>(hs2.2 it (Ne.symm hei)).trans q⟩,λb hb=>?_⟩
  ·grind
  ·rcases bU.mp hb with rfl|hb
   ·rw[aU (Ne.symm eT)];exact f0
   ·rw[bM.mp hb,aU (Ne.symm iT)];exact g0
 done:=by
  intro X hP hw hK hc i Y s σ H E I hf st hg
  subst hP hw hK
  obtain⟨xs,hq,hx⟩:=hg
  obtain⟨bV,rv,pl,hz⟩:=I.list hq
  obtain⟨⟨old,he⟩,hit⟩:=st
  obtain⟨g0,g1,g2,g3,g4,g5⟩:=hf it (by simp)
  have hl:=rv.length
  exact wpAny_pyNext_enum_end (I.ok.hd hc) he hit pl.isList (by simp;omega) λh' eb=>⟨Z,I.turned (t':=s.toks) (λb o hb q=>eb b o hb q) g0 g1 g3 g4 g5⟩
 self:=λ_ _ _ _ _ st h=>by
  obtain⟨⟨old,he⟩,_⟩:=st
  exact Oi he h
section
variable{X:Cx}
def a5z(K:aH)(ta:TA):TI:=λσ H R=>ta σ H λvs H1=>∃a,vs=[.ref a]/\(∃xs,bI K H1 a xs)/\R (Ite K a) H1
def a0v{elts:List Expr}{tpos:Pos}{l:Expr}{ta:TA}{p pos:Pos}(e0:X.K=K)(hg:Gl X "enumerate")(hm:X.mg "enumerate" = none)(ha:PA X [l] ta)(hs:starEach [l] X.env=[(false,eval l X.env)]:=by rfl) :
  PI X (.Tuple elts k tpos) (.Call (.Name "enumerate" p) [l] [] pos) (a5z K ta):=by
 subst e0;intro Y s σ H R I h;refine yd (wG I hg hm boot_enumerate (Ag (jx (ha pos Y s σ H _ I h) λus s1 ⟨vs,H1,I1,r1,q1⟩=>?_) hs (by rfl)));obtain⟨a,e,⟨xs,hq⟩,q⟩:=q1;subst e;obtain⟨u,rfl,ru⟩:=vals1 r1;cases ru;obtain⟨bV,rv,pl,hz⟩:=I1.list hq;refine call_enumerate_list pl.isList λh' he hit hsz hk=>Oi he ?_;have I2:bC X Y σ H1 { s1 with heap:=h'}:=I1.kept (t':=s1.toks) hk;refine⟨s1⁻¹+1,[s1⁻¹+1,s1⁻¹],_,_,H1,Z,I2,Zj a s1⁻¹ (s1⁻¹+1) (gG (Aw _)),⟨⟨_,he⟩,hit⟩,λb hb=>?_,q⟩;have hb':s1⁻¹<=b:=by
  grind
 exact I1.Gv hb' (I1.hok.fresh hb')
end
def ĕ{a:Addr}{xs:List V}{g:TG}{tb:TS}{D:Ends}{σ:St}{H:Hp}(Pv:Nat->St->Hp->Prop)(h0:Pv 0 σ H)(hl:∀i σ H,i<=xs.length->Pv i σ H->bI K H a xs)
  (hs:∀(i:Nat) x σ H p H',xs[i]?=some x->Pv i σ H->gZ H p (.tup [.int i,x]) H'->g (.ref p) σ H' λσ2 H2=>tb { D with nx:=Pv (i+1),ct:=Pv (i+1),bk:=D.nx} σ2 H2) (hd:∀σ H,Pv xs.length σ H->D.nx σ H) :
  ∃W:Nat->Nat->St->Hp->Prop,(∃m,W 0 m σ H)/\∀i m σ H,W i m σ H->
   ((Ite K a).stop i H/\D.nx σ H)\/((Ite K a).go i H/\∃N:St->Hp->Prop,(∀σ' H',N σ' H'->∃m',m'<m/\W (i+1) m' σ' H')/\∀x H',(Ite K a).Û i H x H'->g x σ H' λσ2 H2=>tb { D with nx:=N,ct:=N,bk:=D.nx} σ2 H2):=by
 refine⟨λi m σ H=>m=xs.length-i/\i<=xs.length/\Pv i σ H,⟨xs.length,by simp,dG _,h0⟩,?_⟩;rintro i m σ H ⟨rfl,hi,p⟩;have q:=hl i σ H hi p;by_cases hlt:i<xs.length
 ·refine .inr ⟨⟨xs,xs[i],q,by simp[hlt]⟩,Pv (i+1),λσ' H' p'=>⟨xs.length-(i+1),(),Z,hlt,p'⟩,λx H' y=>?_⟩;obtain⟨pp,y0,rfl,nw,ex⟩:=y;exact hs i y0 σ H pp H' (ex xs q) p nw
 ·have e:i=xs.length:=()
  subst e;exact .inl ⟨⟨xs,q,aN _⟩,hd σ H p⟩
def Ė{a:Addr}{xs:List V}{ix:List (Option Nat)}{g:TG}{tt:TT}{te:TE}{σ:St}{H1:Hp}{Q:VK}(f:Nat->Option V)(hx:bI K H1 a xs)(hz:xs.length<=1000)
  (hs:∀(i:Nat) x H (N:Option V->Hp->Prop),xs[i]?=some x->aJ H1 H->(∀H',aJ H1 H'->N (f i) H')->g x (rF ix σ) H λσ2 H2=>tt σ2 H2 λb H3=>if b=true then te σ2 H3 λv H4=>N (some v) H4 else N none H3)
  (hd:∀H p H',aJ H1 H->gZ H p (.lst ((List.range xs.length).filterMap f)) H'->Q (.ref p) H'):nR ix g tt te σ H1 Q (θ K a):=by
 refine uN (K:=K) (a:=a) (xs:=xs) (λi ys H=>ys=(List.range i).filterMap f/\aJ H1 H) ⟨Z,aJ.refl _⟩ (λi ys H hi ⟨e,s⟩=>⟨s.seq hx,?_⟩) (λi x ys H hi ⟨e,s⟩=>?_) λys H ⟨e,s⟩ p hp=>?_
 ·subst e;refine dF (TX _ _) ?_;rw[qJ];exact dF hi (d7 (cO hz))
 ·refine hs i x H (λo H'=>match o with|some v=>(ys++[v]=(List.range (i+1)).filterMap f/\aJ H1 H')|none=>(ys=(List.range (i+1)).filterMap f/\aJ H1 H')) hi s λH' s'=>?_;cases ef:f i with
  |some v =>
   refine⟨?_,s'⟩;rw[e,wA,xY];simp[ef]
  |none =>
   refine⟨?_,s'⟩;rw[e,wA,xY];simp[ef]
 ·subst e;exact hd H p _ s (gZ.oM hp)
end L2
namespace Bg
open L2 Lw
abbrev Ca:=Option Int×List Int
def pH(n:Int):Option Int->Bool
 |none=>false
 |some i=>decide (0<=i/\i<n)
def rowAt(rs:List Ca)(k:Nat):Ca:=rs.getD k (none,[])
inductive Flt where
 |ok|row (k:Nat)|place (v:Nat)|tie (a b:Int)|apart (v j k:Nat)
 deriving DecidableEq
variable{i:Nat}
def upV:Option Int->V
 |none=>.non
 |some i=>.int i
def a0w(K:aH)(H:Hp)(v:V)(t:Int×Int):Prop:=∃p,v=.ref p/\cH K H p [.int t.1,.int t.2]
inductive EY(K:aH)(H:Hp)(a:Addr)(ts:List bY):Prop
 |mk (xs:_) (_:bI K H a xs) (_:Paired (a0w K H) xs ts) (_:ts.length<=1000)
inductive vf(K:aH)(H:Hp)(v:V)(n:Int)(ts:List bY):Prop
 |mk (p a:_) (_:v=.ref p) (_:cH K H p [.int n,.ref a]) (_:EY K H a ts)
def EY.same{K:aH}{H H':Hp}{a:Addr}{ts:List bY}(e:aJ H H')(h:EY K H a ts):EY K H' a ts:=by
 obtain⟨xs,h1,h2,h3⟩:=h;exact⟨xs,e.seq h1,Paired.cB h2 λ_ _ ⟨p,q1,q2⟩=>⟨p,q1,e.wU q2⟩,h3⟩
def vf.same{K:aH}{H H':Hp}{v:V}{n:Int}{ts:List bY}(e:aJ H H')(h:vf K H v n ts):vf K H' v n ts:=by
 obtain⟨p,a,h1,h2,h3⟩:=h;exact⟨p,a,h1,e.wU h2,h3.same e⟩
def bw{α β:Type}{F:α->β->Prop}{xs:List α}{ys:List β}{x:α}(p:Paired F xs ys)(e:xs[i]?=some x):∃y,ys[i]?=some y/\F x y:=by
 induction p generalizing i with
 |nil=>cases e
 |cons h r ih =>
  cases i with
  |zero=>cases e;exact⟨_,Z,h⟩
  |succ i=>exact ih (i:=i) e
def cU{α β:Type}{F:α->β->Prop}{xs:List α}{ys:List β}{y:β}(p:Paired F xs ys)(e:ys[i]?=some y):∃x,xs[i]?=some x/\F x y:=by
 induction p generalizing i with
 |nil=>cases e
 |cons h r ih =>
  cases i with
  |zero=>cases e;exact⟨_,Z,h⟩
  |succ i=>exact ih (i:=i) e
def vI{rs:List Ca}(h:i<rs.length):rs[i]?=some (rowAt rs i):=by
 unfold rowAt;grind
def Xp(ns:List Int)(v:Int):(ns.map PyData.int).any (λe=>PyData.eqv e (.int v))=decide (v∈ns):=by
 induction ns with
 |nil=>rfl
 |cons a r ih =>
  rw[b7,tZ,ih,PyData.eqv];grind
def VD(ns:List Int):PyData.depthAll (ns.map PyData.int)=0:=by
 induction ns with
 |nil=>rfl
 |cons a r ih=>rw[b7,PyData.depthAll,ih];rfl
def ė(ns:List Int):PyData.canLayAll0 (ns.map PyData.int)=true:=by
 induction ns with
 |nil=>rfl
 |cons a r ih=>rw[b7,PyData.canLayAll0,ih];rfl
def shaped_ints(ns:List Int):SeqAt.shaped (.list (ns.map PyData.int))=true:=by
 unfold SeqAt.shaped;rw[PyData.canLay0,ė,PyData.depth,VD];decide
def Jq(ns ms:List Int):PyData.eqv (.list (ns.map PyData.int)) (.list (ms.map PyData.int))=decide (ns=ms):=by
 rw[PyData.eqv];exact PySem.W.ked_eqvAll ns ms
def Bf{K:aH}{H:Hp}{b:Addr}{ns:List Int}{v:Int}{Q:VK}(hS:bI K H b (ns.map V.int))(q:Q (.bl (decide (v∈ns))) H):Vy K false (.int v) (.ref b) H Q :=
 ⟨_,_,.int v,.lst hS (wR.ints ns),Z,shaped_ints ns,by rw[Xp];exact q⟩
def zB{K:aH}{H:Hp}{b:Addr}{ns:List Int}{v:Int}{Q:VK}(hS:bI K H b (ns.map V.int))(q:Q (.bl (!decide (v∈ns))) H):Vy K true (.int v) (.ref b) H Q :=
 ⟨_,_,.int v,.lst hS (wR.ints ns),Z,shaped_ints ns,by rw[Xp];exact q⟩
end Bg
namespace L2
open PyProof.Rows
inductive a5A(o:V)(i:V)(v:V)(H:Hp)(Q:Hp->Prop):Prop
 |mk (p xs k j:_) (_:o=.ref p) (_:i=.int k) (_:H p=some (.lst xs)) (_:ξ xs.length k=some j) (_:∀H',uP H p (.lst (xs.set j v)) H'->Q H')
def Mr{X:Cx}:a0b X a5A:=λY s σ H o i v ov iv u Q I ro ri rv ⟨p,xs,k,j,e1,e2,h1,h2,q⟩=>set_list Y s σ H o i v ov iv u Q I ro ri rv ⟨p,xs,k,j,e1,e2,h1,h2,q _ uP.oM⟩
def Xq{n j:Nat}(h:j<n):ξ n (j:Int)=some j:=by
 unfold ξ;rw[aB (),aB ()];simp
def aJ.chg{H H':Hp}{l:Addr}{o:HO}{H0:Hp}(s:aJ H0 H)(h0:H0 l=none)(c:uP H l o H'):aJ H0 H':=λb u e=>(c.rest b (dR e h0)).trans (s b u e)
end L2
namespace Bg
open L2 Lw
variable{H H':Hp}
inductive tE(H:Hp)(v:V)(t:Int×Int):Prop
 |mk (p:_) (_:v=.ref p) (_:H p=some (.tup [.int t.1,.int t.2]))
inductive PN(l:Addr)(H:Hp)(v:V)(r:Ca):Prop
 |mk (p b:_) (_:v=.ref p) (_:H p=some (.tup [upV r.1,.ref b])) (_:H b=some (.lst (r.2.map V.int))) (_:b≠l) (_:r.2.length<=1000)
def tE.same{v:V}{t:Int×Int}(s:aJ H H')(h:tE H v t):tE H' v t:=by
 obtain⟨p,e,q⟩:=h;exact⟨p,e,s _ _ q⟩
def tE.chg{l:Addr}{xs ys:List V}{v:V}{t:Int×Int}(hl:H l=some (.lst xs))(c:uP H l (.lst ys) H')(h:tE H v t):tE H' v t:=by
 obtain⟨p,e,q⟩:=h;exact⟨p,e,(c.rest p (W7 q hl ())).trans q⟩
def PN.same{l:Addr}{v:V}{r:Ca}(s:aJ H H')(h:PN l H v r):PN l H' v r:=by
 obtain⟨p,b,e,q1,q2,n,z⟩:=h;exact⟨p,b,e,s _ _ q1,s _ _ q2,n,z⟩
def dh{α β:Type}{F:α->β->Prop}{xs:List α}{ys:List β}{x:α}{y:β}(h:Paired F xs ys)(q:F x y):Paired F (xs++[x]) (ys++[y]):=by
 induction h with
 |nil=>exact .cons q .nil
 |cons h _ ih=>exact .cons h ih
def yx(t:Int×Int):PyData:=.tuple [.int t.1,.int t.2]
def a0w.isD{K:aH}{v:V}{t:Int×Int}(h:a0w K H v t):K7 K H v (yx t):=by
 obtain⟨p,rfl,q1⟩:=h;exact .tup q1 (.cons (.int _) (.cons (.int _) .nil))
def PX{K:aH}{α:Type}{F:V->α->Prop}{f:α->PyData}(hf:∀v x,F v x->K7 K H v (f x)){xs:List V}{ys:List α}(h:Paired F xs ys):wR K H xs (ys.map f):=by
 induction h with
 |nil=>exact .nil
 |cons h _ ih=>exact .cons (hf _ _ h) ih
def Ę(ts:List bY):PyData:=.list (ts.map yx)
def EY.isD{K:aH}{H:Hp}{a:Addr}{ts:List bY}(h:EY K H a ts):K7 K H (.ref a) (Ę ts):=by
 obtain⟨xs,h1,h2,_⟩:=h;exact .lst h1 (PX (λv x q=>q.isD) h2)
theorem Hs{α:Type}{f:α->PyData}(h:∀x,(f x).canLay0=true):∀l:List α,PyData.canLayAll0 (l.map f)=true
 | []=>rfl
 |x::r=>by rw[b7,PyData.canLayAll0,h x,Hs h r];rfl
theorem vJ{α:Type}{f:α->PyData}{k:Nat}(h:∀x,(f x).depth<=k):∀l:List α,PyData.depthAll (l.map f)<=k
 | []=>dG _
 |x::r=>by
  rw[b7,PyData.depthAll]
  exact Nat.max_le.mpr ⟨h x,vJ h r⟩
def Xr(t:Int×Int):(yx t).canLay0=true:=rfl
def Ms(t:Int×Int):(yx t).depth<=1:=by
 unfold yx;simp[PyData.depth,PyData.depthAll]
def Rn(ts:List bY):SeqAt.shaped (Ę ts)=true:=by
 unfold SeqAt.shaped Ę;rw[PyData.canLay0,Hs Xr,PyData.depth,Jb];exact bN (by have:=vJ Ms ts;omega)
def ę{d:PyData}(h:SeqAt.shaped d=true):PyData.eqv d d=true:=SeqAt.eqv_refl d (Al h)
end Bg
namespace Pmt
open PyProof.Rows PySem.Calls PySem.W
variable{nrem n i:Nat}{h:Heap}{κ:SortKind}{Q:Option Nat->SortSt->Prop}
section
variable{prog:Program}{wo:World}{A:Around}{E:Value->Shared->Prop}{s:Shared}{a₀:Array Keyed}
def Cmp(prog:Program)(wo:World)(A:Around)(κ:SortKind)(s:Shared)(a₀:Array Keyed):Prop :=
 ∀x∈a₀,∀y∈a₀,∀(C:Bool->Shared->Prop),(∀b,C b s)->wpAny (model prog wo) A (keyLt' κ x.1 y.1) C (λ_ _=>False) s
structure PB(κ:SortKind)(a₀:Array Keyed)(P:Array (Nat×Nat×Nat))(st:SortSt):Prop where
 perm:(arrOf st).Perm a₀
 fail:failedOf st=none
 kind:kindOf st=κ
 pend:pendingOf st=P
def PB.size{P}{st:SortSt}(h:PB κ a₀ P st):(arrOf st).size=a₀.size:=h.perm.size_eq
def PB.mem{P}{st:SortSt}(h:PB κ a₀ P st){x}(hx:x∈arrOf st):x∈a₀:=h.perm.mem_iff.mp hx
def a3o{P}{st:SortSt}{x y:Keyed}{Q:Option Bool->SortSt->Prop}(hC:Cmp prog wo A κ s a₀)(hB:PB κ a₀ P st)(hx:x∈a₀)(hy:y∈a₀)
  (h:∀b,Q (some b) st):wpS (model prog wo) A E s (lt' x y) Q st:=by
 rw[lt'_eq];refine eU (Et ?_);rw[hB.kind];refine eU (wpS_lift (uc (iH (hC x hx y hy (λb s'=>s'=s) λb=>rfl) (λb s' e=>?_) λ_ _ f=>f.elim)));subst e;exact⟨Z,jo (h b)⟩
def Ro{arr:Array Keyed}{st:SortSt}{Q:Keyed->SortSt->Prop}(hi:i<arr.size)(h:Q arr[i] st):wpS (model prog wo) A E s (elem' arr i) Q st:=by
 rw[elem'_eq,xW hi];exact jo h
def CN{P}{st:SortSt}{j:Nat}{Q:Option Bool->SortSt->Prop}(hC:Cmp prog wo A κ s a₀)(hB:PB κ a₀ P st)(hi:i<a₀.size)(hj:j<a₀.size)
  (h:∀b,Q (some b) st):wpS (model prog wo) A E s (ltAt' i j) Q st:=by
 rw[ltAt'_eq];refine eU (Et ?_);exact eU (Ro (by rw[hB.size];exact hi) (eU (Ro (by rw[hB.size];exact hj) (a3o hC hB (hB.mem (Array.getElem_mem _)) (hB.mem (Array.getElem_mem _)) h))))
def PB.setArr{P}{st:SortSt}(h:PB κ a₀ P st){xs:Array Keyed}(hp:xs.Perm (arrOf st)):PB κ a₀ P (setArr st xs):=⟨hp.trans h.perm,h.fail,h.kind,h.pend⟩
def Hu{P}{st:SortSt}{j:Nat}{Q:Unit->SortSt->Prop}(hB:PB κ a₀ P st)(h:∀st',PB κ a₀ P st'->Q ⟨⟩ st') :
  wpS (model prog wo) A E s (reverseSlice' i j) Q st:=by
 rw[reverseSlice'_eq];exact Ph (h _ (hB.setArr (mirror_perm _ _ _ _)))
def Xu{P}{a:Nat}{st:SortSt}{Q:AscSt->SortSt->Prop}(hC:Cmp prog wo A κ s a₀)(hB:PB κ a₀ P st)(hn:nrem<=a₀.size)(h1:1<=a)(h2:a<=nrem)
  (h:∀m,1<=m->m<=nrem->Q (none,m) st):wpS (model prog wo) A E s (ascLoop a nrem) Q st:=by
 unfold ascLoop;refine Ep (I:=λx c st'=>st'=st/\c=(none,x)) ?_ ?_ ⟨Z,Z⟩
 ·rintro x c st' x1 x2 ⟨rfl,rfl⟩;refine eU (CN hC hB (by dsimp only;omega) (by dsimp only;omega) λb=>?_);cases b
  ·exact jo ⟨Z,Z⟩
  ·exact jo (h x () ())
 ·rintro c st' ⟨rfl,rfl⟩;exact h _ () ()
def Ě{P}{st:SortSt}(hC:Cmp prog wo A κ s a₀)(hB:PB κ a₀ P st)(hn:nrem<=a₀.size)(h1:1<=n)(h2:n<=nrem)
  (h:∀m st',1<=m->m<=nrem->PB κ a₀ P st'->Q (some m) st'):wpS (model prog wo) A E s (tail3 n nrem) Q st :=
 eU (Hu hB λst2 hB=>eU (Xu hC hB hn h1 h2 λm m1 m2=>jo (h m _ m1 m2 hB)))
def ě{P}{st:SortSt}(hC:Cmp prog wo A κ s a₀)(hB:PB κ a₀ P st)(hn:nrem<=a₀.size)(h2:n+1<=nrem)
  (h:∀m st',1<=m->m<=nrem->PB κ a₀ P st'->Q (some m) st'):wpS (model prog wo) A E s (descPart n nrem) Q st:=by
 unfold descPart descLoop;refine eU (wpS_lift (j8 (And.intro Z (eU (Jf (Ep (I:=λx c st'=>PB κ a₀ P st'/\∃q,c=(none,x,q)) (Q:=λc st'=>PB κ a₀ P st'/\∃m q,c=(none,m,q)/\1<=m/\m<=nrem) ?_ ?_ ⟨hB,_,Z⟩) ?_)))))
 ·rintro x c st' x1 x2 ⟨hB,q,rfl⟩;refine eU (CN hC hB (by dsimp only;omega) (by dsimp only;omega) λb=>?_);cases b
  ·refine eU (CN hC hB (by dsimp only;omega) (by dsimp only;omega) λb=>?_);cases b
   ·exact jo ⟨hB,_,Z⟩
   ·exact jo ⟨hB,_,_,Z,by dsimp only;omega,by dsimp only;omega⟩
  ·dsimp only;simp only[if_true];split
   ·exact eU (Hu hB λst2 hB=>jo ⟨hB,_,Z⟩)
   ·exact jo ⟨hB,_,Z⟩
 ·rintro c st' ⟨hB,q,rfl⟩;exact⟨hB,_,_,Z,(),()⟩
 ·rintro c st' ⟨hB,m,q,rfl,m1,m2⟩;dsimp only;split
  ·exact eU (Hu hB λst2 hB=>Ě hC hB hn m1 m2 h)
  ·exact Ě hC hB hn m1 m2 h
def a0x{P}{st:SortSt}(hC:Cmp prog wo A κ s a₀)(hB:PB κ a₀ P st)(hn:nrem<=a₀.size)(h1:1<=nrem)
  (h:∀m st',1<=m->m<=nrem->PB κ a₀ P st'->Q (some m) st'):wpS (model prog wo) A E s (countRun' 0 nrem) Q st:=by
 rw[countRun0_eq];refine eU (Xu hC hB hn (aN 1) h1 λm m1 m2=>?_);dsimp only;split
 ·exact jo (h m _ m1 m2 hB)
 ·have m3:m+1<=nrem:=()
  split
  ·refine eU (CN hC hB () () λb=>?_);cases b
   ·exact eU (Hu hB λst2 hB=>ě hC hB hn m3 h)
   ·exact jo (h m _ m1 m2 hB)
  ·exact ě hC hB hn m3 h
def a0y{P}{lo ok:Nat}{st:SortSt}{Q:Bool->SortSt->Prop}(hC:Cmp prog wo A κ s a₀)(hB:PB κ a₀ P st)(hn:lo+n<=a₀.size)
  (h:∀st',PB κ a₀ P st'->Q true st'):wpS (model prog wo) A E s (binarySort' lo n ok) Q st:=by
 rw[binarySort'_eq];refine eU (Jf (Ep (I:=λx c st'=>PB κ a₀ P st'/\c=(none,⟨⟩)) (Q:=λc st'=>PB κ a₀ P st'/\c=(none,⟨⟩)) ?_ ?_ ⟨hB,Z⟩) ?_)
 ·rintro k c st' hx1 hx2 ⟨Xv,rfl⟩;dsimp only;refine eU (Jf (Ep (I:=λx c st'=>PB κ a₀ P st'/\∃l r,c=(none,l,r)/\r<=k) (Q:=λc st'=>PB κ a₀ P st'/\∃l r,c=(none,l,r)) ?_ ?_ ⟨Xv,_,_,Z,aN _⟩) ?_)
  ·rintro x c st' _ _ ⟨Xv,l,r,rfl,hr⟩;dsimp only;split
   ·exact jo ⟨Xv,_,_,Z⟩
   ·refine eU (CN hC Xv () () λb=>?_);cases b
    ·exact jo ⟨Xv,_,_,Z,()⟩
    ·exact jo ⟨Xv,_,_,Z,()⟩
  ·rintro c st' ⟨Xv,l,r,rfl,hr⟩;exact⟨Xv,_,_,Z⟩
  ·rintro c st' ⟨Xv,l,r,rfl⟩;dsimp only;rw[moveDown'_eq];exact eU (Ph (jo ⟨Xv.setArr (bubble_perm _ _ _),Z⟩))
 ·rintro c st' ⟨Xv,rfl⟩;exact⟨Xv,Z⟩
 ·rintro c st' ⟨Xv,rfl⟩;exact jo (h _ Xv)
def a0z{st:SortSt}{Q:Unit->SortSt->Prop}(hC:Cmp prog wo A κ s a₀)(hB:PB κ a₀ #[] st)(h2:2<=a₀.size)(h64:a₀.size<64)(h:∀st',(arrOf st').Perm a₀->failedOf st'=none->Q ⟨⟩ st'):wpS (model prog wo) A E s sortRuns' Q st:=by
 rw[sortRuns'_eq];refine eU (Et ?_);have mr:minRun' a₀.size a₀.size 0=a₀.size:=by
  obtain⟨f,hf⟩:∃f,a₀.size=f+1:=⟨a₀.size-1,()⟩;rw[hf,minRun'_succ,aB ()];try rfl
 dsimp only;rw[hB.size,mr];refine eU (Jf (Ep (I:=λx c st'=>∃P lo,PB κ a₀ P st'/\c=(none,lo)/\((lo=0/\P = #[])\/(lo=a₀.size/\P.size=1))) (Q:=λc st'=>∃P lo,PB κ a₀ P st'/\c=(none,lo)/\P.size<=1) ?_ ?_ ⟨_,_,hB,Z,.inl ⟨Z,Z⟩⟩) ?_)
 ·rintro x c st1 _ _ ⟨P,lo,hB,rfl,⟨rfl,rfl⟩|⟨rfl,e⟩⟩
  ·dsimp only;rw[aq ()];refine eU (a0x hC hB () () λm st2 m1 m2 hB=>?_);dsimp only;by_cases c:m<a₀.size
   ·rw[aB c];refine eU (wpS_lift (j8 (And.intro Z (eU (a0y hC hB () λst3 hB=>?_)))));simp only[if_false,Bool.not_true,Bool.false_eq_true];refine eU (Et ?_);rw[hB.pend];exact eU (Ph (jo ⟨#[].push _,_,⟨hB.perm,hB.fail,hB.kind,by rw[<-hB.pend]⟩,Z,.inr ⟨by simp,Z⟩⟩))
   ·rw[aq c];refine eU (Et ?_);rw[hB.pend];exact eU (Ph (jo ⟨#[].push _,_,⟨hB.perm,hB.fail,hB.kind,by rw[<-hB.pend]⟩,Z,.inr ⟨(),Z⟩⟩))
  ·dsimp only;rw[aB (aN _)];exact jo ⟨P,_,hB,Z,()⟩
 ·rintro c st1 ⟨P,lo,hB,rfl,⟨rfl,rfl⟩|⟨rfl,e⟩⟩
  ·exact⟨_,_,hB,Z,dG _⟩
  ·exact⟨_,_,hB,Z,()⟩
 ·rintro c st1 ⟨P,lo,hB,rfl,e⟩;dsimp only;refine eU (Jf (Ep (I:=λ_ c st'=>st'=st1/\c=(none,⟨⟩)) (Q:=λc st'=>st'=st1/\c=(none,⟨⟩)) ?_ (λ_ _ z=>z) ⟨Z,Z⟩) ?_)
  ·rintro x c st2 _ _ ⟨rfl,rfl⟩;refine eU (Et ?_);rw[hB.pend,aB e];exact jo ⟨Z,Z⟩
  ·rintro c st2 ⟨rfl,rfl⟩;exact jo (h _ hB.perm hB.fail)
end
section
variable{prog:Program}{wo:World}{A:Around}{E:Value->Shared->Prop}{s:Shared}
def Asks(prog:Program)(wo:World)(A:Around)(κ:SortKind)(zs:List Value)(s:Shared):Prop :=
 (∀(E:Value->Shared->Prop) (R:SortKind->Shared->Prop),R κ s->wpAny (model prog wo) A (keyKind' zs.toArray) R E s)/\Cmp prog wo A κ s (pairsOf zs)
def P0{a:Addr}{zs:List Value}{P:PySem.Fin->Shared->Prop}(oa:s.heap.get? a=some (seqObj "list" zs.toArray n))(hz:zs.length<64)
  (hk:2<=zs.length->∀h',(∀b o,b≠a->s.heap.get? b=some o->h'.get? b=some o)->Asks prog wo A κ zs { s with heap:=h'})
  (h:∀ys:List Value,ys.Perm zs->P (.done (.ret .none)) { s with heap:=sortedHeap s.heap a zs ys.toArray}) :
  wpAny (model prog wo) A (Builtin.«list.sort» ⟨[.ref a],[]⟩) P E s:=by
 rw[list_sort_plain];have la:a<s⁻¹:=aX oa;refine M (listItems_at oa Z ?_);refine M (UW oa Z ?_ (by rw[gR,jg];omega) (dG _));obtain⟨ep,oa1⟩:∃ep,(s.heap.update a (Obj.mapSeq λ_=>#[])).get? a=some (seqObj "list" #[] ep):=⟨_,Uz oa λ_=>#[]⟩;refine M (seqEpoch_at oa1 Z ?_);refine M (IV ?_ (by show zs.length<=_;rw[jg];omega));refine M (U4 (fB ?_) (dG _));have oa6:(((s.heap.update a (Obj.mapSeq λ_=>#[])).push (seqObj "tuple" zs.toArray 0)).push (seqObj "list" #[] 0)).get? a=some (seqObj "list" #[] ep):=by
  rw[Oj _ _ _ (by rw[Pj,Uu];grind),Oj _ _ _ (by rw[Uu];grind)];exact oa1
 show wpAny (model prog wo) A _ P E { s with heap:=((s.heap.update a (Obj.mapSeq λ_=>#[])).push (seqObj "tuple" zs.toArray 0)).push (seqObj "list" #[] 0)};dsimp only;have fin:∀(st':SortSt),(arrOf st').Perm (pairsOf zs)->failedOf st'=none->((arrOf st').map (·.2)).toList.Perm zs:=λst' hp _=>by
  have q:=(Array.perm_iff_toList_perm.mp hp).map (·.2);rw[pairsOf_toList]at q;rw[Array.toList_map];refine q.trans (List.Perm.of_eq ?_);rw[List.map_snd_zip (aN _)]
 by_cases g2:zs.toArray.size<2
 ·rw[aB g2,aB g2];refine M (aj ?_);rw[StateT.run_pure];refine M (aj ?_);dsimp only;refine M (seqEpoch_at oa6 Z (M (UW oa6 Z ?_ (dG _) ())));simp only[if_false,Bool.false_eq_true,bne_self_eq_false];have q:=h zs (wC _);refine aj ?_;have e:(arrOf (SortSt.mk' general' (zs.toArray.zip zs.toArray) #[] 7 none)).map (·.2)=zs.toArray:=by
   grind
  rw[e];exact q
 ·rw[aq g2,aq g2];have h2':2<=zs.length:=by simp at g2;omega
  have ak:=hk h2' (((s.heap.update a (Obj.mapSeq λ_=>#[])).push (seqObj "tuple" zs.toArray 0)).push (seqObj "list" #[] 0)) λb o hb e=>bx _ (bx _ (by rw[Od _ _ _ _ hb];exact e));refine M (ak.1 _ _ ?_);have rn:=a0z (E:=E) (st:=SortSt.mk' κ (zs.toArray.zip zs.toArray) #[] 7 none) (Q:=λ_ st'=>(arrOf st').Perm (pairsOf zs)/\failedOf st'=none) ak.2 ⟨Array.Perm.refl _,Z,Z,Z⟩ (by rw[pairsOf_size];exact h2') (by rw[pairsOf_size];exact hz) (λst' h1 h2=>⟨h1,h2⟩);refine M (iH rn ?_ λ_ _ e=>e);rintro⟨⟨⟩,st'⟩ s' ⟨rfl,hp,hf⟩;dsimp only at hp hf ⊢;have pp:=fin st' hp hf;have hso:((arrOf st').map (·.2)).size=zs.length:=by simpa using pp.length_eq
  refine M (seqEpoch_at oa6 Z ?_);refine M (UW oa6 Z ?_ (dG _) (dF (O8 hso) (by rw[jg];omega)));rw[hf];simp only[if_false,Bool.false_eq_true,bne_self_eq_false];exact aj (h _ pp)
def Zk{l:Addr}{zs:List Value}{R:Value->Shared->Prop}(il:s.heap.IsList l zs.toArray)(hz:zs.length<64)
  (hk:2<=zs.length->∀(A':Around) (h':Heap),(∀b o,s.heap.get? b=some o->h'.get? b=some o)->Asks prog wo A' κ zs { s with heap:=h'})
  (h:∀ys:List Value,ys.Perm zs->R (.ref (s⁻¹+1)) { s with heap:=sortedAll s.heap zs ys.toArray}) :
  wpAny (model prog wo) A (call (.builtin "sorted") [.ref l]) R E s:=by
 apply ì kind_sorted plain_sorted entry_sorted (args_sorted1 _);unfold Builtin.«sorted»;refine M (m:=checkCount "sorted" 1 1 _) (aj ?_);refine M (collect_list il ?_ (by rw[jg];omega));refine M (U4 ?_ (by rw[jg];exact d7 ()));have lz:((s.heap.push (seqObj "list" #[] 0)).update s⁻¹ (Obj.mapSeq (· ++ zs.toArray))).objs.size=s⁻¹+1:=by
  rw[Uu];exact Pj _ _
 have oL:(((s.heap.push (seqObj "list" #[] 0)).update s⁻¹ (Obj.mapSeq (· ++ zs.toArray))).push (seqObj "list" zs.toArray 0)).get? (s⁻¹+1)=some (seqObj "list" zs.toArray 0):=by
  rw[<-lz];exact bT _ rfl
 show wpAny _ _ _ _ _ { s with heap:=((s.heap.push (seqObj "list" #[] 0)).update s⁻¹ (Obj.mapSeq (· ++ zs.toArray))).push (seqObj "list" zs.toArray 0)};rw[lz];refine M (fB (gq slot_list_sort ⟨_,oL,Z⟩ entry_list_sort (P0 (κ:=κ) oL hz (λg2 h' kp=>hk g2 _ h' λb o e=>?_) λp a1=>⟨_,Z,?_⟩) (args_list_sort _)))
 ·have lb:b<s⁻¹:=aX e;refine kp b o (bZ (Ir lb)) ?_;rw[Oj _ _ _ (),Od _ _ _ _ (bZ lb),Oj _ _ _ (bZ lb)];exact e
 ·exact aj ⟨_,Z,h p a1⟩
structure a3p(h:Heap)(v:Value)(ns:List Int):Prop where
 at':∃a o xs n,v=.ref a/\h.get? a=some o/\o.cls=.type "tuple" /\o.data=.seq xs n/\IntsAre xs.toList ns
 ne:ns≠[]
inductive uQ(h:Heap):List Value->List (List Int)->Prop
 |nil:uQ h [] []
 |cons {v ns vs ls}:a3p h v ns->uQ h vs ls->uQ h (v::vs) (ns::ls)
def uQ.keep{h':Heap}(k:∀b o,h.get? b=some o->h'.get? b=some o){vs ls}(t:uQ h vs ls):uQ h' vs ls:=by
 induction t with
 |nil=>exact .nil
 |cons x _ ih =>
  obtain⟨⟨a,o,xs,n,e,ho,r⟩,ne⟩:=x;exact .cons ⟨⟨a,o,xs,n,e,k _ _ ho,r⟩,ne⟩ ih
def uQ.len{vs ls}(t:uQ h vs ls):vs.length=ls.length:=by
 induction t with
 |nil=>rfl
 |cons _ _ ih=>rw[jH,jH,ih]
def uQ.get{vs ls}(t:uQ h vs ls){i}(hi:i<vs.length):a3p h (vs.getD i .none) (ls.getD i []):=by
 induction t generalizing i with
 |nil=>cases hi
 |cons a _ ih =>
  cases i with
  |zero=>exact a
  |succ i=>exact ih (T8 hi)
def uQ.kat{vs ls}(t:uQ h vs ls):∃fs,KatTups h vs fs/\fs.length=vs.length/\∀v∈fs,∃n t,v=Value.int n t:=by
 induction t with
 |nil=>exact⟨[],KatTups.nil,Z,λv hv=>absurd hv fu⟩
 | @cons v ns vs ls x _ ih =>
  obtain⟨⟨a,o,xs,n,e,ho,hc,hd,hi⟩,ne⟩:=x;obtain⟨fs,k,l,q⟩:=ih;subst e;obtain⟨xl⟩:=xs;have hi:IntsAre xl ns:=hi;cases hi with
  |nil=>grind
  |cons m u r =>
   refine⟨.int m u::fs,KatTups.cons ho hc hd Z k,(),λv hv=>?_⟩;grind
def a0A{Q:Bool->Shared->Prop}(h:∀b,Q b s){xs ys:List Value}{ns ms:List Int}(i:Nat)(c:Bool)(p:IntsAre xs ns)(q:IntsAre ys ms):KatLex prog wo A true c Q (xs.zip ys) i s:=by
 induction p generalizing ys ms i with
 |nil=>exact kat_nil (h _)
 |cons n t x ih =>
  cases q with
  |nil=>exact kat_nil (h _)
  |cons m u y =>
  refine kat_cons (wpAny_eqBool_int ?_);cases n==m with
  |true=>exact kat_yes (ih (i+1) y)
  |false =>
   refine kat_no ?_;cases(true&&i==0)with
   |true=>exact oneLt_int (h _)
   |false=>exact kat_one _ _ (lt_int (h _))
def Zm{vs:List Value}{ls:List (List Int)}(h:uQ s.heap vs ls)(h2:2<=vs.length):Asks prog wo A (tuples' true) vs s:=by
 refine⟨λE Q q=>?_,λx hx y hy C hC=>?_⟩
 ·obtain⟨fs,k,l,ty⟩:=h.kat;refine kat_kind (T:=.type "int") k () (λv hv=>?_) Z q;obtain⟨n,t,rfl⟩:=ty v hv;exact Looks.of_pure rfl
 ·have ix:∀x∈pairsOf vs,∃ns,a3p s.heap x.1 ns:=λx hx=>by
   obtain⟨i,hi,rfl⟩:=Array.getElem_of_mem hx;have hi':i<vs.length:=by rwa [pairsOf_size]at hi
   have:=h.get hi';rw[show(pairsOf vs)[i].1=vs.getD i .none by simp[pairsOf,hi']];exact⟨_,this⟩
  obtain⟨_,⟨a,o,xs,n,e1,ho,hc,hd,hx⟩,_⟩:=ix x hx;obtain⟨_,⟨a',o',ys,n',e2,ho',hc',hd',hy⟩,_⟩:=ix y hy;rw[e1,e2];exact kat_lt ho hd ho' hd' (a0A hC 0 _ hx hy)
end
end Pmt
namespace L2
open PyProof.Rows Bg Pmt
def a3q(K:aH)(H:Hp)(v:V)(ns:List Int):Prop:=∃p,v=.ref p/\cH K H p (ns.map V.int)
def a3r(K:aH):List V->Hp->VK->Prop:=λxs H Q=>∃l vs,∃ls:List (List Int),xs=[.ref l]/\bI K H l vs/\Paired (a3q K H) vs ls/\(∀ns∈ls,ns≠[])/\vs.length<64/\
 ∀(q:List Nat) p H',q.Perm (List.range vs.length)->True->gZ H p (.lst (q.map λi=>vs.getD i .non)) H'->Q (.ref p) H'
theorem ints_of:∀{ns:List Int}{us:List Value},cN (ns.map V.int) us->IntsAre us ns
 | [],_,.nil=>.nil
 |n::ns,_,.cons r t=>by
  obtain⟨k,rfl⟩:=r
  exact .cons n k (ints_of t)
section
variable{X:Cx}{K:aH}
def a0B{Y:List (Addr×Obj)}{σ:St}{H:Hp}{s:Shared}(I:bC X Y σ H s){vs:List V}{us:List Value}{ls:List (List Int)}(v:cN vs us)(p:Paired (a3q X.K H) vs ls)(ne:∀ns∈ls,ns≠[]):uQ s.heap us ls:=by
 induction v generalizing ls with
 |nil =>
  cases p;exact .nil
 |cons r t ih =>
  cases p with
  |cons a b =>
   obtain⟨pt,rfl,hT⟩:=a;obtain⟨bV,ri,⟨o,ho,hc,n,hd⟩,_⟩:=I.tuple hT;cases r;exact .cons ⟨⟨pt,o,bV.toArray,n,Z,ho,hc,hd,by simpa using ints_of ri⟩,ne _ aV⟩ (ih b λns h=>ne ns (bh _ h))
def Zn{vs:List V}{us:List Value}(v:cN vs us)(i:Nat)(h:i<vs.length):cQ (vs.getD i .non) (us.getD i .none):=by
 induction v generalizing i with
 |nil=>cases h
 |cons r _ ih =>
  cases i with
  |zero=>exact r
  |succ i=>exact ih i (T8 h)
theorem Rp{vs:List V}{us:List Value}(r:cN vs us):∀(q:List Nat),(∀i∈q,i<vs.length)->cN (q.map λi=>vs.getD i .non) (q.map λi=>us.getD i .none)
 | [],_=>.nil
 |i::q,h=>.cons (Zn r i (h i aV)) (Rp r q λj hj=>h j (bh _ hj))
def Ĝ{α β:Type}{f:α->β}{ws vs:List β}(h:ws.Perm vs):∀{l:List α},vs=l.map f->∃q:List α,q.Perm l/\ws=q.map f:=by
 induction h with
 |nil =>
  intro l e;have:l=[]:=by simpa using e.symm
  subst this;exact⟨[],wC _,Z⟩
 |cons x _ ih =>
  intro l e;cases l with
  |nil=>cases e
  |cons a l =>
   obtain⟨q,p,e2⟩:=ih (En e).2;exact⟨a::q,p.cons _,by rw[(En e).1,e2];rfl⟩
 |swap x y m =>
  intro l e
  match l,e with
  |a::b::l,e=>exact⟨b::a::l,List.Perm.swap _ _ _,by simp at e;simp[e]⟩
 |trans _ _ ih1 ih2 =>
  intro l e;obtain⟨q,p,e2⟩:=ih2 e;obtain⟨q',p',e3⟩:=ih1 e2;exact⟨q',p'.trans p,e3⟩
def Qa(e:X.K=K):jG X (.builtin "sorted") (a3r K):=by
 subst e;intro Y s σ H xs us Q I r h;obtain⟨l,vs,ls,rfl,hL,hP,ne,h64,q⟩:=h;obtain⟨u,rfl,rx⟩:=vals1 r;cases rx;obtain⟨bV,r',pl,hz⟩:=I.list hL;have hlen:=r'.length;have ht:=a0B I r' hP ne;refine Pmt.Zk (κ:=tuples' true) pl.isList () (λh2 A' h' kp=>Zm (ht.keep kp) h2) λys pm=>?_;have ei:bV=(List.range bV.length).map λi=>bV.getD i .none:=Uv (by simp) λi h1 h2=>by simp[h1]
 obtain⟨qq,pq,eq⟩:=Ĝ pm ei;obtain⟨c,hc⟩:=sortedAll_at s.heap bV ys.toArray;have pq':qq.Perm (List.range vs.length):=by rw[hlen];exact pq
 have mem:∀i∈qq,i<vs.length:=λi hi=>nQ.mp (pq'.mem_iff.mp hi);refine⟨.ref (s⁻¹+1),_,I.laid (t':=s.toks) (o:=.lst (qq.map λi=>vs.getD i .non)) (λb o eo=>sortedAll_old eo) (yj _) ?_,Z,?_⟩
 ·exact⟨by have:=pm.length_eq;have:=pq.length_eq;rw[aM];simp at this;omega,_,c,by rw[eq];exact Rp r' qq mem,hc⟩
 ·exact q qq _ _ pq' mO (gZ.oM (I.hok.fresh (yj _)))
end
end L2
namespace Sm
variable{xs:Array Nat}{k j:Nat}
def Xw(xs:Array Nat)(j k:Nat):Prop:=k<=xs.size/\∀i (h:i<xs.size),xs[i]<j↔i<k
def Xx(h:xs.toList.Pairwise (· < ·)){i:Nat}(hi:i<xs.size)(hk:k<xs.size)(ik:i<k):xs[i]<xs[k]:=by
 have:=í.mp h i k (by simpa using hi) (by simpa using hk) ik;simpa using this
def Rq(h:xs.toList.Pairwise (· < ·)):∀(fuel lo hi:Nat),hi-lo<=fuel->lo<=hi->hi<=xs.size->
  (∀i (z:i<xs.size),i<lo->xs[i]<j)->(∀i (z:i<xs.size),hi<=i->j<=xs[i])->Xw xs j (SetTable.below.go xs j fuel lo hi):=by
 intro fuel
 induction fuel with
 |zero =>
  intro lo hi a b c d e;unfold SetTable.below.go;have:lo=hi:=()
  subst this;exact⟨c,λi z=>⟨λq=>by
   rcases yh i lo with g|g
   ·exact g
   ·have:=e i z g;omega,λq=>d i z q⟩⟩
 |succ f ih =>
  intro lo hi a b c d e;unfold SetTable.below.go;by_cases q:lo<hi
  ·rw[aB q];dsimp only;have m1:lo<=(lo+hi)/2:=()
   have m2:(lo+hi)/2<hi:=()
   have m3:(lo+hi)/2<xs.size:=()
   have ge:xs.getD ((lo+hi)/2) j=xs[(lo+hi)/2]:=by simp[Array.getD,m3]
   rw[ge];by_cases r:xs[(lo+hi)/2]<j
   ·rw[aB r];refine ih _ _ () () c (λi z hi'=>?_) e;rcases yh i ((lo+hi)/2)with g|g
    ·have:=Xx h z m3 g;omega
    ·have:i=(lo+hi)/2:=()
     subst this;exact r
   ·rw[aq r];refine ih _ _ () () () d (λi z hi'=>?_);rcases yh ((lo+hi)/2) i with g|g
    ·have:=Xx h m3 z g;omega
    ·have:i=(lo+hi)/2:=()
     subst this;omega
  ·rw[aq q];have:lo=hi:=()
   subst this;exact⟨c,λi z=>⟨λq=>by
    rcases yh i lo with g|g
    ·exact g
    ·have:=e i z g;omega,λq=>d i z q⟩⟩
def CP(h:xs.toList.Pairwise (· < ·))(j:Nat):Xw xs j (SetTable.below xs j) :=
 Rq h _ _ _ () (dG _) (aN _) (λi z q=>absurd q (Ay _)) (λi z q=>absurd z ())
def below_at(h:xs.toList.Pairwise (· < ·))(hk:k<xs.size):SetTable.below xs (xs[k])=k:=by
 obtain⟨a,b⟩:=CP h xs[k];rcases Nat.lt_trichotomy (SetTable.below xs xs[k]) k with g|g|g
 ·have c:=(b (SetTable.below xs xs[k]) ()).mp (Xx h () hk g);omega
 ·exact g
 grind
def VF(h:xs.toList.Pairwise (· < ·)):SetTable.below xs 0=0:=by
 obtain⟨a,b⟩:=CP h 0;rcases Nat.eq_zero_or_pos (SetTable.below xs 0)with g|g
 ·exact g
 grind
def VG(h:xs.toList.Pairwise (· < ·))(hk:k<xs.size):SetTable.below xs (xs[k]+1)=k+1:=by
 obtain⟨a,b⟩:=CP h (xs[k]+1);have c:=(b k hk).mp ();rcases yh (k+1) (SetTable.below xs (xs[k]+1))with g|g
 ·have e:=(b (k+1) ()).mpr g;have:=Xx h hk (show k+1<xs.size by omega) (Aw _);omega
 ·omega
def Xy(j:Nat):SetTable.has #[] j=false:=by
 unfold SetTable.has;simp
def Bh{t:SetTable}(dm:t.dummies = #[])(h:j∉t.place.toList):t.slot j=.empty:=by
 unfold SetTable.slot;have e:(t.place[SetTable.below t.place j]?==some j)=false:=by
  rw[wj];intro c;exact h (by simpa using Array.mem_of_getElem? c)
 dsimp only;rw[e,dm,Xy];rfl
def Zq{t:SetTable}(up:t.place.toList.Pairwise (· < ·))(h:j∈t.place.toList):∃i,t.slot j=.live i:=by
 obtain⟨k,hk,e⟩:=oU h;have hk':k<t.place.size:=by simpa using hk
 have e':t.place[k]=j:=by simpa using e
 unfold SetTable.slot;have q:SetTable.below t.place j=k:=by rw[<-e'];exact below_at up hk'
 dsimp only;rw[q];have:(t.place[k]?==some j)=true:=by simp[hk',e']
 rw[this];grind
def adv(mask:Nat)(p:SetTable.Probe):SetTable.Probe :=
 if 0<p.more then{ p with more:=p.more-1,j:=p.j+1}else
 { p with j:=(SetTable.leap mask p.i p.perturb).1,more:=SetTable.runEnd mask (SetTable.leap mask p.i p.perturb).1-(SetTable.leap mask p.i p.perturb).1,i:=(SetTable.leap mask p.i p.perturb).1,perturb:=(SetTable.leap mask p.i p.perturb).2}
def a3s(t:SetTable)(p:SetTable.Probe):t.advance p=adv t.mask p:=by
 unfold SetTable.advance adv;rfl
def nth(mask:Nat)(p:SetTable.Probe):Nat->SetTable.Probe
 |0=>p
 |k+1=>nth mask (adv mask p) k
def Zr(m:Nat)(p:SetTable.Probe):(adv m p).dummy=p.dummy:=by
 unfold adv;split<;>rfl
def ĝ{t:SetTable}(dm:t.dummies = #[])(up:t.place.toList.Pairwise (· < ·))(h:Int):∀(k fuel:Nat) (p:SetTable.Probe),k<fuel->p.dummy=none->(nth t.mask p k).j∉t.place.toList->
  ∃j,j∉t.place.toList/\SetTable.probe.go t (λ_=>h+1) h fuel p=some (.empty j none):=by
 intro k
 induction k with
 |zero =>
  intro fuel p hf hd hn;obtain⟨f,rfl⟩:∃f,fuel=f+1:=⟨fuel-1,()⟩;unfold SetTable.probe.go;have hn':p.j∉t.place.toList:=hn;refine⟨p.j,hn',?_⟩;rw[Bh dm hn',hd]
 |succ k ih =>
  intro fuel p hf hd hn;obtain⟨f,rfl⟩:∃f,fuel=f+1:=⟨fuel-1,()⟩;unfold SetTable.probe.go;by_cases c:p.j∈t.place.toList
  ·obtain⟨i,e⟩:=Zq up c;rw[e];dsimp only;have:(h+1==h)=false:=()
   rw[this];rw[a3s];exact ih f (adv t.mask p) () (by rw[Zr];exact hd) hn
  ·rw[Bh dm c,hd];exact⟨p.j,c,Z⟩
def VH(v:Nat):SetTable.Probe:={ j:=v%8,more:=0,i:=v%8,perturb:=v,dummy:=none}
def seven:∀v,v<16->∀j,j<8->∃k,k<16/\(nth 7 (VH v) k).j=j:=by decide
def Qc{v:Nat}(h:v<16):SetTable.bits (v:Int)=v:=by
 unfold SetTable.bits;omega
def a0C{t:SetTable}(dm:t.dummies = #[])(up:t.place.toList.Pairwise (· < ·)){v:Nat}(hk:k<10*SetTable.turns t.mask)(hn:(nth t.mask (t.probeStart (v:Int)) k).j∉t.place.toList) :
  ∃j,j∉t.place.toList/\t.freeSlot (v:Int)=some (j,false):=by
 obtain⟨j,hj,e⟩:=ĝ dm up (v:Int) k (10*SetTable.turns t.mask) (t.probeStart (v:Int)) hk Z hn;refine⟨j,hj,?_⟩;unfold SetTable.freeSlot SetTable.probe;rw[e];rfl
theorem VJ:∀(l m:List Nat),l.Nodup->(∀x∈l,x∈m)->l.length<=m.length
 | [],_,_,_=>dG _
 |a::r,m,nd,h=>by
  have am:a∈m:=h a aV
  obtain⟨n1,n2⟩:=iW.mp nd
  have q:=VJ r (m.erase a) n2 λx hx=>(List.mem_erase_of_ne (λe=>n1 ())).mpr (h x (bh _ hx))
  grind
def a3t{l:List Nat}(h:l.length<=4):∃j,j<8/\j∉l:=by
 apply î;intro c;have q:∀j,j<8->j∈l:=λj hj=>î λd=>c ⟨j,hj,d⟩;have:=VJ (List.range 8) l List.nodup_range (λj hj=>q j (nQ.mp hj));grind
def Ğ{t:SetTable}(dm:t.dummies = #[]){v:Nat}(hv:v<16)(hm:15<=t.mask)(hn:v∉t.place.toList):t.freeSlot (v:Int)=some (v,false):=by
 unfold SetTable.freeSlot SetTable.probe;have e:(t.probeStart (v:Int)).j=v:=by
  unfold SetTable.probeStart;dsimp only;rw[Qc hv];exact Nat.mod_eq_of_lt ()
 obtain⟨f,hf⟩:∃f,10*SetTable.turns t.mask=f+1:=⟨10*SetTable.turns t.mask-1,by unfold SetTable.turns;omega⟩;rw[hf];unfold SetTable.probe.go;rw[e,Bh dm hn];rfl
def Es(es:Array (Int×Value))(L:List Nat):Prop:=Paired (λe v=>e.1=((v:Nat):Int)/\∃tk,e.2=Value.int ((v:Nat):Int) tk) es.toList L
structure Tb(B:Bool)(t:SetTable)(L:List Nat):Prop where
 dm:t.dummies = #[]
 pl:t.plain=true
 led:t.led = !B
 up:t.place.toList.Pairwise (· < ·)
 sz:t.place.size=L.length
 nd:L.Nodup
 lt:∀v∈L,v<16
 sh:(t.mask=7/\L.length<=4)\/(15<=t.mask/\t.place.toList=L/\L.length*5<t.mask*3)
def a3u(up:xs.toList.Pairwise (· < ·))(h:j∉xs.toList):(SetTable.insertAt xs (SetTable.below xs j) j).toList.Pairwise (· < ·):=by
 obtain⟨a,b⟩:=CP up j;rw[Ii];have z:∀i (hi:i<xs.toList.length),xs.toList[i]<j↔i<SetTable.below xs j:=λi hi=>by
  have:=b i (by simpa using hi);simpa using this
 rw[Ue];refine⟨up.sublist (Oh _ _),?_,?_⟩
 ·rw[Aq];refine⟨λy hy=>?_,up.sublist (List.drop_sublist _ _)⟩;obtain⟨i,hi,e⟩:=oU hy;grind
 ·intro x hx y hy;obtain⟨i,hi,e⟩:=oU hx;rw[List.getElem_take]at e;have hl:i<xs.toList.length:=()
  have hb:i<SetTable.below xs j:=()
  have x1:x<j:=()
  rcases bU.mp hy with rfl|hy
  ·exact x1
  ·obtain⟨k,hk,e2⟩:=oU hy;grind
def Es.len{es:Array (Int×Value)}{L:List Nat}(h:Es es L):es.size=L.length:=by
 have:=aQ h;grind
theorem Gd{α β:Type}{R:α->β->Prop}:∀{xs:List α}{ys:List β} (n:Nat),Paired R xs ys->Paired R (xs.take n) (ys.take n)
 |_,_,0,_=>.nil
 |_,_,_+1,.nil=>.nil
 |_,_,n+1,.cons r t=>.cons r (Gd n t)
theorem Ge{α β:Type}{R:α->β->Prop}:∀{xs:List α}{ys:List β} (n:Nat),Paired R xs ys->Paired R (xs.drop n) (ys.drop n)
 |_,_,0,r=>r
 |_,_,_+1,.nil=>.nil
 |_,_,n+1,.cons _ t=>Ge n t
def jP{α β:Type}{R:α->β->Prop}{xs xs':List α}{ys ys':List β}(h:Paired R xs ys)(q:Paired R xs' ys'):Paired R (xs++xs') (ys++ys'):=by
 induction h with
 |nil=>exact q
 |cons a _ ih=>exact .cons a ih
def bw{α β:Type}{R:α->β->Prop}{xs:List α}{ys:List β}(p:Paired R xs ys)(i:Nat)(h:i<ys.length):∃x,xs[i]?=some x/\R x ys[i]:=by
 induction p generalizing i with
 |nil=>cases h
 |cons r _ ih =>
  cases i with
  |zero=>exact⟨_,Z,r⟩
  |succ i=>exact ih i (T8 h)
def a3v{B:Bool}{t:SetTable}{L:List Nat}{es:Array (Int×Value)}{v:Nat}{x:Value}(T:Tb B t L)(hE:Es es L)(hv:v<16)(hn:v∉L)(hx:∃tk,x=Value.int ((v:Nat):Int) tk) :
  ∃t1 es1 p,layNew t es ((v:Nat):Int) x=(es1,t1,false,false)/\Es es1 (L.take p++v::L.drop p)/\t1.dummies = #[]/\t1.plain=true/\(t1.led = !B)/\t1.mask=t.mask/\t1.finger=t.finger/\t1.moves=t.moves/\
   t1.place.toList.Pairwise (· < ·)/\t1.place.size=L.length+1/\(15<=t.mask->t1.place.toList=L.take p++v::L.drop p):=by
 have main:∃j,j∉t.place.toList/\t.freeSlot ((v:Nat):Int)=some (j,false)/\(15<=t.mask->j=v):=by
  rcases T.sh with⟨m7,l4⟩|⟨Xz,pe,fl⟩
  ·have lp:t.place.toList.length<=4:=by rw[uY,T.sz];exact l4
   obtain⟨j,hj,nj⟩:=a3t lp;obtain⟨k,hk,e⟩:=seven v hv j hj;have st:t.probeStart ((v:Nat):Int)=VH v:=by
    unfold SetTable.probeStart VH;rw[Qc hv,m7];unfold SetTable.runEnd;have:¬v%(7+1)+9<=7:=()
    simp only[if_neg this];simp
   obtain⟨j',hj',e'⟩:=a0C (v:=v) (k:=k) T.dm T.up (by unfold SetTable.turns;omega) (by rw[st,m7,e];exact nj);exact⟨j',hj',e',λc=>by omega⟩
  ·have nv:v∉t.place.toList:=by rw[pe];exact hn
   exact⟨v,nv,Ğ T.dm hv Xz nv,λ_=>rfl⟩
 obtain⟨j,nj,ef,ej⟩:=main;have sz1:(SetTable.insertAt t.place (SetTable.below t.place j) j).size=L.length+1:=by
  have:=congrArg List.length (Ii t.place (SetTable.below t.place j) j);rw[uY]at this;rw[this,cC,jH,fZ,lG,uY,T.sz];omega
 have es1:(SetTable.insertAt es (SetTable.below t.place j) (((v:Nat):Int),x)).size=L.length+1:=by
  have:=congrArg List.length (Ii es (SetTable.below t.place j) (((v:Nat):Int),x));rw[uY]at this;rw[this,cC,jH,fZ,lG,uY,hE.len];omega
 have mk:L.length+1<=t.mask:=by
  rcases T.sh with⟨m7,l4⟩|⟨Xz,pe,fl⟩<;>omega
 refine⟨{ t with place:=SetTable.insertAt t.place (SetTable.below t.place j) j},SetTable.insertAt es (SetTable.below t.place j) (((v:Nat):Int),x),SetTable.below t.place j,?_,?_,T.dm,T.pl,T.led,rfl,rfl,rfl,a3u T.up nj,sz1,?_⟩
 ·unfold layNew;rw[ef];dsimp only;unfold SetTable.put;have hd:SetTable.has t.dummies j=false:=by rw[T.dm];exact Xy j
  dsimp only;rw[hd];have ft:SetTable.fits { t with place:=SetTable.insertAt t.place (SetTable.below t.place j) j} (SetTable.insertAt es (SetTable.below t.place j) (((v:Nat):Int),x)).size=true:=by
   unfold SetTable.fits SetTable.fill;dsimp only;rw[sz1,es1,T.dm];simp;omega
  unfold SetTable.orStandIn;simp only[if_false,Bool.false_eq_true];rw[aB ft,ft];rfl
 ·unfold Es;rw[Ii];exact jP (Gd _ hE) (.cons ⟨Z,hx⟩ (Ge _ hE))
 ·intro hm;dsimp only;have:=ej hm;subst this;rcases T.sh with⟨m7,l4⟩|⟨Xz,pe,fl⟩
  ·omega
  ·rw[Ii,pe]
end Sm
namespace Sm
variable{L:List Nat}{m f n:Nat}{es:Array (Int×Value)}
def ğ(m:Nat)(owner:Array (Option Nat))(L:List Nat):Prop:=owner.size=m+1/\∀j,j<=m->owner.getD j none=if j∈L then some (L.idxOf j)else none
def Ġ{owner:Array (Option Nat)}(Z96:ğ m owner L){v:Nat}(hv:v<=m)(hn:v∉L):SetTable.layClean.free m owner (f+1) v v=some v:=by
 unfold SetTable.layClean.free;obtain⟨k,hk⟩:∃k,SetTable.runEnd m v+1-v=k+1:=⟨SetTable.runEnd m v-v,by unfold SetTable.runEnd;split<;>omega⟩;rw[hk,List.range_succ_eq_map];have g:owner.getD (v+0) (some 0)=none:=by
  have a:=Z96.2 v hv;rw[aq hn]at a;have hs:v<owner.size:=by rw[Z96.1];omega
  simp[Array.getD,hs]at a ⊢;exact a
 rw[uX (by rw[g];rfl)];rfl
def ġ(hm:15<=m):∀(R L:List Nat) (owner:Array (Option Nat)),ğ m owner L->(L++R).Nodup->(∀v∈R,v<16)->
  ∃Ģ,ğ m Ģ (L++R)/\(R.map λv=>((v:Nat):Int)).foldl (λ(acc:Option (Array (Option Nat)×Nat)) h=>do
   let(owner,k) <-acc
   let j <-SetTable.layClean.free m owner (SetTable.turns m) (SetTable.bits h%(m+1)) (SetTable.bits h)
   pure (owner.setIfInBounds j (some k),k+1)) (some (owner,L.length))=some (Ģ,(L++R).length):=by
 intro R
 induction R with
 |nil=>grind
 |cons v R ih =>
  intro L owner Z96 nd hlt;have hv:v<16:=hlt v aV;have hn:v∉L:=λc=>by
   grind
  have O':ğ m (owner.setIfInBounds v (some L.length)) (L++[v]):=by
   refine⟨by rw[Array.size_setIfInBounds];exact Z96.1,λj hj=>?_⟩;have hs:v<owner.size:=by rw[Z96.1];omega
   have hs':j<owner.size:=by rw[Z96.1];omega
   have a:=Z96.2 j hj;by_cases e:j=v
   ·subst e;rw[aB (iG _ (bM.mpr Z)),List.idxOf_append,aq hn];simp[Array.getD,hs]
   ·have e1:(owner.setIfInBounds v (some L.length)).getD j none=owner.getD j none:=by
     simp only[Array.getD,Array.size_setIfInBounds,hs'];simp[Array.getElem_setIfInBounds,hs',Ne.symm e]
    grind
  obtain⟨o2,O2,e2⟩:=ih (L++[v]) _ O' () (λu hu=>hlt u (bh _ hu));refine⟨o2,(),?_⟩;rw[b7,List.foldl_cons];have st:(do
   let(owner,k) <-some (owner,L.length);let j <-SetTable.layClean.free m owner (SetTable.turns m) (SetTable.bits ((v:Nat):Int)%(m+1)) (SetTable.bits ((v:Nat):Int))
   pure (owner.setIfInBounds j (some k),k+1):Option (Array (Option Nat)×Nat))=some (owner.setIfInBounds v (some L.length),(L++[v]).length):=by
   rw[Qc hv,Nat.mod_eq_of_lt ()];have:SetTable.turns m=(m+14)+1:=rfl;rw[this];show(SetTable.layClean.free m owner (m+14+1) v v).bind _=_;rw[Ġ Z96 () hn];simp
  grind
def upTo(m:Nat)(L:List Nat):List Nat:=(List.range (m+1)).filter λj=>decide (j∈L)
def Qd(m:Nat)(L:List Nat):(upTo m L).Pairwise (· < ·):=Im _ List.pairwise_lt_range
def mem_upTo(h:∀v∈L,v<=m){j:Nat}:j∈upTo m L↔j∈L:=by
 unfold upTo;grind
def Gf(h:L.Pairwise (· < ·)):L.Nodup:=h.imp λh=>bZ h
def zE(h:∀v∈L,v<=m)(nd:L.Nodup):(upTo m L).Perm L :=
 (Ig (Gf (Qd m L)) nd).mpr λj=>mem_upTo h
def a0D(nd:L.Nodup):L.map (λv=>L.idxOf v)=List.range L.length:=by
 apply Uv
 ·simp
 grind
theorem ģ{α β:Type}(p:α->Bool)(f:α->β):∀l:List α,l.filterMap (λa=>if p a=true then some (f a)else none)=(l.filter p).map f
 | []=>rfl
 |a::r=>by
  rw[Ot]
  cases e:p a with
  |true=>rw[Nz (b:=f a) (by rw[e];rfl),ģ p f r];simp
  |false=>rw[List.filterMap_cons_none (by rw[e];rfl),ģ p f r];simp
theorem Rr{α β:Type}{f g:α->Option β}:∀{l:List α},(∀a∈l,f a=g a)->l.filterMap f=l.filterMap g
 | [],_=>rfl
 |a::r,h=>by
  have e:=h a aV
  have q:=Rr (l:=r) λb hb=>h b (bh _ hb)
  grind
def Es.hashes(h:Es es L):(es.map (·.1)).toList=L.map λv=>((v:Nat):Int):=by
 rw[Array.toList_map];unfold Es at h;generalize es.toList=l at h
 induction h with
 |nil=>rfl
 |cons r _ ih=>grind
def Es.at{es:Array (Int×Value)}{L:List Nat}(h:Es es L){v:Nat}(hv:v∈L):∃e,es[L.idxOf v]?=some e/\e.1=((v:Nat):Int)/\∃tk,e.2=Value.int ((v:Nat):Int) tk:=by
 have hi:=Nx hv;obtain⟨x,e,q⟩:=bw h (L.idxOf v) hi;rw[List.getElem_idxOf hi]at q;exact⟨x,by simpa using e,q⟩
theorem a2m{es:Array (Int×Value)}{L:List Nat}(h:Es es L):∀S:List Nat,(∀v∈S,v∈L)->Paired (λe v=>e.1=((v:Nat):Int)/\∃tk,e.2=Value.int ((v:Nat):Int) tk) ((S.map λv=>L.idxOf v).filterMap λi=>es[i]?) S
 | [],_=>.nil
 |v::S,hs=>by
  obtain⟨e,a,b⟩:=h.at (hs v aV)
  rw[b7,Nz a]
  exact .cons b (a2m h S λu hu=>hs u (bh _ hu))
def Qe{mv:Nat}{led plain:Bool}(hm:15<=m)(hE:Es es L)(nd:L.Nodup)(hlt:∀v∈L,v<16) :
  ∃order:Array Nat,SetTable.laid m f mv led plain (es.map (·.1))=some ({ mask:=m,place:=(upTo m L).toArray,dummies:=#[],finger:=f,led:=led,moves:=mv,plain:=plain},order)/\
   Es (order.filterMap (es[·]?)) (upTo m L)/\coversAll order es.size=true:=by
 have hle:∀v∈L,v<=m:=λv hv=>by grind
 have O0:ğ m (Array.replicate (m+1) none) []:=⟨by simp,λj hj=>by simp[Array.getD]⟩;obtain⟨ow,Z96,e⟩:=ġ hm L [] _ O0 (by simpa using nd) hlt;rw[List.nil_append]at Z96 e;have ec:SetTable.layClean m (es.map (·.1))=some ow:=by
  unfold SetTable.layClean;rw[<-Array.foldl_toList,hE.hashes];grind
 have lv:(List.range (m+1)).filterMap (λj=>(ow.getD j none).map λk=>(j,k))=(upTo m L).map λj=>(j,L.idxOf j):=by
  unfold upTo;rw[<-ģ];apply Rr;intro j hj;rw[Z96.2 j ()];grind
 refine⟨((upTo m L).map λj=>L.idxOf j).toArray,?_,?_,?_⟩
 ·unfold SetTable.laid;rw[ec];show some _=some _;have:(List.range (m+1)).filterMap (λj=>(ow.getD j none).map (j,·))=(upTo m L).map λj=>(j,L.idxOf j):=lv;rw[this,mL,mL];have i1:((λ(x:Nat×Nat)=>x.1)∘λj=>(j,L.idxOf j))=λj=>j:=rfl;have i2:((λ(x:Nat×Nat)=>x.2)∘λj=>(j,L.idxOf j))=λj=>L.idxOf j:=rfl;rw[i1,i2,List.map_id']
 ·unfold Es;rw[Array.toList_filterMap];exact a2m hE (upTo m L) λv hv=>(mem_upTo hle).mp hv
 ·unfold coversAll;rw[List.isPerm_iff,hE.len];have p:=(zE hle nd).map λv=>L.idxOf v;rw[a0D nd]at p;exact p
def VL(h:∀v∈L,v<16)(hm:15<=m)(nd:L.Nodup):(upTo m L).length=L.length:=(zE (λv hv=>by grind) nd).length_eq
def CQ(h:n<2^40):n<SetTable.sizeAbove n:=by
 have go:∀fuel size,n<size*2^fuel->n<SetTable.sizeAbove.go n fuel size:=by
  intro fuel
  induction fuel with
  |zero=>intro size h;unfold SetTable.sizeAbove.go;simpa using h
  |succ f ih =>
   intro size h;unfold SetTable.sizeAbove.go;grind
 exact go 64 8 ()
def CT(h:8<=n):16<=SetTable.sizeAbove n:=by
 have go:∀fuel size,16<=size->16<=SetTable.sizeAbove.go n fuel size:=by
  intro fuel
  induction fuel with
  |zero=>intro size h;unfold SetTable.sizeAbove.go;exact h
  |succ f ih =>
   intro size h;unfold SetTable.sizeAbove.go;grind
 unfold SetTable.sizeAbove;unfold SetTable.sizeAbove.go;grind
def Tb.fits{B:Bool}{t:SetTable}{L:List Nat}(T:Tb B t L):t.fits L.length=true:=by
 unfold SetTable.fits SetTable.fill;have:=T.sz;rw[T.dm];rcases T.sh with⟨a,b⟩|⟨a,b,c⟩<;>simp[this]<;>omega
def Qf{B:Bool}{mv:Nat}(hm:15<=m)(nd:L.Nodup)(hlt:∀v∈L,v<16)(hr:L.length*5<m*3) :
  Tb B { mask:=m,place:=(upTo m L).toArray,dummies:=#[],finger:=f,led:=!B,moves:=mv,plain:=true} (upTo m L) where
 dm:=rfl
 pl:=rfl
 led:=rfl
 up:=by simpa using Qd m L
 sz:=by simp
 nd:=Gf (Qd m L)
 lt:=λv hv=>hlt v ((mem_upTo (λv hv=>by grind)).mp hv)
 sh:=.inr ⟨hm,by simp,by rw[VL hlt hm nd];exact hr⟩
def Ĥ{B:Bool}{t:SetTable}(hp:t.plain=true)(hl:t.led = !B)(hE:Es es L)(nd:L.Nodup)(hlt:∀v∈L,v<16)(hn:8<=n)(h2:2*L.length<=n)(hb:n<2^40) :
  ∃es' t' L',relayAll t es n=(es',t',false)/\Es es' L'/\Tb B t' L'/\L'.Perm L:=by
 have a1:=CQ hb;have a2:=CT hn;have hm:15<=SetTable.sizeAbove n-1:=()
 obtain⟨order,e,hE',hc⟩:=Qe (f:=t.finger) (mv:=t.movedTo (SetTable.sizeAbove n-1)) (led:=!B) (plain:=true) hm hE nd hlt;have T:=Qf (B:=B) (f:=t.finger) (mv:=t.movedTo (SetTable.sizeAbove n-1)) hm nd hlt ();refine⟨_,_,_,?_,hE',T,zE (λv hv=>by have:=hlt v hv;omega) nd⟩;unfold relayAll SetTable.relaid;rw[hp,hl,e];dsimp only;have z:=hE'.len;rw[hc,z,T.fits];rfl
end Sm
namespace Sm
variable{L:List Nat}{es:Array (Int×Value)}{h:Heap}{a:Addr}{B:Bool}{tk:Nat}
abbrev lX(es:Array (Int×Value))(ep:Nat)(t:SetTable):Obj:={ cls:=.type "set",dict:=none,data:=.set es ep t,slots:=#[]}
def jr(B:Bool)(h:Heap)(a:Addr)(L:List Nat):Prop:=∃es ep t,h.get? a=some (lX es ep t)/\Es es L/\Tb B t L
def rG(h:Heap)(a:Addr):Prop:=∃es ep t,h.get? a=some (lX es ep t)/\(t.mask=7\/5<=es.size)
def rG.keep{h':Heap}(S:rG h a)(k:∀o,h.get? a=some o->h'.get? a=some o):rG h' a :=
 let⟨es,ep,t,ho,r⟩:=S;⟨es,ep,t,k _ ho,r⟩
def jr.keep{h':Heap}(S:jr B h a L)(k:∀o,h.get? a=some o->h'.get? a=some o):jr B h' a L :=
 let⟨es,ep,t,ho,r⟩:=S;⟨es,ep,t,k _ ho,r⟩
def Tb.len{t:SetTable}(T:Tb B t L):L.length<=16:=by
 have:=VJ L (List.range 16) T.nd λx hx=>nQ.mpr (T.lt x hx);simpa using this
def VN:∀v:Nat,v<16->hashInt ((v:Nat):Int)=((v:Nat):Int):=by decide
def Es.elems{prog:Program}{w:World}(h:Es es L)(lt:∀v∈L,v<16):ElemsOf (intKind prog w) es.toList:=by
 unfold Es at h;generalize es.toList=l at h
 induction h with
 |nil=>intro e he;simp at he
 | @cons x y xs ys r _ ih =>
  intro e he;rcases bU.mp he with rfl|he
  ·obtain⟨tk,e2⟩:=r.2;refine⟨⟨((y:Nat):Int),?_,?_⟩,?_⟩
   ·show Value.isInt _ _=true;rw[e2];simp[Value.isInt]
   ·rw[r.1];exact(VN y (lt y aV)).symm
   ·rw[e2];rfl
  ·exact ih (λv hv=>lt v (bh _ hv)) e he
def Es.find(h:Es es L)(v:Nat):(es.toList.findIdx? λe=>Value.isInt ((v:Nat):Int) e.2).isSome=decide (v∈L):=by
 unfold Es at h;generalize es.toList=l at h
 induction h with
 |nil=>simp
 | @cons x y xs ys r _ ih =>
  obtain⟨tk,e2⟩:=r.2;rw[List.findIdx?_cons,e2];by_cases c:v=y
  ·subst c;simp[Value.isInt]
  ·have:Value.isInt ((v:Nat):Int) (.int ((y:Nat):Int) tk)=false:=by simp[Value.isInt];omega
   grind
section
variable{prog:Program}{w:World}{A:Around}{E:Value->Shared->Prop}{s:Shared}
def a0E{ep:Nat}{t:SetTable}{v:Nat}{ad:Bool}{Q:ScanMet->Shared->Prop}(ho:s.heap.get? a=some (lX es ep t))(hE:Es es L)(T:Tb B t L)(hv:v<16)
  (h1:v∈L->∀j,Q (.found j) s) (h2:v∉L->Q .absent s):wpAny (model prog w) A (setScan a (.int ((v:Nat):Int) tk) ((v:Nat):Int) ad es) Q E s:=by
 have hf:t.fits es.size=true:=by rw[hE.len];exact T.fits
 have sc:=wpAny_setScan_of (prog:=prog) (w:=w) (A:=A) (E:=E) (s:=s) (knd:=intKind prog w) (k:=((v:Nat):Int)) (x:=.int ((v:Nat):Int) tk) (adding:=ad) (Q:=Q) (by simp[intKind,Value.isInt]) ho Z hf (hE.elems T.lt) (by
  have q:=hE.find v;have e:(λe:Int×Value=>(intKind prog w).is ((v:Nat):Int) e.2)=λe=>Value.isInt ((v:Nat):Int) e.2:=rfl;grind)
 have e:(intKind prog w).hash ((v:Nat):Int)=((v:Nat):Int):=VN v hv;grind
def zF{es':Array (Int×Value)}{ep:Nat}{t t':SetTable}(ho:h.get? a=some (lX es ep t)):(h.update a (Obj.putSet es' t')).get? a=some (lX es' (ep+1) t'):=by
 have:=xX (Obj.putSet es' t') ho (by rw[putSet_of es' t' rfl];rfl);rw[putSet_of es' t' rfl]at this;exact this
def a0F(prog:Program)(w:World){t:SetTable}{v:Nat}(hE:Es es L)(T:Tb B t L):byScan (.int ((v:Nat):Int) tk) es=true :=
 byScan_of (knd:=intKind prog w) Z (by rw[hE.len];have:=T.len;unfold scanBound;omega) (hE.elems T.lt)
def ĥ{v:Nat}{Q:Bool->Shared->Prop}(S:jr B s.heap a L)(hv:v<16)
  (h:∀b h' L',Heap.SameBut a s.heap h'->jr B h' a L'->(∀u,u∈L'↔u=v\/u∈L)->(rG s.heap a->rG h' a)->Q b { s with heap:=h'}) :
  wpAny (model prog w) A (setAddHashed a (.int ((v:Nat):Int) tk) ((v:Nat):Int)) Q E s:=by
 obtain⟨es,ep,t,ho,hE,T⟩:=S;have hf:t.fits es.size=true:=by rw[hE.len];exact T.fits
 unfold setAddHashed setAddHashedIn;refine fB (M (wpAny_setState_of ho Z hf ?_));dsimp only;rw[a0F prog w hE T];simp only[↓reduceIte];unfold setAddByScan;refine M (M (j8 (M (a0E ho hE T hv (λhm j=>?_) λhm=>?_))))
 ·dsimp only;refine aj (aj ?_);have q:=h false s.heap L (Ol a s.heap) ⟨es,ep,t,ho,hE,T⟩ (λu=>⟨.inr,λc=>c.elim (λe=>e▸hm) id⟩) id;exact q
 ·dsimp only;obtain⟨t1,es1,p,e1,hE1,dm,pl,ld,mk,_,_,up,sz,own⟩:=a3v (x:=.int ((v:Nat):Int) tk) T hE hv hm ⟨tk,Z⟩;rw[e1];dsimp only;refine M (aj ?_);rw[pl];refine M (aj ?_);simp only[↓reduceIte];have mem:∀u,u∈L.take p++v::L.drop p↔u=v\/u∈L:=λu=>by
   rw[cL,bU];have e:u∈L↔u∈L.take p\/u∈L.drop p:=by rw[<-cL,xZ]
   rw[e];constructor
   ·rintro(c|c|c)
    ·exact .inr (.inl c)
    ·exact .inl c
    ·exact .inr (.inr c)
   ·rintro(c|c|c)
    ·exact .inr (.inl c)
    ·exact .inl c
    ·exact .inr (.inr c)
  have nd1:(L.take p++v::L.drop p).Nodup:=by
   have pm:(L.take p++v::L.drop p).Perm (v::L):=by
    have:L.take p++L.drop p=L:=xZ p L;exact List.perm_middle.trans (by rw[this])
   exact pm.nodup_iff.mpr (iW.mpr ⟨hm,T.nd⟩)
  have lt1:∀u∈L.take p++v::L.drop p,u<16:=λu hu=>((mem u).mp hu).elim (λe=>e▸hv) (T.lt u);have ln1:(L.take p++v::L.drop p).length=L.length+1:=by
   rw[cC,jH,fZ,lG];omega
  have fl:t1.fill=L.length+1:=by unfold SetTable.fill;rw[dm,sz];rfl
  have l16:=T.len;have z1:es1.size=L.length+1:=by rw[hE1.len,ln1]
  refine M (Iu ho Z ?_ (by rw[z1,jg];omega));have ho1:=zF (es':=es1) (t':=t1) ho;cases tf:t1.tooFull with
  |false =>
   simp only[Bool.not_false,Bool.and_false,Bool.false_eq_true,if_false];refine aj (aj ?_);refine h true _ _ (nJ ..) ⟨es1,ep+1,t1,ho1,hE1,⟨dm,pl,ld,up,by rw[ln1,sz],nd1,lt1,?_⟩⟩ mem (λ⟨es0,ep0,t0,ho0,d⟩=>⟨es1,ep+1,t1,ho1,by
    rw[ho]at ho0;cases ho0;rw[mk,z1];have:=hE.len;omega⟩)
   unfold SetTable.tooFull at tf;have tf':=Um tf;rw[fl,mk]at tf';rw[ln1,mk];rcases T.sh with⟨m7,l4⟩|⟨Xz,pe,_⟩
   ·refine .inl ⟨m7,()⟩
   ·exact .inr ⟨Xz,own Xz,()⟩
  |true =>
   simp only[Bool.not_false,Bool.and_self,if_true];unfold SetTable.tooFull at tf;have tf':=gn tf;rw[fl,mk]at tf';have five:5<=L.length+1:=by
    rcases T.sh with⟨m7,l4⟩|⟨Xz,pe,_⟩<;>omega
   have gr:SetTable.grown es1.size=(L.length+1)*4:=by
    unfold SetTable.grown;rw[z1,aq ()]
   obtain⟨es2,t2,L2,e2,hE2,T2,pm⟩:=Ĥ (t:=t1) (n:=SetTable.grown es1.size) pl ld hE1 nd1 lt1 (by rw[gr];omega) (by rw[gr,ln1];omega) (by rw[gr];omega);rw[e2];dsimp only;refine M (aj ?_);refine M (Iu ho1 Z ?_ (by rw[hE2.len,pm.length_eq,ln1,jg];omega));refine aj (aj ?_);exact h true _ L2 ((nJ ..).trans (nJ ..)) ⟨es2,_,t2,zF ho1,hE2,T2⟩ (λu=>(pm.mem_iff).trans (mem u)) λ_=>⟨es2,_,t2,zF ho1,.inr (by rw[hE2.len,pm.length_eq,ln1];exact five)⟩
end
end Sm
namespace Sm
variable{es:Array (Int×Value)}{ep:Nat}
abbrev qD(w:World):Bool:=w.params.followText "set-order"
theorem Jr{α:Type}:∀(l:List α) (i:Nat) (h:i<l.length),(l[i]::l.eraseIdx i).Perm l
 |_::r,0,_=>.refl _
 |x::r,i+1,h=>by
  have q:=Jr r i (by simpa using h)
  rw[List.getElem_cons_succ,List.eraseIdx_cons_succ]
  exact(List.Perm.swap x (r[i]'(by simpa using h)) (r.eraseIdx i)).trans (q.cons x)
def a0G{α:Type}(nx:Nat->Nat):∀(fuel k:Nat) (left:List α) (out:Array α),left.length<=fuel->(pickOrder.go nx fuel k left out).toList.Perm (out.toList++left):=by
 intro fuel
 induction fuel with
 |zero =>
  intro k left out h;have:left=[]:=NP.mp ();subst this;unfold pickOrder.go;simp
 |succ f ih =>
  intro k left out h;unfold pickOrder.go;by_cases c:left=[]
  ·subst c;simp
  ·have pos:0<left.length:=List.length_pos_iff.mpr c;have lt:=Nat.mod_lt (nx k) pos;rw[bL lt];dsimp only;refine(ih (k+1) _ _ ()).trans ?_;rw[Array.toList_push,Av];exact List.Perm.append_left _ (Jr left _ lt)
def Mt{α:Type}(nx:Nat->Nat)(xs:Array α):(pickOrder nx xs).toList.Perm xs.toList:=by
 have:=a0G nx xs.size 0 xs.toList #[] (by simp);unfold pickOrder;simpa using this
def XC(a:Addr):setWalk a=(do
 let(xs,c,tb) <-setState a
 if <-setsByText then
  let q <-ask
  return pickOrder (q.params.setOrder a c) xs
 if !tb.plain&&xs.size>1 then return (<-drawOrder xs.size xs.toList).toArray
 (do if !tb.led&&xs.size>1 then unsupported "set:maker-not-led" : Sem Unit)
 return xs):=rfl
def Es.perm{L:List Nat}(h:Es es L){es':List (Int×Value)}(p:es'.Perm es.toList):∃L',Paired (λe v=>e.1=((v:Nat):Int)/\∃tk,e.2=Value.int ((v:Nat):Int) tk) es' L'/\L'.Perm L:=by
 refine⟨es'.map λe=>e.1.toNat,?_,?_⟩
 ·have all:∀e∈es.toList,∃v:Nat,e.1=((v:Nat):Int)/\∃tk,e.2=Value.int ((v:Nat):Int) tk:=by
   unfold Es at h;generalize es.toList=l at h;clear p
   induction h with
   |nil=>intro e he;simp at he
   |cons r _ ih =>
    intro e he;rcases bU.mp he with rfl|he
    ·exact⟨_,r⟩
    ·exact ih e he
  have all':∀e∈es',∃v:Nat,e.1=((v:Nat):Int)/\∃tk,e.2=Value.int ((v:Nat):Int) tk:=λe he=>all e (p.mem_iff.mp he);clear p
  induction es' with
  |nil=>exact .nil
  |cons e r ih =>
   obtain⟨v,e1,e2⟩:=all' e aV;rw[b7];refine .cons ?_ (ih λx hx=>all' x (bh _ hx));rw[e1];exact⟨Z,e2⟩
 ·refine(p.map λe=>e.1.toNat).trans ?_;unfold Es at h;generalize es.toList=l at h;have:l.map (λe=>e.1.toNat)=L:=by
   induction h with
   |nil=>rfl
   |cons r _ ih=>rw[b7,ih,r.1];rfl
  rw[this]
section
variable{prog:Program}{w:World}{A:Around}{E:Value->Shared->Prop}{s:Shared}{a:Addr}{L:List Nat}
def jE{t:SetTable}{B:Bool}{Q:(Array (Int×Value)×Nat×SetTable)->Shared->Prop}(ho:s.heap.get? a=some (lX es ep t))(hE:Es es L)(T:Tb B t L)(h:Q (es,ep,t) s) :
  wpAny (model prog w) A (setState a) Q E s:=wpAny_setState_of ho Z (by rw[hE.len];exact T.fits) h
def tQ{Q:Bool->Shared->Prop}(h:Q (qD w) s):wpAny (model prog w) A setsByText Q E s:=by
 unfold setsByText;exact M (Ou (aj h))
def walk_at{t:SetTable}{Q:Array (Int×Value)->Shared->Prop}(ho:s.heap.get? a=some (lX es ep t))(hE:Es es L)(T:Tb (qD w) t L)
  (h:∀es',es'.toList.Perm es.toList->Q es' s):wpAny (model prog w) A (setWalk a) Q E s:=by
 rw[XC];refine M (jE ho hE T (M (tQ ?_)));have pl:=T.pl;have ld:=T.led;cases c:qD w with
 |true =>
  simp only[if_true];exact M (Ou (aj (h _ (Mt _ _))))
 |false =>
  rw[c]at ld;simp only[pl,ld,Bool.not_true,Bool.not_false,Bool.false_and,Bool.false_eq_true,if_false];first|exact M (aj (aj (h _ .rfl)))|exact aj (h _ .rfl)
def Zt{t:SetTable}{others:List Addr}{f:Option Addr}{Q:Array (Int×Value)->Shared->Prop}(ho:s.heap.get? a=some (lX es ep t))(hE:Es es L)(T:Tb (qD w) t L)
  (h:∀es',es'.toList.Perm es.toList->Q es' s):wpAny (model prog w) A (setWalkUnseen a others f) Q E s:=by
 unfold setWalkUnseen;refine M (jE ho hE T (M (tQ ?_)));have e:(qD w||(t.led&&t.plain)||decide (es.size<=1))=true:=by rw[T.led,T.pl];grind
 dsimp only;rw[aB e];exact walk_at ho hE T h
def XD(es:Array (Int×Value))(laid:Option (SetTable×Array Nat)):Sem (Array (Int×Value)×SetTable):=do
 let some (t,order):=laid
  |unsupported "internal:set-table-without-room"
 if(order.filterMap (es[·]?)).size != es.size then unsupported "internal:set-table-lost-an-element"
 pure (order.filterMap (es[·]?),t)
def Ħ(a:Addr)(n:Nat):setRelay a n=(do
 let(es,_,t) <-setState a
 if SetTable.sizeAbove n>sizeLine then unsupported "set:memory"
 let(es,t) <-XD es (t.relaid (es.map (·.1)) n)
 storeSet a es t):=rfl
def Rt{t:SetTable}{order:Array Nat}{S:List Nat}{Q:Array (Int×Value)×SetTable->Shared->Prop}(hE':Es (order.filterMap (es[·]?)) S)(hz:es.size=S.length)(h:Q (order.filterMap (es[·]?),t) s) :
  wpAny (model prog w) A (XD es (some (t,order))) Q E s:=by
 unfold XD;dsimp only;have e:((order.filterMap (es[·]?)).size != es.size)=false:=by rw[hE'.len,hz];simp
 simp only[e,Bool.false_eq_true,if_false];first|exact M (aj (aj h))|exact aj h
def ħ{n:Nat}(h:n<=64):SetTable.sizeAbove n<=128:=by
 have:∀n,n<=64->SetTable.sizeAbove n<=128:=()
 grind
def a0H{more:Nat}{Q:Unit->Shared->Prop}{B:Bool}(S:jr B s.heap a L)(hm:more<=16)
  (h:∀h' es ep t L',Heap.SameBut a s.heap h'->h'.get? a=some (lX es ep t)->Es es L'->Tb B t L'->L'.Perm L->(L.length+more)*5<t.mask*3->Q ⟨⟩ { s with heap:=h'}):wpAny (model prog w) A (setRoomFor a more) Q E s:=by
 obtain⟨es,ep,t,ho,hE,T⟩:=S;unfold setRoomFor;refine M (jE ho hE T ?_);have fl:t.fill=L.length:=by unfold SetTable.fill;rw[T.dm,T.sz];rfl
 have l16:=T.len;unfold SetTable.roomFor;dsimp only;rw[fl,T.sz];by_cases c:(L.length+more)*5>=t.mask*3
 ·rw[aB c];dsimp only;rw[Ħ];refine M (jE ho hE T ?_);have five:5<=L.length+more:=by
   rcases T.sh with⟨m7,_⟩|⟨Xz,_,_⟩<;>omega
  have b1:=CQ (n:=(L.length+more)*2) ();have b2:=CT (n:=(L.length+more)*2) ();have b3:=ħ (n:=(L.length+more)*2) ();dsimp only;rw[aq (by rw[jg];omega)];have hm':15<=SetTable.sizeAbove ((L.length+more)*2)-1:=()
  obtain⟨order,e,hE',hc⟩:=Qe (f:=t.finger) (mv:=t.movedTo (SetTable.sizeAbove ((L.length+more)*2)-1)) (led:=t.led) (plain:=t.plain) hm' hE T.nd T.lt;unfold SetTable.relaid;rw[e];have lz:=VL T.lt hm' T.nd;refine M (Rt hE' (by rw[hE.len,lz]) ?_);refine Iu ho Z ?_ (by rw[hE'.len,lz,jg];omega);have T':=Qf (B:=B) (f:=t.finger) (mv:=t.movedTo (SetTable.sizeAbove ((L.length+more)*2)-1)) hm' T.nd T.lt ();rw[<-T.led,<-T.pl]at T';exact h _ _ _ _ _ (nJ ..) (zF ho) hE' T' (zE (λv hv=>by have:=T.lt v hv;omega) T.nd) (by show _<(SetTable.sizeAbove ((L.length+more)*2)-1)*3;omega)
 ·rw[aq c];exact aj (h s.heap es ep t L (Ol a s.heap) ho hE T .rfl ())
end
end Sm
namespace Sm
def Ĩ(sA oA:Addr)(each:Sem Unit):setMerge sA oA each=(do
 if sA==oA then return
 let(eo,epoch,to) <-setState oA
 if eo.isEmpty then return
 setRoomFor sA eo.size
 let(_,_,ts) <-setState sA
 match ts.road to with
 |.slotForSlot =>
  storeSet sA eo { to with finger:=ts.finger,led:=ts.led&&to.led,moves:=ts.moves,plain:=ts.plain&&to.plain}
 |.clean =>
  let(es,t) <-XD eo (SetTable.laid ts.mask ts.finger ts.moves (ts.led&&to.led) (ts.plain&&to.plain) (eo.map (·.1)))
  storeSet sA es t
 |.oneByOne =>
  for (h,x)in <-setWalkUnseen oA [sA] (some sA) do
   let _ <-holding [x] (setAddHashed sA x h)
   each
   if(<-setState oA).2.1 != epoch then unsupported "set.changed-during-merge"):=rfl
section
variable{prog:Program}{w:World}{A:Around}{E:Value->Shared->Prop}{s:Shared}{sA oA:Addr}{L1 L2:List Nat}
def Ru{each:Sem Unit}{Q:Unit->Shared->Prop}(ne:sA≠oA)(S1:jr (qD w) s.heap sA L1)(S2:jr (qD w) s.heap oA L2)(D:rG s.heap oA)
  (he:∀(s':Shared) (Q':Unit->Shared->Prop),(∀o,s.heap.get? oA=some o->s'.heap.get? oA=some o)->Q' ⟨⟩ s'->wpAny (model prog w) A each Q' E s')
  (h:∀h' L,Heap.SameBut sA s.heap h'->jr (qD w) h' sA L->(∀u,u∈L↔u∈L1\/u∈L2)->Q ⟨⟩ { s with heap:=h'}):wpAny (model prog w) A (setMerge sA oA each) Q E s:=by
 obtain⟨eo,ep,to,ho,hE,T⟩:=S2;rw[Ĩ];have nb:(sA==oA)=false:=wj.mpr ne;rw[nb];simp only[Bool.false_eq_true,if_false];refine M (jE ho hE T ?_);dsimp only;have hz:=hE.len;have l16:=T.len;by_cases c:eo.isEmpty=true
 ·rw[aB c];have l0:L2.length=0:=()
  have:L2=[]:=NP.mp l0;subst this;exact aj (h s.heap L1 (Ol _ _) S1 λu=>by simp)
 rw[aq c];refine M (a0H S1 () λh1 es1 ep1 t1 L1' Fb ho1 hE1 T1 pm hr=>?_);have ho':h1.get? oA=some (lX eo ep to):=by rw[Fb.2 oA (Ne.symm ne)];exact ho
 refine M (jE (s:={ s with heap:=h1}) ho1 hE1 T1 ?_);dsimp only;have fl:t1.fill=L1'.length:=by unfold SetTable.fill;rw[T1.dm,T1.sz];rfl
 unfold SetTable.road;rw[fl,pm.length_eq];have ld:(t1.led&&to.led) = !qD w:=by rw[T1.led,T.led];simp
 have pl:(t1.plain&&to.plain)=true:=by rw[T1.pl,T.pl];rfl
 by_cases e0:L1.length=0
 ·have n1:L1=[]:=NP.mp e0;have nb:(L1.length != 0)=false:=by rw[e0];rfl
  rw[nb];simp only[Bool.false_eq_true,if_false];have dmt:to.dummies.isEmpty=true:=by rw[T.dm];rfl
  by_cases em:t1.mask=to.mask
  ·have:(t1.mask==to.mask&&to.dummies.isEmpty)=true:=()
   rw[this];simp only[if_true];refine Iu (s:={ s with heap:=h1}) ho1 rfl ?_ (by rw[hz,jg];omega);refine h _ L2 (Fb.trans (nJ ..)) ⟨eo,_,_,zF ho1,hE,⟨T.dm,pl,ld,T.up,T.sz,T.nd,T.lt,T.sh⟩⟩ λu=>by rw[n1];simp
  ·have:(t1.mask==to.mask&&to.dummies.isEmpty)=false:=()
   rw[this];simp only[Bool.false_eq_true,if_false];have Xz:15<=t1.mask:=by
    obtain⟨es0,ep0,t0,ho0,d⟩:=D;rw[ho]at ho0;cases ho0;rcases T1.sh with⟨m7,_⟩|⟨Xz,_⟩
    ·grind
    ·exact Xz
   obtain⟨order,e,hE',hc⟩:=Qe (f:=t1.finger) (mv:=t1.moves) (led:=t1.led&&to.led) (plain:=t1.plain&&to.plain) Xz hE T.nd T.lt;rw[e];have lz:=VL T.lt Xz T.nd;refine M (Rt hE' (by rw[hz,lz]) ?_);refine Iu (s:={ s with heap:=h1}) ho1 rfl ?_ (by rw[hE'.len,lz,jg];omega);have T':=Qf (B:=qD w) (f:=t1.finger) (mv:=t1.moves) Xz T.nd T.lt ();rw[<-ld,<-pl]at T';refine h _ _ (Fb.trans (nJ ..)) ⟨_,_,_,zF ho1,hE',?_⟩ λu=>?_
   ·grind
   ·rw[n1,mem_upTo (λv hv=>by have:=T.lt v hv;omega)];simp
 ·have nb:(L1.length != 0)=true:=by simp[e0]
  rw[nb];simp only[if_true];refine M (Zt (s:={ s with heap:=h1}) ho' hE T λes' pe=>?_);obtain⟨R,hR,pR⟩:=hE.perm pe;refine M ?_;rw[<-Og];refine Ov _ (λrest _ s'=>∃h' L R,s'={ s with heap:=h'}/\Heap.SameBut sA s.heap h'/\jr (qD w) h' sA L/\Paired (λ(e:Int×Value) (v:Nat)=>e.1=((v:Nat):Int)/\∃tk,e.2=Value.int ((v:Nat):Int) tk) rest R/\
   (∀v∈R,v<16)/\∀u,(u∈L\/u∈R)↔(u∈L1\/u∈L2)) _ ?_ ?_ _ _ ⟨h1,L1',R,Z,Fb,⟨es1,ep1,t1,ho1,hE1,T1⟩,hR,λv hv=>T.lt v (pR.mem_iff.mp hv),λu=>by rw[pm.mem_iff,pR.mem_iff]⟩
  ·rintro⟨hh,x⟩ rest b s' ⟨h',L,R',rfl,sb,S,hP,lt,mem⟩;cases hP with
   | @cons _ v _ R'' r t =>
    obtain⟨e1,tk,e2⟩:=r;dsimp only at e1 e2;subst e1;subst e2;dsimp only;refine M (fB (ĥ (s:={ s with heap:=h'}) S (lt v aV) λb2 h2 L' Rv S' mem' _=>?_));have Zu:=sb.trans Rv;have oo:h2.get? oA=some (lX eo ep to):=by rw[Zu.2 oA (Ne.symm ne)];exact ho
    refine M (he _ _ (λo q=>by grind) (M (jE (s:={ s with heap:=h2}) oo hE T ?_)));simp only[bne_self_eq_false,Bool.false_eq_true,if_false];refine aj ⟨h2,L',R'',Z,Zu,S',t,λu hu=>lt u (bh _ hu),λu=>?_⟩;grind
  ·rintro b s' ⟨h',L,R',rfl,sb,S,hP,lt,mem⟩;cases hP;exact aj (h h' L sb S λu=>by rw[<-mem u];simp)
end
end Sm
namespace Sm
open PySem.Builtin.Frozenset
variable{Q:Value->Shared->Prop}{B:Bool}
def VP:isSubtype (.type "set") (.type "set")=pure true:=by rw[UG];kernel_rfl
def ĩ:entryFor table "set.__or__" = some Builtin.«frozenset.__or__» := UJ (id':="frozenset.__or__") (by kernel_rfl) Z () (by kernel_rfl)
def VR:entryFor table "set.__iter__" = some Builtin.«frozenset.__iter__» := UJ (id':="frozenset.__iter__") (by kernel_rfl) Z () (by kernel_rfl)
def Qg(id:String)(l:Addr)(r:Value):Sem Value:=do
 let result <-copyOf l
 if r != .ref l then
  let q <-addrOf result
  holding [result] (updateFrom id q r)
 return result
def or_eq(x y:Value):Builtin.«frozenset.__or__» ⟨[x,y],[]⟩=(do
 let(self,bR) <-slot1 "__or__" ⟨[x,y],[]⟩
 if !(<-isAnySet self <&&> isAnySet bR)then
  rule s!"frozenset.{"__or__"}.declined"
  return <-ret .notImplemented
 ret (<-Qg s!"frozenset.{"__or__"}" (<-addrOf self) bR)):=rfl
section
variable{prog:Program}{w:World}{A:Around}{E:Value->Shared->Prop}{s:Shared}{a b:Addr}{L1 L2:List Nat}
def Rx(B:Bool):Tb B (.fresh 0 0 (!B)) []:=⟨Z,Z,Z,.nil,Z,.nil,λv h=>by simp at h,.inl ⟨Z,by simp⟩⟩
def a3w(h:Q (.ref s⁻¹) { s with heap:=s.heap.push (lX #[] 0 (.fresh 0 0 (!qD w)))}):wpAny (model prog w) A (newSet (.type "set")) Q E s:=by
 unfold newSet;refine M (tQ ?_);dsimp only;simp only[newObj];exact M (wpAny_alloc (aj h))
def jr.type(S:jr B s.heap a L1):s.TypeIs (.ref a) "set" := let⟨_,_,_,ho,_⟩:=S;⟨_,ho,Z⟩
def V0{Q:Bool->Shared->Prop}(S:jr B s.heap a L1)(h:Q true s):wpAny (model prog w) A (isAnySet (.ref a)) Q E s:=by
 unfold isAnySet orM;exact M (tW S.type VP (aj h))
def a0I(S:jr (qD w) s.heap a L1)(D:rG s.heap a)
  (h:∀h' L,(∀b o,s.heap.get? b=some o->h'.get? b=some o)->jr (qD w) h' s⁻¹ L->(∀u,u∈L↔u∈L1)->Q (.ref s⁻¹) { s with heap:=h'}):wpAny (model prog w) A (copyOf a) Q E s:=by
 unfold copyOf baseOf;refine M (M (tW S.type VP (aj ?_)));simp only[if_true];refine M (a3w ?_);show wpAny _ _ (do setMerge s⁻¹ a;pure (Value.ref s⁻¹)) _ _ _;have lt:a<s⁻¹:=by
  obtain⟨_,_,_,ho,_⟩:=S;exact aX ho
 have k:∀b o,s.heap.get? b=some o->(s.heap.push (lX #[] 0 (.fresh 0 0 (!qD w)))).get? b=some o:=λb o e=>bx _ e;refine M (Ru (s:={ s with heap:=s.heap.push (lX #[] 0 (.fresh 0 0 (!qD w)))}) (L1:=[]) (gG lt) ⟨#[],0,_,bT _ rfl,.nil,Rx _⟩ (S.keep (k a)) (D.keep (k a)) (λs' Q' _ q=>aj q) λh' L sb S' mem=>?_);refine aj (h h' L (λb o e=>?_) S' λu=>by grind);have lb:=aX e;rw[sb.2 b (bZ lb)];exact k b o e
def Js{es:Array (Int×Value)}{ep:Nat}{t:SetTable}{Q:Nat->Shared->Prop}(ho:s.heap.get? a=some (lX es ep t))(hE:Es es L1)(T:Tb B t L1)(h:Q ep s):wpAny (model prog w) A (setEpoch a) Q E s :=
 wpAny_setEpoch_of ho Z (by rw[hE.len];exact T.fits) h
def Ī{id:String}(ne:a≠b)(S1:jr (qD w) s.heap a L1)(D1:rG s.heap a)(S2:jr (qD w) s.heap b L2)(D2:rG s.heap b)
  (h:∀h' L,(∀b o,s.heap.get? b=some o->h'.get? b=some o)->jr (qD w) h' s⁻¹ L->(∀u,u∈L↔u∈L1\/u∈L2)->Q (.ref s⁻¹) { s with heap:=h'}) :
  wpAny (model prog w) A (Qg id a (.ref b)) Q E s:=by
 unfold Qg;refine M (a0I S1 D1 λh1 L k S mem=>?_);have nb:(Value.ref b != Value.ref a)=true:=()
 rw[nb];simp only[if_true];have S2':=S2.keep (k b);have D2':=D2.keep (k b);have lt:b<s⁻¹:=by
  obtain⟨_,_,_,ho,_⟩:=S2;exact aX ho
 have S2c:=S2';obtain⟨es,ep,t,ho,hE,T⟩:=S2c;show wpAny _ _ (holding [Value.ref s⁻¹] (updateFrom id s⁻¹ (.ref b)) >>= λ_=>pure (Value.ref s⁻¹)) _ _ _;refine M (fB ?_);unfold updateFrom;refine M (V0 (s:={ s with heap:=h1}) S2' ?_);simp only[if_true];show wpAny _ _ (merge id s⁻¹ b) _ _ _;unfold merge;refine M (Js (s:={ s with heap:=h1}) ho hE T (Ru (s:={ s with heap:=h1}) (gG lt) S S2' D2' (λs' Q' ks q=>?_) λh' L' sb S' mem'=>?_))
 ·unfold unchanged;refine M (Js (s:=s') (ks _ ho) hE T ?_);simp only[bne_self_eq_false,Bool.false_eq_true,if_false];exact aj q
 ·refine aj (h h' L' (λc o e=>?_) S' λu=>by rw[mem' u,mem u]);rw[sb.2 c (bZ (aX e))];exact k c o e
def a5B(ne:a≠b)(S1:jr (qD w) s.heap a L1)(D1:rG s.heap a)(S2:jr (qD w) s.heap b L2)(D2:rG s.heap b)
  (h:∀h' L,(∀b o,s.heap.get? b=some o->h'.get? b=some o)->jr (qD w) h' s⁻¹ L->(∀u,u∈L↔u∈L1\/u∈L2)->Q (.ref s⁻¹) { s with heap:=h'}) :
  wpAny (model prog w) A (binaryOp .BitOr (.ref a) (.ref b)) Q E s:=by
 refine wpAny_binaryOp_same S1.type S2.type F.fills_set_or F.slot_set_or (gq F.slot_set_or S1.type ĩ ?_ (F.args_set_or_2 _ _));rw[or_eq];refine M (m:=slot1 "__or__" _) (aj ?_);dsimp only;unfold andM;refine M (M (V0 S1 (V0 S2 ?_)));simp only[Bool.not_true,Bool.false_eq_true,if_false];show wpAny _ _ (Qg _ a (.ref b) >>= λv=>ret v) _ _ _;refine M (Ī ne S1 D1 S2 D2 λh' L k S mem=>?_);exact aj ⟨_,Z,by simp,h h' L k S mem⟩
end
end Sm
namespace Sm
def lY:Slot "set_iterator" "__next__" "set_iterator.__next__" := .of (owner:="set_iterator") (n:="__next__") (by rw[typeLookup_type,builtinLookup_eq_fast];kernel_rfl) () () () (by first|exact .inl ()|exact .inr ()) (by rw[UG];kernel_rfl)
def zX:entryFor table "set_iterator.__next__" = some Builtin.«set_iterator.__next__» := entryFor_of_fast (by kernel_rfl)
def CV(a:Value):argsOk "set_iterator.__next__" ⟨[a],[]⟩:=by unfold argsOk;kernel_rfl
def CZ:Slot "set_iterator" "__iter__" "set_iterator.__iter__" := .of (owner:="set_iterator") (n:="__iter__") (by rw[typeLookup_type,builtinLookup_eq_fast];kernel_rfl) () () () (by first|exact .inl ()|exact .inr ()) (by rw[UG];kernel_rfl)
def Qh(a:Value):argsOk "set_iterator.__iter__" ⟨[a],[]⟩:=by unfold argsOk;kernel_rfl
end Sm
namespace Sm
variable{es:Array (Int×Value)}{ep:Nat}
def K9:entryFor table "set_iterator.__iter__" = some Builtin.«dict_keyiterator.__iter__» := UJ (id':="dict_keyiterator.__iter__") (by kernel_rfl) Z () (by kernel_rfl)
def walked(w:World)(a:Addr)(ep:Nat)(es:Array (Int×Value)):Array (Int×Value):=if qD w=true then pickOrder (w.params.setOrder a ep) es else es
def Gg(w:World)(a:Addr)(ep:Nat)(es:Array (Int×Value)):(walked w a ep es).toList.Perm es.toList:=by
 unfold walked;split
 ·exact Mt _ _
 ·exact .rfl
def rH(w:World)(a:Addr)(ep:Nat)(es:Array (Int×Value)):(walked w a ep es).size=es.size:=by
 have:=(Gg w a ep es).length_eq;grind
def a0J(a:Addr)(slot given epochThen:Nat):setNext a slot given epochThen=(do
 let(xs,c,tb) <-setState a
 if <-setsByText then
  if c != epochThen then
   unsupported "set_iterator.__next__:elements-changed"
  let zs <-setWalk a
  return (zs[given]?).map λz=>(z.2,slot)
 if !tb.plain&&xs.size>1 then
  unsupported "set_iterator.__next__:the-table-is-plain-no-more"
 (do if !tb.led && !xs.isEmpty then unsupported "set:maker-not-led" : Sem Unit)
 return match xs[SetTable.below tb.place slot]?,tb.place[SetTable.below tb.place slot]? with
  |some (_,z),some m=>some (z,m+1)
  |_,_=>none):=rfl
def pI(B:Bool)(t:SetTable)(i:Nat):Nat:=if B=true then 0 else if i=0 then 0 else t.place.getD (i-1) 0+1
def V1{B:Bool}{t:SetTable}{L:List Nat}(T:Tb B t L)(hB:B=false):∀i,i<=L.length->SetTable.below t.place (pI B t i)=i
 |0,_=>by
  unfold pI
  rw[hB]
  exact VF T.up
 |k+1,h=>by
  unfold pI
  rw[hB]
  have hk:k<t.place.size:=by rw[T.sz];omega
  simp only[Bool.false_eq_true,if_false,Nat.add_sub_cancel]
  rw[aq ()]
  have:t.place.getD k 0=t.place[k]:=by simp[Array.getD,hk]
  rw[this]
  exact VG T.up hk
section
variable{prog:Program}{w:World}{A:Around}{E:Value->Shared->Prop}{s:Shared}{a:Addr}{L:List Nat}
def a0K{t:SetTable}{Q:Array (Int×Value)->Shared->Prop}(ho:s.heap.get? a=some (lX es ep t))(hE:Es es L)(T:Tb (qD w) t L)
  (h:Q (walked w a ep es) s):wpAny (model prog w) A (setWalk a) Q E s:=by
 rw[XC];refine M (jE ho hE T (M (tQ ?_)));have pl:=T.pl;have ld:=T.led;unfold walked at h;cases c:qD w with
 |true =>
  rw[c]at h;simp only[if_true]at h ⊢;exact M (Ou (aj h))
 |false =>
  rw[c]at ld h;simp only[pl,ld,Bool.not_true,Bool.not_false,Bool.false_and,Bool.false_eq_true,if_false]at h ⊢;first|exact M (aj (aj h))|exact aj h
def Ry{i:Nat}{t:SetTable}{Q:Option (Value×Nat)->Shared->Prop}(ho:s.heap.get? a=some (lX es ep t))(hE:Es es L)(T:Tb (qD w) t L)(hi:i<=L.length)
  (h:Q (((walked w a ep es)[i]?).map λe=>(e.2,pI (qD w) t (i+1))) s):wpAny (model prog w) A (setNext a (pI (qD w) t i) i ep) Q E s:=by
 rw[a0J];refine M (jE ho hE T (M (tQ ?_)));have pl:=T.pl;have ld:=T.led;cases c:qD w with
 |true =>
  simp only[if_true,bne_self_eq_false,Bool.false_eq_true,if_false];refine M (a0K ho hE T (aj ?_));rw[c]at h;unfold pI at h ⊢;grind
 |false =>
  rw[c]at ld h;simp only[pl,ld,Bool.not_true,Bool.not_false,Bool.false_and,Bool.false_eq_true,if_false];have bs:=V1 T c i hi;rw[c]at bs;rw[bs];have wk:walked w a ep es=es:=by unfold walked;rw[c];rfl
  rw[wk]at h;have e:(match es[i]?,t.place[i]? with
   |some (_,z),some m=>some (z,m+1)
   |_,_=>none)=(es[i]?).map λe=>(e.2,pI false t (i+1)):=by
   by_cases q:i<L.length
   ·have h1:i<es.size:=by rw[hE.len];exact q
    have h2:i<t.place.size:=by rw[T.sz];exact q
    rw[xW h1,xW h2];unfold pI;simp[Array.getD,h2]
   ·have h1:es[i]?=none:=N6 (by rw[hE.len];omega);rw[h1];rfl
  first
  |exact M (aj (aj (by rw[e];exact h)))
  |exact aj (by rw[e];exact h)
abbrev ς(sl i:Nat)(a:Addr)(n ep:Nat):Obj:={ cls:=.type "set_iterator",dict:=none,data:=.fields #[.int (sl:Nat) 0,.int (i:Nat) 0,.ref a,.int (n:Nat) 0,.int (ep:Nat) 0],slots:=#[]}
def item_at{I:Addr}{i:Nat}{t:SetTable}{e:Int×Value}{Q:Option Value->Shared->Prop}(ne:a≠I)(ho:s.heap.get? a=some (lX es ep t))(hE:Es es L)(T:Tb (qD w) t L)
  (hI:s.heap.get? I=some (ς (pI (qD w) t i) i a L.length ep)) (hw:(walked w a ep es)[i]?=some e)
  (h:∀h',h'.get? I=some (ς (pI (qD w) t (i+1)) (i+1) a L.length ep)->Heap.SameBut I s.heap h'->Q (some e.2) { s with heap:=h'}):wpAny (model prog w) A (pyNext (.ref I)) Q E s:=by
 have hi:i<L.length:=by
  rcases yh i (walked w a ep es).size with q|q
  ·rw[rH,hE.len]at q;exact q
  grind
 have hT:s.TypeIs (.ref I) "set_iterator" :=⟨_,hI,Z⟩;unfold pyNext;refine M (uc (oO (name:=Str.ofString "__next__") hT lY (gq lY hT zX ?_ (CV _))));unfold Builtin.«set_iterator.__next__»;refine M (m:=slotArgs "__next__" 0 _) (aj ?_);dsimp only;refine M (Em hI Z ?_);dsimp only;unfold setEntries;refine M (M (jE ho hE T (aj ?_)));have z:(((es.size:Nat):Int) !=((L.length:Nat):Int))=false:=by rw[hE.len];simp
 dsimp only;rw[z];simp only[Bool.false_eq_true,if_false,Int.toNat_natCast];refine M (Ry ho hE T () ?_);rw[hw];dsimp only[Option.map];refine M (iU hI (by simp) λh1 hI1 Fb=>M (iU (s:={ s with heap:=h1}) hI1 (by simp) λh2 hI2 Rv=>aj ⟨_,Z,aj (h h2 ?_ (Fb.trans Rv))⟩));rw[hI2];simp[rawInt]
def Jt{I:Addr}{t:SetTable}{Q:Option Value->Shared->Prop}(hh:A.handled=none)(ne:a≠I)(ho:s.heap.get? a=some (lX es ep t))(hE:Es es L)(T:Tb (qD w) t L)
  (hI:s.heap.get? I=some (ς (pI (qD w) t L.length) L.length a L.length ep))
  (h:∀h',Heap.ExtBut I s.heap h'->Q none { s with heap:=h'}):wpAny (model prog w) A (pyNext (.ref I)) Q E s:=by
 have hT:s.TypeIs (.ref I) "set_iterator" :=⟨_,hI,Z⟩;unfold pyNext;refine M (uc (oO (name:=Str.ofString "__next__") hT lY (gq lY hT zX ?_ (CV _))));unfold Builtin.«set_iterator.__next__»;refine M (m:=slotArgs "__next__" 0 _) (aj ?_);dsimp only;refine M (Em hI Z ?_);dsimp only;unfold setEntries;refine M (M (jE ho hE T (aj ?_)));have z:(((es.size:Nat):Int) !=((L.length:Nat):Int))=false:=by rw[hE.len];simp
 dsimp only;rw[z];simp only[Bool.false_eq_true,if_false,Int.toNat_natCast];refine M (Ry ho hE T () ?_);rw[N6 (by rw[rH,hE.len];grind)];dsimp only[Option.map];refine M (iU hI (by simp) λh1 hI1 Fb=>M ?_);simp only[newExc,newTuple];refine M (j6 ?_ (by size_fits));refine M (m:=firstArgMember _ _) (Jc (a:=Value.none) (by first|rfl|(simp only[firstArgMember];rfl)) ?_);refine j6 ?_ (by size_fits);simp only[raiseNew];refine M (O7 ?_);rw[show A.in1.handled=none from hh];refine M (aj (Pg ?_));exact M (tW (U:="StopIteration") (T:="StopIteration") (b:=true) ⟨_,bT _ Z,Z⟩ IW (aj (h _ ((Fb.extBut.push _).push _))))
end
end Sm
namespace Sm
open PyProof.Rows
variable{a:Addr}{es:Array (Int×Value)}{ep:Nat}
section
variable{prog:Program}{w:World}{A:Around}{E:Value->Shared->Prop}{s:Shared}{L:List Nat}
def a3x{I:Addr}{t:SetTable}(hh:A.handled=none)(ne:a≠I)(hE:Es es L)(T:Tb (qD w) t L) :
  Walks prog w A I [I,a] [I] L.length (λi v=>∃e,(walked w a ep es)[i]?=some e/\v=e.2)
   (λi h=>h.get? I=some (ς (pI (qD w) t i) i a L.length ep)/\h.get? a=some (lX es ep t)) where
 sub:=λb hb=>by grind
 frame:=λ_ _ _ st hk=>⟨hk I (by simp) _ st.1,hk a (by simp) _ st.2⟩
 item:=λi s Q E hi st hQ=>by
  obtain⟨e,he⟩:∃e,(walked w a ep es)[i]?=some e:=⟨_,xW (by rw[rH,hE.len];exact hi)⟩
  refine item_at ne st.2 hE T st.1 he λh' hI sb=>?_
  exact hQ _ h' s.toks ⟨e,he,Z⟩ ⟨hI,by rw[sb.2 a ne];exact st.2⟩ λb o hb q=>by rw[sb.2 b (λc=>hb (by simp[c]))];exact q
 done:=λs Q E st hQ=>Jt hh ne st.2 hE T st.1 λh' xb=>hQ h' s.toks λb o hb q=>xb b o (λc=>hb (by simp[c])) q
 self:=λi s Q E st hQ=>by
  have hT:s.TypeIs (.ref I) "set_iterator" :=⟨_,st.1,Z⟩
  refine Iw hT CZ (gq CZ hT K9 ?_ (Qh _))
  show wpAny _ _ (ret (Value.ref I)) _ _ s;exact aj ⟨_,Z,"set_iterator",_,hT,lY.lookup,hQ⟩
def ī(a:Addr):setDrawn a=(do
 let(es,_,t) <-setState a
 let byText <-setsByText
 return !byText&&(!t.plain&&es.size>1)):=rfl
def Dc{t:SetTable}{Q:Value->Shared->Prop}(ho:s.heap.get? a=some (lX es ep t))(hE:Es es L)(T:Tb (qD w) t L)
  (h:Q (.ref s⁻¹) { s with heap:=s.heap.push (ς 0 0 a L.length ep)}):wpAny (model prog w) A (pyIter (.ref a)) Q E s:=by
 have hT:s.TypeIs (.ref a) "set" :=⟨_,ho,Z⟩;refine Iw hT F.slot_set_iter (gq F.slot_set_iter hT VR ?_ (F.args_set_iter_1 _));unfold Builtin.«frozenset.__iter__»;refine M (m:=Builtin.Frozenset.slot0 _ _) (aj ?_);unfold Builtin.Frozenset.sizeOf setEntries;refine M (M (M (jE ho hE T (aj (aj ?_)))));rw[ī];refine M (M (jE ho hE T (M (tQ (aj ?_)))));rw[T.pl];simp only[Bool.not_true,Bool.false_and,Bool.and_false,Bool.false_eq_true,if_false];refine M (aj (M (Js ho hE T (M ?_))));unfold newFields;refine j6 (aj ⟨_,Z,"set_iterator",_,⟨_,bT _ Z,Z⟩,lY.lookup,?_⟩);rw[hE.len];exact h
def a0L:(Value.type "set" == Value.type "list")=false:=by decide
def a3y:(Value.type "set" == Value.type "tuple")=false:=by decide
def Ĭ:typeLookup (.type "set") "__len__" = pure (some (.builtin "set.__len__")):=F.slot_set_len.lookup
def split_len:splitId "set.__len__" = some ("set","__len__"):=by decide
def Rz{t:SetTable}{Q:List Value->Shared->Prop}(hh:A.handled=none)(ho:s.heap.get? a=some (lX es ep t))(hE:Es es L)(T:Tb (qD w) t L)
  (h:∀(h':Heap) (tk:Nat),(∀b o,s.heap.get? b=some o->h'.get? b=some o)->s⁻¹<h'.objs.size->Q ((walked w a ep es).toList.map (·.2)) { s with heap:=h',toks:=tk}):wpAny (model prog w) A (collect (.ref a)) Q E s:=by
 have lt:a<s⁻¹:=aX ho;unfold collect;refine M (wpAny_runValue (mJ F.entry_proto_collect ?_));rw[nF F.plain_proto_collect _];show wpAny _ A.in1 (newList [] >>= λl=>again (.builtin "list.__iadd__" ⟨[l,.ref a],[]⟩)) _ _ s;refine M (j6 (aj ⟨oX F.plain_list_iadd _,mJ F.entry_list_iadd ?_⟩));rw[nF F.plain_list_iadd _];have S0:(s.heap.push { cls:=.type "list",data:=.seq ([]:List Value).toArray}).get? s⁻¹=some { cls:=.type "list",data:=.seq ([]:List Value).toArray}:=bT _ rfl;have ho1:(s.heap.push { cls:=.type "list",data:=.seq ([]:List Value).toArray}).get? a=some (lX es ep t):=bx _ ho;have hT1:Shared.TypeIs { s with heap:=s.heap.push { cls:=.type "list",data:=.seq ([]:List Value).toArray}} (.ref a) "set" :=⟨_,ho1,rfl⟩;show wpAny _ A.in1 (Builtin.List.listExtendWith (.ref s⁻¹) (.ref a) (.ref s⁻¹)) _ _ { s with heap:=s.heap.push { cls:=.type "list",data:=.seq ([]:List Value).toArray}};unfold Builtin.List.listExtendWith;refine M (uZ hT1 ?_);have n1:Builtin.List.listSameRef (.ref s⁻¹) (.ref a)=false:=by simp[Builtin.List.listSameRef,Nat.ne_of_gt lt]
 simp only[n1,a0L,a3y,Bool.or_false,Bool.false_eq_true,if_false];refine M (Dc ho1 hE T (M (fB ?_)));have ho2:((s.heap.push { cls:=.type "list",data:=.seq ([]:List Value).toArray}).push (ς 0 0 a L.length ep)).get? a=some (lX es ep t):=bx _ ho1;have hT2:Shared.TypeIs { s with heap:=(s.heap.push { cls:=.type "list",data:=.seq ([]:List Value).toArray}).push (ς 0 0 a L.length ep)} (.ref a) "set" :=⟨_,ho2,rfl⟩;unfold Builtin.List.listLengthHint;refine M (Az hT2 Ĭ ?_);dsimp only;rw[split_len];dsimp only;refine M (tW hT2 VP ?_);rw[aq ()];rw[aB ()];refine M (uZ hT2 ?_);dsimp only;refine aj ?_;rw[aB ()];refine M (j8 ?_);have lsz:(s.heap.push { cls:=.type "list",data:=.seq ([]:List Value).toArray}).objs.size=s⁻¹+1:=Pj _ _;have S1:((s.heap.push { cls:=.type "list",data:=.seq ([]:List Value).toArray}).push (ς 0 0 a L.length ep)).get? s⁻¹=some { cls:=.type "list",data:=.seq ([]:List Value).toArray}:=bx _ S0;refine M ?_;show wpAny _ A.in1 (updateSeq s⁻¹ (·.push .none) >>= λ_=>updateSeq s⁻¹ (·.pop)) _ _ _;refine M (O1 S1 Z ?_);have S2:=xX (Obj.mapSeq (·.push Value.none)) S1 rfl;refine O1 S2 Z ?_;have S3:=xX (Obj.mapSeq (·.pop)) S2 rfl;have oth:∀b o,b≠s⁻¹->((s.heap.push { cls:=.type "list",data:=.seq ([]:List Value).toArray}).push (ς 0 0 a L.length ep)).get? b=some o->
   ((((s.heap.push { cls:=.type "list",data:=.seq ([]:List Value).toArray}).push (ς 0 0 a L.length ep)).update s⁻¹ (Obj.mapSeq (·.push Value.none))).update s⁻¹ (Obj.mapSeq (·.pop))).get? b=some o :=
  λb o hb e=>(N5 _ _ (Ne.symm hb)).trans ((N5 _ _ (Ne.symm hb)).trans e)
 have neI:a≠(s.heap.push { cls:=.type "list",data:=.seq ([]:List Value).toArray}).objs.size:=()
 have W:=(a3x (prog:=prog) (w:=w) (A:=A.in1) (I:=(s.heap.push { cls:=.type "list",data:=.seq ([]:List Value).toArray}).objs.size) (ep:=ep) () neI hE T).toS;have l16:=T.len;have sl0:pI (qD w) t 0=0:=by unfold pI;split<;>rfl
 refine aj ⟨oX F.plain_extend_loop _,codeAny_extend_loopS W (by rw[jg];omega) _ (by
   grind) _ _ 0 _ #[] _ Z (dG _) ⟨?_,?_⟩ S3 (ItemsOf.nil _) λs' acc' c' hm hS' hacc=>?_⟩
 ·refine oth _ _ () ?_;rw[sl0];exact bT _ rfl
 ·exact oth _ _ (bZ lt) ho2
 ·obtain⟨h',g',d',tk',os'⟩:=s';have eg:g'=s.gens:=hm.gens;have ed:d'=s.drawn:=hm.drawn;have eo:os'=s.os:=hm.os;subst eg;subst ed;subst eo;show wpAny _ A (load s⁻¹ >>= _) _ _ _;refine M (wpAny_load hS' ?_);dsimp only;have el:acc'.toList=(walked w a ep es).toList.map (·.2):=by
   apply List.ext_getElem?;intro i;rw[N7,gk,N7];rcases yh i acc'.size with q|q
   ·obtain⟨e,he,hv⟩:=hacc.2 i acc'[i] (xW q);rw[xW q,he,hv];rfl
   ·rw[N6 q,N6 (by rw[rH,hE.len,<-hacc.1];exact q)];rfl
  rw[el];refine aj (h h' tk' (λb o e=>?_) (aX hS'));have lb:b<s⁻¹:=aX e;refine hm.heap b o () (oth b o (bZ lb) (bx _ (bx _ e)))
def a3z{h:Heap}{b:Addr}{vs:List Value}{out:Array Value}{o:Obj}(lb:b<h.objs.size)(ne:b≠a)(e:h.get? b=some o):(sortedHeap h a vs out).get? b=some o:=by
 unfold sortedHeap;rw[Od _ _ _ _ ne];exact bx _ (bx _ (by rw[Od _ _ _ _ ne];exact e))
def a5C{h:Heap}{vs:List Value}{xs out:Array Value}{n:Nat}(e:h.get? a=some (seqObj "list" xs n)):∃n',(sortedHeap h a vs out).get? a=some (seqObj "list" out n'):=by
 unfold sortedHeap;exact⟨_,Uz (bx _ (bx _ (Uz e λ_=>#[]))) λ_=>out⟩
def V2{Q:Value->Shared->Prop}(hh:A.handled=none)(S:jr (qD w) s.heap a L)
  (h:∀(h':Heap) (tk:Nat) (p:Addr) (vs:List Value) (n:Nat) (ns:List Int),(∀b o,s.heap.get? b=some o->h'.get? b=some o)->s⁻¹<=p->h'.get? p=some (seqObj "list" vs.toArray n)->IntsAre vs ns->
   ns.Perm (L.map λv=>((v:Nat):Int))->ns.Pairwise (· <= ·)->Q (.ref p) { s with heap:=h',toks:=tk}):wpAny (model prog w) A (call (.builtin "sorted") [.ref a]) Q E s:=by
 obtain⟨es,ep,t,ho,hE,T⟩:=S;have l16:=T.len;apply ì kind_sorted plain_sorted entry_sorted (args_sorted1 _);unfold Builtin.«sorted»;refine M (m:=checkCount "sorted" 1 1 _) (aj ?_);refine M (Rz (by simpa using hh) ho hE T λh1 tk k lz=>?_);obtain⟨L',hP,pm⟩:=hE.perm (Gg w a ep es);have hl:L'.length=L.length:=pm.length_eq;have hI:IntsAre ((walked w a ep es).toList.map (·.2)) (L'.map λv=>((v:Nat):Int)):=by
  generalize (walked w a ep es).toList=l at hP;clear pm hl
  induction hP with
  |nil=>exact .nil
  |cons r _ ih =>
   obtain⟨q,e⟩:=r.2;rw[b7,b7,e];exact .cons _ q ih
 have hn:((walked w a ep es).toList.map (·.2)).length=L.length:=by rw[aM,uY,rH,hE.len]
 refine M (U4 ?_ (by rw[hn,jg];omega));have o1:(h1.push (seqObj "list" ((walked w a ep es).toList.map (·.2)).toArray 0)).get? h1.objs.size=some (seqObj "list" ((walked w a ep es).toList.map (·.2)).toArray 0):=bT _ rfl;refine M (fB (gq slot_list_sort ⟨_,o1,Z⟩ entry_list_sort (list_sort_tree o1 hI (by rw[hn];omega) λout ns a1 a2 a3=>⟨_,Z,?_⟩) (args_list_sort _)));obtain⟨n',o2⟩:=a5C (vs:=(walked w a ep es).toList.map (·.2)) (out:=out) o1;refine aj ⟨_,Z,h _ _ _ out.toList n' ns (λb o e=>?_) (d7 lz) (by simpa using o2) a1 (a2.trans (pm.map _)) a3⟩;have lb:b<h1.objs.size:=u5 (aX e) lz;exact a3z (by rw[Pj];exact Ir lb) (bZ lb) (bx _ (k b o e))
end
end Sm
namespace Sm
open PyProof.Rows
section
variable{prog:Program}{w:World}{A:Around}{R:Result->Shared->Prop}{I:Addr}{fp wr:List Addr}{G:Array GenState->Array GenState->Prop}{n:Nat}{P:Nat->Value->Prop}{St:Nat->Shared->Prop}
def a0M(W:WalksS prog w A.in1 I fp wr G n P St)(S:Addr)(nf:S∉fp)(val:Nat->Nat)(hv:∀i v,i<n->P i v->∃t,v=.int ((val i:Nat):Int) t)(lt:∀i,i<n->val i<16) :
  ∀(k i:Nat) (s:Shared) (L:List Nat),n-i=k->i<=n->St i s->jr (qD w) s.heap S L->rG s.heap S->(∀u,u∈L↔∃j,j<i/\val j=u)->
   (∀s' L',Moved (S::wr) G s s'->jr (qD w) s'.heap S L'->rG s'.heap S->(∀u,u∈L'↔∃j,j<n/\val j=u)->R (.ok (.ret .none)) s')->
   codeAny (model prog w) A (.builtin "set.update.loop" ⟨[.ref S,.ref I],[]⟩) R s:=by
 have nw:S∉wr:=λh=>nf (W.sub _ h);have up:∀b∈wr,b∈S::wr:=λb hb=>bh _ hb;intro k
 induction k with
 |zero =>
  intro i s L hk hi st hS hD mem hR;obtain rfl:i=n:=()
  refine mJ F.entry_set_update_loop ?_;rw[nF TY _];show wpAny _ A.in1 (pyNext (.ref I) >>= _) _ _ s;refine M (W.done s _ _ st λs' hm=>?_);exact aj (hR s' L (hm.mono up) (hS.keep λo e=>hm.heap S o nw e) (hD.keep λo e=>hm.heap S o nw e) mem)
 |succ k ih =>
  intro i s L hk hi st hS hD mem hR;have li:i<n:=()
  refine mJ F.entry_set_update_loop ?_;rw[nF TY _];show wpAny _ A.in1 (pyNext (.ref I) >>= _) _ _ s;refine M (W.item i s _ _ li st λv s' hP st' hm=>?_);obtain⟨t,rfl⟩:=hv i v li hP;have hS':=hS.keep λo e=>hm.heap S o nw e;have hD':=hD.keep λo e=>hm.heap S o nw e;show wpAny _ A.in1 (holding [Value.int ((val i:Nat):Int) t] (setAdd S (.int ((val i:Nat):Int) t)) >>= _) _ _ s';refine M (fB ?_);unfold setAdd;refine fB (M ((intKind prog w).pyHash (k:=((val i:Nat):Int)) (intKind_is _ _ _ _) ?_));have eh:(intKind prog w).hash ((val i:Nat):Int)=((val i:Nat):Int):=VN _ (lt i li);rw[eh];refine ĥ (s:={ s' with toks:=s'.toks+1}) hS' (lt i li) λb h' L' sb S2 a7S dn=>aj ⟨oX TY _,ih (i+1) _ L' () li (W.frame _ s' _ _ st' (yj _) λc hc o e=>?_) S2 (dn hD') (λu=>?_) λs2 L2 hm2 h2 h3 h4=>hR s2 L2 (Moved.trans W.gtrans ((hm.mono up).then_heap (yj _) λc o hc e=>?_) hm2) h2 h3 h4⟩
  ·rw[sb.2 c (λq:c=S=>nf ())];exact e
  ·grind
  ·rw[sb.2 c (λq:c=S=>hc ())];exact e
end
section
variable{prog:Program}{w:World}{A:Around}{E:Value->Shared->Prop}{s:Shared}
def a0N(a:Value){Q:Value->Shared->Prop}(h:Q (.ref s⁻¹) { s with heap:=s.heap.push (lX #[] 0 (.fresh 0 0 (!qD w)))}) :
  codeAny (model prog w) A (.call (.builtin "set.__new__") ⟨[.type "set",a],[]⟩) (wants Q E) s:=by
 refine codeAny_of_tree ?_;show wpAny _ A.in1 (do checkBuiltinCall "set.__new__" ⟨[.type "set",a],[]⟩;again (.builtin "set.__new__" ⟨[.type "set",a],[]⟩)) _ _ s;refine M (Jc (F.newCall_set_1 a) (aj ⟨oX F.plain_set_new _,mJ F.entry_set_new ?_⟩));rw[nF F.plain_set_new _];unfold Builtin.«set.__new__» Builtin.Frozenset.newClass;have hsub:=sub_set_self;obtain⟨hp,g,d,tk,os⟩:=s;dsimp only at h ⊢
 wp_walk
 refine Ou (aj ?_);dsimp only;simp only[newObj];exact M (wpAny_alloc (aj (aj h)))
def a3A{l:Addr}{items:Array Value}{vals:List Nat}{Q:Value->Shared->Prop}(hh:A.handled=none)(hl:s.heap.IsList l items)(hi:IntsAre items.toList (vals.map λv=>((v:Nat):Int)))(lt:∀v∈vals,v<16)
  (h:∀(h':Heap) (tk:Nat) (L:List Nat),jr (qD w) h' s⁻¹ L->rG h' s⁻¹->(∀u,u∈L↔u∈vals)->(∀b o,b<s⁻¹->s.heap.get? b=some o->h'.get? b=some o)->Q (.ref s⁻¹) { s with heap:=h',toks:=tk}) :
  wpAny (model prog w) A (call (.type "set") [.ref l]) Q E s:=by
 obtain⟨c,tl,hmro⟩:=F.called_set.mro;have hmade:=F.called_set.made;have hsub:=F.called_set.sub;have hlen:items.size=vals.length:=by
  have:=hi.length;simpa using this
 refine wpAny_call (codeAny_of_tree ?_);show wpAny _ _ (callAny (.type "set") _) _ _ _;refine aj ⟨Code.quiet_builtin _ (),mJ F.entry_type_call ?_⟩;rw[Around.under_plain (weight_type_call_type "set" [.ref l] []) rfl];have h1:=F.called_set.notType;have h2:=F.called_set.canCreate;have hct:=F.typeCall_set_1 (.ref l);repeat (any_goals (first|assumption|wp_step))
 refine Eo (a0N (.ref l) (E:=E) (Q:=λobj s₁=>obj=.ref s⁻¹/\s₁={ s with heap:=s.heap.push (lX #[] 0 (.fresh 0 0 (!qD w)))}) ⟨rfl,rfl⟩) λr s₁ hr=>?_;cases r with
 |error e=>exact hr
 |ok fl =>
  cases fl with
  |ret obj =>
   obtain⟨rfl,rfl⟩:=hr;have gS:(s.heap.push (lX #[] 0 (.fresh 0 0 (!qD w)))).get? s⁻¹=some (lX #[] 0 (.fresh 0 0 (!qD w))):=bT _ rfl;have hT:Shared.TypeIs { s with heap:=s.heap.push (lX #[] 0 (.fresh 0 0 (!qD w)))} (.ref s⁻¹) "set" :=⟨_,gS,rfl⟩;have hli:=F.called_set.init.lookup;have hbi:=F.called_set.init.bind (.ref s⁻¹);repeat (any_goals (first|assumption|wp_step))
   refine Eo (codeAny_call_builtin (R:=wants (λr s₂=>r=.none/\∃h' tk L,s₂={ s with heap:=h',toks:=tk}/\jr (qD w) h' s⁻¹ L/\rG h' s⁻¹/\(∀u,u∈L↔u∈vals)/\
     (∀b o,b<s⁻¹->s.heap.get? b=some o->h'.get? b=some o)) E) F.called_set.init.plain F.entry_set_init (check_set_init_1 hT ?_)) λr₂ s₂ hr₂=>?_
   ·obtain⟨ol,hol,hcl,nl,hdl⟩:=hl;obtain⟨ocls,odict,odata,oslots⟩:=ol;simp only at hcl hdl;subst hcl;subst hdl;have hol':(s.heap.push (lX #[] 0 (.fresh 0 0 (!qD w)))).get? l=some { cls:=.type "list",dict:=odict,data:=.seq items nl,slots:=oslots}:=bx _ hol;have hsls:=F.sub_list_set;have hslf:=F.sub_list_frozenset;have hne:(Value.type "list" == Value.type "dict")=false:=()
    have hl1:(s.heap.push (lX #[] 0 (.fresh 0 0 (!qD w)))).IsList l items:=⟨_,hol',Z,nl,Z⟩;unfold Builtin.«set.__init__» noKeywords Builtin.Frozenset.updateFrom;generalize hPI:pyIter=PI
    wp_walk
    subst hPI;refine wu hl1 (M (wpAny_runValue ?_));have ll:l<s⁻¹:=aX hol;have hh3:A.in1.in1.in1.handled=none:=by simp[hh]
    have ni:l≠(s.heap.push (lX #[] 0 (.fresh 0 0 (!qD w)))).objs.size:=by rw[j7];exact bZ (Ir ll)
    have nf:s⁻¹∉[(s.heap.push (lX #[] 0 (.fresh 0 0 (!qD w)))).objs.size,l]:=by
     rw[j7];simp only[List.mem_cons,List.not_mem_nil,or_false,not_or];exact⟨bZ (Aw _),gG ll⟩
    have hval:∀(i:Nat) (v:Value),i<items.size->items[i]?=some v->∃t,v=.int (((λi=>vals.getD i 0) i:Nat):Int) t:=λi v li hv=>by
     obtain⟨t,e⟩:=PyProof.Rows.IntsAre.int_at hi i v (by rw[N7];exact hv);have lv:i<vals.length:=()
     refine⟨t,?_⟩;rw[e];simp[List.getD,lv]
    refine a0M ((Walks.list hh3 _ l ni items).toS) s⁻¹ nf (λi=>vals.getD i 0) hval (λi li=>?_) (items.size-0) 0 _ [] () (dG _) ⟨⟨_,bT _ Z,Z,Z⟩,(hl1.push _)⟩ ?hS0 ?hD0 (λu=>by simp) ?hR
    ·have lv:i<vals.length:=()
     refine lt _ ?_;simp[List.getD,lv]
    case hS0=>exact⟨#[],0,_,bx _ gS,.nil,Rx _⟩
    case hD0=>exact⟨#[],0,_,bx _ gS,.inl Z⟩
    case hR =>
     intro s' L' hm hS' hD' mem;obtain⟨h',g',d',tk',os'⟩:=s';have eg:g'=s.gens:=hm.gens;have ed:d'=s.drawn:=hm.drawn;have eo:os'=s.os:=hm.os;subst eg;subst ed;subst eo;show wpAny _ _ _ _ _ _;refine aj ?_;show wpAny _ _ (ret Value.none) _ _ _;refine aj ⟨Z,h',tk',L',Z,hS',hD',λu=>?_,λb o hb e=>?_⟩
     ·rw[mem u];constructor
      ·rintro⟨j,hj,rfl⟩;have lv:j<vals.length:=()
       simp[List.getD,lv]
      ·intro hu;obtain⟨j,hj,e⟩:=oU hu;exact⟨j,(),by simp[List.getD,hj,e]⟩
     ·have b1:b≠s⁻¹:=bZ hb;have b2:b≠(s.heap.push (lX #[] 0 (.fresh 0 0 (!qD w)))).objs.size:=by rw[j7];exact bZ (Ir hb)
      exact hm.heap b o (by simp only[List.mem_cons,List.not_mem_nil,or_false,not_or];exact⟨b1,b2⟩) (bx _ (bx _ e))
   ·cases r₂ with
    |error e=>exact hr₂
    |ok fl₂ =>
     cases fl₂ with
     |ret r =>
      obtain⟨rfl,h',tk,L,rfl,q1,q2,q3,q4⟩:=hr₂;repeat (any_goals (first|assumption|wp_step))
      exact h _ _ L q1 q2 q3 q4
     |_=>exact hr₂.elim
  |_=>exact hr.elim
end
end Sm
namespace L2
open PyProof.Rows Sm
def RB(w:World)(a:Addr)(d:Bool)(L:List Nat):HO:=.ext λh=>jr (qD w) h a L/\(d=true->rG h a)
def Small(ns:List Int):Prop:=∀n∈ns,0<=n/\n<16
def Q5(p:Int->Bool):List Int:=((List.range 16).map λi=>((i:Nat):Int)).filter p
def a3B(p:Int->Bool):(Q5 p).Pairwise (· < ·):=by
 unfold Q5;refine Im _ ?_;rw[Ek];exact List.pairwise_lt_range.imp λh=>by omega
def zG{p:Int->Bool}{v:Int}:v∈Q5 p↔0<=v/\v<16/\p v=true:=by
 unfold Q5;rw[lH,dY];constructor
 ·grind
 ·rintro⟨h0,h1,h⟩;exact⟨⟨v.toNat,nQ.mpr (),()⟩,h⟩
theorem up_eq:∀{xs ys:List Int},xs.Pairwise (· < ·)->ys.Pairwise (· < ·)->(∀v,v∈xs↔v∈ys)->xs=ys
 | [],[],_,_,_=>rfl
 | [],y::ys,_,_,h=>absurd ((h y).mpr aV) fu
 |x::xs,[],_,_,h=>absurd ((h x).mp aV) fu
 |x::xs,y::ys,hx,hy,h=>by
  obtain⟨x1,x2⟩:=Aq.mp hx
  obtain⟨y1,y2⟩:=Aq.mp hy
  have e:x=y:=by
   rcases bU.mp ((h x).mp aV)with e|e
   ·exact e
   ·rcases bU.mp ((h y).mpr aV)with f|f
    ·exact f.symm
    ·have a:=y1 x e
     have b:=x1 y f
     omega
  subst e
  congr 1
  refine up_eq x2 y2 λv=>?_
  constructor
  ·intro q
   rcases bU.mp ((h v).mp (bh _ q))with e|e
   ·subst e;have:=x1 v q;omega
   ·exact e
  ·intro q
   rcases bU.mp ((h v).mpr (bh _ q))with e|e
   ·subst e;have:=y1 v q;omega
   ·exact e
inductive a5D(w:World)(K:aH)(xs:List V)(H:Hp)(Q:VK):Prop
 |mk (l ns:_) (_:xs=[.ref l]) (_:bI K H l (List.map V.int ns)) (_:Small ns) (_:∀p L H',gZ H p (RB w p true L) H'->(∀u:Nat,u∈L↔(u:Int)∈ns)->Q (.ref p) H')
inductive a7h(w:World)(x:V)(y:V)(H:Hp)(Q:VK):Prop
 |mk (a b L1 L2:_) (_:x=.ref a) (_:y=.ref b) (_:a≠b) (_:H a=some (RB w a true L1)) (_:H b=some (RB w b true L2)) (_:∀p L H',gZ H p (RB w p false L) H'->(∀u:Nat,u∈L↔u∈L1\/u∈L2)->Q (.ref p) H')
inductive a3C(w:World)(xs:List V)(H:Hp)(Q:VK):Prop
 |mk (a d L:_) (_:xs=[.ref a]) (_:H a=some (RB w a d L)) (_:∀p H',gZ H p (.lst ((Q5 λv=>decide (v.toNat∈L)).map V.int)) H'->Q (.ref p) H')
inductive a3D(K:aH)(xs:List V)(H:Hp)(Q:VK):Prop
 |mk (l ns:_) (_:xs=[.ref l]) (_:bI K H l (List.map V.int ns)) (_:ns.length<64) (_:∀p H' zs,gZ H p (.lst (List.map V.int zs)) H'->zs.Perm ns->zs.Pairwise (· <= ·)->Q (.ref p) H')
def Fd:∀{vs:List Value}{ns:List Int},IntsAre vs ns->cN (ns.map V.int) vs
 |_,_,.nil=>.nil
 |_,_,.cons n t r=>.cons ⟨t,Z⟩ (Fd r)
def ĭ{xs:List Int}{L:List Nat}(pm:xs.Perm (L.map λv=>((v:Nat):Int)))(nd:L.Nodup)(lt:∀v∈L,v<16)(le:xs.Pairwise (· <= ·)):xs=Q5 λv=>decide (v.toNat∈L):=by
 have Zv:xs.Nodup:=pm.nodup_iff.mpr (by
  grind)
 have lt2:xs.Pairwise (· < ·):=by
  unfold List.Nodup at Zv;exact(le.and Zv).imp λh=>by omega
 refine up_eq lt2 (a3B _) λv=>?_;rw[pm.mem_iff,zG,dY];grind
section
variable{X:Cx}{K:aH}{w:World}
def XF{H:Hp}{h:Heap}{a:Addr}{d:Bool}{L:List Nat}{P:Program}{w':World}(S:jr (qD w) h a L)(D:d=true->rG h a):fW P w' H h a (RB w a d L):=by
 refine⟨⟨S,D⟩,?_,?_⟩
 ·obtain⟨_,_,_,ho,_⟩:=S;grind
 ·rintro h1 h2 ⟨s1,d1⟩ k;exact⟨s1.keep k,λe=>(d1 e).keep k⟩
def Mu(ek:X.K=K)(ew:X.w=w)(cm:X.calm=true):jG X (.type "set") (a5D w K):=by
 subst ek;subst ew;intro Y s σ H xs us Q I r h;obtain⟨l,ns,rfl,hL,sm,q⟩:=h;obtain⟨u,rfl,rx⟩:=vals1 r;cases rx;obtain⟨bV,r',pl,hz⟩:=I.list hL;have hi:=ints_of r';have e:(ns.map Int.toNat).map (λv=>((v:Nat):Int))=ns:=by
  rw[mL];have:∀n∈ns,((λv=>((v:Nat):Int))∘Int.toNat) n=id n:=λn hn=>by
   have:=(sm n hn).1;grind
  rw[yc this,List.map_id]
 refine a3A (vals:=ns.map Int.toNat) (I.ok.hd cm) pl.isList () (λv hv=>?_) λh' tk L S D mem k=>?_
 ·obtain⟨n,hn,rfl⟩:=dY.mp hv;have:=sm n hn;omega
 ·have hf:H s⁻¹=none:=I.hok.fresh (aN _);refine⟨.ref s⁻¹,_,I.laid (t':=tk) (o:=RB X.w s⁻¹ true L) (λb o eo=>k b o (aX eo) eo) (aN _) (XF S λ_=>D),Z,q _ L _ (gZ.oM hf) λu=>?_⟩;grind
def a3E(ew:X.w=w):sS X (binaryOp .BitOr) (a7h w):=by
 subst ew;intro Y s σ H x y v u Q I rx ry h;obtain⟨a,b,L1,L2,rfl,rfl,ne,hA,hB,q⟩:=h;cases rx;cases ry;obtain⟨⟨S1,D1⟩,_⟩:=I.hok a _ hA;obtain⟨⟨S2,D2⟩,_⟩:=I.hok b _ hB;refine a5B ne S1 (D1 Z) S2 (D2 Z) λh' L k S mem=>?_;have hf:H s⁻¹=none:=I.hok.fresh (aN _);exact⟨.ref s⁻¹,_,I.laid (t':=s.toks) (o:=RB X.w s⁻¹ false L) (λb o eo=>k b o eo) (aN _) (XF S λe=>by cases e),Z,q _ L _ (gZ.oM hf) mem⟩
def Qi(ew:X.w=w)(cm:X.calm=true):jG X (.builtin "sorted") (a3C w):=by
 subst ew;intro Y s σ H xs us Q I r h;obtain⟨a,d,L,rfl,hA,q⟩:=h;obtain⟨u,rfl,rx⟩:=vals1 r;cases rx;obtain⟨⟨S,_⟩,_⟩:=I.hok a _ hA;obtain⟨_,_,t,_,_,T⟩:=id S;refine V2 (I.ok.hd cm) S λh' tk p vs n ns k hp ho hi pm le=>?_;have e:=ĭ pm T.nd T.lt le;subst e;have l16:(Q5 λv=>decide (v.toNat∈L)).length<=16:=by rw[pm.length_eq,aM];exact T.len
 have hf:H p=none:=I.hok.fresh hp;refine⟨.ref p,_,I.laid (t':=tk) (o:=.lst ((Q5 λv=>decide (v.toNat∈L)).map V.int)) k hp ⟨?_,vs,n,Fd hi,ho⟩,Z,q p _ (gZ.oM hf)⟩;rw[aM,jg];omega
def Dd(e:X.K=K):jG X (.builtin "sorted") (a3D K):=by
 subst e;intro Y s σ H xs us Q I r h;obtain⟨l,ns,rfl,hL,h64,q⟩:=h;obtain⟨u,rfl,rx⟩:=vals1 r;cases rx;obtain⟨bV,r',pl,hz⟩:=I.list hL;have hlen:=r'.length;rw[aM]at hlen;refine sorted_ints (ns:=ns) pl.isList (ints_of r') () λout zs hi pm le=>?_;obtain⟨c,hc⟩:=sortedAll_at s.heap bV out;refine⟨.ref (s⁻¹+1),_,I.laid (t':=s.toks) (o:=.lst (zs.map V.int)) (λb o eo=>sortedAll_old eo) (yj _) ⟨?_,out.toList,c,Fd hi,by simpa using hc⟩,Z,q _ _ zs (gZ.oM (I.hok.fresh (yj _))) pm le⟩;rw[aM,pm.length_eq,jg];omega
end
end L2
namespace L2
open PyProof.Rows
section
variable{K:aH}{a:Addr}{xs:List V}{ix:List (Option Nat)}{g:TG}{tt:TT}{te:TE}{σ:St}{H1:Hp}{Q:VK}
def a0O(f:V->Option V)(hx:cH K H1 a xs)(hz:xs.length<=1000)
  (hs:∀x H (N:Option V->Hp->Prop),x∈xs->aJ H1 H->(∀H',aJ H1 H'->N (f x) H')->g x (rF ix σ) H λσ2 H2=>tt σ2 H2 λb H3=>if b=true then te σ2 H3 λv H4=>N (some v) H4 else N none H3)
  (hd:∀H p H',aJ H1 H->gZ H p (.lst (xs.filterMap f)) H'->Q (.ref p) H'):nR ix g tt te σ H1 Q (Itt K a):=by
 refine⟨λi m ys H=>m=xs.length-i/\i<=xs.length/\ys=(xs.take i).filterMap f/\aJ H1 H,⟨xs.length,by simp,dG _,Z,aJ.refl _⟩,?_⟩;rintro i m ys H ⟨rfl,hi,e,s⟩;have q:=s.wU hx;have z:ys.length<=sizeLine:=by
  subst e;refine dF (TX _ _) (dF ?_ (d7 (cO hz)));rw[fZ];exact Ut _ _
 by_cases hlt:i<xs.length
 ·refine .inr ⟨⟨xs,xs[i],q,by simp[hlt]⟩,z,λys' H'=>ys'=(xs.take (i+1)).filterMap f/\aJ H1 H',λys' H' p'=>⟨xs.length-(i+1),(),Z,hlt,p'⟩,λx H' y=>?_⟩;obtain⟨e',y⟩:=y;subst e';have hx':=y xs q;have hm:x∈xs:=jf hx';obtain⟨hil,hix⟩:=fY.mp hx';have et:xs.take (i+1)=xs.take i++[x]:=by rw[Af hil,hix]
  refine hs x _ (λo H'=>match o with|some v=>(ys++[v]=(xs.take (i+1)).filterMap f/\aJ H1 H')|none=>(ys=(xs.take (i+1)).filterMap f/\aJ H1 H')) hm s λH' s'=>?_;cases ef:f x with
  |some v=>exact⟨by rw[e,et,xY];simp[ef],s'⟩
  |none=>exact⟨by rw[e,et,xY];simp[ef],s'⟩
 ·have ei:i=xs.length:=()
  subst ei;refine .inl ⟨⟨xs,q,aN _⟩,z,λp hp=>?_⟩;subst e;rw[iV];exact hd H p _ s (gZ.oM hp)
end
section
variable{X:Cx}{K:aH}
inductive a5E(K:aH)(x:V)(lo:Option Int)(hi:Option Int)(H:Hp)(Q:VK):Prop
 |mk (a xs:_) (_:x=.ref a) (_:cH K H a xs) (_:¬(HT.lK xs.length 0 lo=0/\HT.lK xs.length xs.length hi=xs.length)) (_:∀p H',gZ H p (.tup (u9 xs lo hi)) H'->Q (.ref p) H')
def Hv(e:X.K=K):SlR X (a5E K):=by
 subst e;exact λY s σ H x v vl vu lo hi sl Q I rx hs pl pu ⟨a,xs,e,h,hw,q⟩=>Ć Y s σ H x v vl vu lo hi sl Q I rx hs pl pu ⟨a,xs,e,h,hw,λp hp=>q p _ (gZ.oM hp)⟩
end
end L2
namespace L2
open PyProof.Rows
variable{H H':Hp}{O:List (List Key×V)}{h:Heap}{X:Cx}{w:World}{K:aH}{mg:Str->Option Value}{y:V}{u oc doc pm dD ct:Value}{pos:Pos}{P:Program}{a f b:Addr}{A:Type}{x:Str}{st:Stmt}{ps:List Str}{od an:Option Addr}{osl:Array (Option Value)}{o:Option V}{s:Shared}{Q:Value->Shared->Prop}
section
variable{κ:Type} [DecidableEq κ]
def iI(O:List (κ×V))(k:κ):Option V:=(O.find? λkv=>decide (kv.1=k)).map (·.2)
def putK(O:List (κ×V))(k:κ)(v:V):List (κ×V) :=
 if(O.any λkv=>decide (kv.1=k))=true then O.map (λkv=>if kv.1=k then(kv.1,v)else kv)else O++[(k,v)]
def Ju{p:κ×V}{r:List (κ×V)}{k:κ}(e:p.1=k):iI (p::r) k=some p.2:=by simp[iI,List.find?_cons,e]
def Jv{p:κ×V}{r:List (κ×V)}{k:κ}(e:¬p.1=k):iI (p::r) k=iI r k:=by simp[iI,List.find?_cons,e]
theorem RD(k:κ):∀O:List (κ×V),(O.any λkv=>decide (kv.1=k))=(iI O k).isSome
 | []=>rfl
 |p::r=>by
  rw[tZ]
  by_cases e:p.1=k
  ·simp only[Ju e,decide_eq_true e,Bool.true_or,Option.isSome_some]
  ·rw[Jv e,cZ e,Bool.false_or];exact RD k r
def uR(O:List (κ×V))(k:κ)(v:V):(putK O k v).length<=O.length+1:=by
 unfold putK;split
 ·rw[aM];omega
 ·rw[cC,jH,List.length_nil];omega
def tB.Fe{u:Option Value}(r:tB o u):o.isSome=u.isSome:=by
 cases o with
 |none=>cases u with
  |none=>rfl
  |some _=>exact(show False from r).elim
 |some _=>cases u with
  |none=>exact(show False from r).elim
  |some _=>rfl
def tB.getD{o:Option V}{u:Option Value}{d:V}{d':Value}(r:tB o u)(rd:cQ d d'):cQ (o.getD d) (u.getD d'):=by
 cases o with
 |none=>cases u with
  |none=>exact rd
  |some _=>exact(show False from r).elim
 |some _=>cases u with
  |none=>exact(show False from r).elim
  |some _=>exact r
def KV.val{O:List (κ×V)}{vs:List (κ×Value)}(r:KV O vs)(k:κ):tB (iI O k) (valueAt vs k):=by
 unfold KV at r
 induction r with
 |nil=>exact mO
 | @cons p q ps qs h t ih =>
  obtain⟨h1,h2⟩:=h;by_cases e:p.1=k
  ·have e':q.1=k:=h1.symm.trans e;have b:valueAt (q::qs) k=some q.2:=by simp[valueAt,List.find?_cons,e']
   rw[Ju e,b];exact h2
  ·have e':¬q.1=k:=λz=>e (h1.trans z);have b:valueAt (q::qs) k=valueAt qs k:=by simp[valueAt,List.find?_cons,e']
   rw[Jv e,b];exact ih
def KV.any{O:List (κ×V)}{vs:List (κ×Value)}(r:KV O vs)(k:κ):(O.any λkv=>decide (kv.1=k))=vs.any λkv=>decide (kv.1=k):=by
 unfold KV at r
 induction r with
 |nil=>rfl
 |cons h t ih=>rw[tZ,tZ,ih,h.1]
def KV.repl{O:List (κ×V)}{vs:List (κ×Value)}(r:KV O vs)(k:κ)(ry:cQ y u) :
  KV (O.map λkv=>if kv.1=k then(kv.1,y)else kv) (vs.map λkv=>if kv.1=k then(kv.1,u)else kv):=by
 unfold KV at r ⊢
 induction r with
 |nil=>exact .nil
 | @cons p q ps qs h t ih =>
  rw[b7,b7];refine .cons ?_ ih;obtain⟨h1,h2⟩:=h;by_cases e:p.1=k
  ·rw[aB e,aB (h1.symm.trans e)];exact⟨h1,ry⟩
  ·rw[aq e,aq (λz=>e (h1.trans z))];exact⟨h1,h2⟩
def KV.put{O:List (κ×V)}{vs:List (κ×Value)}(r:KV O vs)(k:κ)(ry:cQ y u):KV (putK O k y) (stored vs k u):=by
 unfold putK stored;rw[r.any k];by_cases e:(vs.any λkv=>decide (kv.1=k))=true
 ·rw[aB e,aB e];exact r.repl k ry
 ·rw[aq e,aq e];exact Paired.snoc r ⟨Z,ry⟩
def KV.length{O:List (κ×V)}{vs:List (κ×Value)}(r:KV O vs):O.length=vs.length:=aQ r
end
def RG{k:Key}(r:cQ (kV k) u):(dN P w).is k u=true:=by
 cases k with
 |inl i=>obtain⟨t,e⟩:=(show ∃t,u=Value.int i t from r);subst e;exact Q7 P w i t
 |inr x=>obtain⟨t,e⟩:=(show ∃t,u=Value.str x t from r);subst e;exact gH P w x t
theorem Mv{P:Program}{w:World}:∀{ks:List Key}{us:List Value},cN (ks.map kV) us->ItemsAre (dN P w) ks us
 | [],_,r=>by rw[List.map_nil]at r;cases r;exact .nil
 |k::ks,_,r=>by
  rw[b7]at r
  cases r with
  |cons h t=>exact .cons (RG h) (Mv t)
abbrev KT(H:Hp):List (List Key×V)->List (List Key×Addr×Value)->Prop:=Paired λp q=>p.1=q.1/\H q.2.1=some (.tup (p.1.map kV))/\cQ p.2 q.2.2
def KT.val{xs:List (List Key×Addr×Value)}(r:KT H O xs)(k:List Key):tB (iI O k) ((atKey xs k).map (·.2)):=by
 induction r with
 |nil=>exact mO
 | @cons p q ps qs h t ih =>
  obtain⟨h1,_,h2⟩:=h;by_cases e:p.1=k
  ·have e':q.1=k:=h1.symm.trans e;have b:atKey (q::qs) k=some q.2:=by simp[atKey,List.find?_cons,e']
   rw[Ju e,b];exact h2
  ·have e':¬q.1=k:=λz=>e (h1.trans z);have b:atKey (q::qs) k=atKey qs k:=by simp[atKey,List.find?_cons,e']
   rw[Jv e,b];exact ih
def KT.repl{xs:List (List Key×Addr×Value)}(r:KT H O xs)(k:List Key)(ry:cQ y u) :
  KT H (O.map λkv=>if kv.1=k then(kv.1,y)else kv) (xs.map (putAt k u)):=by
 induction r with
 |nil=>exact .nil
 | @cons p q ps qs h t ih =>
  rw[b7,b7];refine .cons ?_ ih;obtain⟨h1,h2,h3⟩:=h;unfold putAt;by_cases e:p.1=k
  ·rw[aB e,aB (h1.symm.trans e)];exact⟨h1,h2,ry⟩
  ·rw[aq e,aq (λz=>e (h1.trans z))];exact⟨h1,h2,h3⟩
def KT.put{xs:List (List Key×Addr×Value)}(r:KT H O xs)(k:List Key)(hb:H b=some (.tup (k.map kV)))(ry:cQ y u) :
  KT H (putK O k y) (storedH xs k b u):=by
 have e:(O.any λkv=>decide (kv.1=k))=(atKey xs k).isSome:=by
  rw[RD,(r.val k).Fe,Option.isSome_map]
 unfold putK storedH;rw[e];by_cases q:(atKey xs k).isSome=true
 ·rw[aB q,aB q];exact r.repl k ry
 ·rw[aq q,aq q];exact Paired.snoc r ⟨Z,hb,ry⟩
def KT.keeps{xs:List (List Key×Addr×Value)}(r:KT H O xs)(ht:∀b ys,H b=some (.tup ys)->H' b=some (.tup ys)):KT H' O xs :=
 Paired.cB r λ_ _ z=>⟨z.1,ht _ _ z.2.1,z.2.2⟩
def a2n{u:HO}(ok:zQ P w H h)(e:Rd H a u):fW P w H h a u:=e.ok ok
def XH{O:List (Key×V)}(ok:zQ P w H h)(e:Rd H a (.dK O)):O.length<=sizeLine/\(a==sysModules)=false/\∃vs,KV O vs/\h.DictOf (dN P w) a vs :=
 show fW P w H h a (.dK O)from a2n ok e
def a5F{O:List (Key×V)}(ok:zQ P w H h)(e:H a=some (.dK O)):O.length<=sizeLine/\(a==sysModules)=false/\∃vs,KV O vs/\h.DictOf (dN P w) a vs:=XH ok (.inl e)
def Bj{ks:List Key}(ok:zQ P w H h)(e:H a=some (.tup (ks.map kV))):(tupleKind (dN P w)).is h ks a:=by
 obtain⟨_,bV,r,o,h1,h2,n,h3⟩:=(show fW P w H h a (.tup (ks.map kV))from ok a _ e);exact⟨o,bV.toArray,n,h1,h2,h3,by simpa using Mv r⟩
def XJ(ok:zQ P w H h)(e:Rd H a (.dT O)):O.length<=sizeLine/\(a==sysModules)=false/\
  ∃xs,KT H O xs/\h.DictOfH (tupleKind (dN P w)) a xs:=by
 obtain⟨z,y,xs,r,o,es,ep,h1,h2,h3,h4,h5⟩:=(show fW P w H h a (.dT O)from a2n ok e);refine⟨z,y,xs,r,o,es,ep,h1,h2,h3,h4,λx hx=>?_,h5⟩;have all:∀{l:List (List Key×V)}{m:List (List Key×Addr×Value)},KT H l m->∀x∈m,(tupleKind (dN P w)).is h x.1 x.2.1:=by
  intro l m q
  induction q with
  |nil=>intro x hx;exact nomatch hx
  | @cons p q ps qs hq t ih =>
   intro x hx;rcases bU.mp hx with e|hx
   ·subst e;exact Bj ok (by rw[<-hq.1];exact hq.2.1)
   ·exact ih x hx
 exact all r x hx
def yC(ok:zQ P w H h)(e:H a=some (.dT O)):O.length<=sizeLine/\(a==sysModules)=false/\
  ∃xs,KT H O xs/\h.DictOfH (tupleKind (dN P w)) a xs:=XJ ok (.inl e)
def Jw(H:Hp)(a:Addr)(y:V)(r:Option V):Prop :=
 (∃O k,Rd H a (.dK O)/\y=kV k/\r=iI O k)\/∃O k b,Rd H a (.dT O)/\y=.ref b/\H b=some (.tup (k.map kV))/\r=iI O k
def a0P(H:Hp)(a:Addr)(y v:V)(H':Hp):Prop :=
 (∃O k,H a=some (.dK O)/\y=kV k/\O.length<sizeLine/\H'=cM H a (.dK (putK O k v)))\/
 ∃O k b,H a=some (.dT O)/\y=.ref b/\H b=some (.tup (k.map kV))/\O.length<sizeLine/\H'=cM H a (.dT (putK O k v))
def Jw.t{k:List Key}(e:H a=some (.dT O))(eb:H b=some (.tup (k.map kV))):Jw H a (.ref b) (iI O k):=.inr ⟨O,k,b,.inl e,Z,eb,Z⟩
def a0P.t{k:List Key}{v:V}(e:H a=some (.dT O))(eb:H b=some (.tup (k.map kV)))(hl:O.length<sizeLine) :
  a0P H a (.ref b) v (cM H a (.dT (putK O k v))):=.inr ⟨O,k,b,e,Z,eb,hl,Z⟩
section
variable{Y:List (Addr×Obj)}{σ:St}{v:V}{r:Value}{A:Around}{E:Value->Shared->Prop}
def bC.big(I:bC X Y σ H s):sysModules<s⁻¹:=by
 have h:mainGlobals<s⁻¹:=(I.mod.glob.keeps I.bk).lt;exact u5 () h
def Zw(hu:A.units+1<cLine)(I:bC X Y σ H s)(g:Jw H a y (some v))(ry:cQ y u)(h:∀w' s',bC X Y σ H s'->cQ v w'->Q w' s') :
  wpAny (model X.prog X.w) A (getItem (.ref a) u) Q E s:=by
 rcases g with⟨O,k,e,ey,l⟩|⟨O,k,b,e,ey,eb,l⟩
 ·subst ey;obtain⟨z,hd,vs,rel,dd⟩:=XH I.hok e;obtain⟨w',hw,Y7⟩:=tB.some_of (v:=v) (o:=valueAt vs k) (by rw[l];exact rel.val k);exact wpAny_getItem_of (RG ry) dd.mapOf hw (h w' _ (I.tok _) Y7)
 ·subst ey;cases(show u=Value.ref b from ry);obtain⟨z,hd,xs,rel,dd⟩:=XJ I.hok e;obtain⟨w',hw,Y7⟩:=tB.some_of (v:=v) (o:=(atKey xs k).map (·.2)) (by rw[l];exact rel.val k);obtain⟨p,hp,hp2⟩:=oR.mp hw;refine wpAny_getItem_heap (ye hu) (Bj I.hok eb) dd hp ?_;rw[hp2];exact h w' _ (I.tok _) Y7
def a7i(hu:A.units+1<cLine)(I:bC X Y σ H s)(g:Jw H a y o)(ry:cQ y u)(h:∀s',bC X Y σ H s'->Q (.bool o.isSome) s') :
  wpAny (model X.prog X.w) A (compareOp .In u (.ref a)) Q E s:=by
 rcases g with⟨O,k,e,ey,l⟩|⟨O,k,b,e,ey,eb,l⟩
 ·subst ey;obtain⟨z,hd,vs,rel,dd⟩:=XH I.hok e;refine wpAny_in_of (RG ry) hd dd.mapOf ?_;rw[<-(rel.val k).Fe,<-l];exact h _ (I.tok _)
 ·subst ey;cases(show u=Value.ref b from ry);obtain⟨z,hd,xs,rel,dd⟩:=XJ I.hok e;refine wpAny_in_heap (ye hu) (Bj I.hok eb) hd dd ?_;have q:=(rel.val k).Fe;rw[Option.isSome_map]at q;rw[<-q,<-l];exact h _ (I.tok _)
def Hw{h':Heap}{t':Nat}{ob:HO}(I:bC X Y σ H s)(mu:Mut (H a))(hs:Heap.SameBut a s.heap h')(he:∃q,h'.get? a=some q)(new:fW X.prog X.w (cM H a ob) h' a ob) :
  bC X Y σ (cM H a ob) { s with heap:=h',toks:=t'} :=
 I.write (x:=a) (e:=a) mu (.inl Z) (λb q hb z=>(hs.2 b hb).trans z) he new
def a3F{h':Heap}{O:List (Key×V)}{vs:List (Key×Value)}(z:O.length<=sizeLine)(hd:(a==sysModules)=false)(rel:KV O vs)(dd:h'.DictOf (dN P w) a vs) :
  fW P w H' h' a (.dK O):=⟨z,hd,vs,rel,dd⟩
def Zx{Q:Unit->Shared->Prop}(hu:A.units+1<cLine)(I:bC X Y σ H s)(g:a0P H a y v H')(ry:cQ y u)(rv:cQ v r)(h:∀s',bC X Y σ H' s'->Q ⟨⟩ s') :
  wpAny (model X.prog X.w) A (setItem (.ref a) u r) Q E s:=by
 rcases g with⟨O,k,e,ey,l,eH⟩|⟨O,k,b,e,ey,eb,l,eH⟩
 ·subst ey eH;obtain⟨z,hd,vs,rel,dd⟩:=a5F I.hok e;have hz:vs.length<=sizeLine:=by rw[<-rel.length];exact z
  have hl:(putK O k v).length<=sizeLine:=by have:=uR O k v;omega
  refine wpAny_setItem_pairs (hsz:=hz) (RG ry) dd λh' dd' hs=>h _ ?_;have he:∃q,h'.get? a=some q:=let⟨q,_,_,hq,_⟩:=dd';⟨q,hq⟩
  exact Hw I (by rw[e];exact mO) hs he (a3F hl hd (rel.put k rv) dd')
 ·subst ey eH;cases(show u=Value.ref b from ry);obtain⟨z,hd,xs,rel,dd⟩:=yC I.hok e;have hz:xs.length<=sizeLine:=by rw[<-aQ rel];exact z
  have hl:(putK O k v).length<=sizeLine:=by have:=uR O k v;omega
  refine wpAny_setItem_heap (hsz:=hz) (ye hu) (Bj I.hok eb) dd λh' dd' hs=>h _ ?_;obtain⟨q,es,ep,hq,h2,h3,h4,_,h5⟩:=dd';refine Hw I (by rw[e];exact mO) hs ⟨q,hq⟩ ⟨hl,hd,_,(rel.put k eb rv).keeps λc ys ec=>?_,q,es,ep,hq,h2,h3,h4,h5⟩;rw[aU (W7 ec e λz=>nomatch z)];exact ec
end
def a3G(i:Expr):Prop:=∀ov iv,subscripted i false ov iv=operate [ov,iv] (getItem ov iv)
def XM{prog:Program}{A:Around}{E:Value->Shared->Prop}{env:Env}{value slice:Expr}{T id:String}
  (hl:typeLookup (.type T) "__getitem__" = pure (some (.builtin id))) (hs:a3G slice)
  (h:wpAny (model prog w) A (eval value env) (λo s₁=>wpAny (model prog w) A (eval slice env) (λi s₂=>s₂.TypeIs o T/\wpAny (model prog w) A (getItem o i) Q E s₂) E s₁) E s) :
  wpAny (model prog w) A (eval (.Subscript value slice pos) env) Q E s:=by
 refine Subscript_ (iH h (λo s₁ h₁=>iH h₁ (λi s₂ h₂=>?_) λ_ _ x=>x) λ_ _ x=>x);obtain⟨hT,h₂⟩:=h₂;unfold subscriptTail;refine M ?_;rw[getitemInPython_of_ne hT.not_modules];refine M (Az hT hl ?_);have fin:wpAny (model prog w) A (subscripted slice false o i) (λr s₃=>wpAny (model prog w) A (letTemporaryGo value o r >>= λ_=>pure r) Q E s₃) E s₂:=by
  rw[hs o i];exact wpAny_operating (iH h₂ (λr s₃ h₃=>M (wpAny_letTemporaryGo (aj h₃))) λ_ _ x=>x)
 first
  |exact aj (M fin)
  |exact M (aj (M fin))
  |exact M fin
def RJ{Y:List (Addr×Obj)}{σ:St}(I:bC X Y σ H s)(g:Jw H a y o):s.TypeIs (.ref a) "dict" := by
 rcases g with⟨O,k,e,_,_⟩|⟨O,k,b,e,_,_,_⟩
 ·obtain⟨_,_,vs,_,dd⟩:=XH I.hok e;exact dd.typeIs
 ·obtain⟨_,_,xs,_,dd⟩:=XJ I.hok e;exact dd.typeIs
def a5G(td ty:TE):TE:=λσ H Q=>td σ H λx H1=>ty σ H1 λy H2=>∃a v,x=.ref a/\Jw H2 a y (some v)/\Q v H2
section
variable{o i e value:Expr}{pos' tpos:Pos}{td ty tv:TE}
def Hx(hu:X.A.units+1<cLine)(ho:PE X o td)(hi:PE X i ty)(hs:a3G i):PE X (.Subscript o i pos) (a5G td ty):=by
 intro Y s σ H Q I h;refine XM PySem.F.slot_dict_getitem.lookup hs (jx (ho Y s σ H _ I h) λu s1 ⟨x,H1,I1,rx,q1⟩=>jx (hi Y s1 σ H1 _ I1 q1) λiv s2 ⟨y,H2,I2,ry,a,v,ex,g,q2⟩=>?_);subst ex;obtain rfl:u=Value.ref a:=rx;exact⟨RJ I2 g,Zw hu I2 g ry λw' s3 I3 Y7=>⟨v,H2,I3,Y7,q2⟩⟩
end
def RK(h:Heap)(hb:sysModules<h.objs.size):fW P w H (h.push { cls:=.type "dict",data:=.dict #[]}) h.objs.size (.dT []) :=
 ⟨dG _,wj.mpr (Ne.symm (bZ hb)),[],.nil,_,#[],0,bT _ Z,⟨Z,Z,Z⟩,Z,Z,Ba⟩
def a3H:TE:=λ_ H Q=>∀p,H p=none->Q (.ref p) (cM H p (.dT []))
def Jx:PE X (.Dict [] [] pos) a3H:=λY s σ H Q I h =>
 wpAny_Dict_empty ⟨.ref s⁻¹,_,I.laid (a:=s⁻¹) (o:=.dT []) (t':=s.toks) (λ_ _ q=>bx _ q) (aN _) (RK s.heap I.big),Z,h _ (I.hok.fresh (aN _))⟩
def V3:List (TE×TE)->St->Hp->(List (V×V)->Hp->Prop)->Prop
 | [],_,H,Q=>Q [] H
 |(tk,tv)::r,σ,H,Q=>tk σ H λx H1=>tv σ H1 λy H2=>V3 r σ H2 λps H3=>Q ((x,y)::ps) H3
abbrev VV:List (V×V)->List (Value×Value)->Prop:=Paired λp q=>cQ p.1 q.1/\cQ p.2 q.2
def PPs(X:Cx)(pos:Pos)(keys:List (Option Expr))(values:List Expr)(RL:List (TE×TE)):Prop :=
 ∀(Y:List (Addr×Obj)) (s:Shared) (σ:St) (H:Hp) (Q:List (V×V)->Hp->Prop),bC X Y σ H s->V3 RL σ H Q->
  wpAny (model X.prog X.w) X.A (evalPairs (pairTrees keys values X.env pos)) (λvs s'=>∃ps H',bC X Y σ H' s'/\VV ps vs/\Q ps H') X.xe s
def a0Q:PPs X pos [] [] []:=λY s σ H Q I h=>pairTrees_nil_walk ⟨[],H,I,.nil,h⟩
def Į{k v:Expr}{ks:List (Option Expr)}{vs:List Expr}{tk tv:TE}{RL:List (TE×TE)}(hk:PE X k tk)(hv:PE X v tv)(hr:PPs X pos ks vs RL) :
  PPs X pos (some k::ks) (v::vs) ((tk,tv)::RL):=λY s σ H Q I h =>
 pairTrees_cons_walk (jx (hk Y s σ H _ I h) λu s1 ⟨x,H1,I1,rx,q1⟩=>jx (hv Y s1 σ H1 _ I1 q1) λw2 s2 ⟨y,H2,I2,ry,q2⟩ =>
  jx (hr Y s2 σ H2 _ I2 q2) λws s3 ⟨ps,H3,I3,rel,q3⟩=>⟨(x,y)::ps,H3,I3,.cons ⟨rx,ry⟩ rel,q3⟩)
inductive a5H(x:V)(vs:List V)(H:Hp)(Q:VK):Prop
 |mk (l xs y:_) (_:x=.ref l) (_:vs=[]) (_:H l=some (.lst (xs++[y]))) (_:∀H',uP H l (.lst xs) H'->Q y H')
def Hy:Vu X "list.pop" a5H:=a3e.weak λx vs H Q ⟨l,xs,y,e1,e2,h,q⟩=>⟨l,xs++[y],y,e1,e2,h,(by simp),(by
 have:=q _ (uP.oM (H:=H) (l:=l) (o:=.lst xs));grind)⟩
def us1{us:List A}{P:List A->Prop}(h:us.length=1)(f:∀a,P [a]):P us:=by
 cases us with
 |nil=>cases h
 |cons a r =>
  cases r with
  |nil=>exact f a
  |cons=>cases h
def us2{us:List A}{P:List A->Prop}(h:us.length=2)(f:∀a b,P [a,b]):P us:=by
 cases us with
 |nil=>cases h
 |cons a r=>exact us1 (P:=λr=>P (a::r)) (Pa h) (f a)
def us3{us:List A}{P:List A->Prop}(h:us.length=3)(f:∀a b c,P [a,b,c]):P us:=by
 cases us with
 |nil=>cases h
 |cons a r=>exact us2 (P:=λr=>P (a::r)) (Pa h) (f a)
def us4{us:List A}{P:List A->Prop}(h:us.length=4)(f:∀a b c d,P [a,b,c,d]):P us:=by
 cases us with
 |nil=>cases h
 |cons a r=>exact us3 (P:=λr=>P (a::r)) (Pa h) (f a)
def us5{us:List A}{P:List A->Prop}(h:us.length=5)(f:∀a b c d e,P [a,b,c,d,e]):P us:=by
 cases us with
 |nil=>cases h
 |cons a r=>exact us4 (P:=λr=>P (a::r)) (Pa h) (f a)
def Jy{kV:Value}(X:K.In h)(G:h.Ns mainGlobals mg)
  (a:PySem.W.nsIn K mainGlobals x=some (some (.ref f))) (l:K.lookup f=some ⟨oc,od,.func (PySem.W.fnOf x x (dZ st) (dJ st) (aD st) .none kV doc pm an dD ct),osl⟩) (c:PySem.W.codeIn K dD x=true) (k:PySem.W.keepIn K (.ref f)=true)
  (hp:ps.length=1)
  (hb:∀(kV doc pm:Value) (an:Option Addr) (dD ct:Value) (u0:Value),bindArgs (PySem.W.fnOf x x (dZ st) (dJ st) (aD st) .none kV doc pm an dD ct) ⟨[u0],[]⟩=pure (ps.zip [u0])) :
  Nonempty (Dn K mg x st ps) :=
 Rm X G a l c k λkV doc pm an dD ct us hl=>us1 (P:=λus=>bindArgs (PySem.W.fnOf x x (dZ st) (dJ st) (aD st) .none kV doc pm an dD ct) ⟨us,[]⟩=pure (ps.zip us)) (hl.trans hp) λu0=>hb kV doc pm an dD ct u0
def uo{kV:Value}(X:K.In h)(G:h.Ns mainGlobals mg)
  (a:PySem.W.nsIn K mainGlobals x=some (some (.ref f))) (l:K.lookup f=some ⟨oc,od,.func (PySem.W.fnOf x x (dZ st) (dJ st) (aD st) .none kV doc pm an dD ct),osl⟩) (c:PySem.W.codeIn K dD x=true) (k:PySem.W.keepIn K (.ref f)=true)
  (hp:ps.length=2)
  (hb:∀(kV doc pm:Value) (an:Option Addr) (dD ct:Value) (u0 u1:Value),bindArgs (PySem.W.fnOf x x (dZ st) (dJ st) (aD st) .none kV doc pm an dD ct) ⟨[u0,u1],[]⟩=pure (ps.zip [u0,u1])) :
  Nonempty (Dn K mg x st ps) :=
 Rm X G a l c k λkV doc pm an dD ct us hl=>us2 (P:=λus=>bindArgs (PySem.W.fnOf x x (dZ st) (dJ st) (aD st) .none kV doc pm an dD ct) ⟨us,[]⟩=pure (ps.zip us)) (hl.trans hp) λu0 u1=>hb kV doc pm an dD ct u0 u1
def Qj{kV:Value}(X:K.In h)(G:h.Ns mainGlobals mg)
  (a:PySem.W.nsIn K mainGlobals x=some (some (.ref f))) (l:K.lookup f=some ⟨oc,od,.func (PySem.W.fnOf x x (dZ st) (dJ st) (aD st) .none kV doc pm an dD ct),osl⟩) (c:PySem.W.codeIn K dD x=true) (k:PySem.W.keepIn K (.ref f)=true)
  (hp:ps.length=3)
  (hb:∀(kV doc pm:Value) (an:Option Addr) (dD ct:Value) (u0 u1 u2:Value),bindArgs (PySem.W.fnOf x x (dZ st) (dJ st) (aD st) .none kV doc pm an dD ct) ⟨[u0,u1,u2],[]⟩=pure (ps.zip [u0,u1,u2])) :
  Nonempty (Dn K mg x st ps) :=
 Rm X G a l c k λkV doc pm an dD ct us hl=>us3 (P:=λus=>bindArgs (PySem.W.fnOf x x (dZ st) (dJ st) (aD st) .none kV doc pm an dD ct) ⟨us,[]⟩=pure (ps.zip us)) (hl.trans hp) λu0 u1 u2=>hb kV doc pm an dD ct u0 u1 u2
def wV{kV:Value}(X:K.In h)(G:h.Ns mainGlobals mg)
  (a:PySem.W.nsIn K mainGlobals x=some (some (.ref f))) (l:K.lookup f=some ⟨oc,od,.func (PySem.W.fnOf x x (dZ st) (dJ st) (aD st) .none kV doc pm an dD ct),osl⟩) (c:PySem.W.codeIn K dD x=true) (k:PySem.W.keepIn K (.ref f)=true)
  (hp:ps.length=4)
  (hb:∀(kV doc pm:Value) (an:Option Addr) (dD ct:Value) (u0 u1 u2 u3:Value),bindArgs (PySem.W.fnOf x x (dZ st) (dJ st) (aD st) .none kV doc pm an dD ct) ⟨[u0,u1,u2,u3],[]⟩=pure (ps.zip [u0,u1,u2,u3])) :
  Nonempty (Dn K mg x st ps) :=
 Rm X G a l c k λkV doc pm an dD ct us hl=>us4 (P:=λus=>bindArgs (PySem.W.fnOf x x (dZ st) (dJ st) (aD st) .none kV doc pm an dD ct) ⟨us,[]⟩=pure (ps.zip us)) (hl.trans hp) λu0 u1 u2 u3=>hb kV doc pm an dD ct u0 u1 u2 u3
def a3I{kV:Value}(X:K.In h)(G:h.Ns mainGlobals mg)
  (a:PySem.W.nsIn K mainGlobals x=some (some (.ref f))) (l:K.lookup f=some ⟨oc,od,.func (PySem.W.fnOf x x (dZ st) (dJ st) (aD st) .none kV doc pm an dD ct),osl⟩) (c:PySem.W.codeIn K dD x=true) (k:PySem.W.keepIn K (.ref f)=true)
  (hp:ps.length=5)
  (hb:∀(kV doc pm:Value) (an:Option Addr) (dD ct:Value) (u0 u1 u2 u3 u4:Value),bindArgs (PySem.W.fnOf x x (dZ st) (dJ st) (aD st) .none kV doc pm an dD ct) ⟨[u0,u1,u2,u3,u4],[]⟩=pure (ps.zip [u0,u1,u2,u3,u4])) :
  Nonempty (Dn K mg x st ps) :=
 Rm X G a l c k λkV doc pm an dD ct us hl=>us5 (P:=λus=>bindArgs (PySem.W.fnOf x x (dZ st) (dJ st) (aD st) .none kV doc pm an dD ct) ⟨us,[]⟩=pure (ps.zip us)) (hl.trans hp) λu0 u1 u2 u3 u4=>hb kV doc pm an dD ct u0 u1 u2 u3 u4
def Gh:List (Key×V):=[(.inr "leaf",.int 0),(.inr "in",.int 1),(.inr "tie",.int 1),(.inr "out",.int 1),(.inr "join",.int 2)]
set_option genInjectivity false in
structure Used(w:World)(K:aH)(mg:Str->Option Value) where
 d:Addr
 m:mg "USED" = some (.ref d)
 es:Array DictEntry
 ep:Nat
 l:K.lookup d=some ⟨.type "dict",none,.dict es ep,#[]⟩
 ks:∃t0 t1 t2 t3 t4 t5 t6 t7 t8 t9:Tok,es = #[⟨PyData.keyHash w.params "leaf",.str "leaf" t0,.int 0 t1⟩,⟨PyData.keyHash w.params "in",.str "in" t2,.int 1 t3⟩,⟨PyData.keyHash w.params "tie",.str "tie" t4,.int 1 t5⟩,⟨PyData.keyHash w.params "out",.str "out" t6,.int 1 t7⟩,⟨PyData.keyHash w.params "join",.str "join" t8,.int 2 t9⟩]
def a0R{d:Addr}{es:Array DictEntry}{ep:Nat}(X:K.In h)(G:h.Ns mainGlobals mg)
  (a:PySem.W.nsIn K mainGlobals "USED" = some (some (.ref d))) (l:K.lookup d=some ⟨.type "dict",none,.dict es ep,#[]⟩)
  (ks:∃t0 t1 t2 t3 t4 t5 t6 t7 t8 t9:Tok,es = #[⟨PyData.keyHash w.params "leaf",.str "leaf" t0,.int 0 t1⟩,⟨PyData.keyHash w.params "in",.str "in" t2,.int 1 t3⟩,⟨PyData.keyHash w.params "tie",.str "tie" t4,.int 1 t5⟩,⟨PyData.keyHash w.params "out",.str "out" t6,.int 1 t7⟩,⟨PyData.keyHash w.params "join",.str "join" t8,.int 2 t9⟩]):Nonempty (Used w K mg) :=
 ⟨⟨d,Ja X G a,es,ep,l,ks⟩⟩
def Used.dict(U:Used w K mg)(X:K.In h):∃vs,KV Gh vs/\h.DictOf (dN P w) U.d vs:=by
 obtain⟨t0,t1,t2,t3,t4,t5,t6,t7,t8,t9,e⟩:=U.ks;refine⟨[(.inr "leaf",.int 0 t1),(.inr "in",.int 1 t3),(.inr "tie",.int 1 t5),(.inr "out",.int 1 t7),(.inr "join",.int 2 t9)],?_,_,U.es,U.ep,X _ _ U.l,⟨Z,Z,Z⟩,Z,?_,?_,?_⟩
 ·exact .cons ⟨Z,t1,Z⟩ (.cons ⟨Z,t3,Z⟩ (.cons ⟨Z,t5,Z⟩ (.cons ⟨Z,t7,Z⟩ (.cons ⟨Z,t9,Z⟩ .nil))))
 ·rw[e];intro x hx;simp only[Array.mem_def,List.mem_cons,List.not_mem_nil,or_false]at hx;rcases hx with rfl|rfl|rfl|rfl|rfl
  ·exact⟨.inr "leaf",gH P w _ _,Z⟩
  ·exact⟨.inr "in",gH P w _ _,Z⟩
  ·exact⟨.inr "tie",gH P w _ _,Z⟩
  ·exact⟨.inr "out",gH P w _ _,Z⟩
  ·exact⟨.inr "join",gH P w _ _,Z⟩
 ·rw[e];exact .cons (gH P w _ _) Z (.cons (gH P w _ _) Z (.cons (gH P w _ _) Z (.cons (gH P w _ _) Z (.cons (gH P w _ _) Z .nil))))
 ·show([.inr "leaf",.inr "in",.inr "tie",.inr "out",.inr "join"]:List Key).Nodup;decide
def a5I(ty:TE):TE:=λσ H Q=>ty σ H λy H1=>∃k v,y=kV k/\iI Gh k=some v/\Q v H1
section
variable{i:Expr}{np:Pos}{ty:TE}
def a0S(U:Used X.w X.K X.mg)(hg:Gl X "USED")(hi:PE X i ty)(hs:a3G i):PE X (.Subscript (.Name "USED" np) i pos) (a5I ty):=by
 intro Y s σ H Q I h;refine XM PySem.F.slot_dict_getitem.lookup hs (Cg I hg U.m (jx (hi Y s σ H _ I h) λiv s2 ⟨y,H2,I2,ry,k,v,ey,hv,q2⟩=>?_));subst ey;obtain⟨vs,rel,dd⟩:=U.dict (P:=X.prog) I2.DY;obtain⟨w',hw,Y7⟩:=tB.some_of (v:=v) (o:=valueAt vs k) (by rw[<-hv];exact rel.val k);exact⟨dd.typeIs,wpAny_getItem_of (RG ry) dd.mapOf hw ⟨v,H2,I2.tok _,Y7,q2⟩⟩
end
end L2
namespace L2
open PyProof.Rows Bg
def V4(K:aH)(H:Hp)(v:V)(ns:List Int):Prop:=∃p,v=.ref p/\bI K H p (ns.map V.int)
end L2
namespace L2
open PyProof.Rows
structure Dm(K:aH)(C:Addr)(m qual:Str)(st:Stmt)(ps:List Str) where
 f:Addr
 fd:FuncData
 F:Fun K m qual st f fd
 b:Binds K fd ps []
 mt:Meth K C m f
def pN{K:aH}{C:Addr}{m qual:Str}{st:Stmt}{ps:List Str}{f:Addr}{oc:Value}{od an:Option Addr}{osl:Array (Option Value)}{kV doc pm dD ct:Value}
  (a:PySem.W.findIn K (.ref C) m=some (some (.ref f))) (i:PySem.W.isFn K (.ref f)=true)
  (l:K.lookup f=some ⟨oc,od,.func (PySem.W.fnOf m qual (dZ st) (dJ st) (aD st) .none kV doc pm an dD ct),osl⟩) (c:PySem.W.codeIn K dD qual=true) (k:PySem.W.keepIn K (.ref f)=true)
  (h:∀(kV doc pm:Value) (an:Option Addr) (dD ct:Value) (us:List Value),us.length=ps.length->bindArgs (PySem.W.fnOf m qual (dZ st) (dJ st) (aD st) .none kV doc pm an dD ct) ⟨us,[]⟩=pure (ps.zip us)):Dm K C m qual st ps :=
 { f:=f,fd:=_,F:=Vw (st:=st) l c k,b:=(Vw (st:=st) l c k).binds h,mt:=⟨a,i,k⟩}
end L2
namespace L2
open PyProof.Rows
structure a5J(K:aH)(C:Addr)(m:Str)(f:Addr):Prop where
 ga:PySem.W.specialIn K (.ref C) "__getattribute__" = some (some (.builtin "type.__getattribute__"))
 rd:∃mc,PySem.W.readsIn K C mc=true/\PySem.W.findCls K (.ref C) mc m=some (.val (.ref f))
 kp:PySem.W.keepIn K (.ref f)=true
section
variable{X:Cx}{CX:Q0}{k:Nat}{f C:Addr}{fd:FuncData}{ps:List Str}{sp:Sp}{Ea:List V}{ds:List Value}{E:XK}{x m:Str}{p pos apos:Pos}{e:Expr}{es:List Expr}{t:TA}
def Qk{pl:Sem Bool}(hg:Gl X x)(hm:X.mg x=some (.ref C))(c:a5J X.K C m f)(F:aZ X.prog X.w X.K X.mg X.base CX k f fd ps sp)(hr:rE k X.A)(hb:Binds X.K fd ps ds)(hd:cN Ea ds)(hx:wM CX X E)(ha:PA X (e::es) t)
  (hdb:(x==("__debug__" : Str))=false:=by decide) (hst:starEach (e::es) X.env=(false,eval e X.env)::starEach es X.env:=by rfl) (hpl:(backTo pos (starEach es X.env)).any (·.1)=false:=by rfl)
  (ht:eval (.Call (.Attribute (.Name x p) m apos) (e::es) [] pos) X.env=(do
   let ov <-eval (.Name x p) X.env
   standAt apos.atName
   let(f,first) <-holding [ov] (getMethod ov m pl)
   callWith pos f first (backTo pos (starEach (e::es) X.env)) (backToKw pos (keywordEach [] X.env))):=by rfl) :
  PE X (.Call (.Attribute (.Name x p) m apos) (e::es) [] pos) (ă sp Ea E t):=by
 intro Y s σ H Q I h;refine PySem.W.methodCall_KW (pl:=pl) (Cg I hg hm ?_ hdb) ht;obtain⟨mc,hrd,hf⟩:=c.rd;refine PySem.W.method_cls I.DY c.ga (PySem.W.cls_value I.DY hrd hf Z ?_);have I1:bC X Y σ H { s with toks:=s.toks+1}:=I.tok _;exact Oe (first:=[]) (h₀:=X.base) I.ok.mod.kin c.kp (jx (ha pos Y _ σ H _ I1 h) λus s2 ⟨vs,H2,I2,r,q2⟩=>⟨I2.DY,Vo F hr hb hd hx I2 r q2⟩) hst hpl
end
end L2
namespace Dy
open PyProof.Rows
variable{prog:Program}{w:World}{A:Around}
def Jz:entryFor table "dict.update.loop" = some Builtin.«dict.update.loop» := entryFor_of_tree (by kernel_rfl)
def wW:plainId "dict.update.loop" = true:=by decide
def Zy:typeLookup (.type "list") "keys" = pure none:=am_miss_of_fast (by kernel_rfl)
section
variable{E:Value->Shared->Prop}{s:Shared}
def Zz{a:Addr}{o:Obj}{xs:Array Value}{k:Nat}{Q:Option Value->Shared->Prop}(hx:s.heap.get? a=some o)(hc:o.cls=.type "list")(hdat:o.data=.seq xs k)(hd:o.dict=none)(hA:A.handled=none)
  (h:∀h' tk,(∀b o,s.heap.get? b=some o->h'.get? b=some o)->Q none { s with heap:=h',toks:=tk}):wpAny (model prog w) A (getAttr? (.ref a) "keys") Q E s:=by
 obtain⟨c,dct,dat,sl⟩:=o;simp only at hc hdat hd;subst hc hdat hd;obtain⟨hp,g,d,tk,os⟩:=s;have hT:∀tk',(⟨hp,g,d,tk',os⟩:Shared).TypeIs (.ref a) "list" := λ_=>⟨_,hx,Z⟩;have f1:=sub_AttributeError;have f3:=F.slot_list_getattribute.lookup;have f4:=F.slot_list_getattribute.bind (.ref a);have f5:=am_list_getattr_none;unfold getAttr? getAttrBy? getAttrBy;repeat (any_goals (first|assumption|exact hT _|((with_reducible show wpAny _ _ (call (Value.builtin "list.__getattribute__") _ _) _ _ _);refine Je F.slot_list_getattribute (hT _) am_entry_list_getattribute (F.args_list_getattribute_2 _ _) (meets_getattribute_miss_list a xs k sl "keys" _ Zy ()) ⟨hx,hA,λh' tk' e hx'=>?_⟩)|wp_step))
 obtain⟨t',u',he⟩:=hx'.there;show wpAny _ _ (getattributeRaised _ _ _ _ _ _ _) _ _ _;unfold getattributeRaised;repeat (any_goals (first|assumption|wp_step))
 exact h _ _ hx'.of.keeps
end
section
variable{R:Result->Shared->Prop}{I:Addr}{fp wr:List Addr}{G:Array GenState->Array GenState->Prop}{n:Nat}{P:Nat->Value->Prop}{St:Nat->Shared->Prop}{κ:Type} [DecidableEq κ] {knd:HeapKind prog w κ}
def V5{L:List (κ×Addr×Value)}(nd:(L.map (·.1)).Nodup){i:Nat}{x:κ×Addr×Value}(hx:L[i]?=some x):atKey (L.take i) x.1=none:=by
 unfold atKey;have:(L.take i).find? (λy=>decide (y.1=x.1))=none:=by
  rw[Ej];intro y hy;simp only[decide_eq_true_eq];intro e;obtain⟨j,hj⟩:=List.mem_iff_getElem?.mp hy;rw[List.getElem?_take]at hj;by_cases q:j<i
  ·rw[aB q]at hj;have:=idxH_unique (xs:=L) nd (i:=j) (j:=i) (k:=x.1) (p:=y.2) (q:=x.2) () (by rw[hx]);omega
  ·rw[aq q]at hj;exact nomatch hj
 rw[this];rfl
def fill(W:WalksS prog w A.in1 I fp wr G n P St)(d:Addr)(nf:d∉fp)(L:List (κ×Addr×Value))(hn:L.length=n)(nd:(L.map (·.1)).Nodup)(bs:Nat->Addr)(hv:∀i v,i<n->P i v->v=.ref (bs i))
  (Kp:Heap->Prop) (kpS:∀h h',Kp h->Heap.SameBut d h h'->Kp h') (kpM:∀s s':Shared,Kp s.heap->Moved wr G s s'->Kp s'.heap)
  (hT:∀h i x,Kp h->L[i]?=some x->knd.is h x.1 x.2.1/\IsTup h (bs i) #[.ref x.2.1,x.2.2]) (hu:knd.room A.in1) (hz:n<=sizeLine) :
  ∀(k i:Nat) (s:Shared) (j:Int) (t:Tok),n-i=k->i<=n->St i s->s.heap.DictOfH knd d (L.take i)->Kp s.heap->
   (∀s',Moved (d::wr) G s s'->s'.heap.DictOfH knd d L->Kp s'.heap->R (.ok (.ret .none)) s')->
   codeAny (model prog w) A (.builtin "dict.update.loop" ⟨[.ref d,.ref I,.int j t,.none],[]⟩) R s:=by
 have nw:d∉wr:=λh=>nf (W.sub _ h);have up:∀b∈wr,b∈d::wr:=λb hb=>bh _ hb;have a2o:∀(s s':Shared) (i:Nat),Moved wr G s s'->Kp s'.heap->s.heap.DictOfH knd d (L.take i)->s'.heap.DictOfH knd d (L.take i):=λs s' i hm kp z=>by
  obtain⟨o,es,ep,ho,hc,hd,he,his,hnn⟩:=z;exact⟨o,es,ep,hm.heap d o nw ho,hc,hd,he,λx hx=>by
   obtain⟨j,hj⟩:=List.mem_iff_getElem?.mp (nH hx);exact(hT _ j x kp hj).1,hnn⟩
 intro k
 induction k with
 |zero =>
  intro i s j t hk hi st hD kp hR;obtain rfl:i=n:=()
  refine mJ Jz ?_;rw[nF wW _];show wpAny _ A.in1 (pyNext (.ref I) >>= _) _ _ s;refine M (W.done s _ _ st λs' hm=>?_);have kp':=kpM _ _ kp hm;have hD':=a2o _ _ _ hm kp' hD;rw[<-hn,iV]at hD';show wpAny _ _ (Builtin.Dict.addKeywords d [] >>= _) _ _ _;exact M (aj (aj (hR s' (hm.mono up) hD' kp')))
 |succ k ih =>
  intro i s j t hk hi st hD kp hR;have li:i<n:=()
  obtain⟨x,hx⟩:∃x,L[i]?=some x:=⟨L[i]'(),bL _⟩;refine mJ Jz ?_;rw[nF wW _];show wpAny _ A.in1 (pyNext (.ref I) >>= _) _ _ s;refine M (W.item i s _ _ li st λv s' hP st' hm=>?_);obtain rfl:=hv i v li hP;have kp':=kpM _ _ kp hm;have hD':=a2o _ _ _ hm kp' hD;obtain⟨hk1,hk2⟩:=hT _ i x kp' hx;obtain⟨ob,hb,hcl,m,hdat⟩:=id hk2;have hTy:s'.TypeIs (.ref (bs i)) "tuple" :=⟨_,hb,hcl⟩;refine M (fB (M (wpAny_tryCatch ?_)));unfold Builtin.Dict.pairItems;refine M (uZ hTy ?_);have e1:((Value.type "tuple" == Value.type "list")||(Value.type "tuple" == Value.type "tuple"))=true:=()
  rw[aB e1];refine M (oW hb hdat (aj ?_));show wpAny _ _ (holding [Value.ref x.2.1,x.2.2] (dictSet d (.ref x.2.1) x.2.2)) _ _ _;refine fB (wpAny_dictSet_heap (hsz:=by rw[fZ];omega) hu hk1 hD' λh' hD2 sb=>?_);have hD3:h'.DictOfH knd d (L.take (i+1)):=by
   rw[storedH_new (V5 nd hx)]at hD2;rw[List.take_add_one,hx];exact hD2
  refine aj ⟨oX wW _,ih (i+1) _ _ _ () li (W.frame _ s' _ _ st' (Nat.le_add_right _ _) λc hc o e=>?_) hD3 (kpS _ _ kp' sb) λs2 hm2 h2 h3=>hR s2 (Moved.trans W.gtrans ((hm.mono up).then_heap (Nat.le_add_right _ _) λc o hc e=>?_) hm2) h2 h3⟩
  ·rw[sb.2 c (λq:c=d=>nf ())];exact e
  ·rw[sb.2 c (λq:c=d=>hc ())];exact e
end
section
variable{E:Value->Shared->Prop}{s:Shared}{κ:Type} [DecidableEq κ] {knd:HeapKind prog w κ}
def ZC(h:Heap):(h.push { cls:=.type "dict",data:=.dict #[]}).DictOfH knd h.objs.size [] :=
 ⟨_,#[],_,bT _ Z,⟨Z,Z,Z⟩,Z,Z,λx hx=>absurd hx (by simp),Ba⟩
def a0T{l:Addr}{o:Obj}{items:Array Value}{m:Nat}{L:List (κ×Addr×Value)}{bs:Nat->Addr}{Q:Value->Shared->Prop}(hh:A.handled=none)(hu:knd.room A.in1.in1)
  (hx:s.heap.get? l=some o) (hc:o.cls=.type "list") (hdat:o.data=.seq items m) (hd:o.dict=none) (hn:L.length=items.size) (nd:(L.map (·.1)).Nodup) (hz:items.size<=sizeLine)
  (hv:∀(i:Nat) (v:Value),items[i]?=some v->v=.ref (bs i))
  (hT:∀(h:Heap) (i:Nat) (x:κ×Addr×Value),(∀b ob,s.heap.get? b=some ob->h.get? b=some ob)->L[i]?=some x->knd.is h x.1 x.2.1/\IsTup h (bs i) #[.ref x.2.1,x.2.2])
  (h:∀(h':Heap) (tk:Nat),h'.DictOfH knd s⁻¹ L->(∀b ob,s.heap.get? b=some ob->h'.get? b=some ob)->Q (.ref s⁻¹) { s with heap:=h',toks:=tk}) :
  wpAny (model prog w) A (call (.type "dict") [.ref l]) Q E s:=by
 refine callType_codes (Q₁:=λobj s₁=>obj=.ref s⁻¹/\s₁={ s with heap:=s.heap.push { cls:=.type "dict",data:=.dict #[]}}) PySem.F.kt_called_dict (ë _) PySem.F.entry_dict_init (kt_code_dict_new _ ⟨rfl,rfl⟩) ?_;rintro obj s₁ ⟨rfl,rfl⟩;have hnew:(s.heap.push { cls:=.type "dict",data:=.dict #[]}).DictOfH knd s⁻¹ []:=ZC s.heap;have hTd:Shared.TypeIs { s with heap:=s.heap.push { cls:=.type "dict",data:=.dict #[]}} (.ref s⁻¹) "dict" :=⟨_,bT _ rfl,rfl⟩;have hx1:(s.heap.push { cls:=.type "dict",data:=.dict #[]}).get? l=some o:=bx _ hx;have hTl:Shared.TypeIs { s with heap:=s.heap.push { cls:=.type "dict",data:=.dict #[]}} (.ref l) "list" :=⟨_,hx1,hc⟩;refine⟨hTd,ò _ _,?_⟩;unfold Builtin.«dict.__init__»;refine M ?_;unfold Builtin.Dict.selfAndRest;refine M (Am hTd ?_);show wpAny _ _ (pure (s⁻¹,[Value.ref l])) _ _ _;refine aj ?_;show wpAny _ _ (Builtin.Dict.updateFrom "dict.__init__" s⁻¹ (.ref l) [] .none) _ _ _;unfold Builtin.Dict.updateFrom;refine M (uZ hTl ?_);rw[aB ()];refine M (Zz hx1 hc hdat hd (by simp[hh]) λh1 tk1 k1=>?_);simp only[Option.isNone_none,if_true];refine M (j8 ?_);have ll:l<s⁻¹:=aX hx;have g1:h1.get? s⁻¹=some { cls:=.type "dict",data:=.dict #[]}:=k1 _ _ (bT _ Z);have g2:h1.get? l=some o:=k1 _ _ hx1;have dl:s⁻¹<h1.objs.size:=aX g1;have hl1:h1.IsList l items:=⟨_,g2,hc,m,hdat⟩;refine M (wu (s:={ s with heap:=h1,toks:=tk1}) hl1 ?_);have hh3:A.in1.in1.handled=none:=by simp[hh]
 have ni:l≠h1.objs.size:=bZ (u5 ll dl);have nf:s⁻¹∉[h1.objs.size,l]:=by
  simp only[List.mem_cons,List.not_mem_nil,or_false,not_or];exact⟨bZ dl,gG ll⟩
 refine aj ⟨oX wW _,?_⟩;refine fill (knd:=knd) (n:=items.size) ((Walks.list hh3 _ l ni items).toS) s⁻¹ nf L hn nd bs (λi v _ hp=>hv i v hp)
  (λh2=>∀b ob,s.heap.get? b=some ob->h2.get? b=some ob) (λh2 h3 kp sb b ob e=>?_) (λs2 s3 kp hm b ob e=>?_) (λh2 i x kp e=>hT h2 i x kp e) hu hz items.size 0 _ _ _ () (dG _)
  ⟨⟨_,bT _ Z,Z,Z⟩,(hl1.push _)⟩ ?_ ?_ ?_
 ·rw[sb.2 b (bZ (aX e))];exact kp b ob e
 ·refine hm.heap b ob ?_ (kp b ob e);simp only[List.mem_cons,List.not_mem_nil,or_false];exact λq=>absurd q (bZ (u5 (aX e) dl))
 ·exact⟨_,#[],_,bx _ g1,⟨Z,Z,Z⟩,Z,by rw[List.take_zero];rfl,λx hx=>absurd hx (by simp),by rw[List.take_zero];exact Ba⟩
 ·exact λb ob e=>bx _ (k1 b ob (bx _ e))
 ·intro s' hm hD kp;obtain⟨h',g',d',tk',os'⟩:=s';have eg:g'=s.gens:=hm.gens;have ed:d'=s.drawn:=hm.drawn;have eo:os'=s.os:=hm.os;subst eg;subst ed;subst eo;exact⟨Z,h h' tk' hD kp⟩
end
end Dy
namespace L2
open PyProof.Rows
def a5K{c:Prop} [Decidable c] {a b:Prop} (hc:c) (h:a):if c then a else b:=by grind
def yD{c:Prop} [Decidable c] {a b:Prop} (hc:¬c) (h:b):if c then a else b:=by grind
def Fg{prog:Program}{w:World}{A:Around}{E:Value->Shared->Prop}{s:Shared}{l:Addr}{items:Array Value}{Q:List Value->Shared->Prop}(hd:A.handled=none)(hl:s.heap.IsList l items)
  (h:∀h',(∀b o,b≠s⁻¹->s.heap.get? b=some o->h'.get? b=some o)->Q items.toList { s with heap:=h'}):wpAny (model prog w) A (unpackItems (.ref l) items.size none) Q E s:=by
 have hl0:=hl;obtain⟨o,e,c,d⟩:=hl;unfold unpackItems notIterableAtAll;refine M (M (Az (T:="list") ⟨_,e,c⟩ F.slot_list_iter.lookup (jK (a5K Z (aj (jK (yD cY (M (fB (wu hl0 ?_))))))))));dsimp only;refine M (fB ?_);have hn:l≠s⁻¹:=λz=>by
  have hlt:=aX e;exact absurd z (bZ hlt)
 have e1:∀(h':Heap),(∀b o,b≠s⁻¹->s.heap.get? b=some o->h'.get? b=some o)->h'.IsList l items:=λh' k=>⟨o,k _ _ hn e,c,d⟩;refine PySem.W.kun_draw hn items.size 0 _ _ ⟨_,bT _ Z,Z,Z⟩ (e1 _ λb o _ z=>bx _ z) () λh' st sb=>?_;have k1:∀b o,b≠s⁻¹->s.heap.get? b=some o->h'.get? b=some o:=λb o hb z=>(sb.2 b hb).trans (bx _ z);have et:List.take items.size (List.drop 0 items.toList)=items.toList:=by rw[UL];exact Il (by simp)
 rw[et];exact jK (yD (by simp) (M (fB (wpAny_pyNext_list_end hd st (e1 _ k1) (by simp) λh2 eb=>jK (yD (by simp) (aj (h h2 λb o hb z=>eb b o hb (k1 b o hb z))))))))
section
variable{X:Cx}{pos:Pos}
inductive a2p(K:aH)(n:Nat)(t:ù)(v:V)(σ:St)(H:Hp)(Q:St->Hp->Prop):Prop
 |mk (a xs:_) (_:v=.ref a) (_:bI K H a xs) (_:xs.length=n) (_:t xs σ H Q)
def a0U{es:List Expr}{k:Nat}{t:ù}{n:Nat}(hc:X.calm=true)(h:PGs X es t)
  (hn:(assignEach es X.env).length=n:=by rfl) (hst:(assignEach es X.env).findIdx? (·.1)=none:=by rfl):PG X (.Tuple es k pos) (a2p X.K n t):=by
 intro Y s σ H v u Q I r hw;obtain⟨a,xs,e1,hq,hl,hw⟩:=hw;subst e1;cases r;obtain⟨bV,rv,p,hz⟩:=I.list hq;rw[assign_Tuple];refine M (O5 ?_);unfold unpack;refine M (fB ?_);have e2:(assignEach es X.env).length=bV.toArray.size:=by simp[hn,<-hl,rv.length]
 rw[hst,e2];refine Fg (I.ok.hd hc) p.isList λh' k=>?_;have hi:=I.Gv (aN s⁻¹) (I.hok.fresh (aN _));obtain⟨f0,f1,f2,f3,f4,f5⟩:=hi;have I1:bC X Y σ H { s with heap:=h'}:=I.turned (t':=s.toks) k f0 f1 f3 f4 f5;exact h Y _ σ H xs _ Q I1 (by simpa using rv) hw
def į{K:aH}{es:List Expr}{k:Nat}{t:ù}{n:Nat}(e:X.K=K)(hc:X.calm=true)(h:PGs X es t)
  (hn:(assignEach es X.env).length=n:=by rfl) (hst:(assignEach es X.env).findIdx? (·.1)=none:=by rfl):PG X (.Tuple es k pos) (a2p K n t):=by subst e;exact a0U hc h hn hst
end
end L2
namespace Dq
open PyProof.Rows
variable{I:Addr}{o:Obj}{es:Array DictEntry}{ep:Nat}
variable{prog:Program}{w:World}{A:Around}{E:Value->Shared->Prop}{s:Shared}
abbrev kO(d:Addr)(i n ep:Nat):Obj:={ cls:=.type "dict_keyiterator",data:=.fields #[.ref d,.int (i:Nat) 0,.int (n:Nat) 0,.int (ep:Nat) 0]}
def args_next(a:Value):argsOk "dict_keyiterator.__next__" ⟨[a],[]⟩:=by unfold argsOk;kernel_rfl
def XQ:∃l,mroOf (.type "dict_keyiterator")=pure l/\(["dict_reversekeyiterator","dict_reversevalueiterator","dict_reverseitemiterator"].any λt=>l.contains (Value.type t))=false/\(["dict_keyiterator","dict_reversekeyiterator"].any λt=>l.contains (Value.type t))=true:=⟨_,Z,(),()⟩
def İ{Q:Bool->Shared->Prop}(hT:s.TypeIs (.ref I) "dict_keyiterator")(h:Q false s):wpAny (model prog w) A (Builtin.Dict_items.isOneOf (.ref I) ["dict_reversekeyiterator","dict_reversevalueiterator","dict_reverseitemiterator"]) Q E s:=by
 obtain⟨l,e,n,_⟩:=XQ;unfold Builtin.Dict_items.isOneOf;refine M (uZ hT ?_);rw[e];refine M (aj (aj ?_));rw[n];exact h
def ZD{Q:Bool->Shared->Prop}(hT:s.TypeIs (.ref I) "dict_keyiterator")(h:Q true s):wpAny (model prog w) A (Builtin.Dict_items.isOneOf (.ref I) ["dict_keyiterator","dict_reversekeyiterator"]) Q E s:=by
 obtain⟨l,e,_,n⟩:=XQ;unfold Builtin.Dict_items.isOneOf;refine M (uZ hT ?_);rw[e];refine M (aj (aj ?_));rw[n];exact h
def item_at{d:Addr}{i:Nat}{e:DictEntry}{Q:Option Value->Shared->Prop}(ne:d≠I)(ho:s.heap.get? d=some o)(hd:o.data=.dict es ep)(hI:s.heap.get? I=some (kO d i es.size ep))(hx:es[i]?=some e)
  (h:∀h',h'.get? I=some (kO d (i+1) es.size ep)->Heap.SameBut I s.heap h'->Q (some e.key) { s with heap:=h'}):wpAny (model prog w) A (pyNext (.ref I)) Q E s:=by
 have hT:s.TypeIs (.ref I) "dict_keyiterator" :=⟨_,hI,Z⟩;unfold pyNext;refine M (uc (oO (name:=Str.ofString "__next__") hT Nv (gq Nv hT ç ?_ (args_next _))));unfold Builtin.«dict_keyiterator.__next__»;refine M (m:=Builtin.Dict_items.slot0 "__next__" _) (aj ?_);dsimp only;refine M (M (M (m:=typeNameOfWhole _) (Nt hT ?_)));rw[show(if Builtin.Dict_items.ownsTuple "dict_keyiterator" = true then 2 else 0)=0 from rfl];refine aj (M (Em hI Z ?_));show wpAny _ _ (if(Value.ref d==Value.none)=true then _ else _) _ _ _;refine jK (L2.yD (by simp) (M (m:=Builtin.Dict_items.addrOf _) (aj (M (nO ho hd (jK (L2.yD (by simp) (M (m:=Builtin.Dict_items.addrOf _) (aj (M (wB ho hd (jK (L2.yD (by simp) (aj ?_))))))))))))));dsimp only;have e1:(if(i:Int)<0 then none else es[(i:Int).toNat]?)=some e:=by
  rw[aq (),j5];exact hx
 rw[e1];dsimp only;refine M (M (m:=typeNameOfWhole _) (Nt hT ?_));rw[show(if Builtin.Dict_items.ownsTuple "dict_keyiterator" = true then 2 else 0)=0 from rfl];refine aj (M (İ hT (M (iU hI (by simp) λh1 hI1 Fb=>?_))));have hT1:Shared.TypeIs { s with heap:=h1} (.ref I) "dict_keyiterator" :=⟨_,hI1,rfl⟩;refine M (fB (M (ZD hT1 (jK (L2.a5K Z (aj (aj ⟨_,Z,aj (h h1 ?_ Fb)⟩)))))));rw[hI1];simp[rawInt]
def Jt{d:Addr}{Q:Option Value->Shared->Prop}(hh:A.handled=none)(ne:d≠I)(ho:s.heap.get? d=some o)(hd:o.data=.dict es ep)(hI:s.heap.get? I=some (kO d es.size es.size ep))
  (h:∀h',Heap.ExtBut I s.heap h'->Q none { s with heap:=h'}):wpAny (model prog w) A (pyNext (.ref I)) Q E s:=by
 have hT:s.TypeIs (.ref I) "dict_keyiterator" :=⟨_,hI,Z⟩;unfold pyNext;refine M (uc (oO (name:=Str.ofString "__next__") hT Nv (gq Nv hT ç ?_ (args_next _))));unfold Builtin.«dict_keyiterator.__next__»;refine M (m:=Builtin.Dict_items.slot0 "__next__" _) (aj ?_);dsimp only;refine M (M (M (m:=typeNameOfWhole _) (Nt hT ?_)));rw[show(if Builtin.Dict_items.ownsTuple "dict_keyiterator" = true then 2 else 0)=0 from rfl];refine aj (M (Em hI Z ?_));show wpAny _ _ (if(Value.ref d==Value.none)=true then _ else _) _ _ _;refine jK (L2.yD (by simp) (M (m:=Builtin.Dict_items.addrOf _) (aj (M (nO ho hd (jK (L2.yD (by simp) (M (m:=Builtin.Dict_items.addrOf _) (aj (M (wB ho hd (jK (L2.yD (by simp) (aj ?_))))))))))))));dsimp only;have e1:(if(es.size:Int)<0 then none else es[(es.size:Int).toNat]?)=none:=by
  rw[aq (),j5];simp
 rw[e1];dsimp only;refine M (M (m:=typeNameOfWhole _) (Nt hT ?_));rw[show(if Builtin.Dict_items.ownsTuple "dict_keyiterator" = true then 2 else 0)=0 from rfl];refine aj (M (iU hI (by simp) λh1 hI1 Fb=>M ?_));simp only[newExc,newTuple];refine M (j6 ?_ (by size_fits));refine M (m:=firstArgMember _ _) (Jc (a:=Value.none) (by first|rfl|(simp only[firstArgMember];rfl)) ?_);refine j6 ?_ (by size_fits);simp only[raiseNew];refine M (O7 ?_);rw[show A.in1.handled=none from hh];refine M (aj (Pg ?_));exact M (tW (U:="StopIteration") (T:="StopIteration") (b:=true) ⟨_,bT _ Z,Z⟩ IW (aj (h _ ((Fb.extBut.push _).push _))))
def Dc{d:Addr}{Q:Value->Shared->Prop}(hs:(d==sysModules)=false)(ho:s.heap.get? d=some o)(hx:o.ExactDict)(hd:o.data=.dict es ep)
  (h:Q (.ref s⁻¹) { s with heap:=s.heap.push (kO d 0 es.size ep)}):wpAny (model prog w) A (pyIter (.ref d)) Q E s:=by
 have hT:s.TypeIs (.ref d) "dict" :=⟨_,ho,hx.1⟩;refine Iw hT F.slot_dict_iter (gq F.slot_dict_iter hT F.entry_dict_iter ?_ (F.args_dict_iter_1 _));unfold Builtin.«dict.__iter__»;refine M ?_;unfold Builtin.Dict.dictSlotNone;refine M (Am hT (M (m:=slotArgs "__iter__" 0 _) (aj (aj (M (m:=Builtin.Dict.addrOf _) (aj (M ?_)))))));unfold Builtin.Dict.showsAll;refine jK (L2.yD () (aj (M (nO ho hd (M (wB ho hd (M ?_)))))));unfold newFields;exact j6 (aj ⟨_,Z,"dict_keyiterator",_,⟨_,bT _ Z,Z⟩,F.slot_dict_keyiterator_next.lookup,h⟩)
end Dq
namespace L2
open PyProof.Rows
section
variable{X:Cx}{Y:List (Addr×Obj)}{σ:St}{H:Hp}{s:Shared}{d:Addr}{O:List (Key×V)}
def bC.V6{o o':HO}(I:bC X Y σ H s)(e:H d=some o)(nt:∀xs,o≠.tup xs)(no:∀y,o≠.own y)(nb:∀ps,o≠.tbl ps)(nf:∀b u,X.H₀ d≠some (.jq b u))(q:fW X.prog X.w H s.heap d o'):bC X Y σ (cM H d o') s:=by
 have ne:∀b,H b=none->b≠d:=λb n z=>by rw[z,e]at n;cases n
 have nn:∀b,H b=none->cM H d o' b=none:=λb n=>by rw[aU (ne b n)];exact n
 have ho:∀b c,H b=some (.own c)->cM H d o' b=some (.own c):=λb c r=>by
  rw[aU]
  ·exact r
  ·intro z;rw[z,e]at r;exact no c (dO r)
 have ht:∀b xs,H b=some (.tup xs)->cM H d o' b=some (.tup xs):=λb xs r=>by
  rw[aU]
  ·exact r
  ·intro z;rw[z,e]at r;exact nt xs (dO r)
 refine⟨I.ok,I.os,I.bare,⟨I.base.keep,I.base.slot,λb ob q1 q2 q3=>nn b (I.base.free b ob q1 q2 q3),I.base.there,λb xs r=>ht b xs (I.base.tups b xs r),λb ob u r=>?_,λb ps r=>?_⟩,I.loc,I.cell,nn _ I.free,λx c r=>nn c (I.ud x c r),λp hp=>?_,λb u r=>?_,I.len⟩
 ·rw[aU]
  ·exact I.base.Jh b ob u r
  ·intro z;rw[z]at r;exact nf ob u r
 ·obtain⟨m,r1⟩:=I.base.Pk b ps r;refine⟨m,?_⟩;rw[aU]
  ·exact r1
  ·intro z;rw[z,e]at r1;exact nb _ (dO r1)
 ·obtain⟨p1,p2,p3⟩:=I.pin p hp;exact⟨p1,nn _ p2,p3⟩
 ·by_cases c:b=d
  ·subst c;rw[cV]at r;cases r;exact q.stay (λ_ _ _ z=>z) (λc r=>ho c b r) ht
  ·rw[aU c]at r;exact(I.hok b u r).stay (λ_ _ _ z=>z) (λc r=>ho c b r) ht
def bC.XR{o:HO}(I:bC X Y σ H s)(e:H d=some o)(nf:∀b u,o≠.jq b u):∀b u,X.H₀ d≠some (.jq b u):=λb u z=>by
 have:=I.base.Jh d b u z;grind
def bC.Ql{o:Obj}{u:HO}(I:bC X Y σ H s)(nf:∀b u,X.H₀ d≠some (.jq b u))(e:H d=some (.jq o u)):bC X Y σ (cM H d u) s:=by
 obtain⟨_,q⟩:=I.hok d _ e;exact I.V6 e (λ_ z=>by cases z) (λ_ z=>by cases z) (λ_ z=>by cases z) nf q
end
end L2
namespace L2
open PyProof.Rows Bg
def Itp(o:Obj)(d:Addr)(u:HO)(as:List Addr):It :=
 ⟨λi H=>H d=some (.jq o u)/\i<as.length,λi H x H'=>H'=H/\(as.map V.ref)[i]?=some x,λi H=>H d=some (.jq o u)/\i=as.length⟩
def V7{P:Program}{w:World}{K:aH}{tg:Expr}{o:Obj}{u:HO}(d it:Addr){as:List Addr}{es:Array DictEntry}{ep:Nat}(hd:o.data=.dict es ep)(ek:es.toList.map (·.key)=as.map Value.ref) :
  Turn P w K tg (Itp o d u as) [it] it (λi h=>h.get? it=some (Dq.kO d i es.size ep)) where
 mem:=by simp
 obj:=λi h st b hb=>by
  grind
 keep:=λi h h' st k=>k it (by simp) _ st
 item:=by
  intro X hP hw hK hc i Y s σ H E I hf st hg
  subst hP hw hK
  obtain⟨hq,hi⟩:=hg
  obtain⟨hd1,_⟩:=I.hok d _ hq
  obtain⟨f0,f1,f2,f3,f4,f5⟩:=hf it (by simp)
  have ne:d≠it:=λz=>by grind
  have lz:es.size=as.length:=by have:=congrArg List.length ek;grind
  have he:es[i]?=some (es[i]'()):=xW ()
  have a3J:(es[i]'()).key=Value.ref as[i]:=by
   have:=congrArg (λl=>l[i]?) ek
   grind
  refine Dq.item_at ne hd1 hd st he λh' hI sb=>?_
  have I1:bC X Y σ H { s with heap:=h'}:=I.turned (t':=s.toks) (λb o hb e=>(sb.2 b hb).trans e) f0 f1 f3 f4 f5
  exact⟨_,Z,Xa (s:={ s with heap:=h'}) hI rfl rfl () ⟨.ref as[i],H,I1,a3J,⟨rfl,()⟩,hI,λb hb=>(hf b hb).1⟩⟩
 done:=by
  intro X hP hw hK hc i Y s σ H E I hf st hg
  subst hP hw hK
  obtain⟨hq,hx⟩:=hg
  obtain⟨hd1,_⟩:=I.hok d _ hq
  obtain⟨f0,f1,f2,f3,f4,f5⟩:=hf it (by simp)
  have ne:d≠it:=λz=>by grind
  have lz:es.size=as.length:=by have:=congrArg List.length ek;grind
  rw[hx,<-lz]at st
  exact Dq.Jt (I.ok.hd hc) ne hd1 hd st λh' eb=>⟨Z,I.turned (t':=s.toks) (λb o hb e=>eb b o hb e) f0 f1 f3 f4 f5⟩
 self:=λ_ _ _ _ _ st h=>wpAny_pyIter_keyiter ⟨_,st,Z,Z⟩ h
end L2
namespace L2
open PyProof.Rows Bg
section
variable{X:Cx}
inductive a7j(x:V)(y:V)(H:Hp)(Q:VK):Prop
 |mk (b a:Addr) (k:List Key) (O:List (List Key×V)) (_:x=.ref b) (_:y=.ref a) (_:H b=some (.tup (k.map kV))) (_:H a=some (.dT O)) (_:Q (.bl (iI O k).isSome) H)
def ı(hu:X.A.units+1<cLine):sS X (compareOp .In) a7j:=by
 intro Y s σ H x y v u Q I rx ry h;obtain⟨b,a,t,ts,rfl,rfl,hb,e,q⟩:=h;obtain rfl:u=Value.ref a:=ry;exact a7i hu I (Jw.t e hb) rx λs3 I3=>⟨.bl _,H,I3,Z,q⟩
inductive a5L(o:V)(i:V)(v:V)(H:Hp)(Q:Hp->Prop):Prop
 |mk (a b:Addr) (k:List Key) (O:List (List Key×V)) (_:o=.ref a) (_:i=.ref b) (_:H b=some (.tup (k.map kV))) (_:H a=some (.dT O)) (_:O.length<=5000) (_:∀H',uP H a (.dT (putK O k v)) H'->Q H')
def Fi(hu:X.A.units+1<cLine):a0b X a5L:=by
 intro Y s σ H o i v ov iv u Q I ro ri rv h;obtain⟨a,b,t,ts,rfl,rfl,hb,e,z,q⟩:=h;obtain rfl:ov=Value.ref a:=ro;exact Zx hu I (a0P.t e hb (Nat.lt_of_le_of_lt z ())) ri rv λs' I'=>⟨_,I',q _ uP.oM⟩
def Ĵ{P:Program}{w:World}{H':Hp}{h':Heap}{a:Addr}{O:List (List Key×V)}{xs:List (List Key×Addr×Value)}(z:O.length<=sizeLine)(hd:(a==sysModules)=false)(rel:KT H' O xs)(dd:h'.DictOfH (tupleKind (dN P w)) a xs) :
  fW P w H' h' a (.dT O):=by
 obtain⟨o,es,ep,h1,h2,h3,h4,_,h5⟩:=dd;exact⟨z,hd,xs,rel,o,es,ep,h1,h2,h3,h4,h5⟩
end
section
variable{X:Cx}{tg:Expr}
def a3K(t:TE):TE:=λσ H Q=>t σ H λv H1=>∃d o O kvs',H d=some (.dT kvs')/\H1 d=some (.jq o (.dT O))/\Q v (cM H1 d (.dT O))
def ĵ{e:Expr}{t:TE}(h:PE X e t):PE X e (a3K t):=by
 intro Y s σ H Q I q;refine jx (h Y s σ H _ I q) λv s1 z=>?_;obtain⟨x,H1,I1,r1,d,o,ts,ts',e0,e1,q1⟩:=z;exact⟨x,_,I1.Ql (I.XR e0 λ_ _ z=>by cases z) e1,r1,q1⟩
def a0V(t:TS):TS:=λD σ H=>t { D with nx:=λσ1 H1=>∃d o O kvs',H d=some (.dT kvs')/\H1 d=some (.jq o (.dT O))/\D.nx σ1 (cM H1 d (.dT O))} σ H
def yE{st:Stmt}{t:TS}(h:PS X st t):PS X st (a0V t):=by
 intro Y s σ H D I q;refine jx (h Y s σ H _ I q) λf s1 z=>?_;cases f with
 |next =>
  obtain⟨σ1,H1,I1,d,o,O,kvs',e0,e1,q1⟩:=z;exact⟨σ1,_,I1.Ql (I.XR e0 λ_ _ z=>by cases z) e1,q1⟩
 |ret u=>exact z
 |brk=>exact z
 |cont=>exact z
inductive PrL(H:Hp)(v:V)(kv:List Key×V):Prop
 |mk (p kp:_) (_:v=.ref p) (_:H p=some (.tup [.ref kp,kv.2])) (_:H kp=some (.tup (kv.1.map kV)))
inductive a3L(K:aH)(xs:List V)(H:Hp)(Q:VK):Prop
 |mk (l:Addr) (vs:List V) (O:List (List Key×V)) (_:xs=[.ref l]) (_:H l=some (.lst vs)) (_:Paired (PrL H) vs O) (_:(O.map (·.1)).Nodup) (_:∀p H',gZ H p (.dT O) H'->Q (.ref p) H')
def a3M{P:Program}{w:World}{H:Hp}{h:Heap}(hok:zQ P w H h):∀{vs:List V}{O:List (List Key×V)}{bV:List Value},Paired (PrL H) vs O->cN vs bV->
  ∃(L:List (List Key×Addr×Value)) (bs:List Addr),bV=bs.map Value.ref/\KT H O L/\Paired (λ(b:Addr) (x:List Key×Addr×Value)=>IsTup h b #[.ref x.2.1,x.2.2]) bs L:=by
 intro vs O bV hp
 induction hp generalizing bV with
 |nil=>intro hv;cases hv;exact⟨[],[],Z,.nil,.nil⟩
 | @cons v kv vs O a t ih =>
  intro hv;cases hv with
  | @cons _ u _ us ru rus =>
   obtain⟨L,bs,e,kt,pt⟩:=ih rus;obtain⟨p,kp,rfl,hp,hk⟩:=a;obtain rfl:u=Value.ref p:=ru;obtain⟨_,its2,r2,tp⟩:=(show fW P w H h p (.tup [.ref kp,kv.2])from hok p _ hp);cases r2 with
   | @cons _ u1 _ us1 q1 q2 =>
    obtain rfl:u1=Value.ref kp:=q1;cases q2 with
    | @cons _ u2 _ us2 q3 q4 =>
     cases q4;exact⟨(kv.1,kp,u2)::L,p::bs,by rw[e];rfl,.cons ⟨Z,hk,q3⟩ kt,.cons tp pt⟩
def V8{K:aH}(ek:X.K=K)(cm:X.calm=true)(hu:X.A.units+2<cLine):jG X (.type "dict") (a3L K):=by
 subst ek;intro Y s σ H xs us Q I r h;obtain⟨l,vs,O,rfl,hL,pr,nd,q⟩:=h;obtain⟨u,rfl,rx⟩:=vals1 r;cases rx;obtain⟨z,bV,n,rv,ol⟩:=(show fW X.prog X.w H s.heap l (.lst vs)from I.hok l _ hL);obtain⟨L,bs,rfl,kt,pt⟩:=a3M I.hok pr rv;have ln:L.length=bs.length:=(aQ pt).symm;have lv:vs.length=bs.length:=by have:=rv.length;grind
 have lk:O.length=vs.length:=(aQ pr).symm;have ek:O.map (·.1)=L.map (·.1):=by
  clear nd pr pt ln lk q
  induction kt with
  |nil=>rfl
  |cons a b ih=>grind
 have hr:(tupleKind (dN X.prog X.w)).room X.A.in1.in1:=by
  show X.A.in1.in1.units<cLine;grind
 refine Dy.a0T (knd:=tupleKind (dN X.prog X.w)) (L:=L) (bs:=λi=>bs.getD i 0) (I.ok.hd cm) hr ol Z Z Z () () () (λi v hv=>?_) (λh i x kp hx=>?_) λh' tk dd kp=>?_
 ·grind
 ·constructor
  ·obtain⟨kv,hkv,a1,a2,a3⟩:=cU kt hx;obtain⟨o,bV,n,h1,h2,h3,h4⟩:=Bj I.hok a2;rw[<-a1];exact⟨o,bV,n,kp _ _ h1,h2,h3,h4⟩
  ·obtain⟨b,hb,o,h1,h2⟩:=cU pt hx;rw[fK,hb];exact⟨o,kp _ _ h1,h2⟩
 ·have hf:H s⁻¹=none:=I.hok.fresh (aN _);have hs:(s⁻¹==sysModules)=false:=wj.mpr (Ne.symm (bZ I.big));refine⟨.ref s⁻¹,_,I.laid (t':=tk) (o:=.dT O) (λb o e=>kp b o e) (aN _) (Ĵ () hs (kt.keeps λc ys ec=>?_) dd),Z,q _ _ (gZ.oM hf)⟩;rw[aU (dR ec hf)];exact ec
end
end L2
namespace L2
open PyProof.Rows
def zH{X:Cx}{Y:List (Addr×Obj)}{σ:St}{H:Hp}{s:Shared}(I:bC X Y σ H s){h2:Heap}(ch:List Addr)(fk:∀b∈ch,Gu X Y H b)
  (kp:∀b o,b∉ch->s.heap.get? b=some o->h2.get? b=some o):bC X Y σ H { s with heap:=h2}:=by
 refine I.step (t':=s.toks) (g':=s.gens) (d':=s.drawn) (H':=H) (ch:=ch) (λb hb=>?_) (λb o _ _ hc q _=>kp b o hc q) (λb o _ _ hc q _=>⟨o.slots,kp b o hc q⟩) (λ_ _ _ _ n=>n)
  (λb o hc q=>⟨o,kp b o hc q⟩) (λ_ _ q=>q) (λ_ _ _ q=>q) (λb ps q=>⟨#[],by rw[q];simp⟩) (λm hm=>?_) (λb o q=>?_) I.bare
 ·obtain⟨f0,f1,f2,f3,f4,f5⟩:=fk b hb;exact⟨f3,f1,f4,f5⟩
 ·obtain⟨o,es,ep,q,r⟩:=hm;exact⟨o,es,ep,kp _ o (λz=>(fk _ z).2.1 Z) q,r⟩
 ·have nb:∀c v,H c=some v->c∉ch:=λc v q z=>dR q (fk c z).1 rfl;refine(I.hok b o q).stay (λc v hcc r=>kp c v ?_ r) (λ_ q=>q) λ_ _ q=>q;grind
section
variable{X:Cx}{K:aH}
def boot_zip:bootBuiltins "zip" = some (.type "zip"):=by decide
end
end L2
namespace L2
open PySem.Calls PyProof.Rows
structure a3N(K:aH)(x qual:Str)(st:Stmt)(f:Addr)(fd:FuncData):Prop where
 ex:∃(oc:Value) (od:Option Addr) (dV kV doc pm:Value) (an:Option Addr) (dD ct:Value) (osl:Array (Option Value)),
  fd=PySem.W.fnOf x qual (dZ st) (dJ st) (aD st) dV kV doc pm an dD ct/\K.lookup f=some ⟨oc,od,.func fd,osl⟩/\PySem.W.codeIn K dD qual=true
 kp:PySem.W.keepIn K (.ref f)=true
section
variable{P:Program}{w:World}{K:aH}{mg:Str->Option Value}{base:Heap}{x qual:Str}{st:Stmt}{f:Addr}{fd:FuncData}{N ps:List Str}{k:Nat}{sp:Sp}
def a3N.ok(F:a3N K x qual st f fd)(S:bB N ps (aD st))(len:∀vs H Q E,sp vs H Q E->vs.length=ps.length)
  (hb:∀(dD:Value) (A:Around) (outer:List Env) (s:Shared) (H:Hp) (vs:List V) (Q:VK) (E:XK),rE k (A.deeper (envOfC qual (aD st) s⁻¹ f dD))->sp vs H Q E->
   ∃t,Ra (Vp fV P w K mg base N qual (aD st) f dD A outer s H E).nox (dJ st) t/\t { nx:=λ_ H'=>Q .non H',rt:=Q} (start N vs) H):aZ P w K mg base fV (k+1) f fd ps sp:=by
 obtain⟨_,_,_,_,_,_,_,dD,_,_,rfl,lk,hcd⟩:=F.ex;exact a2j lk hcd S len λA outer s H vs Q E hr hsp=>(hb dD A outer s H vs Q E hr hsp).imp λt h=>⟨h.1.nox,h.2⟩
end
structure DmD(K:aH)(C:Addr)(m qual:Str)(st:Stmt)(ps:List Str) where
 f:Addr
 fd:FuncData
 F:a3N K m qual st f fd
 b:Binds K fd ps []
 b1:Binds K fd ps [.none]
 mt:Meth K C m f
def V9{K:aH}{C:Addr}{m qual:Str}{st:Stmt}{ps:List Str}{f T:Addr}{oc oT:Value}{od an dT:Option Addr}{osl sT:Array (Option Value)}{kV doc pm dD ct:Value}{nT:Nat}
  (a:PySem.W.findIn K (.ref C) m=some (some (.ref f))) (i:PySem.W.isFn K (.ref f)=true)
  (l:K.lookup f=some ⟨oc,od,.func (PySem.W.fnOf m qual (dZ st) (dJ st) (aD st) (.ref T) kV doc pm an dD ct),osl⟩) (c:PySem.W.codeIn K dD qual=true) (k:PySem.W.keepIn K (.ref f)=true)
  (lT:K.lookup T=some ⟨oT,dT,.seq #[.none] nT,sT⟩)
  (h:∀(kV doc pm:Value) (an:Option Addr) (dD ct:Value) (us:List Value),us.length=ps.length->∃g,bindArgs (PySem.W.fnOf m qual (dZ st) (dJ st) (aD st) (.ref T) kV doc pm an dD ct) ⟨us,[]⟩=seqItems? (.ref T) >>= g/\g (some #[.none])=pure (ps.zip us))
  (h1:∀(kV doc pm:Value) (an:Option Addr) (dD ct:Value) (us:List Value),us.length+1=ps.length->∃g,bindArgs (PySem.W.fnOf m qual (dZ st) (dJ st) (aD st) (.ref T) kV doc pm an dD ct) ⟨us,[]⟩=seqItems? (.ref T) >>= g/\g (some #[.none])=pure (ps.zip (us++[.none]))):DmD K C m qual st ps :=
 {
  f:=f,fd:=_,F:=⟨⟨_,_,_,_,_,_,_,_,_,_,Z,l,c⟩,k⟩,
  b:=λs us X hl=>by
   rw[mH]at hl ⊢
   obtain⟨g,e1,e2⟩:=h kV doc pm an dD ct us hl
   exact BindsTo.of_defaults Z (X _ _ lT) Z e1 e2,
  b1:=λs us X hl=>by
   obtain⟨g,e1,e2⟩:=h1 kV doc pm an dD ct us (by rw[cC]at hl;exact hl)
   exact BindsTo.of_defaults Z (X _ _ lT) Z e1 e2,
  mt:=⟨a,i,k⟩}
def ZF:cN [V.non] [Value.none]:=.cons (show cQ V.non Value.none from Z) .nil
end L2
namespace Dy
open PyProof.Rows
section
variable{prog:Program}{w:World}{A:Around}{E:Value->Shared->Prop}{s:Shared}{κ:Type} [DecidableEq κ] {knd:HeapKind prog w κ}
def RM{d a:Addr}{xs:List (κ×Addr×Value)}{k:κ}{v:Value}{Q:Value->Shared->Prop}(hu:knd.room A)(hkey:knd.is s.heap k a)(hm:s.heap.DictOfH knd d xs)(hz:xs.length<=sizeLine)
  (old:∀p tk,atKey xs k=some p->Q p.2 { s with toks:=tk}) (new:∀h' tk,atKey xs k=none->h'.DictOfH knd d (xs++[(k,a,v)])->Heap.SameBut d s.heap h'->Q v { s with heap:=h',toks:=tk}) :
  wpAny (model prog w) A (dictSetDefault d (.ref a) v) Q E s:=by
 obtain⟨o,es,ep,ho,hc,hd,he,his,hn⟩:=hm;have hes:es.size<=sizeLine:=by have e:=O3 he;omega
 unfold dictSetDefault;try with_reducible refine fB ?_
 refine M (knd.pyHash hu hkey ?_);refine M (wpAny_dictFind_heap (s:={ s with toks:=s.toks+knd.draws k}) hu hkey ho hd he his hn ?_ ?_)
 ·intro hno;have none_:=atKey_none_of_get hno;have hnot:k∉xs.map (·.1):=not_mem_keys_of_get hno;refine M (j8 (M (wpAny_updateDictKeys (hz:=hes) (s:={ s with toks:=s.toks+knd.draws k}) ho hd (aj (new _ _ none_ ⟨_,_,ep+1,xX _ ho (Obj.isFreed_of_dict (Ob hd _)),hc.mapDictKeys _,Ob hd _,?_,?_,?_⟩ (nJ ..))))))
  ·simp[he,entryOfKey]
  ·intro x hx;rcases cL.mp hx with hx|hx
   ·exact knd.keeps (his x hx) ho hd (nJ ..)
   ·rw[bM.mp hx];exact knd.keeps hkey ho hd (nJ ..)
  ·rw[eO];exact wz.mpr ⟨hn,Aj _ _,λx hx y hy e=>hnot (by rw[<-show y=k from bM.mp hy,<-e];exact hx)⟩
 ·intro j q hj;have hej:es[j]?=some (entryOfKey knd (k,q)):=by rw[entry_at he j,hj];rfl
  refine M (nO (s:={ s with toks:=s.toks+knd.draws k}) ho hd ?_);rw[hej];exact M (j8 (aj (old q _ (atKey_of_get hn hj))))
def Fj{d a:Addr}{k:κ}{v:Value}(hs:(d==sysModules)=false):MeetsIn prog w (Builtin.«dict.setdefault» ⟨[.ref d,.ref a,v],[]⟩) (λA R s=>knd.room A.in1/\∃xs,knd.is s.heap k a/\s.heap.DictOfH knd d xs/\xs.length<=sizeLine/\
   (∀p tk,atKey xs k=some p->R (.ok (.ret p.2)) { s with toks:=tk})/\∀h' tk,atKey xs k=none->h'.DictOfH knd d (xs++[(k,a,v)])->Heap.SameBut d s.heap h'->R (.ok (.ret v)) { s with heap:=h',toks:=tk}) :=
 .of_wp λA R s h=>by
  obtain⟨hu,xs,hkey,hm,hz,old,new⟩:=h;obtain⟨o,es,ep,ho,hc,hd,he,his,hn⟩:=id hm;have hT:s.TypeIs (.ref d) "dict" :=⟨_,ho,hc.1⟩;unfold Builtin.«dict.setdefault»;refine M ?_;unfold Builtin.Dict.keyAndDefault;refine M (Am hT ?_);show wpAny _ _ (pure (d,Value.ref a,some v)) _ _ s;refine aj ?_;dsimp only;rw[hs];simp only[Bool.false_eq_true,if_false];exact M (RM hu hkey hm hz (λp tk e=>aj ⟨_,Z,old p tk e⟩) λh' tk e hD sb=>aj ⟨_,Z,new h' tk e hD sb⟩)
end
end Dy
namespace L2
open PyProof.Rows Bg
section
variable{X:Cx}
inductive a5M(x:V)(vs:List V)(H:Hp)(Q:VK):Prop
 |mk (a b:Addr) (k:List Key) (O:List (List Key×V)) (v:V) (_:x=.ref a) (_:vs=[.ref b,v]) (_:H b=some (.tup (k.map kV))) (_:H a=some (.dT O)) (_:Q ((iI O k).getD v) H)
def a0W(hu:X.A.units+1<cLine):Vu X "dict.get" a5M:=by
 intro Y s σ H x xs v us Q I rx rs h;obtain⟨a,b,k,O,y,rfl,rfl,hb,e,q⟩:=h;obtain rfl:v=Value.ref a:=rx;obtain⟨u,u2,rfl,ru,υ⟩:=vals2 rs;obtain rfl:u=Value.ref b:=ru;obtain⟨z,hd,xs,rel,dd⟩:=yC I.hok e;exact Pb N8 dd.typeIs PySem.F.entry_dict_get (PySem.F.args_dict_get_3 _ _ _) (meetsH_dict_get_default (tupleKind (dN X.prog X.w)) a b hd u2) ⟨ye hu,k,xs,Bj I.hok hb,dd,⟨_,H,I.tok _,(rel.val k).getD υ,q⟩⟩
end
end L2
namespace Dk
open PyProof.Rows
variable{b:Bool}
def a5N(b:Bool)(v:Value):Bool:=match v with
 |.bool c=>c==b
 |_=>false
def qM{v:Value}(h:a5N b v=true):v=.bool b:=by
 cases v with
 |bool c=>exact congrArg Value.bool (eq_of_beq h)
 |_=>cases h
section
variable{prog:Program}{w:World}{A:Around}{E:Value->Shared->Prop}{s:Shared}
def ZG{Q : Int → Shared → Prop}(h : Q (if b then 1 else 0) { s with toks := s.toks + 1 }) : wpAny (model prog w) A (pyHash (.bool b)) Q E s := by
  unfold pyHash;have hv : [Value.bool b].any Value.onHeap = false := rfl;refine M ?_;rw [cRoomFor, aq ()]; refine aj ?_;refine M (Az (El s b) F.slot_bool_hash.lookup ?_);show wpAny _ _ (if (some (Value.builtin "int.__hash__") == some Value.none) = true then _ else _) Q E s;rw [aq ()];refine M (Az (El s b) F.slot_bool_hash.lookup ?_);show wpAny _ _ (callSpecialIfBoundUnlessNone? (.bool b) "__hash__" _ >>= _) Q E s;cases b
  · refine M (á (El s false) Ow
      (gq Ow (El s false) entry_int_hash
        (show wpAny _ _ (do ret (← mkInt 0)) _ _ s from wpAny_ret_mkInt ?_) (args_int_hash _)))
    exact aj h
  · refine M (á (El s true) Ow
      (gq Ow (El s true) entry_int_hash
        (show wpAny _ _ (do ret (← mkInt 1)) _ _ s from wpAny_ret_mkInt ?_) (args_int_hash _)))
    exact aj h
def Ķ{a:Bool}{Q:Bool->Shared->Prop}(h:Q (decide (a=b)) s):wpAny (model prog w) A (eqBool (.bool a) (.bool b)) Q E s:=by
 unfold eqBool;show wpAny _ _ (if(Value.bool a==Value.bool b)=true then _ else _) Q E s;by_cases hab:(Value.bool a==Value.bool b)=true
 ·rw[aB hab];have e:a=b:=()
  subst e;exact M (j8 (aj (by simpa using h)))
 ·rw[aq hab];refine M (eq_bool (Ar ?_));grind
end
def JB(prog:Program)(w:World):KeyKind prog w Bool where
 is:=a5N
 hash:=λb=>if b then 1 else 0
 inj:=λv a b h h'=>by
  have e:=qM h
  have e':=qM h'
  rw[e]at e'
  injection e'
 byValue:=λk v h=>by rw[qM h];rfl
 pyHash:=λhv h=>by rw[qM hv];exact ZG h
 eqBool:=λhu hv h=>by rw[qM hu,qM hv];exact Ķ h
 «strs» := λk x t v h=>by cases h
end Dk
namespace L2
open PyProof.Rows Bg
section
variable{P:Program}{w:World}{κ:Type} [DecidableEq κ]
inductive ZJ(knd:KeyKind P w κ)(H:Hp)(b:Addr)(k:List κ):Prop
 |mk (vs:_) (_:H b=some (.tup vs)) (_:Paired (λv x=>∀u,cQ v u->knd.is x u=true) vs k)
def ZJ.same{knd:KeyKind P w κ}{H H':Hp}{b:Addr}{k:List κ}(e:∀c ys,H c=some (.tup ys)->H' c=some (.tup ys))(h:ZJ knd H b k):ZJ knd H' b k:=by
 obtain⟨vs,h1,h2⟩:=h;exact⟨vs,e _ _ h1,h2⟩
def a3O{knd:KeyKind P w κ}{vs:List V}{k:List κ}{us:List Value}(p:Paired (λv x=>∀u,cQ v u->knd.is x u=true) vs k)(q:cN vs us):ItemsAre knd k us:=by
 induction p generalizing us with
 |nil=>cases q;exact .nil
 |cons h _ ih =>
  cases q with
  |cons r s=>exact .cons (h _ r) (ih s)
def Qm{knd:KeyKind P w κ}{H:Hp}{h:Heap}{b:Addr}{k:List κ}(ok:zQ P w H h)(e:ZJ knd H b k):(tupleKind knd).is h k b:=by
 obtain⟨vs,e1,e2⟩:=e;obtain⟨_,bV,r,o,h1,h2,n,h3⟩:=(show fW P w H h b (.tup vs)from ok b _ e1);exact⟨o,bV.toArray,n,h1,h2,h3,by simpa using a3O e2 r⟩
def ķ(knd:KeyKind P w κ)(a:Addr)(xs:List (List κ×Addr×Value)):Heap->Prop:=λh=>(a==sysModules)=false/\∃o es ep,h.get? a=some o/\o.ExactDict/\o.data=.dict es ep/\es.toList=xs.map (entryOfKey (tupleKind knd))/\(xs.map (·.1)).Nodup
def DX(knd:KeyKind P w κ)(H:Hp)(a:Addr)(O:List (List κ×V)):Prop:=O.length<=5000/\((O=[]/\H a=some (.dT []))\/∃xs:List (List κ×Addr×Value),H a=some (.ext (ķ knd a xs))/\Paired (λp q=>p.1=q.1/\ZJ knd H q.2.1 p.1/\cQ p.2 q.2.2) O xs)
def DX.same{knd:KeyKind P w κ}{H H':Hp}{a:Addr}{O:List (List κ×V)}(e:aJ H H')(h:DX knd H a O):DX knd H' a O:=by
 obtain⟨z,h|⟨xs,h1,h2⟩⟩:=h
 ·exact⟨z,.inl ⟨h.1,e _ _ h.2⟩⟩
 ·exact⟨z,.inr ⟨xs,e _ _ h1,Paired.cB h2 λ_ _ ⟨a,b,c⟩=>⟨a,b.same λ_ _ q=>e _ _ q,c⟩⟩⟩
def DX.a2F{knd:KeyKind P w κ}{H:Hp}{a:Addr}{O:List (List κ×V)}(h:DX knd H a O){ys:List V}:H a≠some (.tup ys):=λe=>by
 obtain⟨z,h|⟨xs,h1,h2⟩⟩:=h
 ·grind
 grind
def DX.new{knd:KeyKind P w κ}{H:Hp}{a:Addr}(h:H a=some (.dT [])):DX knd H a []:=⟨dG _,.inl ⟨Z,h⟩⟩
def Ĺ{knd:KeyKind P w κ}{H:Hp}{h:Heap}{a:Addr}{O:List (List κ×V)}(ok:zQ P w H h)(d:DX knd H a O):(a==sysModules)=false/\∃xs,Paired (λp q=>p.1=q.1/\ZJ knd H q.2.1 p.1/\cQ p.2 q.2.2) O xs/\h.DictOfH (tupleKind knd) a xs:=by
 obtain⟨z,⟨rfl,h1⟩|⟨xs,h1,h2⟩⟩:=d
 ·obtain⟨_,hs,xs,r,o,es,ep,e1,e2,e3,e4,e5⟩:=(show fW P w H h a (.dT [])from ok a _ h1);cases r;exact⟨hs,[],.nil,o,es,ep,e1,e2,e3,e4,(λx hx=>absurd hx fu),Ba⟩
 ·obtain⟨⟨hs,o,es,ep,e1,e2,e3,e4,e5⟩,_⟩:=(show fW P w H h a (.ext (ķ knd a xs))from ok a _ h1);refine⟨hs,xs,h2,o,es,ep,e1,e2,e3,e4,?_,e5⟩;have all:∀{l:List (List κ×V)}{m:List (List κ×Addr×Value)},Paired (λp q=>p.1=q.1/\ZJ knd H q.2.1 p.1/\cQ p.2 q.2.2) l m->∀x∈m,(tupleKind knd).is h x.1 x.2.1:=by
   intro l m q
   induction q with
   |nil=>grind
   |cons z _ ih =>
    intro x hx;rcases bU.mp hx with rfl|hx
    ·rw[<-z.1];exact Qm ok z.2.1
    ·exact ih x hx
  exact all h2
def a0X{knd:KeyKind P w κ}{H':Hp}{h':Heap}{a:Addr}{xs:List (List κ×Addr×Value)}(hs:(a==sysModules)=false)(dd:h'.DictOfH (tupleKind knd) a xs):fW P w H' h' a (.ext (ķ knd a xs)):=by
 obtain⟨o,es,ep,h1,h2,h3,h4,_,h5⟩:=dd;refine⟨⟨hs,o,es,ep,h1,h2,h3,h4,h5⟩,⟨o,h1⟩,λg1 g2 q k=>?_⟩;obtain⟨hs,o,es,ep,h1,h2,h3,h4,h5⟩:=q;exact⟨hs,o,es,ep,k _ h1,h2,h3,h4,h5⟩
def a5O{knd:KeyKind P w κ}{H:Hp}(k:List κ){O:List (List κ×V)}{xs:List (List κ×Addr×Value)}(h:Paired (λp q=>p.1=q.1/\ZJ knd H q.2.1 p.1/\cQ p.2 q.2.2) O xs):tB (iI O k) ((atKey xs k).map (·.2)):=by
 induction h with
 |nil=>exact mO
 | @cons p q O xs h t ih =>
  obtain⟨k1,v1⟩:=p;obtain⟨k2,a2,u2⟩:=q;obtain⟨e,_,r⟩:=h;have e:k1=k2:=e;subst e;unfold iI atKey at ih ⊢;by_cases c:k1=k
  ·rw[uX (),uX ()];exact r
  grind
end
section
variable{X:Cx}{κ:Type} [DecidableEq κ]
inductive ĺ{P:Program}{w:World}(knd:KeyKind P w κ)(x:V)(vs:List V)(H:Hp)(Q:VK):Prop
 |mk (a b:Addr) (k:List κ) (O:List (List κ×V)) (v:V) (_:x=.ref a) (_:vs=[.ref b,v]) (_:ZJ knd H b k) (_:DX knd H a O) (_:O.length<=4000) (_:(∀y,iI O k=some y->Q y H)) (_:(iI O k=none->∀H',(∀c,c≠a->H' c=H c)->DX knd H' a (O++[(k,v)])->Q v H'))
def JC(knd:KeyKind X.prog X.w κ)(hu:X.A.units+1<cLine):Vu X "dict.setdefault" (ĺ knd):=by
 intro Y s σ H x xs v us Q I rx rs h;obtain⟨a,b,k,O,y,rfl,rfl,hb,e,l5,old,new⟩:=h;obtain rfl:v=Value.ref a:=rx;obtain⟨u,u2,rfl,ru,υ⟩:=vals2 rs;obtain rfl:u=Value.ref b:=ru;obtain⟨hd,xs,rel,dd⟩:=Ĺ I.hok e;have lx:xs.length=O.length:=(aQ rel).symm;have rv:=a5O k rel;have hr:(tupleKind knd).room X.A.in1:=ye hu;refine Pb PySem.F.slot_dict_setdefault dd.typeIs PySem.F.entry_dict_setdefault (PySem.F.args_dict_setdefault_3 _ _ _) (Dy.Fj (knd:=tupleKind knd) (k:=k) hd) ⟨hr,xs,Qm I.hok hb,dd,by rw[jg];omega,λp tk ep=>?_,λh' tk en dd' hs=>?_⟩
 ·have ev:(atKey xs k).map (·.2)=some p.2:=by rw[ep];rfl
  cases c:iI O k with
  |none =>
   rw[c]at rv;have:=tB.none_of rv;grind
  |some y0 =>
   rw[c]at rv;obtain⟨w',hw,Y7⟩:=tB.some_of rv;rw[ev]at hw;cases hw;exact⟨y0,H,I.tok tk,Y7,old y0 c⟩
 ·have he:∃q,h'.get? a=some q:=by
   obtain⟨q,_,_,hq,_⟩:=dd';exact⟨q,hq⟩
  have cn:iI O k=none:=by
   cases c:iI O k with
   |none=>rfl
   |some y0 =>
    rw[c]at rv;obtain⟨w',hw,_⟩:=tB.some_of rv;grind
  have mu:Mut (H a):=by
   obtain⟨_,h|⟨xs,h1,_⟩⟩:=e
   ·rw[h.2];exact mO
   ·rw[h1];exact mO
  have nt:=λys=>e.a2F (ys:=ys);have keep:∀c ys,H c=some (.tup ys)->cM H a (.ext (ķ knd a (xs++[(k,b,u2)]))) c=some (.tup ys):=λc ys hc=>by
   rw[aU (λz=>nt ys ())];exact hc
  refine⟨y,_,Hw I mu hs he (a0X hd dd'),υ,new cn _ (λc hc=>aU hc) ⟨(),.inr ⟨_,cV,?_⟩⟩⟩;have go:∀{ks:List (List κ×V)}{ys:List (List κ×Addr×Value)},Paired (λp q=>p.1=q.1/\ZJ knd H q.2.1 p.1/\cQ p.2 q.2.2) ks ys->Paired (λp q=>p.1=q.1/\ZJ knd (cM H a (.ext (ķ knd a (xs++[(k,b,u2)])))) q.2.1 p.1/\cQ p.2 q.2.2) (ks++[(k,y)]) (ys++[(k,b,u2)]):=λ{ks ys} r=>by
   induction r with
   |nil=>exact .cons ⟨Z,hb.same keep,υ⟩ .nil
   |cons a _ ih=>exact .cons ⟨a.1,a.2.1.same keep,a.2.2⟩ ih
  exact go rel
inductive a5P{P:Program}{w:World}(knd:KeyKind P w κ)(x:V)(vs:List V)(H:Hp)(Q:VK):Prop
 |mk (a b:Addr) (k:List κ) (O:List (List κ×V)) (v:V) (_:x=.ref a) (_:vs=[.ref b,v]) (_:ZJ knd H b k) (_:DX knd H a O) (_:Q ((iI O k).getD v) H)
def a0Y(knd:KeyKind X.prog X.w κ)(hu:X.A.units+1<cLine):Vu X "dict.get" (a5P knd):=by
 intro Y s σ H x xs v us Q I rx rs h;obtain⟨a,b,k,O,y,rfl,rfl,hb,e,q⟩:=h;obtain rfl:v=Value.ref a:=rx;obtain⟨u,u2,rfl,ru,υ⟩:=vals2 rs;obtain rfl:u=Value.ref b:=ru;obtain⟨hd,xs,rel,dd⟩:=Ĺ I.hok e;exact Pb N8 dd.typeIs PySem.F.entry_dict_get (PySem.F.args_dict_get_3 _ _ _) (meetsH_dict_get_default (tupleKind knd) a b hd u2) ⟨ye hu,k,xs,Qm I.hok hb,dd,⟨_,H,I.tok _,(a5O k rel).getD υ,q⟩⟩
def tBX{P:Program}{w:World}(knd:KeyKind P w κ)(r:V->List V->Hp->VK->Prop)(to:TE)(t:TA):TE:=λσ H Q=>to σ H λx H1=>(∃a O,x=.ref a/\DX knd H1 a O)/\t σ H1 λxs H2=>r x xs H2 Q
def Ļ{o e:Expr}{es:List Expr}{to:TE}{t:TA}{name:Str}{apos cpos:Pos}{id:String}{r:V->List V->Hp->VK->Prop}(knd:KeyKind X.prog X.w κ)(pa:PlainAttrs "dict")(slot:Slot "dict" name id)(hty:typeOf (.builtin id)=pure (.type "method_descriptor"))(hm:Vu X id r)(ho:PE X o to)(ha:PA X (e::es) t)
  (hbase:attributeBase o name X.env (eval o X.env)=eval o X.env:=by rfl)
  (hfew:((backTo cpos (starEach (e::es) X.env)).all (λx=>!x.1)&&(backToKw cpos (keywordEach [] X.env)).all (λx=>x.1.isSome)
   && decide ((e::es).length+([]:List Keyword).length+(if([]:List Keyword).isEmpty then 0 else 1)<30))=true:=by rfl)
  (hline:(apos.endLine==cpos.line)=true:=by rfl) (hs:starEach (e::es) X.env=(false,eval e X.env)::starEach es X.env:=by rfl) (hplain:(backTo cpos (starEach es X.env)).any (·.1)=false:=by rfl) :
  PE X (.Call (.Attribute o name apos) (e::es) [] cpos) (tBX knd r to t):=by
 intro Y s σ H Q I h;refine wpAny_Call_method_late hbase hfew hline Z (jx (ho Y s σ H _ I h) λv s1 ⟨x,H1,I1,r1,⟨a,O,ex,dx⟩,q1⟩=>?_);subst ex;obtain rfl:v=Value.ref a:=r1;obtain⟨_,xs,_,dd⟩:=Ĺ I1.hok dx;refine⟨"dict",id,pa,slot,hty,dd.typeIs,λb eb=>?_,?_⟩
 ·injection eb with eb
  subst eb;obtain⟨o,_,_,h1,h2,_⟩:=dd;exact⟨o,h1,h2.2.1⟩
 have hA:=ha cpos Y s1 σ H1 _ I1 q1;rw[hs]at hA ⊢;exact T7 () (Calls.evalArgs_plain (jx hA λus s2 ⟨vs,H2,I2,r2,q2⟩=>hm Y s2 σ H2 (.ref a) vs _ us Q I2 Z r2 q2))
end
end L2
namespace Di
open PyProof.Rows
variable{o:Obj}{es:Array DictEntry}{ep:Nat}
variable{prog:Program}{w:World}{A:Around}{E:Value->Shared->Prop}{s:Shared}
abbrev vO(d:Addr):Obj:={ cls:=.type "dict_items",data:=.fields #[.ref d]}
def ļ{d:Addr}{Q:Value->Shared->Prop}(hs:(d==sysModules)=false)(ho:s.heap.get? d=some o)(hx:o.ExactDict)
  (h:Q (.ref s⁻¹) { s with heap:=s.heap.push (vO d)}):wpAny (model prog w) A (call (.builtin "dict.items") [.ref d]) Q E s:=by
 have hT:s.TypeIs (.ref d) "dict" :=⟨_,ho,hx.1⟩;refine gq F.slot_dict_items hT F.entry_dict_items ?_ (F.args_dict_items_1 _);unfold Builtin.«dict.items»;refine M ?_;unfold Builtin.Dict.noArgs;refine M (Am hT (aj ?_));refine M ?_;unfold Builtin.Dict.showsAll;refine jK (L2.yD () (aj ?_));exact M (j6 (aj ⟨_,Z,h⟩))
def Dc{v d:Addr}{Q:Value->Shared->Prop}(hv:s.heap.get? v=some (vO d))(ho:s.heap.get? d=some o)(hd:o.data=.dict es ep)
  (h:∀h',IsItemIter h' s⁻¹ d 0 es.size ep .none .none->(∀b ob,s.heap.get? b=some ob->h'.get? b=some ob)->Q (.ref s⁻¹) { s with heap:=h'}):wpAny (model prog w) A (pyIter (.ref v)) Q E s:=by
 have hT:s.TypeIs (.ref v) "dict_items" :=⟨_,hv,Z⟩;refine Iw hT F.slot_dict_items_iter (gq F.slot_dict_items_iter hT F.entry_dict_items_iter ?_ (F.args_dict_items_iter_1 _));unfold Builtin.«dict_items.__iter__»;refine M (aj ?_);refine M ?_;unfold Builtin.Dict_items.dictOf;refine M (gw hv Z (x:=.ref d) Z (aj ?_));refine M ?_;unfold Builtin.Dict_items.newIterator;refine M (nO ho hd ?_);refine M (wB ho hd ?_);have own:Builtin.Dict_items.ownsTuple "dict_itemiterator" = true:=()
 simp only[own,if_true];refine j6 ?_ (by simp only[sizeOk,sizeLine_eq,Builtin.Dict_items.ownedTupleFields,List.size_toArray,List.length_append,List.length_cons,List.length_nil];omega);exact aj ⟨_,Z,"dict_itemiterator",_,⟨_,bT _ Z,Z⟩,F.slot_dict_itemiterator_next.lookup,h _ (bT _ Z) λb ob e=>bx _ e⟩
def item_at{it d:Addr}{i:Nat}{e:DictEntry}{ok ov:Value}{Q:Option Value->Shared->Prop}(ho:s.heap.get? d=some o)(hd:o.data=.dict es ep)(hit:IsItemIter s.heap it d i es.size ep ok ov)(hx:es[i]?=some e)
  (h:∀h',IsItemIterOut h' it d (i+1) es.size ep e.key e.val s⁻¹->h'.get? s⁻¹=some { cls:=.type "tuple",data:=.seq #[e.key,e.val]}->h'.objs.size=s⁻¹+1->
   (∀b ob,b≠it->s.heap.get? b=some ob->h'.get? b=some ob)->Q (some (.ref s⁻¹)) { s with heap:=h'}):wpAny (model prog w) A (pyNext (.ref it)) Q E s:=by
 have hT:s.TypeIs (.ref it) "dict_itemiterator" :=⟨_,hit,Z⟩;have own:Builtin.Dict_items.ownsTuple "dict_itemiterator" = true:=()
 unfold pyNext;refine M (uc (oO (name:=Str.ofString "__next__") hT Nu (gq Nu hT æ ?_ (å _))));refine M (aj ?_);refine M ?_;refine M ?_;refine M (m:=typeNameOfWhole _) (Nr hT (aj ?_));refine M (Em hit Z ?_);simp only[own,if_true];show wpAny _ _ (if(Value.ref d==Value.none)=true then _ else _) _ _ _;refine jK (L2.yD (by simp) ?_);refine M (m:=Builtin.Dict_items.addrOf _) (aj ?_);refine M (nO ho hd ?_);refine jK (L2.yD (by simp) ?_);refine M (m:=Builtin.Dict_items.addrOf _) (aj ?_);refine M (wB ho hd ?_);refine jK (L2.yD (by simp) (aj ?_));dsimp only;have e1:(if(i:Int)<0 then none else es[(i:Int).toNat]?)=some e:=by
  rw[aq (),j5];exact hx
 rw[e1];dsimp only;refine M (M (m:=typeNameOfWhole _) (Nr hT (aj (M (T9 hT ?_)))));show wpAny _ _ (setField (.ref it) 3 (rawInt ((i:Int)+1)) >>= _) _ _ _;refine M (iU hit (by simp) λh1 he1 Fb=>?_);have q1:((i+1:Nat):Int)=(i:Int)+1:=()
 have a5Q:IsItemIter h1 it d (i+1) es.size ep ok ov:=by unfold IsItemIter;rw[q1];simpa [rawInt]using he1
 have hT1:Shared.TypeIs { s with heap:=h1} (.ref it) "dict_itemiterator" :=⟨_,a5Q,rfl⟩;have z1:h1.objs.size=s⁻¹:=Fb.1;have il:it<s⁻¹:=aX hit;refine M (fB (M (T9 hT1 (M (T9 hT1 ?_)))));show wpAny _ _ (Builtin.Dict_items.pairFromOwner (.ref it) 6 e.key e.val) _ _ { s with heap:=h1};unfold Builtin.Dict_items.pairFromOwner;refine M (IV ?_);have he2:IsItemIter (h1.push { cls:=.type "tuple",data:=.seq #[e.key,e.val]}) it d (i+1) es.size ep ok ov:=bx _ a5Q;have t2:(h1.push { cls:=.type "tuple",data:=.seq #[e.key,e.val]}).get? s⁻¹=some { cls:=.type "tuple",data:=.seq #[e.key,e.val]}:=by rw[<-z1];exact bT _ rfl
 have z2:(h1.push { cls:=.type "tuple",data:=.seq #[e.key,e.val]}).objs.size=s⁻¹+1:=by rw[j7,z1]
 have k2:∀b ob,b≠it->s.heap.get? b=some ob->(h1.push { cls:=.type "tuple",data:=.seq #[e.key,e.val]}).get? b=some ob:=λb ob hb q=>bx _ (Fb.extBut b ob hb q);rw[z1];generalize h1.push { cls:=.type "tuple",data:=.seq #[e.key,e.val]}=h2 at he2 t2 z2 k2;refine M ?_;unfold Builtin.Dict_items.ownedTupleIsFree;refine M (gw he2 Z (x:=.none) Z (aj ?_));simp only[if_true];refine M (gw he2 Z (x:=ok) Z (M (gw he2 Z (x:=ov) Z ?_)));refine M (iU he2 (by simp) λh3 he3 s3=>?_);have he3:IsItemIter h3 it d (i+1) es.size ep e.key ov:=he3;refine M (iU he3 (by simp) λh4 he4 s4=>?_);have he4:IsItemIter h4 it d (i+1) es.size ep e.key e.val:=he4;refine M (iU he4 (by simp) λh5 he5 s5=>?_);have he5:IsItemIterOut h5 it d (i+1) es.size ep e.key e.val s⁻¹:=he5;refine M (iU he5 (by simp) λh6 he6 s6=>?_);have he6:IsItemIterOut h6 it d (i+1) es.size ep e.key e.val s⁻¹:=he6;have up:∀b ob,b≠it->h2.get? b=some ob->h6.get? b=some ob:=λb ob hb q=>s6.extBut b ob hb (s5.extBut b ob hb (s4.extBut b ob hb (s3.extBut b ob hb q)));refine M (yp (aj (aj ⟨_,Z,aj (h h6 he6 (up _ _ (gG il) t2) ?_ λb ob hb q=>up b ob hb (k2 b ob hb q))⟩)));show h6.objs.size=_;rw[s6.1,s5.1,s4.1,s3.1];exact z2
def Jt{it d:Addr}{ok ov:Value}{Q:Option Value->Shared->Prop}(hh:A.handled=none)(ho:s.heap.get? d=some o)(hd:o.data=.dict es ep)(hit:IsItemIter s.heap it d es.size es.size ep ok ov)
  (h:∀h',Heap.ExtBut it s.heap h'->Q none { s with heap:=h'}):wpAny (model prog w) A (pyNext (.ref it)) Q E s:=by
 have hT:s.TypeIs (.ref it) "dict_itemiterator" :=⟨_,hit,Z⟩;have own:Builtin.Dict_items.ownsTuple "dict_itemiterator" = true:=()
 unfold pyNext;refine M (uc (oO (name:=Str.ofString "__next__") hT Nu (gq Nu hT æ ?_ (å _))));refine M (aj ?_);refine M ?_;refine M ?_;refine M (m:=typeNameOfWhole _) (Nr hT (aj ?_));refine M (Em hit Z ?_);simp only[own,if_true];show wpAny _ _ (if(Value.ref d==Value.none)=true then _ else _) _ _ _;refine jK (L2.yD (by simp) ?_);refine M (m:=Builtin.Dict_items.addrOf _) (aj ?_);refine M (nO ho hd ?_);refine jK (L2.yD (by simp) ?_);refine M (m:=Builtin.Dict_items.addrOf _) (aj ?_);refine M (wB ho hd ?_);refine jK (L2.yD (by simp) (aj ?_));dsimp only;have e1:(if(es.size:Int)<0 then none else es[(es.size:Int).toNat]?)=none:=by rw[aq (),j5];simp
 rw[e1];dsimp only;refine M (M (m:=typeNameOfWhole _) (Nr hT (aj ?_)));show wpAny _ _ (setField (.ref it) 2 .none >>= _) _ _ _;refine M (iU hit (by simp) λh1 hI1 Fb=>?_);refine M ?_;simp only[newExc,newTuple];refine M (j6 ?_ (by size_fits));refine M (m:=firstArgMember _ _) (Jc (a:=Value.none) (by first|rfl|(simp only[firstArgMember];rfl)) ?_);refine j6 ?_ (by size_fits);simp only[raiseNew];refine M (O7 ?_);rw[show A.in1.handled=none from hh];refine M (aj (Pg ?_));exact M (tW (U:="StopIteration") (T:="StopIteration") (b:=true) ⟨_,bT _ Z,Z⟩ IW (aj (h _ ((Fb.extBut.push _).push _))))
end Di
namespace L2
open PyProof.Rows Bg
variable{o:Obj}{u:HO}{as:List Addr}
def XS(p d:Addr):HO:=.ext (λh=>h.get? p=some (Di.vO d))
def Iti(o:Obj)(d:Addr)(u:HO)(as:List Addr)(vs:List V):It :=
 ⟨λi H=>H d=some (.jq o u)/\i<as.length,λi H x H'=>∃p a v,x=.ref p/\as[i]?=some a/\vs[i]?=some v/\gZ H p (.tup [.ref a,v]) H',λi H=>H d=some (.jq o u)/\i=as.length⟩
def Wa{P:Program}{w:World}{K:aH}{elts:List Expr}{k:Nat}{pos:Pos}(d it:Addr){vs:List V}{es:Array DictEntry}{ep:Nat}(hd:o.data=.dict es ep)(ek:es.toList.map (·.key)=as.map Value.ref)(ev:cN vs (es.toList.map (·.val))) :
  Turn P w K (.Tuple elts k pos) (Iti o d u as vs) [it] it (λi h=>∃ok ov,IsItemIter h it d i es.size ep ok ov) where
 mem:=by simp
 obj:=λi h st b hb=>by
  grind
 keep:=λi h h' ⟨ok,ov,st⟩ k=>⟨ok,ov,k it (by simp) _ st⟩
 item:=by
  intro X hP hw hK hc i Y s σ H E I hf st hg
  subst hP hw hK
  obtain⟨ok,ov,st⟩:=st
  obtain⟨hq,hi⟩:=hg
  obtain⟨hd1,_⟩:=I.hok d _ hq
  obtain⟨f0,f1,f2,f3,f4,f5⟩:=hf it (by simp)
  have ne:d≠it:=λz=>by grind
  have lz:es.size=as.length:=by have:=congrArg List.length ek;grind
  have he:es[i]?=some (es[i]'()):=xW ()
  have a3J:(es[i]'()).key=Value.ref as[i]:=by
   have:=congrArg (λl=>l[i]?) ek
   grind
  have lv:vs.length=as.length:=by
   have:=ev.length
   grind
  obtain⟨v,hv⟩:∃v,vs[i]?=some v:=⟨vs[i]'(),bL _⟩
  obtain⟨u1,hu1,ru1⟩:=ev.get hv
  have a7Q:(es[i]'()).val=u1:=by
   grind
  refine Di.item_at hd1 hd st he λh' hI ht hz kp=>⟨_,Z,wpAny_letOwnedTupleGo_items hI λh3 hI3 Zu=>?_⟩
  have nit:s⁻¹≠it:=gG (aX st)
  have kp3:∀c oc,c∉[it]->s.heap.get? c=some oc->h3.get? c=some oc:=λc oc hc q=>by
   have hc':c≠it:=()
   exact(Zu.2 c hc').trans (kp c oc hc' q)
  have I1:bC X Y σ H { s with heap:=h3}:=zH I [it] (λc hc=>hf c hc) kp3
  have hfree:H s⁻¹=none:=I.hok.fresh (aN _)
  have ht3:h3.get? s⁻¹=some { cls:=.type "tuple",data:=.seq #[(es[i]'()).key,(es[i]'()).val]}:=(Zu.2 _ nit).trans ht
  have I2:bC X Y σ (cM H s⁻¹ (.tup [.ref as[i],v])) { s with heap:=h3}:=by
   refine bC.track I1 hfree I.sz (gG I.lt) (λy c q=>?_) (λp hp=>bZ (aX (I.pin p hp).1)) ?_
   ·obtain⟨v,oc,q1,_⟩:=I.cell y c q
    grind
   ·exact⟨(by show 2<=sizeLine;decide),[(es[i]'()).key,(es[i]'()).val],.cons a3J (.cons () .nil),⟨_,ht3,Z,_,Z⟩⟩
  refine⟨.ref s⁻¹,_,I2,Z,⟨_,as[i],v,Z,bL hi,hv,gZ.oM hfree⟩,⟨_,_,hI3⟩,λc hc=>?_⟩
  have e:c=it:=()
  subst e
  rw[aU (Ne.symm nit)]
  exact f0
 done:=by
  intro X hP hw hK hc i Y s σ H E I hf st hg
  subst hP hw hK
  obtain⟨ok,ov,st⟩:=st
  obtain⟨hq,hx⟩:=hg
  obtain⟨hd1,_⟩:=I.hok d _ hq
  obtain⟨f0,f1,f2,f3,f4,f5⟩:=hf it (by simp)
  have lz:es.size=as.length:=by have:=congrArg List.length ek;grind
  rw[hx,<-lz]at st
  exact Di.Jt (I.ok.hd hc) hd1 hd st λh' eb=>⟨Z,I.turned (t':=s.toks) (λb o hb e=>eb b o hb e) f0 f1 f3 f4 f5⟩
 self:=λ_ _ _ _ _ ⟨ok,ov,st⟩ h=>PySem.W.kcp_self st h
section
variable{X:Cx}
inductive a0Z(x:V)(vs:List V)(H:Hp)(Q:VK):Prop
 |mk (d:Addr) (O:List (List Key×V)) (_:x=.ref d) (_:vs=[]) (_:H d=some (.dT O)) (_:∀p H',gZ H p (XS p d) H'->Q (.ref p) H')
def vK:Vu X "dict.items" a0Z:=by
 intro Y s σ H x xs v us Q I rx rs h;obtain⟨d,O,rfl,rfl,e,q⟩:=h;obtain rfl:v=Value.ref d:=rx;cases rs;obtain⟨_,hs,xs,rel,o,es,ep,ho,hx,hdt,hes,_,_⟩:=yC I.hok e;refine Di.ļ hs ho hx ?_;have g:(s.heap.push (Di.vO d)).get? s⁻¹=some (Di.vO d):=bT _ rfl;refine⟨.ref s⁻¹,_,I.laid (t':=s.toks) (o:=XS s⁻¹ d) (λb ob eb=>bx _ eb) (aN _) ⟨g,⟨_,g⟩,λh1 h2 e1 k=>k _ e1⟩,Z,q _ _ (gZ.oM (I.hok.fresh (aN _)))⟩
def a00(tl:TE):TI:=λσ H R=>tl σ H λx H1=>∃p d O,x=.ref p/\H1 p=some (XS p d)/\H1 d=some (.dT O)/\
 ∀o as,Paired (λa (kv:List Key×V)=>(cM H1 d (.jq o (.dT O))) a=some (.tup (kv.1.map kV))) as O->R (Iti o d (.dT O) as (O.map (·.2))) (cM H1 d (.jq o (.dT O)))
def vL{elts:List Expr}{k:Nat}{tpos:Pos}{l:Expr}{tl:TE}(hl:PE X l tl):PI X (.Tuple elts k tpos) l (a00 tl):=by
 intro Y s σ H R I h;refine jx (hl Y s σ H _ I h) λv s1 ⟨x,H1,I1,r1,q1⟩=>?_;obtain⟨p,d,O,e,hp,hd,q⟩:=q1;subst e;cases r1;obtain⟨_,hs,xs,rel,o,es,ep,ho,hx,hdt,hes,_,_⟩:=yC I1.hok hd;have hv:s1.heap.get? p=some (Di.vO d):=(show fW X.prog X.w H1 s1.heap p (XS p d)from I1.hok p _ hp).1;have I2:bC X Y σ (cM H1 d (.jq o (.dT O))) s1:=I1.V6 hd (λ_ z=>by cases z) (λ_ z=>by cases z) (λ_ z=>by cases z) (I1.XR hd λ_ _ z=>by cases z) ⟨ho,I1.hok d _ hd⟩;have ek:es.toList.map (·.key)=(xs.map λx=>x.2.1).map Value.ref:=by rw[hes,mL,mL];rfl
 have ev:cN (O.map (·.2)) (es.toList.map (·.val)):=by
  rw[hes,mL];have go:∀{ks:List (List Key×V)}{ys:List (List Key×Addr×Value)},KT H1 ks ys->cN (ks.map (·.2)) (ys.map λx=>x.2.2):=λ{ks ys} r=>by
   induction r with
   |nil=>exact .nil
   |cons a _ ih=>exact .cons a.2.2 ih
  exact go rel
 have pk:Paired (λa (kv:List Key×V)=>(cM H1 d (.jq o (.dT O))) a=some (.tup (kv.1.map kV))) (xs.map λx=>x.2.1) O:=by
  have go:∀{ks:List (List Key×V)}{ys:List (List Key×Addr×Value)},KT H1 ks ys->Paired (λa (kv:List Key×V)=>(cM H1 d (.jq o (.dT O))) a=some (.tup (kv.1.map kV))) (ys.map λx=>x.2.1) ks:=λ{ks ys} r=>by
   induction r with
   |nil=>exact .nil
   | @cons kv y _ _ a _ ih =>
    refine .cons ?_ ih;have nb:y.2.1≠d:=λz=>by grind
    rw[aU nb];exact a.2.1
  exact go rel
 refine Di.Dc hv ho hdt λh' hI kp=>⟨s1⁻¹,[s1⁻¹],_,_,_,Z,I2.kept (t':=s1.toks) (λb ob e=>kp b ob e),Wa d _ hdt ek ev,⟨_,_,hI⟩,λb hb=>?_,q o _ pk⟩;have e:b=s1⁻¹:=()
 subst e;exact I2.Gv (aN _) (I2.hok.fresh (aN _))
end
def wX{d:Addr}{vs:List V}{g:TG}{tb:TS}{D:Ends}{σ:St}{H:Hp}(Pv:Nat->St->Hp->Prop)(h0:Pv 0 σ H)(hl:∀i σ H,i<=as.length->Pv i σ H->H d=some (.jq o u))
  (hs:∀(i:Nat) a v σ H p H',as[i]?=some a->vs[i]?=some v->Pv i σ H->gZ H p (.tup [.ref a,v]) H'->g (.ref p) σ H' λσ2 H2=>tb { D with nx:=Pv (i+1),ct:=Pv (i+1),bk:=D.nx} σ2 H2) (hd:∀σ H,Pv as.length σ H->D.nx σ H) :
  ∃W:Nat->Nat->St->Hp->Prop,(∃m,W 0 m σ H)/\∀i m σ H,W i m σ H->
   ((Iti o d u as vs).stop i H/\D.nx σ H)\/((Iti o d u as vs).go i H/\∃N:St->Hp->Prop,(∀σ' H',N σ' H'->∃m',m'<m/\W (i+1) m' σ' H')/\∀x H',(Iti o d u as vs).Û i H x H'->g x σ H' λσ2 H2=>tb { D with nx:=N,ct:=N,bk:=D.nx} σ2 H2):=by
 refine⟨λi m σ H=>m=as.length-i/\i<=as.length/\Pv i σ H,⟨as.length,by simp,dG _,h0⟩,?_⟩;rintro i m σ H ⟨rfl,hi,p⟩;have q1:=hl i σ H hi p;by_cases hlt:i<as.length
 ·refine .inr ⟨⟨q1,hlt⟩,Pv (i+1),λσ' H' p'=>⟨as.length-(i+1),(),Z,hlt,p'⟩,λx H' y=>?_⟩;obtain⟨pp,a,v,rfl,ea,ev,nw⟩:=y;exact hs i a v σ H pp H' ea ev p nw
 ·have e:i=as.length:=()
  subst e;exact .inl ⟨⟨q1,Z⟩,hd σ H p⟩
def ZK{d:Addr}{vs:List V}{ix:List (Option Nat)}{g:TG}{tt:TT}{te:TE}{σ:St}{H1:Hp}{Q:VK}(Pv:Nat->List V->Hp->Prop)(h0:Pv 0 [] H1)(hl:∀i ys H,i<=as.length->Pv i ys H->H d=some (.jq o u)/\ys.length<=5000)
  (hs:∀i ys H a v p H',as[i]?=some a->vs[i]?=some v->Pv i ys H->gZ H p (.tup [.ref a,v]) H'->g (.ref p) (rF ix σ) H' λσ2 H2=>tt σ2 H2 λb H3=>if b=true then te σ2 H3 λv H4=>Pv (i+1) (ys++[v]) H4 else Pv (i+1) ys H3)
  (hd:∀ys H p,Pv as.length ys H->H p=none->Q (.ref p) (cM H p (.lst ys))):nR ix g tt te σ H1 Q (Iti o d u as vs):=by
 refine⟨λi m ys H=>m=as.length-i/\i<=as.length/\Pv i ys H,⟨as.length,by simp,dG _,h0⟩,?_⟩;rintro i m ys H ⟨rfl,hi,pp⟩;obtain⟨hx,z⟩:=hl i ys H hi pp;have z':ys.length<=sizeLine:=by rw[jg];omega
 by_cases hlt:i<as.length
 ·refine .inr ⟨⟨hx,hlt⟩,z',λys' H'=>Pv (i+1) ys' H',λys' H' p'=>⟨as.length-(i+1),(),Z,hlt,p'⟩,λx H' y=>?_⟩;obtain⟨p,a,v,rfl,ea,ev,nw⟩:=y;exact hs i ys H a v p H' ea ev pp nw
 ·have ei:i=as.length:=()
  subst ei;exact .inl ⟨⟨hx,Z⟩,z',λp hp=>hd ys H p pp hp⟩
end L2
namespace Z3
open PyProof.Rows
variable{a b c x:Value}{k n l1 l2 l3:Nat}{xs ys zs:Array Value}
abbrev La(h:Heap)(T:Addr)(a b c:Value):Prop:=h.get? T=some { cls:=.type "tuple",data:=.seq #[a,b,c]}
section
variable{prog:Program}{w:World}{A:Around}{E:Value->Shared->Prop}{s:Shared}
def put{T:Addr}{Q:Unit->Shared->Prop}(hT:La s.heap T a b c)
  (h:∀h',h'.get? T=some { cls:=.type "tuple",data:=.seq ((#[a,b,c]:Array Value).setIfInBounds k x)}->Heap.SameBut T s.heap h'->Q ⟨⟩ { s with heap:=h'}):wpAny (model prog w) A (updateSeq T (·.setIfInBounds k x)) Q E s:=by
 refine O1 hT Z (h _ ?_ (nJ ..));rw[xX _ hT rfl];simp[Obj.mapSeq]
def next_item{y v:Value}{Q:Value->Shared->Prop}(q1:l1<n)(q2:l2<n)(q3:l3<n)
  (hz:IsZip s.heap (n+5) (n+3) (n+4) .none) (hTI:La s.heap (n+3) (.ref n) (.ref (n+1)) (.ref (n+2))) (hTO:La s.heap (n+4) a b c)
  (h1:s.heap.IsListIter n l1 k) (h2:s.heap.IsListIter (n+1) l2 k) (h3:s.heap.IsListIter (n+2) l3 k) (hl1:s.heap.IsList l1 xs) (hl2:s.heap.IsList l2 ys) (hl3:s.heap.IsList l3 zs) (hx:xs[k]?=some x) (hy:ys[k]?=some y) (hv:zs[k]?=some v)
  (hQ:∀h',IsZip h' (n+5) (n+3) (n+4) (rawInt s⁻¹)->La h' (n+4) x y v->h'.IsListIter n l1 (k+1)->h'.IsListIter (n+1) l2 (k+1)->h'.IsListIter (n+2) l3 (k+1)->La h' s⁻¹ x y v->
   (∀e o,e≠n->e≠n+1->e≠n+2->e≠n+4->e≠n+5->s.heap.get? e=some o->h'.get? e=some o)->Q (.ref s⁻¹) { s with heap:=h'}) :
  wpAny (model prog w) A (Builtin.«zip.__next__» ⟨[.ref (n+5)],[]⟩) (λfin s'=>∃v,fin=.done (.ret v)/\Q v s') E s:=by
 have d41:((n+4):Nat)≠(n+1):=()
 have d42:((n+4):Nat)≠(n+2):=()
 have d54:((n+5):Nat)≠(n+4):=()
 have d52:((n+5):Nat)≠(n+2):=()
 have d51:((n+5):Nat)≠(n+1):=()
 have d50:((n+5):Nat)≠n:=()
 have d04:(n:Nat)≠(n+4):=()
 have d02:(n:Nat)≠(n+2):=()
 have d01:(n:Nat)≠(n+1):=()
 have d14:((n+1):Nat)≠(n+4):=()
 have d12:((n+1):Nat)≠(n+2):=()
 have d24:((n+2):Nat)≠(n+4):=()
 show wpAny _ _ (field (.ref (n+5)) 2 >>= _) _ _ _;refine M (gw hz Z (x:=.bool false) Z ?_);show wpAny _ _ (field (.ref (n+5)) 3 >>= _) _ _ _;refine M (gw hz Z (x:=.ref (n+3)) Z (M (oW hTI Z ?_)));show wpAny _ _ (Builtin.SmallTypes.ownedTupleIsFree (.ref (n+5)) >>= _) _ _ _;refine M ?_;unfold Builtin.SmallTypes.ownedTupleIsFree;refine M (gw hz Z (x:=.none) Z (aj ?_));simp only[if_true];refine M (j8 (M (gw hz Z (x:=.ref (n+4)) Z ?_)));refine M (iU hz (by simp) λg1 z1 s1=>?_);have z1:IsZip g1 (n+5) (n+3) (n+4) .ellipsis:=z1;refine M ?_;simp only[List.zipIdx_cons,List.zipIdx_nil,List.forIn_cons,List.forIn_nil];have k1:∀e o,e≠n+5->s.heap.get? e=some o->g1.get? e=some o:=λe o he q=>s1.extBut e o he q;refine M (M (Bb ?_));show wpAny _ _ (Builtin.SmallTypes.nextOf (.ref n) >>= _) _ _ _;refine M (Ua (h1.at λo q=>k1 _ o () q) (hl1.at λo q=>k1 _ o () q) hx λg2 i2 s2=>aj ?_);have k2:∀e o,e≠n+5->e≠n->s.heap.get? e=some o->g2.get? e=some o:=λe o he h0 q=>s2.extBut e o h0 (k1 e o he q);have t2:La g2 (n+4) a b c:=k2 _ _ () () hTO;refine M (oW t2 Z (M (put t2 λg3 t3 s3=>?_)));have t3:La g3 (n+4) x b c:=t3;refine M (yp (aj ?_));have k3:∀e o,e≠n+5->e≠n->e≠n+4->s.heap.get? e=some o->g3.get? e=some o:=λe o he h0 h4 q=>s3.extBut e o h4 (k2 e o he h0 q);refine M (M (Bb ?_));show wpAny _ _ (Builtin.SmallTypes.nextOf (.ref (n+1)) >>= _) _ _ _;refine M (Ua (h2.at λo q=>k3 _ o () () () q) (hl2.at λo q=>k3 _ o () () () q) hy λg4 i4 s4=>aj ?_);have k4:∀e o,e≠n+5->e≠n->e≠n+4->e≠n+1->s.heap.get? e=some o->g4.get? e=some o:=λe o he h0 h4 h5 q=>s4.extBut e o h5 (k3 e o he h0 h4 q);have t4:La g4 (n+4) x b c:=s4.extBut (n+4) _ d41 t3;refine M (oW t4 Z (M (put t4 λg5 t5 s5=>?_)));have t5:La g5 (n+4) x y c:=t5;refine M (yp (aj ?_));have k5:∀e o,e≠n+5->e≠n->e≠n+4->e≠n+1->s.heap.get? e=some o->g5.get? e=some o:=λe o he h0 h4 h5 q=>s5.extBut e o h4 (k4 e o he h0 h4 h5 q);refine M (M (Bb ?_));show wpAny _ _ (Builtin.SmallTypes.nextOf (.ref (n+2)) >>= _) _ _ _;refine M (Ua (h3.at λo q=>k5 _ o () () () () q) (hl3.at λo q=>k5 _ o () () () () q) hv λg6 i6 s6=>aj ?_);have t6:La g6 (n+4) x y c:=s6.extBut (n+4) _ d42 t5;refine M (oW t6 Z (M (put t6 λg7 t7 s7=>?_)));have t7:La g7 (n+4) x y v:=t7;refine M (yp (aj (aj ?_)));have k7:∀e o,e≠n->e≠n+1->e≠n+2->e≠n+4->e≠n+5->s.heap.get? e=some o->g7.get? e=some o:=λe o a0 a1 a2 a4 a5 q=>s7.extBut e o a4 (s6.extBut e o a2 (k5 e o a5 a0 a4 a1 q));refine M (oW t7 Z (M (IV ?_)));have sz:g7.objs.size=s⁻¹:=by rw[s7.1,s6.1,s5.1,s4.1,s3.1,s2.1,s1.1]
 have z7:IsZip g7 (n+5) (n+3) (n+4) .ellipsis:=s7.extBut (n+5) _ d54 (s6.extBut (n+5) _ d52 (s5.extBut (n+5) _ d54 (s4.extBut (n+5) _ d51 (s3.extBut (n+5) _ d54 (s2.extBut (n+5) _ d50 z1)))));have i2':g7.IsListIter n l1 (k+1):=i2.at λo q=>s7.extBut n _ d04 (s6.extBut n _ d02 (s5.extBut n _ d04 (s4.extBut n _ d01 (s3.extBut n _ d04 q))));have i4':g7.IsListIter (n+1) l2 (k+1):=i4.at λo q=>s7.extBut (n+1) _ d14 (s6.extBut (n+1) _ d12 (s5.extBut (n+1) _ d14 q));have i6':g7.IsListIter (n+2) l3 (k+1):=i6.at λo q=>s7.extBut (n+2) _ d24 q;have nl:n+5<g7.objs.size:=aX z7;show wpAny _ _ (Builtin.SmallTypes.ownedTupleHandOut (.ref (n+5)) (.ref g7.objs.size) >>= _) _ _ _;refine M ?_;unfold Builtin.SmallTypes.ownedTupleHandOut;have z8:IsZip (g7.push { cls:=.type "tuple",data:=.seq #[x,y,v]}) (n+5) (n+3) (n+4) .ellipsis:=bx _ z7;refine M (iU z8 (by simp) λg9 z9 s9=>?_);have z9:IsZip g9 (n+5) (n+3) (n+4) (rawInt g7.objs.size):=z9;refine iU z9 (by simp) λg10 z10 s10=>?_;have z10:IsZip g10 (n+5) (n+3) (n+4) (rawInt g7.objs.size):=z10;have up:∀e o,e≠n+5->g7.get? e=some o->g10.get? e=some o:=λe o he q=>s10.extBut _ _ he (s9.extBut _ _ he (bx _ q));have ng:g7.objs.size≠n+5:=gG nl;have t10:La g10 g7.objs.size x y v:=s10.extBut g7.objs.size _ ng (s9.extBut g7.objs.size _ ng (bT _ Z));rw[sz]at z10 t10;refine aj ⟨_,Z,?_⟩;show Q (.ref g7.objs.size) _;rw[sz];exact hQ g10 z10 (up _ _ () t7) (i2'.at λo q=>up _ o () q) (i4'.at λo q=>up _ o () q) (i6'.at λo q=>up _ o () q) t10 λe o a0 a1 a2 a4 a5 q=>up e o a5 (k7 e o a0 a1 a2 a4 a5 q)
def RN{y v:Value}{Q:Option Value->Shared->Prop}(q1:l1<n)(q2:l2<n)(q3:l3<n)
  (hz:IsZip s.heap (n+5) (n+3) (n+4) .none) (hTI:La s.heap (n+3) (.ref n) (.ref (n+1)) (.ref (n+2))) (hTO:La s.heap (n+4) a b c)
  (h1:s.heap.IsListIter n l1 k) (h2:s.heap.IsListIter (n+1) l2 k) (h3:s.heap.IsListIter (n+2) l3 k) (hl1:s.heap.IsList l1 xs) (hl2:s.heap.IsList l2 ys) (hl3:s.heap.IsList l3 zs) (hx:xs[k]?=some x) (hy:ys[k]?=some y) (hv:zs[k]?=some v)
  (hQ:∀h',IsZip h' (n+5) (n+3) (n+4) (rawInt s⁻¹)->La h' (n+4) x y v->h'.IsListIter n l1 (k+1)->h'.IsListIter (n+1) l2 (k+1)->h'.IsListIter (n+2) l3 (k+1)->La h' s⁻¹ x y v->
   (∀e o,e≠n->e≠n+1->e≠n+2->e≠n+4->e≠n+5->s.heap.get? e=some o->h'.get? e=some o)->Q (some (.ref s⁻¹)) { s with heap:=h'}) :
  wpAny (model prog w) A (pyNext (.ref (n+5))) Q E s:=by
 have hT:s.TypeIs (.ref (n+5)) "zip" :=⟨_,hz,Z⟩;unfold pyNext;exact M (uc (oO (name:=Str.ofString "__next__") hT O4 (gq O4 hT F.entry_zip_next (next_item q1 q2 q3 hz hTI hTO h1 h2 h3 hl1 hl2 hl3 hx hy hv λh' a1 a2 a3 a4 a5 a6 a7=>aj (hQ h' a1 a2 a3 a4 a5 a6 a7)) (F.args_zip_next_1 _))))
def Wb{l2 l3:Nat}{a b c:Value}{Q:Option Value->Shared->Prop}(hh:A.handled=none)(q1:l1<n)
  (hz:IsZip s.heap (n+5) (n+3) (n+4) .none) (hTI:La s.heap (n+3) (.ref n) (.ref (n+1)) (.ref (n+2))) (h1:s.heap.IsListIter n l1 k) (hl1:s.heap.IsList l1 xs) (hx:xs[k]?=none)
  (hQ:∀h',(∀e o,e≠n->e≠n+5->s.heap.get? e=some o->h'.get? e=some o)->Q none { s with heap:=h'}) :
  wpAny (model prog w) A (pyNext (.ref (n+5))) Q E s:=by
 have hT:s.TypeIs (.ref (n+5)) "zip" :=⟨_,hz,Z⟩;have d50:(n+5:Nat)≠n:=()
 unfold pyNext;refine M (uc (oO (name:=Str.ofString "__next__") hT O4 (gq O4 hT F.entry_zip_next ?_ (F.args_zip_next_1 _))));show wpAny _ _ (field (.ref (n+5)) 2 >>= _) _ _ _;refine M (gw hz Z (x:=.bool false) Z ?_);show wpAny _ _ (field (.ref (n+5)) 3 >>= _) _ _ _;refine M (gw hz Z (x:=.ref (n+3)) Z (M (oW hTI Z ?_)));show wpAny _ _ (Builtin.SmallTypes.ownedTupleIsFree (.ref (n+5)) >>= _) _ _ _;refine M ?_;unfold Builtin.SmallTypes.ownedTupleIsFree;refine M (gw hz Z (x:=.none) Z (aj ?_));simp only[if_true];refine M (j8 (M (gw hz Z (x:=.ref (n+4)) Z ?_)));refine M (iU hz (by simp) λg1 z1 s1=>?_);have z1:IsZip g1 (n+5) (n+3) (n+4) .ellipsis:=z1;refine M ?_;simp only[List.zipIdx_cons,List.zipIdx_nil,List.forIn_cons,List.forIn_nil];have k1:∀e o,e≠n+5->s.heap.get? e=some o->g1.get? e=some o:=λe o he q=>s1.extBut e o he q;refine M (M (Bb ?_));show wpAny _ _ (Builtin.SmallTypes.nextOf (.ref n) >>= _) _ _ _;refine M (wpAny_nextOf_list_end () (h1.at λo q=>k1 _ o () q) (hl1.at λo q=>k1 _ o () q) hx λg2 e s2 he=>?_);obtain⟨oe,hoe,hce⟩:=he;have z2:IsZip g2 (n+5) (n+3) (n+4) .ellipsis:=s2 (n+5) _ d50 z1;have ne:e≠n+5:=λz=>by grind
 exact iU z2 (by simp) λg3 _ s3=>M (tW (U:="StopIteration") (T:="StopIteration") (b:=true) ⟨oe,s3.extBut e _ ne hoe,hce⟩ IW (aj (hQ _ λc o c0 c5 q=>s3.extBut c o c5 (s2 c o c0 (k1 c o c5 q)))))
end
def ZL(a b c:Value):checkTypeCall "zip" ⟨[a,b,c],[]⟩=pure ⟨⟩:=by kernel_rfl
def Ľ(a b c:Value):checkBuiltinCall "zip.__new__" ⟨[.type "zip",a,b,c],[]⟩=pure ⟨⟩:=by kernel_rfl
def Wc(a b c d:Value):argsOk "object.__init__" ⟨[a,b,c,d],[]⟩:=by unfold argsOk;rw[signature?_of (id:="object.__init__") (n:=['_','_','t','i','n','i','_','_']) (o:=['t','c','e','j','b','o']) (by kernel_rfl) F.owner_object];kernel_rfl
abbrev p1(h:Heap)(l1:Addr):Heap:=h.push { cls:=.type "list_iterator",data:=.fields #[.ref l1,.int 0 0]}
abbrev p2(h:Heap)(l1 l2:Addr):Heap:=p1 (p1 h l1) l2
abbrev p3(h:Heap)(l1 l2 l3:Addr):Heap:=p1 (p2 h l1 l2) l3
abbrev p4(h:Heap)(l1 l2 l3:Addr):Heap:=(p3 h l1 l2 l3).push { cls:=.type "tuple",data:=.seq #[.ref h.objs.size,.ref (p1 h l1).objs.size,.ref (p2 h l1 l2).objs.size]}
abbrev p5(h:Heap)(l1 l2 l3:Addr):Heap:=(p4 h l1 l2 l3).push { cls:=.type "tuple",data:=.seq #[.none,.none,.none]}
abbrev p6(h:Heap)(l1 l2 l3:Addr):Heap:=(p5 h l1 l2 l3).push { cls:=.type "zip",data:=.fields #[.none,.bool false,.bool false,.ref (p3 h l1 l2 l3).objs.size,.ref (p4 h l1 l2 l3).objs.size]}
def ZM(l1 l2 l3:Addr)(xs ys zs:Array Value) :
  Meets (Builtin.«zip.__new__» ⟨[.type "zip",.ref l1,.ref l2,.ref l3],[]⟩) (λ_ R s=>s.heap.IsList l1 xs/\s.heap.IsList l2 ys/\s.heap.IsList l3 zs/\R (.ok (.ret (.ref (p5 s.heap l1 l2 l3).objs.size))) { s with heap:=p6 s.heap l1 l2 l3}) :=
 .of_wp λprog w A R s h=>by
  obtain⟨hp,g,d,tk,os⟩:=s;obtain⟨hl1,hl2,hl3,h⟩:=h;have hsub:=sub_zip;have a1:Heap.IsList (Shared.heap ⟨hp,g,d,tk,os⟩) l1 xs:=hl1;have a2:Heap.IsList (Shared.heap ⟨p1 hp l1,g,d,tk,os⟩) l2 ys:=Uw hl2 _;have a3:Heap.IsList (Shared.heap ⟨p2 hp l1 l2,g,d,tk,os⟩) l3 zs:=Uw (Uw hl3 _) _
  wp_walk using wu a1,wu a2,wu a3
  exact⟨_,Z,h⟩
section
variable{prog:Program}{w:World}{A:Around}{E:Value->Shared->Prop}{s:Shared}
def a5R{l1 l2 l3:Addr}{Q:Value->Shared->Prop}(hl1:s.heap.IsList l1 xs)(hl2:s.heap.IsList l2 ys)(hl3:s.heap.IsList l3 zs)
  (h:∀h',IsZip h' (s⁻¹+5) (s⁻¹+3) (s⁻¹+4) .none->La h' (s⁻¹+3) (.ref s⁻¹) (.ref (s⁻¹+1)) (.ref (s⁻¹+2))->
   La h' (s⁻¹+4) .none .none .none->h'.IsListIter s⁻¹ l1 0->h'.IsListIter (s⁻¹+1) l2 0->h'.IsListIter (s⁻¹+2) l3 0->
   (∀c o,s.heap.get? c=some o->h'.get? c=some o)->Q (.ref (s⁻¹+5)) { s with heap:=h'}) :
  wpAny (model prog w) A (call (.type "zip") [.ref l1,.ref l2,.ref l3]) Q E s:=by
 refine callType_new F.called_zip () (ZL _ _ _) (Ľ _ _ _) (λobj=>Wc obj _ _ _) F.entry_zip_new (ZM l1 l2 l3 xs ys zs) ⟨hl1,hl2,hl3,?_⟩;generalize hn:s⁻¹=n at h;have z1:(p1 s.heap l1).objs.size=n+1:=by rw[j7,hn]
 have z2:(p2 s.heap l1 l2).objs.size=n+2:=by rw[j7,z1]
 have z3:(p3 s.heap l1 l2 l3).objs.size=n+3:=by rw[j7,z2]
 have z4:(p4 s.heap l1 l2 l3).objs.size=n+4:=by rw[j7,z3]
 have z5:(p5 s.heap l1 l2 l3).objs.size=n+5:=by rw[j7,z4]
 have up:∀{h0:Heap}{c:Addr}{o ob:Obj},h0.get? c=some o->(h0.push ob).get? c=some o:=λe=>bx _ e;have g6:(p6 s.heap l1 l2 l3).get? (p5 s.heap l1 l2 l3).objs.size=some _:=bT _ rfl;have g5:(p6 s.heap l1 l2 l3).get? (p4 s.heap l1 l2 l3).objs.size=some _:=up (bT _ Z);have g4:(p6 s.heap l1 l2 l3).get? (p3 s.heap l1 l2 l3).objs.size=some _:=up (up (bT _ Z));have g3:(p6 s.heap l1 l2 l3).get? (p2 s.heap l1 l2).objs.size=some _:=up (up (up (bT _ Z)));have g2:(p6 s.heap l1 l2 l3).get? (p1 s.heap l1).objs.size=some _:=up (up (up (up (bT _ Z))));have g1:(p6 s.heap l1 l2 l3).get? s⁻¹=some _:=up (up (up (up (up (bT _ Z)))));show _/\_;rw[z3,z4,z5]at g6;rw[z4]at g5;rw[hn,z1,z2,z3]at g4;rw[z2]at g3;rw[z1]at g2;rw[hn]at g1;rw[z5];exact⟨⟨_,g6,Z⟩,h _ g6 g4 g5 ⟨_,g1,Z,Z⟩ ⟨_,g2,Z,Z⟩ ⟨_,g3,Z,Z⟩ λc o q=>up (up (up (up (up (up q)))))⟩
end
end Z3
namespace L2
open PyProof.Rows
variable{K:aH}{pos:Pos}
def ľ(K:aH)(a b c:Addr):It :=
 ⟨λi H=>∃xs ys zs x y z,bI K H a xs/\bI K H b ys/\bI K H c zs/\xs[i]?=some x/\ys[i]?=some y/\zs[i]?=some z,
 λi H v H'=>∃p x y z,v=.ref p/\gZ H p (.tup [x,y,z]) H'/\(∀xs,bI K H a xs->xs[i]?=some x)/\(∀ys,bI K H b ys->ys[i]?=some y)/\∀zs,bI K H c zs->zs[i]?=some z,
 λi H=>∃xs,bI K H a xs/\xs.length<=i⟩
def ZP{P:Program}{w:World}{elts:List Expr}{k:Nat}(a b c n:Nat)(an:a<n)(bn:b<n)(cn:c<n) :
  Turn P w K (.Tuple elts k pos) (ľ K a b c) [n,n+1,n+2,n+3,n+4,n+5] (n+5) (λi h=>IsZip h (n+5) (n+3) (n+4) .none/\Z3.La h (n+3) (.ref n) (.ref (n+1)) (.ref (n+2))/\(∃x y z,Z3.La h (n+4) x y z)/\h.IsListIter n a i/\h.IsListIter (n+1) b i/\h.IsListIter (n+2) c i) where
 mem:=by simp
 obj:=λi h st e he=>by
  obtain⟨hz,hTI,⟨x,y,z,hTO⟩,⟨o1,e1,c1,d1⟩,⟨o2,e2,c2,d2⟩,⟨o3,e3,c3,d3⟩⟩:=st
  grind
 keep:=λi h h' st kk=>by
  obtain⟨hz,hTI,⟨x,y,z,hTO⟩,h1,h2,h3⟩:=st
  exact⟨kk (n+5) (by simp) _ hz,kk (n+3) (by simp) _ hTI,⟨x,y,z,kk (n+4) (by simp) _ hTO⟩,h1.at λo q=>kk n (by simp) o q,h2.at λo q=>kk (n+1) (by simp) o q,h3.at λo q=>kk (n+2) (by simp) o q⟩
 item:=by
  intro X hP hw hK hc i Y s σ H E I hf st hg
  subst hP hw hK
  obtain⟨xs,ys,zs,x,y,z,hq1,hq2,hq3,hx,hy,hz0⟩:=hg
  obtain⟨RQ,rv1,ZQ,hz1⟩:=I.list hq1
  obtain⟨its2,rv2,pl2,hz2⟩:=I.list hq2
  obtain⟨a7k,rv3,pl3,hz3⟩:=I.list hq3
  obtain⟨u1,hu1,ru1⟩:=rv1.get hx
  obtain⟨u2,hu2,υ⟩:=rv2.get hy
  obtain⟨u3,hu3,ru3⟩:=rv3.get hz0
  obtain⟨hz,hTI,⟨x0,y0,z0,hTO⟩,h1,h2,h3⟩:=st
  have nl:n+5<s⁻¹:=aX hz
  refine Z3.RN an bn cn hz hTI hTO h1 h2 h3 ZQ.isList pl2.isList pl3.isList (x:=u1) (y:=u2) (v:=u3) () () () λh' a1 a2 a3 a4 a5 a6 hk=>?_
  refine⟨_,Z,wpAny_letOwnedTupleGo_zip a1 λg3 hg3 hs3=>?_⟩
  have n5:s⁻¹≠n+5:=gG nl
  have hT3:g3.get? s⁻¹=some { cls:=.type "tuple",data:=.seq #[u1,u2,u3]}:=(hs3.2 _ n5).trans a6
  have kp:∀e o,e∉[n,n+1,n+2,n+3,n+4,n+5]->s.heap.get? e=some o->g3.get? e=some o:=λe o he q=>by
   simp only[List.mem_cons,List.not_mem_nil,or_false,not_or]at he
   exact(hs3.2 e he.2.2.2.2.2).trans (hk e o he.1 he.2.1 he.2.2.1 he.2.2.2.2.1 he.2.2.2.2.2 q)
  have I1:bC X Y σ H { s with heap:=g3}:=zH I [n,n+1,n+2,n+3,n+4,n+5] (λe he=>hf e he) kp
  have hfree:H s⁻¹=none:=I.hok.fresh (aN _)
  have I2:bC X Y σ (cM H s⁻¹ (.tup [x,y,z])) { s with heap:=g3}:=by
   refine bC.track I1 hfree I.sz (gG I.lt) (λy c q=>?_) (λp hp=>bZ (aX (I.pin p hp).1)) ?_
   ·obtain⟨v,oc,q1,_⟩:=I.cell y c q
    exact bZ (aX q1)
   ·exact⟨(by show 3<=sizeLine;decide),[u1,u2,u3],.cons ru1 (.cons υ (.cons ru3 .nil)),⟨_,hT3,Z,_,Z⟩⟩
  have d35:(n+3:Nat)≠n+5:=()
  have d45:(n+4:Nat)≠n+5:=()
  have d05:(n:Nat)≠n+5:=()
  have d15:(n+1:Nat)≠n+5:=()
  have d25:(n+2:Nat)≠n+5:=()
  have t3:h'.get? (n+3)=_:=hk (n+3) _ () () () () () hTI
  refine⟨.ref s⁻¹,_,I2,Z,⟨_,x,y,z,Z,gZ.oM hfree,λxs' hy'=>by rw[I.yq hy' hq1];exact hx,λys' hy'=>by rw[I.yq hy' hq2];exact hy,λzs' hy'=>by rw[I.yq hy' hq3];exact hz0⟩,
   ⟨hg3,(hs3.2 (n+3) d35).trans t3,⟨_,_,_,(hs3.2 (n+4) d45).trans a2⟩,a3.at λo q=>(hs3.2 n d05).trans q,a4.at λo q=>(hs3.2 (n+1) d15).trans q,a5.at λo q=>(hs3.2 (n+2) d25).trans q⟩,λe he=>?_⟩
  have f0:=(hf e he).1
  rw[aU ?_]
  ·exact f0
  grind
 done:=by
  intro X hP hw hK hc i Y s σ H E I hf st hg
  subst hP hw hK
  obtain⟨xs,hq1,hl⟩:=hg
  obtain⟨RQ,rv1,ZQ,hz1⟩:=I.list hq1
  have l1:=rv1.length
  obtain⟨hz,hTI,⟨x0,y0,z0,hTO⟩,h1,h2,h3⟩:=st
  refine Z3.Wb (a:=x0) (b:=y0) (c:=z0) (l2:=b) (l3:=c) (I.ok.hd hc) an hz hTI h1 ZQ.isList (by simp;omega) λh' hk=>⟨Z,zH I [n,n+1,n+2,n+3,n+4,n+5] (λe he=>hf e he) λe o he q=>?_⟩
  grind
 self:=λ_ _ _ _ _ st h=>wpAny_pyIter_zip st.1 h
section
variable{X:Cx}
def vals3{a b c:V}{us:List Value}(h:cN [a,b,c] us):∃u v w,us=[u,v,w]/\cQ a u/\cQ b v/\cQ c w:=by
 cases h with
 |cons h1 t =>
  obtain⟨u2,u3,rfl,r2,r3⟩:=vals2 t;exact⟨_,_,_,Z,h1,r2,r3⟩
def a5S(K:aH)(ta:TA):TI:=λσ H R=>ta σ H λvs H1=>∃a b c,vs=[.ref a,.ref b,.ref c]/\(∃xs,bI K H1 a xs)/\(∃ys,bI K H1 b ys)/\(∃zs,bI K H1 c zs)/\R (ľ K a b c) H1
def a01{elts:List Expr}{k:Nat}{tpos:Pos}{l m r:Expr}{ta:TA}{p:Pos}(e0:X.K=K)(hg:Gl X "zip")(hm:X.mg "zip" = none)(ha:PA X [l,m,r] ta)(hs:starEach [l,m,r] X.env=[(false,eval l X.env),(false,eval m X.env),(false,eval r X.env)]:=by rfl)(hs2:starEach [m,r] X.env=[(false,eval m X.env),(false,eval r X.env)]:=by rfl) :
  PI X (.Tuple elts k tpos) (.Call (.Name "zip" p) [l,m,r] [] pos) (a5S K ta):=by
 subst e0;intro Y s σ H R I h;refine yd (wG I hg hm boot_zip ?_);refine Ag (jx (ha pos Y s σ H _ I h) λus s1 ⟨vs,H1,I1,r1,q1⟩=>?_) (by rw[hs,hs2]) (by rw[hs2];rfl);obtain⟨a,b,c,e,⟨xs,hq1⟩,⟨ys,hq2⟩,⟨zs,hq3⟩,q⟩:=q1;subst e;obtain⟨u1,u2,u3,rfl,r1,r2,r3⟩:=vals3 r1;cases r1;cases r2;cases r3;obtain⟨RQ,rv1,ZQ,hz1⟩:=I1.list hq1;obtain⟨its2,rv2,pl2,hz2⟩:=I1.list hq2;obtain⟨a7k,rv3,pl3,hz3⟩:=I1.list hq3;refine Z3.a5R ZQ.isList pl2.isList pl3.isList λh' hz hTI hTO h1 h2 h3 hk=>wpAny_pyIter_zip hz ?_;have I2:bC X Y σ H1 { s1 with heap:=h'}:=I1.kept (t':=s1.toks) hk;have la:a<s1⁻¹:=by obtain⟨o,e,_⟩:=ZQ.isList;exact aX e
 have lb:b<s1⁻¹:=by obtain⟨o,e,_⟩:=pl2.isList;exact aX e
 have lc:c<s1⁻¹:=by obtain⟨o,e,_⟩:=pl3.isList;exact aX e
 refine⟨s1⁻¹+5,_,_,_,H1,Z,I2,ZP a b c s1⁻¹ la lb lc,⟨hz,hTI,⟨_,_,_,hTO⟩,h1,h2,h3⟩,λe he=>?_,q⟩;have hb':s1⁻¹<=e:=by
  grind
 exact I1.Gv hb' (I1.hok.fresh hb')
end
def Ŀ{a b c:Addr}{xs ys zs:List V}{g:TG}{tb:TS}{D:Ends}{σ:St}{H:Hp}(el:xs.length=ys.length)(el2:xs.length=zs.length)(Pv:Nat->St->Hp->Prop)(h0:Pv 0 σ H)(hl:∀i σ H,i<=xs.length->Pv i σ H->bI K H a xs/\bI K H b ys/\bI K H c zs)
  (hs:∀(i:Nat) x y z σ H p H',xs[i]?=some x->ys[i]?=some y->zs[i]?=some z->Pv i σ H->gZ H p (.tup [x,y,z]) H'->g (.ref p) σ H' λσ2 H2=>tb { D with nx:=Pv (i+1),ct:=Pv (i+1),bk:=D.nx} σ2 H2) (hd:∀σ H,Pv xs.length σ H->D.nx σ H) :
  ∃W:Nat->Nat->St->Hp->Prop,(∃m,W 0 m σ H)/\∀i m σ H,W i m σ H->
   ((ľ K a b c).stop i H/\D.nx σ H)\/((ľ K a b c).go i H/\∃N:St->Hp->Prop,(∀σ' H',N σ' H'->∃m',m'<m/\W (i+1) m' σ' H')/\∀x H',(ľ K a b c).Û i H x H'->g x σ H' λσ2 H2=>tb { D with nx:=N,ct:=N,bk:=D.nx} σ2 H2):=by
 refine⟨λi m σ H=>m=xs.length-i/\i<=xs.length/\Pv i σ H,⟨xs.length,by simp,dG _,h0⟩,?_⟩;rintro i m σ H ⟨rfl,hi,p⟩;obtain⟨q1,q2,q3⟩:=hl i σ H hi p;by_cases hlt:i<xs.length
 ·refine .inr ⟨⟨xs,ys,zs,xs[i],ys[i],zs[i],q1,q2,q3,by simp[hlt],by simp[el▸hlt],by simp[el2▸hlt]⟩,Pv (i+1),λσ' H' p'=>⟨xs.length-(i+1),(),Z,hlt,p'⟩,λx H' y=>?_⟩;obtain⟨pp,x0,y0,z0,rfl,nw,ex,ey,ez⟩:=y;grind
 ·have e:i=xs.length:=()
  subst e;exact .inl ⟨⟨xs,q1,aN _⟩,hd σ H p⟩
section
variable{X:Cx}{e:Expr}{f:Str}{ta:TE}
def zJ(e0:X.K=K)(he:PE X e ta)(hb:attributeBase e f X.env (eval e X.env)=eval e X.env):PE X (.Attribute e f pos) (a5g K ta f):=by subst e0;exact a2V he hb
end
end L2
namespace K
open L2 Lw Bg
abbrev iz:List Str:=["self","state","spot","v"]
abbrev jT:List Str:=["one","other"]
abbrev kJ:List Str:=["self","one","other"]
abbrev mW:List Str:=["graph","steps"]
abbrev sY:List Str:=["self","state","one","other","tie"]
abbrev uq:List Str:=["n","thing"]
abbrev xq:List Str:=["self","state"]
abbrev xr:List Str:=["state","spot","number"]
abbrev xu:List Str:=["state","spot"]
abbrev Df:List Str:=["question","table","state","row"]
abbrev Dg:List Str:=["graph","done","step","used"]
abbrev Dh:List Str:=["_law_ties_here","_law_rows_here","_law_k","_law_early"]
abbrev Gi:List Str:=["question","old","step","bag"]
abbrev Gj:List Str:=["graph","steps","tops","pile"]
abbrev Gk:List Str:=["self","graph","weights"]
abbrev Gm:List Str:=["many","weights"]
abbrev JD:List Str:=["is_better","shared","joined","put_in","tied","taken_out","thing"]
abbrev JF:List Str:=["question","table","source","step","bag"]
abbrev JG:List Str:=["question","table","source","another"]
abbrev JH:List Str:=["steps","question","tops","feeds"]
abbrev Mw:List Str:=["steps","question"]
abbrev Mx:List Str:=["_law_script","_law_k"]
abbrev Mz:List Str:=["_law_kind","_law_state","_law_at_here","_law_to"]
abbrev RT:List Str:=["_law_found","_law_size"]
abbrev RV:List Str:=["_law_kind","_law_table","_law_at_here","_law_to"]
abbrev X3:List Str:=["self","graph","leaf","whole"]
abbrev X4:List Str:=["self","graph","many","weights"]
abbrev X5:List Str:=["number","state","spot"]
abbrev X6:List Str:=["_law_script","_law_n","_law_most"]
abbrev X7:List Str:=["_law_v","_law_script"]
abbrev X8:List Str:=["_law_script","_law_rows_here","_law_n"]
abbrev Yb:List Str:=["_law_kind","_law_told","_law_steps"]
abbrev ŀ:List Str:=["_law_a","_law_b","_law_bag","_law_above"]
def top(i:Nat):Stmt:=PySem.Challenge.pw_bagwood_k61_ties_brought.main.body.getD i (.Pass ⟨0,0,0,0⟩)
abbrev dU:=List Int
structure gC where
 m:Int
 b:Int
 src:List dU
variable{R:V->gC->Prop}
abbrev cG:=List (dU×gC)
def uH(T:cG)(s:dU):Option gC:=(T.find? λx=>decide (x.1=s)).map (·.2)
def rJ(T:cG)(s:dU)(r:gC):cG:=if(T.any λx=>decide (x.1=s))=true then T.map (λx=>if x.1=s then(x.1,r)else x)else T++[(s,r)]
def zY(bt:Int->Int->Bool)(r o:gC):gC:=if bt r.b o.b=true then r else o
def mF(bt:Int->Int->Bool)(T:cG)(s:dU)(r:gC):cG:=match uH T s with
 |none=>rJ T s r
 |some o=>rJ T s ⟨o.m+r.m,(zY bt r o).b,(zY bt r o).src⟩
def qx(s:dU):List Key:=s.map Sum.inl
def a2q(s:dU):(qx s).map kV=s.map V.int:=by
 unfold qx;rw[mL];rfl
def Hz{s t:dU}(h:qx s=qx t):s=t:=by
 induction s generalizing t with
 |nil=>cases t with
  |nil=>rfl
  |cons a t=>cases h
 |cons a s ih=>cases t with
  |nil=>cases h
  |cons b t =>
   have h1:(Sum.inl a:Key)=Sum.inl b:=(En h).1;have h2:qx s=qx t:=(En h).2;grind
def uG(H:Hp)(a:Addr)(s:dU):Prop:=H a=some (.tup (s.map V.int))
def uG.key{H:Hp}{a:Addr}{s:dU}(h:uG H a s):H a=some (.tup ((qx s).map kV)):=by rw[a2q];exact h
def uG.MF{H:Hp}{a:Addr}{s:dU}(h:H a=some (.tup ((qx s).map kV))):uG H a s:=by rw[a2q]at h;exact h
inductive Lb(H:Hp)(v:V)(r:gC):Prop
 |mk (p q as:_) (_:v=.ref p) (_:H p=some (.tup [.int r.m,.int r.b,.ref q])) (_:H q=some (.tup (as.map V.ref))) (_:Paired (uG H) as r.src)
def qN(H:Hp):List (List Key×V)->cG->Prop:=Paired λkv tr=>kv.1=qx tr.1/\Lb H kv.2 tr.2
def qz(H H':Hp):Prop:=∀c ys,H c=some (.tup ys)->H' c=some (.tup ys)
def qz.trans{H H' Tv:Hp}(a:qz H H')(b:qz H' Tv):qz H Tv:=λc ys h=>b c ys (a c ys h)
def qz.of{H H':Hp}(a:aJ H H'):qz H H':=λc ys h=>a c _ h
def uG.keep{H H':Hp}{a:Addr}{s:dU}(k:qz H H')(h:uG H a s):uG H' a s:=k _ _ h
def Lb.keep{H H':Hp}{v:V}{r:gC}(k:qz H H')(h:Lb H v r):Lb H' v r:=by
 obtain⟨p,q,as,e,h1,h2,h3⟩:=h;exact⟨p,q,as,e,k _ _ h1,k _ _ h2,Paired.cB h3 λ_ _ z=>z.keep k⟩
def qN.keep{H H':Hp}{O:List (List Key×V)}{T:cG}(k:qz H H')(h:qN H O T):qN H' O T:=Paired.cB h λ_ _ z=>⟨z.1,z.2.keep k⟩
def Sd(t:Addr)(H H':Hp):Prop:=∀c o,c≠t->H c=some o->H' c=some o
def Sd.refl{t:Addr}{H:Hp}:Sd t H H:=λ_ _ _ h=>h
def Sd.trans{t:Addr}{H H' Tv:Hp}(a:Sd t H H')(b:Sd t H' Tv):Sd t H Tv:=λc o n h=>b c o n (a c o n h)
def Sd.of{t:Addr}{H H':Hp}(a:aJ H H'):Sd t H H':=λc o _ h=>a c o h
def Sd.tups{t:Addr}{H H':Hp}{O:List (List Key×V)}(a:Sd t H H')(h:H t=some (.dT O)):qz H H':=λc ys e=>a c _ (λz=>by grind) e
def Sd.Ł{t:Addr}{H H':Hp}{o:HO}(c:uP H t o H'):Sd t H H':=λb u n h=>by rw[c.rest b n];exact h
def HB(s:dU){O:List (List Key×V)}{T:cG}(h:Paired (λ(kv:List Key×V) (tr:dU×gC)=>kv.1=qx tr.1/\R kv.2 tr.2) O T):(iI O (qx s)=none/\uH T s=none)\/∃v r,iI O (qx s)=some v/\uH T s=some r/\R v r:=by
 induction h with
 |nil=>exact .inl ⟨Z,Z⟩
 | @cons p q O T h t ih =>
  obtain⟨k,v⟩:=p;obtain⟨s',r⟩:=q;obtain⟨e,hr⟩:=h;have e:k=qx s':=e;subst e;unfold iI uH at ih ⊢;by_cases c:s'=s
  ·grind
  ·rw[qI (by exact λz=>c (Hz (gn z))),qI ()];exact ih
def a02(s:dU){O:List (List Key×V)}{T:cG}(h:Paired (λ(kv:List Key×V) (tr:dU×gC)=>kv.1=qx tr.1/\R kv.2 tr.2) O T):(O.any λkv=>decide (kv.1=qx s))=(T.any λx=>decide (x.1=s)):=by
 induction h with
 |nil=>rfl
 | @cons p q O T h t ih =>
  obtain⟨k,v⟩:=p;obtain⟨s',r⟩:=q;have e:k=qx s':=h.1;subst e;rw[tZ,tZ,ih];congr 1;exact decide_eq_decide.mpr ⟨λz=>Hz z,λz=>congrArg qx z⟩
def Yc{O:List (List Key×V)}{T:cG}{s:dU}{v:V}{r:gC}(h:Paired (λ(kv:List Key×V) (tr:dU×gC)=>kv.1=qx tr.1/\R kv.2 tr.2) O T)(hr:R v r):Paired (λ(kv:List Key×V) (tr:dU×gC)=>kv.1=qx tr.1/\R kv.2 tr.2) (putK O (qx s) v) (rJ T s r):=by
 unfold putK rJ;rw[a02 s h];by_cases c:(T.any λx=>decide (x.1=s))=true
 ·rw[aB c,aB c];clear c
  induction h with
  |nil=>exact .nil
  | @cons kv tr _ _ a _ ih =>
   refine .cons ?_ ih;obtain⟨k,v0⟩:=kv;obtain⟨s',r0⟩:=tr;obtain⟨e,h0⟩:=a;have e:k=qx s':=e;subst e;dsimp only;by_cases c:s'=s
   ·grind
   ·rw[aq (λz=>c (Hz z)),aq c];grind
 ·rw[aq c,aq c];exact Paired.snoc h ⟨Z,hr⟩
def ł(T:cG)(s:dU)(r:gC):(rJ T s r).length<=T.length+1:=by
 unfold rJ;split
 ·rw[aM];omega
 ·rw[cC];exact aN _
structure PQ(κ:Type) where
 leaf:dU
 whole:dU
 bt:Int->Int->Bool
 sh:dU->List κ
 jn:dU->dU->List dU
 inn:dU->Nat->Nat->List (dU×Int)
 tie:dU->Nat->Nat->Int×Int->List (dU×Int)
 out:dU->Nat->Nat->List (dU×Int)
 Ok:Nat->dU->Prop
inductive χ(H:Hp)(v:V)(x:dU×Int):Prop
 |mk (p a:_) (_:v=.ref p) (_:H p=some (.tup [.ref a,.int x.2])) (_:uG H a x.1)
def χ.keep{H H':Hp}{v:V}{x:dU×Int}(k:qz H H')(h:χ H v x):χ H' v x:=by
 obtain⟨p,a,e,h1,h2⟩:=h;exact⟨p,a,e,k _ _ h1,h2.keep k⟩
def SvL(H:Hp)(v:V)(x:dU):Prop:=∃a,v=.ref a/\uG H a x
section
variable{P:Program}{w:World}{κ:Type} [DecidableEq κ]
inductive JK(pq:PQ κ)(At:Hp->Addr->Prop)(vs:List V)(H:Hp)(Q:VK)(u_3:XK):Prop
 |mk (d:Addr) (a b:Int) (_:vs=[.ref d,.int a,.int b]) (_:At H d) (_:Q (.bl (pq.bt a b)) H)
inductive JL(knd:KeyKind P w κ)(pq:PQ κ)(At:Hp->Addr->Prop)(vs:List V)(H:Hp)(Q:VK)(u_3:XK):Prop
 |mk (d a:Addr) (m:Nat) (s:dU) (_:vs=[.ref d,.ref a]) (_:At H d) (_:uG H a s) (_:pq.Ok m s) (_:m<=5) (_:∀b H',aJ H H'->ZJ knd H' b (pq.sh s)->Q (.ref b) H')
inductive JM(pq:PQ κ)(At:Hp->Addr->Prop)(vs:List V)(H:Hp)(Q:VK)(u_3:XK):Prop
 |mk (d a b:Addr) (m:Nat) (s t:dU) (_:vs=[.ref d,.ref a,.ref b]) (_:At H d) (_:uG H a s) (_:uG H b t) (_:pq.Ok m s) (_:pq.Ok m t) (_:m<=5) (_:pq.sh s=pq.sh t) (_:∀r xs H',aJ H H'->H' r=some (.lst xs)->Paired (SvL H') xs (pq.jn s t)->Q (.ref r) H')
inductive Yd(pq:PQ κ)(At:Hp->Addr->Prop)(vs:List V)(H:Hp)(Q:VK)(u_3:XK):Prop
 |mk (d a:Addr) (m spot v:Nat) (s:dU) (_:vs=[.ref d,.ref a,.int spot,.int v]) (_:At H d) (_:uG H a s) (_:pq.Ok m s) (_:m<=4) (_:spot<=m) (_:∀r xs H',aJ H H'->H' r=some (.lst xs)->Paired (χ H') xs (pq.inn s spot v)->Q (.ref r) H')
inductive Ye(pq:PQ κ)(At:Hp->Addr->Prop)(Pl:Nat->Prop)(vs:List V)(H:Hp)(Q:VK)(u_3:XK):Prop
 |mk (d a:Addr) (m spot v:Nat) (s:dU) (_:vs=[.ref d,.ref a,.int spot,.int v]) (_:At H d) (_:uG H a s) (_:pq.Ok m s) (_:m<=5) (_:spot<m) (_:Pl v) (_:∀r xs H',aJ H H'->H' r=some (.lst xs)->Paired (χ H') xs (pq.out s spot v)->Q (.ref r) H')
inductive Yg(pq:PQ κ)(At:Hp->Addr->Prop)(Ti:Int×Int->Prop)(vs:List V)(H:Hp)(Q:VK)(u_3:XK):Prop
 |mk (d a p:Addr) (m gh bR:Nat) (t:Int×Int) (s:dU) (_:vs=[.ref d,.ref a,.int gh,.int bR,.ref p]) (_:At H d) (_:uG H a s) (_:pq.Ok m s) (_:m<=5) (_:gh<m) (_:bR<m) (_:gh≠bR) (_:Ti t) (_:H p=some (.tup [.int t.1,.int t.2])) (_:∀r xs H',aJ H H'->H' r=some (.lst xs)->Paired (χ H') xs (pq.tie s gh bR t)->Q (.ref r) H')
structure QM(P:Program)(w:World)(K:aH)(mg:Str->Option Value)(base:Heap)(C:Addr)(m:Str)(ps:List Str)(k:Nat)(sp:Sp) where
 f:Addr
 fd:FuncData
 mt:Meth K C m f
 b:Binds K fd ps []
 ok:aZ P w K mg base fV k f fd ps sp
set_option genInjectivity false in
structure HD(P:Program)(w:World)(K:aH)(mg:Str->Option Value)(base:Heap)(κ:Type) [DecidableEq κ] where
 C:Addr
 cl:Cls K C
 knd:KeyKind P w κ
 pq:PQ κ
 At:Hp->Addr->Prop
 Pl:Nat->Prop
 Ti:Int×Int->Prop
 n:Nat
 ts:List bY
 keep:∀{H H':Hp}{d:Addr},(∀c o,(∀O,o≠.dT O)->(∀φ,o≠.ext φ)->H c=some o->H' c=some o)->At H d->At H' d
 ins:∀{H:Hp}{d:Addr},At H d->∃dx fs,H d=some (.ins C dx fs)/\(∀m,m∈(JD:List Str)->fs.lookup m=none)/\
  (∃a,fs.lookup ("leaf" : Str)=some (.ref a)/\uG H a pq.leaf)/\(∃a,fs.lookup ("whole" : Str)=some (.ref a)/\uG H a pq.whole)/\∃g,fs.lookup ("graph" : Str)=some g/\vf K H g n ts
 ig:eX K C "leaf"
 fO:eX K C "whole"
 fG:eX K C "graph"
 oG:QM P w K mg base C "is_better" kJ 8 (JK pq At)
 rK:QM P w K mg base C "shared" xq 8 (JL knd pq At)
 vM:QM P w K mg base C "joined" kJ 8 (JM pq At)
 vN:QM P w K mg base C "put_in" iz 8 (Yd pq At)
 oH:QM P w K mg base C "taken_out" iz 8 (Ye pq At Pl)
 Fl:QM P w K mg base C "tied" sY 8 (Yg pq At Ti)
end
abbrev vg:Stmt:=top 27
def HF:bB ["question","table","state","row","old","better"] Df (aD vg):={}
section
variable{P:Program}{w:World}{K:aH}{mg:Str->Option Value}{base:Heap}{κ:Type} [DecidableEq κ]
inductive a3P(Qn:HD P w K mg base κ)(vs:List V)(H:Hp)(Q:VK)(u_3:XK):Prop
 |mk (d t a:Addr) (v:V) (O:List (List Key×V)) (T:cG) (s:dU) (r:gC) (_:vs=[.ref d,.ref t,.ref a,v]) (_:Qn.At H d) (_:H t=some (.dT O)) (_:qN H O T) (_:T.length<=4000) (_:uG H a s) (_:Lb H v r) (_:∀kvs' H',Sd t H H'->H' t=some (.dT kvs')->qN H' kvs' (mF Qn.pq.bt T s r)->Q .non H')
def Yh(Qn:HD P w K mg base κ)(qO:Dn K mg "note" vg Df):aZ P w K mg base fV 9 qO.f qO.fd Df (a3P Qn):=by
 have Ld:aZ P w K mg base fV 8 _ _ _ _:=Qn.oG.ok;exists qO.F.ok HF;obtain⟨d,t,a,v,O,T,st,r,rfl,hD,ht,hT,lT,ha,hv,q⟩:=h;have hw1:(A.deeper (PyProof.Rows.envOfC "note" (aD vg) s⁻¹ qO.f dD)).units+1<cLine:=by have:=hr.un;omega
 refine⟨_,(kI (dH (aL (ı hw1) (pv 2) (pv 1) (by with_unfolding_all rfl))
   (aG (bD 4 HF.nd (Hx hw1 (pv 1) (pv 2) λ_ _=>rfl))
   (aG (bD 5 HF.nd (oZ (eN (K:=K) Z (wN (pv 0) Qn.cl Qn.oG.mt Ld hr Qn.oG.b .nil bW (J (aO (aK (K:=K) Z) (pv 3) aA) (J (aO (aK (K:=K) Z) (pv 4) aA) ao))) λ_=>rfl) (pv 3) (pv 4)))
   (aF (bD 3 HF.nd (bf (J (bQ fL (aO (aK (K:=K) Z) (pv 4) aA) (aO (aK (K:=K) Z) (pv 3) aA)) (J (aO (aK (K:=K) Z) (pv 5) aA) (J (aO (aK (K:=K) Z) (pv 5) aA) ao))))))))
   bK)
   (aF (wH (pv 3) (Ji (pv 1) (pv 2) (Fi hw1))))),?_⟩
 refine⟨λσ' G=>∃v' r' o4 o5,σ'=[some (.ref d),some (.ref t),some (.ref a),some v',o4,o5]/\aJ H G/\Lb G v' r'/\mF Qn.pq.bt T st r=rJ T st r',?_,?_⟩
 ·refine⟨_,Z,_,Z,a,t,qx st,O,Z,Z,ha.key,ht,_,Z,?_⟩;rcases HB st hT with⟨e1,e2⟩|⟨v0,r0,e1,e2,h0⟩
  ·rw[e1];refine cX ⟨v,r,none,none,Z,aJ.refl _,hv,?_⟩;unfold mF;rw[e2]
  ·rw[e1];obtain⟨p,qs,as,rfl,hp,hq,hs⟩:=hv;obtain⟨p0,q0,as0,rfl,hp0,hq0,hs0⟩:=h0;refine gY ⟨_,Z,_,Z,t,.ref p0,Z,by rw[<-e1];exact Jw.t ht ha.key,?_⟩;obtain⟨dx,fs,hd,nom,_⟩:=Qn.ins hD;refine⟨_,Z,d,dx,fs,Z,hd,nom _ (),⟨_,Z,p,_,_,.int r.b,Z,Z,cH.of hp,Z,_,Z,p0,_,_,.int r0.b,Z,Z,cH.of hp0,Z,⟨d,r.b,r0.b,Z,hD,_,Z,?_⟩⟩⟩;have fin:∀(pb:Addr) (rb:gC) (qb:Addr) (asb:List Addr),H pb=some (.tup [.int rb.m,.int rb.b,.ref qb])->H qb=some (.tup (asb.map V.ref))->Paired (uG H) asb rb.src->rb=zY Qn.pq.bt r r0->∀p' H',gZ H p' (.tup [.int (r0.m+r.m),.int rb.b,.ref qb]) H'->∃v' r' o4 o5,[some (V.ref d),some (.ref t),some (.ref a),some (.ref p'),some (.ref p0),some (.ref pb)]=[some (.ref d),some (.ref t),some (.ref a),some v',o4,o5]/\aJ H H'/\Lb H' v' r'/\mF Qn.pq.bt T st r=rJ T st r':=λpb rb qb asb h1 h2 h3 e p' H' nw=>by
    refine⟨_,⟨r0.m+r.m,rb.b,rb.src⟩,_,_,Z,nw.same,⟨p',qb,asb,Z,nw.here,nw.same _ _ h2,Paired.cB h3 λ_ _ z=>z.keep (.of nw.same)⟩,?_⟩;unfold mF;rw[e2,e]
   cases cb:Qn.pq.bt r.b r0.b with
   |true =>
    refine gY ⟨_,Z,⟨_,Z,p0,_,_,.int r0.m,Z,Z,cH.of hp0,Z,_,Z,p,_,_,.int r.m,Z,Z,cH.of hp,Z,_,_,Z,Z,_,Z,p,_,_,.int r.b,Z,Z,cH.of hp,Z,_,Z,p,_,_,.ref qs,Z,Z,cH.of hp,Z,(),λp' H' nw=>?_⟩⟩;exact fin p r qs as hp hq hs (by unfold zY;rw[cb];rfl) p' H' nw
   |false =>
    refine cX ⟨_,Z,⟨_,Z,p0,_,_,.int r0.m,Z,Z,cH.of hp0,Z,_,Z,p,_,_,.int r.m,Z,Z,cH.of hp,Z,_,_,Z,Z,_,Z,p0,_,_,.int r0.b,Z,Z,cH.of hp0,Z,_,Z,p0,_,_,.ref q0,Z,Z,cH.of hp0,Z,(),λp' H' nw=>?_⟩⟩;exact fin p0 r0 q0 as0 hp0 hq0 hs0 (by unfold zY;rw[cb];rfl) p' H' nw
 rintro σ' G ⟨v',r',o4,o5,rfl,sG,hr',e⟩;have lk:=aQ hT;refine⟨_,Z,_,Z,_,Z,t,a,qx st,O,Z,Z,(ha.keep (.of sG)).key,sG _ _ ht,(),λG' c=>?_⟩;have ts:qz G G':=λc' ys hc=>by
  rw[c.rest c' (λz=>by rw[z,sG _ _ ht]at hc;cases hc)];exact hc
 refine q _ G' (Sd.trans (.of sG) (.Ł c)) c.here ?_;rw[e];exact qN.keep ts (Yc (hT.keep (.of sG)) hr')
end
end K
namespace L2
open PySem.Calls PyProof.Rows
section
variable{X:Cx}
inductive a5T(x:V)(vs:List V)(H:Hp)(Q:VK):Prop
 |mk (l:Addr) (ns:List Int) (v:Int) (j:Nat) (_:x=.ref l) (_:vs=[.int v]) (_:H l=some (.lst (List.map V.int ns))) (_:ns[j]?=some v) (_:(∀m:Nat,m<j->ns[m]?≠some v)) (_:ns.length<=1000) (_:Q (.int (j:Int)) H)
def isV(v:Int):Value->Bool
 |.int a _=>a==v
 |_=>false
def zK:Vu X "list.index" a5T:=by
 intro Y s σ H x vs w us Q I rx rv h;obtain⟨l,ns,v,j,rfl,rfl,hH,hj,hno,hz,q⟩:=h;cases rx;obtain⟨u,rfl,ru⟩:=vals1 rv;obtain⟨t,rfl⟩:=(show ∃t,u=Value.int v t from ru);obtain⟨z,bV,n,r,hl,e⟩:=I.Y9 hH;have hi:=ints_of r;have len:=hi.length;have at_:∀m (hm:m<bV.length),∃k tk,bV[m]=Value.int k tk/\ns[m]?=some k:=λm hm=>by
  have hm2:m<ns.length:=()
  obtain⟨tk,e⟩:=hi.get m ns[m] (bL hm2);grind
 have jl:j<bV.length:=()
 refine Je F.slot_list_index ⟨_,e,Z⟩ F.entry_list_index (F.args_list_index_2 _ _) (MeetsSeq.list_index l bV.toArray n (.int v t) (isV v) (λy hy=>?_) j () () ?_ λm hm hmj=>?_) ⟨e,?_⟩
 ·obtain⟨m,hm,em⟩:=oU (show y∈bV by grind);obtain⟨k,tk,e1,_⟩:=at_ m hm;rw[<-em,e1];exact MeetsSeq.EqGives.int k v tk t
 ·obtain⟨k,tk,e1,e2⟩:=at_ j jl;rw[hj]at e2;injection e2 with e2
  simp only[List.getElem_toArray];rw[e1,<-e2];exact Ox v
 ·have hm':m<bV.length:=by simpa using hm
  obtain⟨k,tk,e1,e2⟩:=at_ m hm';simp only[List.getElem_toArray];rw[e1];show(k==v)=false;grind
 ·exact⟨.int j,H,I.tok _,⟨_,Z⟩,q⟩
end
end L2
namespace K
open L2 Lw Bg
inductive b8 where
 |leaf
 |inn (v:Int)
 |tie (a b:Int)
 |out (v:Int)
 |join
deriving DecidableEq
variable{H:Hp}{K:aH}
def b8.vs:b8->List V
 |.leaf=>[.str "leaf"]
 |.inn v=>[.str "in",.int v]
 |.tie a b=>[.str "tie",.int a,.int b]
 |.out v=>[.str "out",.int v]
 |.join=>[.str "join"]
def b8.d:b8->PyData
 |.leaf=>.tuple [.str "leaf"]
 |.inn v=>.tuple [.str "in",.int v]
 |.tie a b=>.tuple [.str "tie",.int a,.int b]
 |.out v=>.tuple [.str "out",.int v]
 |.join=>.tuple [.str "join"]
def b8.word:b8->Str
 |.leaf=>"leaf"
 |.inn _=>"in"
 |.tie _ _=>"tie"
 |.out _=>"out"
 |.join=>"join"
def b8.need:b8->Nat
 |.leaf=>0
 |.join=>2
 |_=>1
def vh(K:aH)(H:Hp)(v:V)(s:b8):Prop:=∃p,v=.ref p/\cH K H p s.vs
def vh.same{H':Hp}{v:V}{s:b8}(e:aJ H H')(h:vh K H v s):vh K H' v s:=by
 obtain⟨p,rfl,h⟩:=h;exact⟨p,Z,e.wU h⟩
def vh.isD{v:V}{s:b8}(h:vh K H v s):K7 K H v s.d:=by
 obtain⟨p,rfl,h⟩:=h;cases s with
 |leaf=>exact .tup h (.cons (.str _) .nil)
 |inn v=>exact .tup h (.cons (.str _) (.cons (.int _) .nil))
 |tie a b=>exact .tup h (.cons (.str _) (.cons (.int _) (.cons (.int _) .nil)))
 |out v=>exact .tup h (.cons (.str _) (.cons (.int _) .nil))
 |join=>exact .tup h (.cons (.str _) .nil)
def ZR:iI Gh (.inr "leaf")=some (.int 0):=by decide
def a03:iI Gh (.inr "in")=some (.int 1):=by decide
def Ń:iI Gh (.inr "tie")=some (.int 1):=by decide
def ń:iI Gh (.inr "out")=some (.int 1):=by decide
def ZS:iI Gh (.inr "join")=some (.int 2):=by decide
def a04(s:b8):iI Gh (.inr s.word)=some (.int (s.need:Int)):=by
 cases s with
 |leaf=>exact ZR
 |inn v=>exact a03
 |tie a b=>exact Ń
 |out v=>exact ń
 |join=>exact ZS
def zL(s:b8):Tt s.vs ((0:Nat):Int)=some (.str s.word):=by cases s<;>rfl
def a3Q:∀x∈["leaf","in","tie","out","join"],PyData.strOk (Str.ofString x)=true:=by decide
def Yi(s:b8):s.d.canLay0=true:=by
 have h:=a3Q;cases s with
 |leaf=>simp[b8.d,PyData.canLay0,PyData.canLayAll0,h]
 |inn v=>simp[b8.d,PyData.canLay0,PyData.canLayAll0,h]
 |tie a b=>simp[b8.d,PyData.canLay0,PyData.canLayAll0,h]
 |out v=>simp[b8.d,PyData.canLay0,PyData.canLayAll0,h]
 |join=>simp[b8.d,PyData.canLay0,PyData.canLayAll0,h]
def MJ(s:b8):s.d.depth<=1:=by cases s<;>simp[b8.d,PyData.depth,PyData.depthAll]
def Wd(s:b8):SeqAt.shaped s.d=true:=by
 unfold SeqAt.shaped;rw[Yi,Jb];exact bN (by have:=MJ s;omega)
def RW(ss:List b8):SeqAt.shaped (.list (ss.map b8.d))=true:=by
 unfold SeqAt.shaped;rw[PyData.canLay0,Hs Yi,PyData.depth,Jb];exact bN (by have:=vJ MJ ss;omega)
def b8.tag:b8->Nat
 |.leaf=>0
 |.inn _=>1
 |.tie _ _=>2
 |.out _=>3
 |.join=>4
def b8.args:b8->List Int
 |.leaf=>[]
 |.inn v=>[v]
 |.tie a b=>[a,b]
 |.out v=>[v]
 |.join=>[]
def Gn(i:Nat):Str:=Str.ofString (["leaf","in","tie","out","join"].getD i "")
def JN:∀i,i<5->∀j,j<5->(Gn i==Gn j)=decide (i=j):=by decide
def JQ(s:b8):s.word=Gn s.tag:=by cases s<;>rfl
def Wf(s:b8):s.tag<5:=by cases s<;>simp[b8.tag]
def a2r(s:b8):s.d=.tuple (.str s.word::s.args.map PyData.int):=by cases s<;>rfl
def a3R{s t:b8}(h:s.tag=t.tag)(a:s.args=t.args):s=t:=by
 cases s<;>cases t<;>simp_all[b8.tag,b8.args]
theorem Gp:∀xs ys:List Int,PyData.eqvAll (xs.map PyData.int) (ys.map PyData.int)=decide (xs=ys)
 | [],[]=>by simp[PyData.eqvAll]
 | [],_::_=>by simp[PyData.eqvAll]
 |_::_,[]=>by simp[PyData.eqvAll]
 |x::xs,y::ys=>by
  rw[b7,b7,PyData.eqvAll,Gp xs ys,PyData.eqv,tX]
  simp
def Yj(s t:b8):PyData.eqv s.d t.d=decide (s=t):=by
 rw[a2r,a2r,PyData.eqv,PyData.eqvAll,Gp,PyData.eqv,JQ,JQ,JN _ (Wf s) _ (Wf t),tX,qK,fj,fj,fj];exact⟨λh=>a3R h.1 h.2,λh=>by grind⟩
def a05(ss:List b8)(t:b8):(ss.map b8.d).any (λe=>PyData.eqv e t.d)=decide (t∈ss):=by
 rw[List.any_map,tX,List.any_eq_true,fj];constructor
 ·rintro⟨x,hx,e⟩;have:PyData.eqv x.d t.d=true:=e;rw[Yj]at this;grind
 ·exact λh=>⟨t,h,by show PyData.eqv t.d t.d=true;rw[Yj];grind⟩
abbrev fX:Stmt:=top 25
def vP:bB ["question","old","step","bag","spot"] Gi (aD fX):={}
section
variable{P:Program}{w:World}{mg:Str->Option Value}{base:Heap}{κ:Type} [DecidableEq κ]
def Wg(pq:PQ κ)(s:dU)(jY:b8)(B:List Int):List (dU×Int):=match jY with
 |.inn v=>pq.inn s (B.idxOf v) v.toNat
 |.out v=>pq.out s (B.idxOf v) v.toNat
 |.tie a b=>pq.tie s (B.idxOf a) (B.idxOf b) (a,b)
 |_=>[]
def HJ(Qn:HD P w K mg base κ)(jY:b8)(B:List Int)(m:Nat):Prop:=match jY with
 |.inn v=>(∃n:Nat,v=(n:Int))/\v∈B/\B.length=m+1/\m<=4
 |.out v=>(∃n:Nat,v=(n:Int)/\Qn.Pl n)/\v∈B/\B.length=m/\m<=5
 |.tie a b=>a∈B/\b∈B/\a≠b/\B.length=m/\m<=5/\Qn.Ti (a,b)
 |_=>False
def yF{B:List Int}{v:Int}(h:v∈B):B[B.idxOf v]?=some v/\∀m:Nat,m<B.idxOf v->B[m]?≠some v:=by
 induction B with
 |nil=>cases h
 |cons x B ih =>
  grind
def wY{B:List Int}{v:Int}(h:v∈B):B.idxOf v<B.length:=Nx h
def a3S{B:List Int}{a b:Int}(h:a∈B)(h':b∈B)(n:a≠b):B.idxOf a≠B.idxOf b:=λe=>by
 have h1:=(yF h).1;have h2:=(yF h').1;rw[e,h2]at h1;exact n (dO h1).symm
inductive Ņ(Qn:HD P w K mg base κ)(vs:List V)(H:Hp)(Q:VK)(u_3:XK):Prop
 |mk (d a ps pb:Addr) (s:dU) (jY:b8) (B:List Int) (m:Nat) (_:vs=[.ref d,.ref a,.ref ps,.ref pb]) (_:Qn.At H d) (_:uG H a s) (_:Qn.pq.Ok m s) (_:cH K H ps jY.vs) (_:H pb=some (.lst (B.map V.int))) (_:HJ Qn jY B m) (_:∀r xs H',aJ H H'->H' r=some (.lst xs)->Paired (χ H') xs (Wg Qn.pq s jY B)->Q (.ref r) H')
def Fo(Qn:HD P w K mg base κ)(vQ:Dn K mg "states_behind" fX Gi):aZ P w K mg base fV 9 vQ.f vQ.fd Gi (Ņ Qn):=by
 have Wh:aZ P w K mg base fV 8 _ _ _ _:=Qn.vN.ok;have Le:aZ P w K mg base fV 8 _ _ _ _:=Qn.oH.ok;have ņ:aZ P w K mg base fV 8 _ _ _ _:=Qn.Fl.ok;exists vQ.F.ok vP;obtain⟨d,a,ps,pb,st,jY,B,m,rfl,hD,ha,ok,hs,hb,fit,q⟩:=h;obtain⟨dx,fs,hd,nom,_⟩:=Qn.ins hD;refine⟨_,(aG (bD 4 vP.nd (nU (K:=K) Z lE NQ NT zK (pv 3) (J (aO (aK (K:=K) Z) (pv 2) aA) ao)))
   (aG (dH (aL iR (aO (aK (K:=K) Z) (pv 2) aA) gA)
   (aF (bA (wN (pv 0) Qn.cl Qn.vN.mt Wh hr Qn.vN.b .nil bW (J (pv 1) (J (pv 4) (J (aO (aK (K:=K) Z) (pv 2) aA) ao))))))
   bK)
   (aG (dH (aL iR (aO (aK (K:=K) Z) (pv 2) aA) gA)
   (aF (bA (wN (pv 0) Qn.cl Qn.oH.mt Le hr Qn.oH.b .nil bW (J (pv 1) (J (pv 4) (J (aO (aK (K:=K) Z) (pv 2) aA) ao))))))
   bK)
   (aF (bA (wN (pv 0) Qn.cl Qn.Fl.mt ņ hr Qn.Fl.b .nil bW (J (pv 1) (J (pv 4) (J (nU (K:=K) Z lE NQ NT zK (pv 3) (J (aO (aK (K:=K) Z) (pv 2) aA) ao)) (J (jD (Hv (K:=K) Z) (pv 2) (lW aA) lV) ao)))))))))),?_⟩
 have lB:B.length<=1000:=by
  cases jY<;>first|exact fit.elim|skip
  ·obtain⟨_,_,e,l⟩:=fit;omega
  ·obtain⟨_,_,_,e,l,_⟩:=fit;omega
  ·obtain⟨_,_,e,l⟩:=fit;omega
 have fld:∀(mth:Str),mth∈(JD:List Str)->fs.lookup mth=none:=nom;cases jY with
 |leaf=>exact fit.elim
 |join=>exact fit.elim
 |inn v =>
  obtain⟨⟨n,rfl⟩,hv,el,m4⟩:=fit;have ix:=yF hv;refine⟨_,Z,.inl ⟨Z,_,bI.of hb⟩,_,Z,ps,_,_,_,Z,Z,hs,Z,pb,B,_,_,Z,Z,hb,ix.1,ix.2,lB,⟨_,Z,ps,_,_,_,Z,Z,hs,Z,Z,_,Z,gY ⟨_,Z,d,dx,fs,Z,hd,fld _ (),_,Z,_,Z,_,Z,ps,_,_,_,Z,Z,hs,Z,⟨d,a,m,_,n,st,Z,hD,ha,ok,m4,?_,λr xs H' s' h1 h2=>q r xs H' s' h1 h2⟩⟩⟩⟩;grind
 |out v =>
  obtain⟨⟨n,rfl,pn⟩,hv,el,m5⟩:=fit;have ix:=yF hv;refine⟨_,Z,.inl ⟨Z,_,bI.of hb⟩,_,Z,ps,_,_,_,Z,Z,hs,Z,pb,B,_,_,Z,Z,hb,ix.1,ix.2,lB,⟨_,Z,ps,_,_,_,Z,Z,hs,Z,Z,_,Z,cX ⟨_,Z,ps,_,_,_,Z,Z,hs,Z,Z,_,Z,gY ⟨_,Z,d,dx,fs,Z,hd,fld _ (),_,Z,_,Z,_,Z,ps,_,_,_,Z,Z,hs,Z,⟨d,a,m,_,n,st,Z,hD,ha,ok,m5,?_,pn,λr xs H' s' h1 h2=>q r xs H' s' h1 h2⟩⟩⟩⟩⟩;grind
 |tie x y =>
  obtain⟨hx,hy,ne,el,m5,ti⟩:=fit;have ix:=yF hx;have iy:=yF hy;refine⟨_,Z,.inl ⟨Z,_,bI.of hb⟩,_,Z,ps,_,_,_,Z,Z,hs,Z,pb,B,_,_,Z,Z,hb,ix.1,ix.2,lB,⟨_,Z,ps,_,_,_,Z,Z,hs,Z,Z,_,Z,cX ⟨_,Z,ps,_,_,_,Z,Z,hs,Z,Z,_,Z,cX ⟨_,Z,d,dx,fs,Z,hd,fld _ (),_,Z,_,Z,_,Z,.inl ⟨Z,_,bI.of hb⟩,_,Z,ps,_,_,_,Z,Z,hs,Z,pb,B,_,_,Z,Z,hb,iy.1,iy.2,lB,_,Z,?_⟩⟩⟩⟩;refine⟨_,Z,ps,_,Z,hs,(λz=>absurd z.1 (show ¬(1:Nat)=0 by decide)),λpt H1 n1=>?_⟩;have s1:=n1.same;refine⟨d,a,pt,m,_,_,(x,y),st,Z,Qn.keep (λc o _ _ e=>s1 c o e) hD,ha.keep (.of s1),ok,m5,?_,?_,a3S hx hy ne,ti,n1.here,λr xs H' s' h1 h2=>q r xs H' (s1.trans s') h1 h2⟩
  ·grind
  grind
end
abbrev jQ:Stmt:=top 24
def mX:bB ["question","table","source","step","bag","old","row","state","amount"] JF (aD jQ):={}
section
variable{P:Program}{w:World}{mg:Str->Option Value}{base:Heap}{κ:Type} [DecidableEq κ]
def Nd(H H':Hp):Prop:=∀c o,(∀O,o≠.dT O)->(∀φ,o≠.ext φ)->H c=some o->H' c=some o
def Nd.trans{H' Tv:Hp}(a:Nd H H')(b:Nd H' Tv):Nd H Tv:=λc o n m h=>b c o n m (a c o n m h)
def Nd.of{H':Hp}(a:aJ H H'):Nd H H':=λc o _ _ h=>a c o h
def Nd.sd{t:Addr}{H':Hp}{O:List (List Key×V)}(a:Sd t H H')(h:H t=some (.dT O)):Nd H H':=λc o n _ e=>a c o (λz=>by grind) e
def Nd.jq{t:Addr}{O:List (List Key×V)}{u:HO}(h:H t=some (.dT O)):Nd H (cM H t u):=λc o n _ e=>by
 rw[aU (λz=>by grind)];exact e
def Nd.Ql{t:Addr}{ob:Obj}{O:List (List Key×V)}{u:HO}(h:H t=some (.jq ob (.dT O)))(c:Addr)(ys:List V)(e:H c=some (.tup ys)):cM H t u c=some (.tup ys):=by
 rw[aU (λz=>by grind)];exact e
def Nd.tups{H':Hp}(a:Nd H H'):qz H H':=λc ys e=>a c _ (λ_ z=>by cases z) (λ_ z=>by cases z) e
def Nd.lst{H H':Hp}(a:Nd H H'){c:Addr}{ys:List V}(e:H c=some (.lst ys)):H' c=some (.lst ys):=a c _ (λ_ z=>by cases z) (λ_ z=>by cases z) e
def Nd.sqt{H':Hp}(a:Nd H H'){c:Addr}{ys:List V}(e:cH K H c ys):cH K H' c ys:=by
 rcases e with(e|⟨o,e⟩)|e
 ·exact .inl (.inl (a c _ (λ_ z=>by cases z) (λ_ z=>by cases z) e))
 ·exact .inl (.inr ⟨o,a c _ (λ_ z=>by cases z) (λ_ z=>by cases z) e⟩)
 ·exact .inr e
def Nd.at(Qn:HD P w K mg base κ){H':Hp}{d:Addr}(a:Nd H H')(h:Qn.At H d):Qn.At H' d:=Qn.keep a h
def pQ(bt:Int->Int->Bool)(old:dU)(row:gC):List (dU×Int)->cG->cG
 | [],T=>T
 |x::l,T=>pQ bt old row l (mF bt T x.1 ⟨row.m,row.b+x.2,[old]⟩)
def nY(pq:PQ κ)(jY:b8)(B:List Int):cG->cG->cG
 | [],T=>T
 |x::S,T=>nY pq jY B S (pQ pq.bt x.1 x.2 (Wg pq x.1 jY B) T)
theorem Dj(bt:Int->Int->Bool)(old:dU)(row:gC)(x:dU×Int):∀(l:List (dU×Int)) (T:cG),pQ bt old row (l++[x]) T=mF bt (pQ bt old row l T) x.1 ⟨row.m,row.b+x.2,[old]⟩
 | [],_=>rfl
 |_::l,T=>Dj bt old row x l _
theorem JR(pq:PQ κ)(jY:b8)(B:List Int)(x:dU×gC):∀(S T:cG),nY pq jY B (S++[x]) T=pQ pq.bt x.1 x.2 (Wg pq x.1 jY B) (nY pq jY B S T)
 | [],_=>rfl
 |_::S,T=>JR pq jY B x S _
def a3T(pq:PQ κ)(jY:b8)(B:List Int)(S T:cG):Prop:=∀i,i<=S.length->∀x,S[i]?=some x->∀j,j<=(Wg pq x.1 jY B).length->(pQ pq.bt x.1 x.2 ((Wg pq x.1 jY B).take j) (nY pq jY B (S.take i) T)).length<=4000
inductive Ň(Qn:HD P w K mg base κ)(vs:List V)(H:Hp)(Q:VK)(u_3:XK):Prop
 |mk (d t sc ps pb:Addr) (O nZ:List (List Key×V)) (T S:cG) (jY:b8) (B:List Int) (m:Nat) (_:vs=[.ref d,.ref t,.ref sc,.ref ps,.ref pb]) (_:Qn.At H d) (_:H t=some (.dT O)) (_:qN H O T) (_:H sc=some (.dT nZ)) (_:qN H nZ S) (_:t≠sc) (_:(∀x∈S,Qn.pq.Ok m x.1)) (_:cH K H ps jY.vs) (_:H pb=some (.lst (B.map V.int))) (_:HJ Qn jY B m) (_:S.length<=4000) (_:a3T Qn.pq jY B S T) (_:∀kvs' H',Sd t H H'->H' t=some (.dT kvs')->qN H' kvs' (nY Qn.pq jY B S T)->Q .non H')
def opq{P:Nat->St->Hp->Prop}{R:Prop}(h:∀Z97:Nat->St->Hp->Prop,(∀i σ H,P i σ H->Z97 i σ H)->(∀i σ H,Z97 i σ H->P i σ H)->R):R:=h P (λ_ _ _ z=>z) (λ_ _ _ z=>z)
def Lf(Qn:HD P w K mg base κ)(vQ:Dn K mg "states_behind" fX Gi)(qO:Dn K mg "note" vg Df)(xO:Dn K mg "fill_along" jQ JF):aZ P w K mg base fV 10 xO.f xO.fd JF (Ň Qn):=by
 have a7l:aZ P w K mg base fV 9 _ _ _ _:=Fo Qn vQ;have a3U:aZ P w K mg base fV 9 _ _ _ _:=Yh Qn qO;exists xO.F.ok mX;obtain⟨d,t,sc,ps,pb,O,nZ,T,S,jY,B,m,rfl,hD,ht,hT,hsc,hS,nts,tG,hs,hb,fit,lS,lim,q⟩:=h;refine⟨_,(aF (yE (kh jJ Z (vL (tD (K:=K) Z Ak Ij Ik vK (pv 2))) (jN (K:=K) (n:=2) Z Z (cu (aP 5 mX.nd) (cu (aP 6 mX.nd) jz)))
   (aF (kh jJ Z (fM (K:=K) Z (aY a7l hr Z vQ.m vQ.F.kp vQ.b .nil bW (J (pv 0) (J (pv 5) (J (pv 3) (J (pv 4) ao)))))) (jN (K:=K) (n:=2) Z Z (cu (aP 7 mX.nd) (cu (aP 8 mX.nd) jz)))
   (aF (gW (aY a3U hr Z qO.m qO.F.kp qO.b .nil bW (J (pv 0) (J (pv 1) (J (pv 7) (J (bf (J (aO (aK (K:=K) Z) (pv 6) aA) (J (bQ fL (aO (aK (K:=K) Z) (pv 6) aA) (pv 8)) (J (bf (J (pv 5) ao)) ao)))) ao)))))))))))),?_⟩
 refine⟨_,Z,.inr (.inr (.inl ⟨Z,.inr ⟨_,hsc⟩⟩)),sc,nZ,Z,Z,hsc,λpv H1 n1=>⟨pv,sc,nZ,Z,n1.here,n1.same _ _ hsc,λo as pk=>?_⟩⟩;have h1s:=n1.same _ _ hsc;have Wi:Nd H (cM H1 sc (.jq o (.dT nZ))):=(Nd.of n1.same).trans (Nd.jq h1s);have g0s:cM H1 sc (.jq o (.dT nZ)) sc=some (.jq o (.dT nZ)):=cV;have Tw:cM H1 sc (.jq o (.dT nZ)) t=some (.dT O):=by rw[aU nts];exact n1.same _ _ ht
 have Yk:∀c,c≠sc->cM H1 sc (.jq o (.dT nZ)) c=H1 c:=λc hc=>aU hc;generalize cM H1 sc (.jq o (.dT nZ))=G0 at pk Wi g0s Tw Yk ⊢;have lk:=aQ hS;have la:=aQ pk;refine opq (P:=λi σ G=>(∃o5 o6 o7 o8,σ=[some (.ref d),some (.ref t),some (.ref sc),some (.ref ps),some (.ref pb),o5,o6,o7,o8])/\Sd t G0 G/\∃kt,G t=some (.dT kt)/\qN G kt (nY Qn.pq jY B (S.take i) T)) λZ97 ji ij=>wX Z97 (ji _ _ _ ⟨⟨_,_,_,_,Z⟩,.refl,O,Tw,hT.keep Wi.tups⟩) (λi σ G _ h=>(ij _ _ _ h).2.1 _ _ (Ne.symm nts) g0s) ?_ ?_
 ·intro i a0 v0 σ G p G1 ha0 hv0 h nw;obtain⟨⟨o5,o6,o7,o8,rfl⟩,sG,kt,hkt,Wj⟩:=ij _ _ _ h;obtain⟨kv,hkv,hak⟩:=bw pk ha0;obtain⟨⟨old,row⟩,hsx,ek,hrow⟩:=bw hS hkv;have ek:kv.1=qx old:=ek;have hv0':v0=kv.2:=by
   rw[gk,hkv]at hv0;exact(dO hv0).symm
  subst hv0';rw[ek]at hak;have nG:Nd G0 G:=.sd sG Tw;have n1':aJ G G1:=nw.same;have nG1:Nd G0 G1:=nG.trans (.of n1');have nH1:Nd H G1:=Wi.trans nG1;have hold:uG G1 a0 old:=uG.MF (nG1.tups _ _ hak);have zZ:Lb G1 kv.2 row:=hrow.keep nH1.tups;have mem:(old,row)∈S:=jf hsx;refine⟨p,_,Z,cH.of nw.here,Z,_,_,Z,_,_,Z,Z,⟨_,Z,_,Z,_,Z,_,Z,d,a0,ps,pb,old,jY,B,m,Z,nH1.at Qn hD,hold,tG _ mem,nH1.sqt hs,nH1.lst hb,fit,λr xs G2 s2 hr2 pm=>⟨r,Z,⟨_,bI.of hr2⟩,?_⟩⟩⟩;have hT2:qN G2 kt (nY Qn.pq jY B (S.take i) T):=Wj.keep (qz.of (n1'.trans s2));have ht2:G2 t=some (.dT kt):=(n1'.trans s2) _ _ hkt;have lpm:=aQ pm;have a7m:=lim i (d7 (fY.mp hsx).1) _ hsx;have hTi:S.take (i+1)=S.take i++[(old,row)]:=by rw[mK,hsx];rfl
  refine opq (P:=λj σ G'=>(∃o7 o8,σ=[some (.ref d),some (.ref t),some (.ref sc),some (.ref ps),some (.ref pb),some (.ref a0),some kv.2,o7,o8])/\Sd t G2 G'/\∃ZV,G' t=some (.dT ZV)/\qN G' ZV (pQ Qn.pq.bt old row ((Wg Qn.pq old jY B).take j) (nY Qn.pq jY B (S.take i) T))) λJ2 ji2 ij2=>Cj (K:=K) (a:=r) (xs:=xs) J2 (ji2 _ _ _ ⟨⟨_,_,Z⟩,.refl,kt,ht2,hT2⟩) (λj σ G' _ h=>bI.of ((Nd.sd (ij2 _ _ _ h).2.1 ht2).lst hr2)) ?_ ?_
  ·intro j x σ G' hx h2;obtain⟨⟨o7,o8,rfl⟩,sG',ZV,Wk,hT'⟩:=ij2 _ _ _ h2;obtain⟨⟨st',am⟩,hmx,pp,aa,rfl,Eb,haa⟩:=bw pm hx;have n2':Nd G2 G':=.sd sG' ht2;have nHG:Nd H G':=nH1.trans ((Nd.of s2).trans n2');obtain⟨pr,qr,asr,ZW,hpr,hqr,hsr⟩:=zZ.keep ((qz.of s2).trans n2'.tups);refine⟨pp,_,Z,cH.of (n2'.tups _ _ Eb),Z,_,_,Z,_,_,Z,Z,?_⟩;rw[ZW];refine⟨_,Z,_,Z,_,Z,_,Z,pr,_,_,.int row.m,Z,Z,cH.of hpr,Z,_,Z,pr,_,_,.int row.b,Z,Z,cH.of hpr,Z,_,Z,_,_,Z,Z,_,Z,(),λq1 G3 m3=>⟨(),λq2 G4 m4=>?_⟩⟩;have Ý:=m3.same.trans m4.same;have a5U:uG G4 a0 old:=hold.keep ((qz.of s2).trans (n2'.tups.trans (.of Ý)));refine⟨d,t,aa,.ref q2,ZV,_,st',⟨row.m,row.b+am,[old]⟩,Z,(nHG.trans (.of Ý)).at Qn hD,Ý _ _ Wk,hT'.keep (.of Ý),?_,haa.keep (n2'.tups.trans (.of Ý)),⟨q2,q1,[a0],Z,m4.here,m4.same _ _ m3.here,.cons a5U .nil⟩,λň G5 s5 h5 hT5=>?_⟩
   ·exact a7m j (d7 (fY.mp hmx).1)
   ·refine ji2 _ _ _ ⟨⟨some (.ref aa),some (.int am),by rw[ZW];rfl⟩,sG'.trans ((Sd.of Ý).trans s5),ň,h5,?_⟩;rw[mK,hmx];show qN G5 ň (pQ Qn.pq.bt old row ((Wg Qn.pq old jY B).take j++[(st',am)]) _);rw[Dj];exact hT5
  ·intro σ G' h2;obtain⟨⟨o7,o8,rfl⟩,sG',ZV,Wk,hT'⟩:=ij2 _ _ _ h2;refine ji _ _ _ ⟨⟨_,_,_,_,Z⟩,sG.trans ((Sd.of (n1'.trans s2)).trans sG'),ZV,Wk,?_⟩;rw[hTi,JR];rw[lpm,iV]at hT';exact hT'
 ·intro σ G h;obtain⟨⟨o5,o6,o7,o8,rfl⟩,sG,kt,hkt,Wj⟩:=ij _ _ _ h;have gs:=sG _ _ (Ne.symm nts) g0s;refine⟨sc,o,nZ,nZ,hsc,gs,?_⟩;refine q kt _ (λc u hc e=>?_) (by rw[aU nts];exact hkt) ?_
  ·by_cases z:c=sc
   ·rw[z]at e ⊢;rw[cV,<-e,hsc]
   ·rw[aU z];refine sG c u hc ?_;rw[Yk c z];exact n1.same _ _ e
  ·rw[show S.take as.length=S by rw[la,lk,iV]]at Wj;exact Wj.keep (Nd.Ql gs)
end
end K
namespace L2
open PyProof.Rows Bg
section
variable{X:Cx}{tg:Expr}
def a3V(td:TE):TI:=λσ H R=>td σ H λx H1=>∃d O,x=.ref d/\H1 d=some (.dT O)/\
 ∀o as,Paired (λa (kv:List Key×V)=>(cM H1 d (.jq o (.dT O))) a=some (.tup (kv.1.map kV))) as O->R (Itp o d (.dT O) as) (cM H1 d (.jq o (.dT O)))
def Ŋ{l:Expr}{td:TE}(hl:PE X l td):PI X tg l (a3V td):=by
 intro Y s σ H R I h;refine jx (hl Y s σ H _ I h) λv s1 ⟨x,H1,I1,r1,q1⟩=>?_;obtain⟨d,O,e,hd,q⟩:=q1;subst e;cases r1;obtain⟨_,hs,xs,rel,o,es,ep,ho,hx,hdt,hes,_,_⟩:=yC I1.hok hd;have I2:bC X Y σ (cM H1 d (.jq o (.dT O))) s1:=I1.V6 hd (λ_ z=>by cases z) (λ_ z=>by cases z) (λ_ z=>by cases z) (I1.XR hd λ_ _ z=>by cases z) ⟨ho,I1.hok d _ hd⟩;have ek:es.toList.map (·.key)=(xs.map λx=>x.2.1).map Value.ref:=by rw[hes,mL,mL];rfl
 have pk:Paired (λa (kv:List Key×V)=>(cM H1 d (.jq o (.dT O))) a=some (.tup (kv.1.map kV))) (xs.map λx=>x.2.1) O:=by
  have go:∀{ks:List (List Key×V)}{ys:List (List Key×Addr×Value)},KT H1 ks ys->Paired (λa (kv:List Key×V)=>(cM H1 d (.jq o (.dT O))) a=some (.tup (kv.1.map kV))) (ys.map λx=>x.2.1) ks:=λ{ks ys} r=>by
   induction r with
   |nil=>exact .nil
   | @cons kv y _ _ a _ ih =>
    refine .cons ?_ ih;have nb:y.2.1≠d:=λz=>by grind
    rw[aU nb];exact a.2.1
  exact go rel
 refine Dq.Dc hs ho hx hdt ⟨s1⁻¹,[s1⁻¹],_,_,_,Z,I2.kept (t':=s1.toks) λb o e=>bx _ e,V7 d _ hdt ek,bT _ Z,λb hb=>?_,q o _ pk⟩;have e:b=s1⁻¹:=()
 subst e;exact I2.Gv (aN _) (I2.hok.fresh (aN _))
end
def ZX{o:Obj}{d:Addr}{u:HO}{as:List Addr}{g:TG}{tb:TS}{D:Ends}{σ:St}{H:Hp}(Pv:Nat->St->Hp->Prop)(h0:Pv 0 σ H)(hl:∀i σ H,i<=as.length->Pv i σ H->H d=some (.jq o u))
  (hs:∀(i:Nat) a σ H,as[i]?=some a->Pv i σ H->g (.ref a) σ H λσ2 H2=>tb { D with nx:=Pv (i+1),ct:=Pv (i+1),bk:=D.nx} σ2 H2) (hd:∀σ H,Pv as.length σ H->D.nx σ H) :
  ∃W:Nat->Nat->St->Hp->Prop,(∃m,W 0 m σ H)/\∀i m σ H,W i m σ H->
   ((Itp o d u as).stop i H/\D.nx σ H)\/((Itp o d u as).go i H/\∃N:St->Hp->Prop,(∀σ' H',N σ' H'->∃m',m'<m/\W (i+1) m' σ' H')/\∀x H',(Itp o d u as).Û i H x H'->g x σ H' λσ2 H2=>tb { D with nx:=N,ct:=N,bk:=D.nx} σ2 H2):=by
 refine⟨λi m σ H=>m=as.length-i/\i<=as.length/\Pv i σ H,⟨as.length,by simp,dG _,h0⟩,?_⟩;rintro i m σ H ⟨rfl,hi,p⟩;have q1:=hl i σ H hi p;by_cases hlt:i<as.length
 ·refine .inr ⟨⟨q1,hlt⟩,Pv (i+1),λσ' H' p'=>⟨as.length-(i+1),(),Z,hlt,p'⟩,λx H' y=>?_⟩;obtain⟨eH,ex⟩:=y;grind
 ·have e:i=as.length:=()
  subst e;exact .inl ⟨⟨q1,Z⟩,hd σ H p⟩
section
variable{X:Cx}
def ŋ(i j:Int):Prop:=i.natAbs<2^4000/\j.natAbs<2^4000
def MK{k:Int}(h:k.natAbs<2^4000):Builtin.Int.intBits k<=4000:=by
 unfold Builtin.Int.intBits;split
 ·grind
 ·have:k.natAbs.log2<4000:=by
   rcases Nat.eq_zero_or_pos k.natAbs with h0|hp
   ·rw[h0];decide
   ·exact(Nat.log2_lt (gG hp)).mpr h
  omega
def ŋ.ok{i j:Int}(h:ŋ i j):IntMulOk i j:=by
 have h1:=MK h.1;have h2:=MK h.2;have:Builtin.Int.intTooBig ((Builtin.Int.intBits i:Int)+(Builtin.Int.intBits j:Int))=false:=by
  unfold Builtin.Int.intTooBig;refine cZ ?_;have e:((bitsLine:Nat):Int)=134217728:=()
  grind
 unfold IntMulOk;grind
def a06:sS X (binaryOp .Mult) (rI ŋ λi j=>.int (i*j)):=opI λ_ _ _ _ _ _ _ hc q=>mul_int q hc.ok
end
end L2
namespace K
open L2 Lw Bg
variable{P:Program}{w:World}{mg:Str->Option Value}{base:Heap}{ex:List Addr}{a pa:Addr}{i:Nat}{F G:Hp}
section
variable{κ:Type} [DecidableEq κ]
def Aa(bt:Int->Int->Bool)(gh bR:dU)(row more:gC):List dU->cG->cG
 | [],T=>T
 |x::l,T=>Aa bt gh bR row more l (mF bt T x ⟨row.m*more.m,row.b+more.b,[gh,bR]⟩)
def Ab(pq:PQ κ)(gh:dU)(row:gC):cG->cG->cG
 | [],T=>T
 |x::A,T=>Ab pq gh row A (Aa pq.bt gh x.1 row x.2 (pq.jn gh x.1) T)
def qP(pq:PQ κ)(gh:dU)(A:cG):cG:=A.filter λx=>decide (pq.sh x.1=pq.sh gh)
def xG(pq:PQ κ)(A:cG):cG->cG->cG
 | [],T=>T
 |x::S,T=>xG pq A S (Ab pq x.1 x.2 (qP pq x.1 A) T)
theorem JS(bt:Int->Int->Bool)(gh bR:dU)(row more:gC)(x:dU):∀(l:List dU) (T:cG),Aa bt gh bR row more (l++[x]) T=mF bt (Aa bt gh bR row more l T) x ⟨row.m*more.m,row.b+more.b,[gh,bR]⟩
 | [],_=>rfl
 |_::l,T=>JS bt gh bR row more x l _
theorem JT(pq:PQ κ)(gh:dU)(row:gC)(x:dU×gC):∀(A T:cG),Ab pq gh row (A++[x]) T=Aa pq.bt gh x.1 row x.2 (pq.jn gh x.1) (Ab pq gh row A T)
 | [],_=>rfl
 |_::A,T=>JT pq gh row x A _
theorem join_snoc(pq:PQ κ)(A:cG)(x:dU×gC):∀(S T:cG),xG pq A (S++[x]) T=Ab pq x.1 x.2 (qP pq x.1 A) (xG pq A S T)
 | [],_=>rfl
 |_::S,T=>join_snoc pq A x S _
def a3W(pq:PQ κ)(A S T:cG):Prop:=∀i x,S[i]?=some x->∀j y,(qP pq x.1 A)[j]?=some y->∀l,l<=(pq.jn x.1 y.1).length->(Aa pq.bt x.1 y.1 x.2 y.2 ((pq.jn x.1 y.1).take l) (Ab pq x.1 x.2 ((qP pq x.1 A).take j) (xG pq A (S.take i) T))).length<=4000
def ur(pq:PQ κ)(L:List (Addr×dU))(k:List κ):List Addr:=(L.filter λx=>decide (pq.sh x.2=k)).map (·.1)
def MN(pq:PQ κ)(L:List (Addr×dU))(x:Addr×dU)(k:List κ):ur pq (L++[x]) k=if pq.sh x.2=k then ur pq L k++[x.1]else ur pq L k:=by
 unfold ur;grind
def Fp{O:List (List κ×V)}{k0:List κ}{v:V}(h:iI O k0=none)(k:List κ):iI (O++[(k0,v)]) k=if k0=k then some v else iI O k:=by
 unfold iI at h ⊢;rw[Ur];by_cases c:k0=k
 ·subst c;rw[aB rfl];cases e:O.find? λkv=>decide (kv.1=k0)with
  |none=>rw[Option.none_or,uX (by exact bN Z)];rfl
  |some y=>rw[e]at h;cases h
 ·rw[aq c,qI (by exact λz=>c (gn z))];simp
end
section
variable{κ:Type} [DecidableEq κ]
structure Dl(knd:KeyKind P w κ)(pq:PQ κ)(F G:Hp)(pa:Addr)(L:List (Addr×dU))(O:List (List κ×V)):Prop where
 dx:DX knd G pa O
 len:O.length<=L.length
 val:∀k,(iI O k=none/\ur pq L k=[])\/∃l,iI O k=some (.ref l)/\G l=some (.lst ((ur pq L k).map V.ref))
 inj:∀k k' l,iI O k=some (.ref l)->iI O k'=some (.ref l)->k=k'
 fr:∀k l,iI O k=some (.ref l)->F l=none
def Ō(pq:PQ κ)(L:List (Addr×dU))(k:List κ):(ur pq L k).length<=L.length:=by
 unfold ur;grind
def RX{knd:KeyKind P w κ}{H H':Hp}{O:List (List κ×V)}(e:∀c o,(∀ys,o≠.lst ys)->H c=some o->H' c=some o)(h:DX knd H a O):DX knd H' a O:=by
 obtain⟨z,h|⟨xs,h1,h2⟩⟩:=h
 ·exact⟨z,.inl ⟨h.1,e _ _ (λ_ z=>by cases z) h.2⟩⟩
 ·exact⟨z,.inr ⟨xs,e _ _ (λ_ z=>by cases z) h1,Paired.cB h2 λ_ _ ⟨a,b,c⟩=>⟨a,b.same λ_ _ q=>e _ _ (λ_ z=>by cases z) q,c⟩⟩⟩
def Qo{knd:KeyKind P w κ}{H:Hp}{O:List (List κ×V)}(h:DX knd H a O){ys:List V}:H a≠some (.lst ys):=λe=>by
 obtain⟨z,h|⟨xs,h1,h2⟩⟩:=h
 ·grind
 grind
def Dl.same{knd:KeyKind P w κ}{pq:PQ κ}{F G G':Hp}{pa:Addr}{L:List (Addr×dU)}{O:List (List κ×V)}(I:Dl knd pq F G pa L O)(s:aJ G G'):Dl knd pq F G' pa L O :=
 ⟨I.dx.same s,I.len,λk=>(I.val k).imp id λ⟨l,h1,h2⟩=>⟨l,h1,s _ _ h2⟩,I.inj,I.fr⟩
def a07{knd:KeyKind P w κ}{pq:PQ κ}{G3:Hp}{L:List (Addr×dU)}{O:List (List κ×V)}{l a0:Addr}{st:dU}(I:Dl knd pq F G pa L O)(hv:iI O (pq.sh st)=some (.ref l))(c:uP G l (.lst ((ur pq L (pq.sh st)).map V.ref++[.ref a0])) G3)(hl:∃ys,G l=some (.lst ys)):Dl knd pq F G3 pa (L++[(a0,st)]) O:=by
 obtain⟨ys,hl⟩:=hl;refine⟨RX (λb o nl e=>?_) I.dx,by rw[cC];have:=I.len;omega,λk=>?_,I.inj,I.fr⟩
 ·rw[c.rest b (λz=>by grind)];exact e
 ·rw[MN];by_cases ck:pq.sh st=k
  ·subst ck;rw[aB rfl];refine .inr ⟨l,hv,?_⟩;rw[c.here,eO];rfl
  ·rw[aq ck];refine(I.val k).imp id λ⟨l',h1,h2⟩=>⟨l',h1,?_⟩;rw[c.rest l' (λz=>ck (I.inj _ _ l hv ()))];exact h2
def a08{knd:KeyKind P w κ}{pq:PQ κ}{H' G3:Hp}{L:List (Addr×dU)}{O:List (List κ×V)}{l0 a0:Addr}{st:dU}(I:Dl knd pq F G pa L O)(hv:iI O (pq.sh st)=none)(hl:G l0=some (.lst []))(fl:F l0=none)(nl:∀k l,iI O k=some (.ref l)->l≠l0)(hh:∀c,c≠pa->H' c=G c)(dx:DX knd H' pa (O++[(pq.sh st,.ref l0)]))(c:uP H' l0 (.lst ([]++[.ref a0])) G3):Dl knd pq F G3 pa (L++[(a0,st)]) (O++[(pq.sh st,.ref l0)]):=by
 have npa:l0≠pa:=λz=>Qo I.dx (ys:=[]) ();have hl':H' l0=some (.lst []):=()
 have lk0:ur pq L (pq.sh st)=[]:=by
  rcases I.val (pq.sh st)with h|⟨l,h,_⟩
  ·exact h.2
  grind
 refine⟨RX (λb o nl e=>?_) dx,by rw[cC,cC];have:=I.len;simp;omega,λk=>?_,λk k' l h h'=>?_,λk l h=>?_⟩
 ·rw[c.rest b (λz=>by grind)];exact e
 ·rw[MN,Fp hv];by_cases ck:pq.sh st=k
  ·subst ck;rw[aB Z,aB Z,lk0];exact .inr ⟨l0,Z,c.here⟩
  ·rw[aq ck,aq ck];refine(I.val k).imp id λ⟨l',h1,h2⟩=>⟨l',h1,?_⟩;rw[c.rest l' (nl k l' h1),hh l' (λz=>Qo I.dx (by rw[<-z];exact h2))];exact h2
 ·rw[Fp hv]at h h';by_cases ck:pq.sh st=k
  ·grind
  ·by_cases ck':pq.sh st=k'
   ·grind
   ·rw[aq ck]at h;rw[aq ck']at h';exact I.inj _ _ _ h h'
 ·rw[Fp hv]at h;by_cases ck:pq.sh st=k
  ·grind
  ·rw[aq ck]at h;exact I.fr _ _ h
def Dl.Ql{knd:KeyKind P w κ}{pq:PQ κ}{G':Hp}{L:List (Addr×dU)}{O:List (List κ×V)}(I:Dl knd pq F G pa L O)(e:∀c o,(∀ob u,o≠.jq ob u)->G c=some o->G' c=some o):Dl knd pq F G' pa L O:=by
 refine⟨?_,I.len,λk=>(I.val k).imp id λ⟨l,h1,h2⟩=>⟨l,h1,e _ _ (λ_ _ z=>by cases z) h2⟩,I.inj,I.fr⟩;obtain⟨z,h|⟨xs,h1,h2⟩⟩:=I.dx
 ·exact⟨z,.inl ⟨h.1,e _ _ (λ_ _ z=>by cases z) h.2⟩⟩
 ·exact⟨z,.inr ⟨xs,e _ _ (λ_ _ z=>by cases z) h1,Paired.cB h2 λ_ _ ⟨a,b,c⟩=>⟨a,b.same λ_ _ q=>e _ _ (λ_ _ z=>by cases z) q,c⟩⟩⟩
def RZ{R:Addr->dU×gC->Prop}(pq:PQ κ)(k:List κ){as:List Addr}{A:cG}(h:Paired R as A):Paired R (ur pq (as.zip (A.map (·.1))) k) (A.filter λx=>decide (pq.sh x.1=k)):=by
 induction h with
 |nil=>exact .nil
 | @cons a x as A h t ih =>
  unfold ur at ih ⊢;rw[b7,List.zip_cons_cons];by_cases c:pq.sh x.1=k
  ·rw[T4 (),T4 (),b7];exact .cons h ih
  grind
theorem JV:∀{A:cG}{x:dU×gC},(A.map (·.1)).Nodup->x∈A->uH A x.1=some x.2
 |y::A,x,nd,h=>by
  unfold uH
  rw[b7,iW]at nd
  rcases bU.mp h with rfl|h
  ·grind
  ·rw[qI ()]
   exact JV nd.2 h
end
abbrev iB:Stmt:=top 26
def gJ:bB ["question","table","source","another","alike","other","one","row","more","state"] JG (aD iB):={}
section
variable{K:aH}{κ:Type} [DecidableEq κ]
def JW(T:cG):Prop:=∀x∈T,x.2.m.natAbs<2^4000
inductive a09(Qn:HD P w K mg base κ)(vs:List V)(H:Hp)(Q:VK)(u_3:XK):Prop
 |mk (d t sc an:Addr) (O nZ vR:List (List Key×V)) (T S A:cG) (m:Nat) (_:vs=[.ref d,.ref t,.ref sc,.ref an]) (_:Qn.At H d) (_:H t=some (.dT O)) (_:qN H O T) (_:H sc=some (.dT nZ)) (_:qN H nZ S) (_:H an=some (.dT vR)) (_:qN H vR A) (_:t≠sc) (_:t≠an) (_:sc≠an) (_:(∀x∈S,Qn.pq.Ok m x.1)) (_:(∀x∈A,Qn.pq.Ok m x.1)) (_:m<=5) (_:(A.map (·.1)).Nodup) (_:S.length<=4000) (_:A.length<=900) (_:JW S) (_:JW A) (_:a3W Qn.pq A S T) (_:∀kvs' H',Sd t H H'->H' t=some (.dT kvs')->qN H' kvs' (xG Qn.pq A S T)->Q .non H')
def JX(Qn:HD P w K mg base κ)(qO:Dn K mg "note" vg Df)(wZ:Dn K mg "fill_joined" iB JG):aZ P w K mg base fV 10 wZ.f wZ.fd JG (a09 Qn):=by
 have JZ:aZ P w K mg base fV 9 _ _ _ _:=Qn.rK.ok.mono ();have Wl:aZ P w K mg base fV 9 _ _ _ _:=Qn.vM.ok.mono ();have a3U:aZ P w K mg base fV 9 _ _ _ _:=Yh Qn qO;refine wZ.F.ok gJ λdD A' outer s H vs Q E hr h=>?_;obtain⟨d,t,sc,an,O,nZ,vR,T,S,A,m,rfl,hD,ht,hT,hsc,hS,han,hA,nts,nta,nsa,tG,okA,m5,ndA,lS,lA,smS,smA,lim,q⟩:=h;have hw1:(A'.deeper (PyProof.Rows.envOfC "fill_joined" (aD iB) s⁻¹ wZ.f dD)).units+1<cLine:=by have:=hr.un;omega
 refine⟨_,(aG (bD 4 gJ.nd Jx)
   (aG (yE (kh jJ Z (Ŋ (pv 3)) (aP 5 gJ.nd)
   (aF (gW (nU (K:=K) Z lE PySem.F.slot_list_append PySem.F.type_list_append jO (Ļ Qn.knd PySem.F.plainAttrs_dict PySem.F.slot_dict_setdefault PySem.F.type_dict_setdefault (JC Qn.knd hw1) (pv 4) (J (wN (pv 0) Qn.cl Qn.rK.mt JZ hr Qn.rK.b .nil bW (J (pv 5) ao)) (J (cI ao) ao))) (J (pv 5) ao))))))
   (aF (yE (kh jJ Z (vL (tD (K:=K) Z Ak Ij Ik vK (pv 2))) (jN (K:=K) (n:=2) Z Z (cu (aP 6 gJ.nd) (cu (aP 7 gJ.nd) jz)))
   (aF (kh jJ Z (fM (K:=K) Z (Ļ Qn.knd Ak N8 PySem.F.type_dict_get (a0Y Qn.knd hw1) (pv 4) (J (wN (pv 0) Qn.cl Qn.rK.mt JZ hr Qn.rK.b .nil bW (J (pv 6) ao)) (J (cI ao) ao)))) (aP 5 gJ.nd)
   (aG (bD 8 gJ.nd (Hx hw1 (pv 3) (pv 5) λ_ _=>rfl))
   (aF (kh jJ Z (fM (K:=K) Z (wN (pv 0) Qn.cl Qn.vM.mt Wl hr Qn.vM.b .nil bW (J (pv 6) (J (pv 5) ao)))) (aP 9 gJ.nd)
   (aF (gW (aY a3U hr Z qO.m qO.F.kp qO.b .nil bW (J (pv 0) (J (pv 1) (J (pv 9) (J (bf (J (bQ a06 (aO (aK (K:=K) Z) (pv 7) aA) (aO (aK (K:=K) Z) (pv 8) aA)) (J (bQ fL (aO (aK (K:=K) Z) (pv 7) aA) (aO (aK (K:=K) Z) (pv 8) aA)) (J (bf (J (pv 6) (J (pv 5) ao))) ao)))) ao))))))))))))))))),?_⟩
 refine λpa hpa=>?_;have n1:=gZ.oM (o:=.dT []) hpa;generalize cM H pa (.dT [])=H1 at n1 ⊢;have h1a:=n1.same _ _ han;refine⟨_,Z,an,vR,Z,h1a,λo as pk=>?_⟩;have npa:pa≠an:=λz=>by have:=n1.fresh;rw[z,han]at this;cases this
 have npt:pa≠t:=λz=>by have:=n1.fresh;rw[z,ht]at this;cases this
 have nps:pa≠sc:=λz=>by have:=n1.fresh;rw[z,hsc]at this;cases this
 have Wi:Nd H (cM H1 an (.jq o (.dT vR))):=(Nd.of n1.same).trans (Nd.jq h1a);have g0a:cM H1 an (.jq o (.dT vR)) an=some (.jq o (.dT vR)):=cV;have g0p:cM H1 an (.jq o (.dT vR)) pa=some (.dT []):=by rw[aU npa];exact n1.here
 have Yk:∀c,c≠an->cM H1 an (.jq o (.dT vR)) c=H1 c:=λc hc=>aU hc;generalize cM H1 an (.jq o (.dT vR))=G0 at pk Wi g0a g0p Yk ⊢;have lk:=aQ hA;have la:=aQ pk;obtain⟨L,hL⟩:∃L:List (Addr×dU),L=as.zip (A.map (·.1)):=⟨_,Z⟩;have lL:L.length=as.length:=by rw[hL,List.length_zip,aM];omega
 have atL:∀i a0,as[i]?=some a0->∃st more,A[i]?=some (st,more)/\L[i]?=some (a0,st)/\G0 a0=some (.tup ((qx st).map kV)):=λi a0 ha0=>by
  obtain⟨kv,hkv,hak⟩:=bw pk ha0;obtain⟨⟨st,more⟩,hsx,ek,hrow⟩:=bw hA hkv;have ek:kv.1=qx st:=ek;rw[ek]at hak;refine⟨st,more,hsx,?_,hak⟩;rw[hL,List.getElem?_zip_eq_some];exact⟨ha0,by rw[gk,hsx];rfl⟩
 refine ZX (λi σ G=>(∃o5,σ=[some (.ref d),some (.ref t),some (.ref sc),some (.ref an),some (.ref pa),o5,none,none,none,none])/\Sd pa G0 G/\∃ka,Dl Qn.knd Qn.pq G0 G pa (L.take i) ka) ⟨⟨_,Z⟩,.refl,[],⟨DX.new g0p,by simp,λk=>.inl ⟨Z,Z⟩,λk k' l h=>(by cases h),λk l h=>(by cases h)⟩⟩ (λi σ G _ ⟨_,s,_⟩=>s _ _ (Ne.symm npa) g0a) ?_ ?_
 ·rintro i a0 σ G ha0 ⟨⟨o5,rfl⟩,sG,ka,hK⟩;obtain⟨st,more,hAi,hLi,hak⟩:=atL i a0 ha0;have nG:Nd G0 G:=.sd sG g0p;have nHG:Nd H G:=Wi.trans nG;have hDG:=nHG.at Qn hD;obtain⟨dx',fs,hd,nom,_⟩:=Qn.ins hDG;have hst:uG G a0 st:=uG.MF (nG.tups _ _ hak);have hTi:L.take (i+1)=L.take i++[(a0,st)]:=by rw[mK,hLi];rfl
  have li:(L.take i).length<=900:=by rw[fZ];omega
  refine⟨_,Z,⟨pa,ka,Z,hK.dx⟩,_,Z,d,dx',fs,Z,hd,nom _ (),_,Z,d,a0,m,st,Z,hDG,hst,okA _ (jf hAi),m5,λb G1 s1 hk=>⟨(),λl0 G2 n2=>?_⟩⟩;have s2:=s1.trans n2.same;have Z0:=hK.same s2;have lk0:=hK.len;refine⟨pa,b,Qn.pq.sh st,ka,.ref l0,Z,Z,hk.same λ_ _ z=>n2.same _ _ z,Z0.dx,(),λy hy=>?_,λhn H' hh dxn=>?_⟩
  ·rcases Z0.val (Qn.pq.sh st)with h|⟨l,h1,h2⟩
   ·rw[h.1]at hy;cases hy
   ·rw[h1]at hy;cases hy;refine⟨.inl ⟨Z,_,bI.of h2⟩,_,Z,l,_,_,Z,Z,h2,?_,λG3 c3=>?_⟩
    ·rw[aM];have:=Ō Qn.pq (L.take i) (Qn.pq.sh st);omega
    ·refine⟨⟨_,Z⟩,λc u hc e=>?_,ka,by rw[hTi];exact a07 Z0 h1 c3 ⟨_,h2⟩⟩;rw[c3.rest c (λz=>by have:=Z0.fr _ _ h1;rw[<-z,e]at this;cases this)];exact s2 _ _ (sG c u hc e)
  ·have npl:l0≠pa:=λz=>Qo Z0.dx (ys:=[]) (by rw[<-z];exact n2.here);have hl0:H' l0=some (.lst []):=by rw[hh l0 npl];exact n2.here
   refine⟨.inl ⟨Z,_,bI.of hl0⟩,_,Z,l0,[],_,Z,Z,hl0,(),λG3 c3=>?_⟩;have fl:G0 l0=none:=by
    cases e:G0 l0 with
    |none=>rfl
    |some u =>
     have h1:=s1 _ _ (sG l0 u npl e);have h2:=n2.fresh;rw[h1]at h2;cases h2
   refine⟨⟨_,Z⟩,λc u hc e=>?_,_,by
    rw[hTi];refine a08 Z0 hn n2.here fl (λk l h z=>?_) hh dxn c3;rcases hK.val k with h'|⟨l',h1,h2⟩
    ·rw[h'.1]at h;cases h
    ·rw[h1]at h;cases h;have h3:=s1 _ _ h2;have h4:=n2.fresh;rw[<-z,h3]at h4;cases h4⟩
   rw[c3.rest c (λz=>by rw[z,fl]at e;cases e),hh c hc];exact s2 _ _ (sG c u hc e)
 rintro σ G ⟨⟨o5,rfl⟩,sG,ka,hK⟩;have ga:=sG _ _ (Ne.symm npa) g0a;refine⟨an,o,vR,vR,h1a,ga,?_⟩;have sF:aJ H (cM G an (.dT vR)):=λc u e=>by
  have ncp:c≠pa:=λz=>by rw[z,n1.fresh]at e;cases e
  by_cases z:c=an
  ·rw[z]at e ⊢;rw[cV,<-e,han]
  ·rw[aU z];refine sG c u ncp ?_;rw[Yk c z];exact n1.same _ _ e
 rw[show L.take as.length=L by rw[<-lL,iV]]at hK;have hKF:Dl Qn.knd Qn.pq G0 (cM G an (.dT vR)) pa L ka:=hK.Ql λc u nf e=>by
  rw[aU (λz=>by rw[z,ga]at e;exact nf _ _ (dO e).symm)];exact e
 have pkF:Paired (λa (x:dU×gC)=>uG (cM G an (.dT vR)) a x.1) as A:=by
  have go:∀{as:List Addr}{ks:List (List Key×V)}{B:cG},Paired (λa (kv:List Key×V)=>G0 a=some (.tup (kv.1.map kV))) as ks->qN H ks B->Paired (λa (x:dU×gC)=>uG (cM G an (.dT vR)) a x.1) as B:=λ{as ks B} p=>by
   induction p generalizing B with
   |nil=>intro h;cases h;exact .nil
   | @cons a kv as ks h1 _ ih =>
    intro h;cases h with
    | @cons _ tr _ B' h2 t2 =>
     refine .cons ?_ (ih t2);have e:kv.1=qx tr.1:=h2.1;rw[e]at h1;exact uG.MF (Nd.Ql ga _ _ ((Nd.sd sG g0p).tups _ _ h1))
  exact go pk hA
 generalize cM G an (.dT vR)=F at sF hKF pkF ⊢;have a1a:=sF _ _ hsc;refine⟨_,Z,.inr (.inr (.inl ⟨Z,.inr ⟨_,a1a⟩⟩)),sc,nZ,Z,Z,a1a,λpv H2 n2=>⟨pv,sc,nZ,Z,n2.here,n2.same _ _ a1a,λo2 as2 pk2=>?_⟩⟩;have s2:=sF.trans n2.same;have h2s:=s2 _ _ hsc;have Zv:Nd H (cM H2 sc (.jq o2 (.dT nZ))):=(Nd.of s2).trans (Nd.jq h2s);have f0s:cM H2 sc (.jq o2 (.dT nZ)) sc=some (.jq o2 (.dT nZ)):=cV;have f0t:cM H2 sc (.jq o2 (.dT nZ)) t=some (.dT O):=by rw[aU nts];exact s2 _ _ ht
 have f0a:cM H2 sc (.jq o2 (.dT nZ)) an=some (.dT vR):=by rw[aU (Ne.symm nsa)];exact s2 _ _ han
 have f0r:∀c,c≠sc->cM H2 sc (.jq o2 (.dT nZ)) c=H2 c:=λc hc=>aU hc;have Z0:Dl Qn.knd Qn.pq G0 (cM H2 sc (.jq o2 (.dT nZ))) pa L ka:=by
  have h:=hKF.same n2.same;refine⟨?_,h.len,λk=>(h.val k).imp id λ⟨l,h1,h2⟩=>⟨l,h1,?_⟩,h.inj,h.fr⟩
  ·obtain⟨z,hh|⟨xs,h1,h2⟩⟩:=h.dx
   ·refine⟨z,.inl ⟨hh.1,?_⟩⟩;rw[aU nps];exact hh.2
   ·refine⟨z,.inr ⟨xs,?_,Paired.cB h2 λ_ _ ⟨a,b,c⟩=>⟨a,b.same λc' ys q=>?_,c⟩⟩⟩
    ·rw[aU nps];exact h1
    ·rw[aU (λz=>by rw[z,h2s]at q;cases q)];exact q
  ·rw[aU (λz=>by rw[z,h2s]at h2;cases h2)];exact h2
 have a5V:Paired (λa (x:dU×gC)=>uG (cM H2 sc (.jq o2 (.dT nZ))) a x.1) as A:=Paired.cB pkF λa x h=>by
  show cM H2 sc (.jq o2 (.dT nZ)) a=_;have h':H2 a=some (.tup (x.1.map V.int)):=n2.same _ _ h;rw[aU (λz=>by rw[z,h2s]at h';cases h')];exact h'
 generalize cM H2 sc (.jq o2 (.dT nZ))=F0 at pk2 Zv f0s f0t f0a f0r Z0 a5V ⊢;have lk2:=aQ hS;have la2:=aQ pk2;refine wX (λi σ G=>(∃o5 o6 o7 o8 o9,σ=[some (.ref d),some (.ref t),some (.ref sc),some (.ref an),some (.ref pa),o5,o6,o7,o8,o9])/\Sd t F0 G/\∃kt,G t=some (.dT kt)/\qN G kt (xG Qn.pq A (S.take i) T)) ⟨⟨_,_,_,_,_,Z⟩,.refl,O,f0t,hT.keep Zv.tups⟩ (λi σ G _ ⟨_,s,_⟩=>s _ _ (Ne.symm nts) f0s) ?_ ?_
 ·rintro i a0 v0 σ G p G1 ha0 hv0 ⟨⟨o5,o6,o7,o8,o9,rfl⟩,sG,kt,hkt,Wj⟩ nw;obtain⟨kv,hkv,hak⟩:=bw pk2 ha0;obtain⟨⟨gh,row⟩,hsx,ek,hrow⟩:=bw hS hkv;have ek:kv.1=qx gh:=ek;have hv0':v0=kv.2:=by
   rw[gk,hkv]at hv0;exact(dO hv0).symm
  subst hv0';rw[ek]at hak;have nG:Nd F0 G:=.sd sG f0t;have s1:aJ G G1:=nw.same;have nG1:Nd F0 G1:=nG.trans (.of s1);have nH1:Nd H G1:=Zv.trans nG1;have hone:uG G1 a0 gh:=uG.MF (nG1.tups _ _ hak);have zZ:Lb G1 kv.2 row:=hrow.keep nH1.tups;have mem:(gh,row)∈S:=jf hsx;have hDG:=nH1.at Qn hD;obtain⟨dx',fs,hd,nom,_⟩:=Qn.ins hDG;have hKG:Dl Qn.knd Qn.pq G0 G1 pa L ka:=by
   have ex:∀c u,c≠t->F0 c=some u->G1 c=some u:=λc u hc e=>s1 _ _ (sG c u hc e);refine⟨?_,Z0.len,λk=>(Z0.val k).imp id λ⟨l,h1,h2⟩=>⟨l,h1,ex _ _ (λz=>by rw[z,f0t]at h2;cases h2) h2⟩,Z0.inj,Z0.fr⟩;obtain⟨z,hh|⟨xs,h1,h2⟩⟩:=Z0.dx
   ·exact⟨z,.inl ⟨hh.1,ex _ _ npt hh.2⟩⟩
   ·exact⟨z,.inr ⟨xs,ex _ _ npt h1,Paired.cB h2 λ_ _ ⟨a,b,c⟩=>⟨a,b.same λ_ _ q=>nG1.tups _ _ q,c⟩⟩⟩
  refine⟨p,_,Z,cH.of nw.here,Z,_,_,Z,_,_,Z,Z,?_⟩;refine⟨_,Z,⟨pa,ka,Z,hKG.dx⟩,_,Z,d,dx',fs,Z,hd,nom _ (),_,Z,d,a0,m,gh,Z,hDG,hone,tG _ mem,m5,λb G2 t2 hk=>⟨(),λl0 G3 n3=>?_⟩⟩;have t3:=t2.trans n3.same;have hK3:=hKG.same t3;refine⟨pa,b,Qn.pq.sh gh,ka,.ref l0,Z,Z,hk.same λ_ _ z=>n3.same _ _ z,hK3.dx,?_⟩;obtain⟨l,el,hl⟩:∃l,(iI ka (Qn.pq.sh gh)).getD (.ref l0)=.ref l/\G3 l=some (.lst ((ur Qn.pq L (Qn.pq.sh gh)).map V.ref)):=by
   rcases hK3.val (Qn.pq.sh gh)with⟨h1,h2⟩|⟨l,h1,h2⟩
   ·rw[h1,h2];exact⟨l0,Z,n3.here⟩
   ·rw[h1];exact⟨l,Z,h2⟩
  rw[el];have nG3:Nd F0 G3:=nG1.trans (.of t3);have pO:Paired (λa (x:dU×gC)=>uG G3 a x.1) (ur Qn.pq L (Qn.pq.sh gh)) (qP Qn.pq gh A):=by
   rw[hL];exact Paired.cB (RZ Qn.pq (Qn.pq.sh gh) a5V) λ_ _ h=>h.keep nG3.tups
  have lO:=aQ pO;have st3:aJ G G3:=s1.trans t3;have hT3:qN G3 kt (xG Qn.pq A (S.take i) T):=Wj.keep (.of st3);have ht3:G3 t=some (.dT kt):=st3 _ _ hkt;have hTi:S.take (i+1)=S.take i++[(gh,row)]:=by rw[mK,hsx];rfl
  refine⟨l,Z,⟨_,bI.of hl⟩,Cj (K:=K) (a:=l) (xs:=(ur Qn.pq L (Qn.pq.sh gh)).map V.ref) (λj σ G'=>(∃o5 o8 o9,σ=[some (.ref d),some (.ref t),some (.ref sc),some (.ref an),some (.ref pa),o5,some (.ref a0),some kv.2,o8,o9])/\Sd t G3 G'/\∃ZV,G' t=some (.dT ZV)/\qN G' ZV (Ab Qn.pq gh row ((qP Qn.pq gh A).take j) (xG Qn.pq A (S.take i) T))) ⟨⟨_,_,_,Z⟩,.refl,kt,ht3,hT3⟩ (λj σ G' _ ⟨_,s,_⟩=>bI.of ((Nd.sd s ht3).lst hl)) ?_ ?_⟩
  ·rintro j x σ G' hx ⟨⟨o5,o8,o9,rfl⟩,sG',ZV,Wk,hT'⟩;rw[gk]at hx;obtain⟨b0,hb0,rfl⟩:=oR.mp hx;obtain⟨⟨bR,more⟩,hox,hob⟩:=bw pO hb0;have a7n:(bR,more)∈qP Qn.pq gh A:=jf hox;obtain⟨a1b,shE⟩:=lH.mp a7n;have shE:Qn.pq.sh bR=Qn.pq.sh gh:=gn shE;have n3':Nd G3 G':=.sd sG' ht3;have nHG:Nd H G':=Zv.trans (nG3.trans n3');have hoG:uG G' b0 bR:=hob.keep n3'.tups;have a2s:uG G' a0 gh:=hone.keep ((qz.of t3).trans n3'.tups);have haG:G' an=some (.dT vR):=sG' _ _ (Ne.symm nta) (st3 _ _ (sG _ _ (Ne.symm nta) f0a));obtain⟨vm,em,hmore⟩:∃vm,iI vR (qx bR)=some vm/\Lb H vm more:=by
    rcases HB bR hA with⟨_,e2⟩|⟨v,r,e1,e2,h⟩
    ·rw[JV ndA a1b]at e2;cases e2
    ·rw[JV ndA a1b]at e2;cases e2;exact⟨v,e1,h⟩
   have a5W:=nHG.at Qn hD;obtain⟨dx2,fs2,hd2,a7o,_⟩:=Qn.ins a5W;refine⟨_,Z,_,Z,an,vm,Z,by rw[<-em];exact Jw.t haG hoG.key,?_⟩;refine⟨_,Z,d,dx2,fs2,Z,hd2,a7o _ (),_,Z,_,Z,d,a0,b0,m,gh,bR,Z,a5W,a2s,hoG,tG _ mem,okA _ a1b,m5,shE.symm,λr xs G4 s4 hr4 pm=>⟨r,Z,⟨_,bI.of hr4⟩,?_⟩⟩;have ht4:=s4 _ _ Wk;have hT4:=hT'.keep (qz.of s4);have lpm:=aQ pm;have a7p:=lim i _ hsx j _ hox;have hTj:(qP Qn.pq gh A).take (j+1)=(qP Qn.pq gh A).take j++[(bR,more)]:=by rw[mK,hox];rfl
   refine Cj (K:=K) (a:=r) (xs:=xs) (λe σ G5=>(∃o9,σ=[some (.ref d),some (.ref t),some (.ref sc),some (.ref an),some (.ref pa),some (.ref b0),some (.ref a0),some kv.2,some vm,o9])/\Sd t G4 G5/\∃ň,G5 t=some (.dT ň)/\qN G5 ň (Aa Qn.pq.bt gh bR row more ((Qn.pq.jn gh bR).take e) (Ab Qn.pq gh row ((qP Qn.pq gh A).take j) (xG Qn.pq A (S.take i) T)))) ⟨⟨_,Z⟩,.refl,ZV,ht4,hT4⟩ (λe σ G5 _ ⟨_,s,_⟩=>bI.of ((Nd.sd s ht4).lst hr4)) ?_ ?_
   ·rintro e x σ G5 hx ⟨⟨o9,rfl⟩,sG5,kt5,a3X,hT5⟩;obtain⟨st',hmx,aa,rfl,haa⟩:=bw pm hx;have n4':Nd G4 G5:=.sd sG5 ht4;have a5X:Nd H G5:=nHG.trans ((Nd.of s4).trans n4');have a3Y:Nd G' G5:=(Nd.of s4).trans n4';obtain⟨pr,qr,asr,ZW,hpr,hqr,hsr⟩:=zZ.keep ((qz.of t3).trans (n3'.tups.trans a3Y.tups));obtain⟨pm',qm,asm,a5Y,hpm,hqm,hsm⟩:=hmore.keep a5X.tups;rw[ZW,a5Y];refine⟨_,Z,_,Z,_,Z,_,Z,pr,_,_,.int row.m,Z,Z,cH.of hpr,Z,_,Z,pm',_,_,.int more.m,Z,Z,cH.of hpm,Z,_,_,Z,Z,⟨smS _ mem,smA _ a1b⟩,_,Z,pr,_,_,.int row.b,Z,Z,cH.of hpr,Z,_,Z,pm',_,_,.int more.b,Z,Z,cH.of hpm,Z,_,_,Z,Z,_,Z,_,Z,(),λq1 G6 m6=>⟨(),λq2 G7 m7=>?_⟩⟩;have s67:=m6.same.trans m7.same;refine⟨d,t,aa,.ref q2,kt5,_,st',⟨row.m*more.m,row.b+more.b,[gh,bR]⟩,Z,(a5X.trans (.of s67)).at Qn hD,s67 _ _ a3X,hT5.keep (.of s67),?_,haa.keep (n4'.tups.trans (.of s67)),⟨q2,q1,[a0,b0],Z,m7.here,m7.same _ _ m6.here,.cons (a2s.keep (a3Y.tups.trans (.of s67))) (.cons (hoG.keep (a3Y.tups.trans (.of s67))) .nil)⟩,λkt8 G8 s8 h8 hT8=>?_⟩
    ·exact a7p e (d7 (fY.mp hmx).1)
    ·refine⟨⟨_,Z⟩,sG5.trans ((Sd.of s67).trans s8),kt8,h8,?_⟩;rw[mK,hmx];show qN G8 kt8 (Aa Qn.pq.bt gh bR row more ((Qn.pq.jn gh bR).take e++[st']) _);rw[JS];exact hT8
   ·rintro σ G5 ⟨⟨o9,rfl⟩,sG5,kt5,a3X,hT5⟩;refine⟨⟨_,_,_,Z⟩,sG'.trans ((Sd.of s4).trans sG5),kt5,a3X,?_⟩;rw[hTj,JT];rw[lpm,iV]at hT5;exact hT5
  ·rintro σ G' ⟨⟨o5,o8,o9,rfl⟩,sG',ZV,Wk,hT'⟩;refine⟨⟨_,_,_,_,_,Z⟩,sG.trans ((Sd.of st3).trans sG'),ZV,Wk,?_⟩;rw[hTi,join_snoc];rw[aM,lO,iV]at hT';exact hT'
 ·rintro σ G ⟨⟨o5,o6,o7,o8,o9,rfl⟩,sG,kt,hkt,Wj⟩;have gs:=sG _ _ (Ne.symm nts) f0s;refine⟨sc,o2,nZ,nZ,a1a,gs,?_⟩;refine q kt _ (λc u hc e=>?_) (by rw[aU nts];exact hkt) ?_
  ·by_cases z:c=sc
   ·rw[z]at e ⊢;rw[cV,<-e,hsc]
   ·rw[aU z];refine sG c u hc ?_;rw[f0r c z];exact s2 _ _ e
  ·rw[show S.take as2.length=S by rw[la2,lk2,iV]]at Wj;exact Wj.keep (Nd.Ql gs)
end
abbrev pX:Stmt:=top 3
def ō:bB jT jT (aD pX):={}
def Z1{p q:Int->Bool}(h:∀v,0<=v->v<16->p v=q v):Q5 p=Q5 q:=by
 unfold Q5;refine List.filter_congr λv hv=>?_;grind
def gj(xs ys:List Int):List Int:=Q5 λv=>decide (v∈xs\/v∈ys)
inductive a1c(K:aH)(vs:List V)(H:Hp)(Q:VK)(u_3:XK):Prop
 |mk (a b:Addr) (xs ys:List Int) (_:vs=[.ref a,.ref b]) (_:bI K H a (xs.map V.int)) (_:bI K H b (ys.map V.int)) (_:Small xs) (_:Small ys) (_:∀H0 p H',aJ H H0->gZ H0 p (.lst ((gj xs ys).map V.int)) H'->Q (.ref p) H')
section
variable{K:aH}
def R0(B:Bl mg)(oN:Dn K mg "joint" pX jT):aZ P w K mg base fV 1 oN.f oN.fd jT (a1c K):=by
 exists oN.F.ok ō;obtain⟨a,b,xs,ys,rfl,hA,hB,sA,sB,q⟩:=h;refine⟨_,(aF (bA (bG (Qi (w:=w) Z Z) Z B.sorted () (J (bQ (a3E (w:=w) Z) (iC (Mu (K:=K) (w:=w) Z Z Z) Z B.set () (J (pv 0) ao)) (iC (Mu (K:=K) (w:=w) Z Z Z) Z B.set () (J (pv 1) ao))) ao)))),⟨_,Z,a,xs,Z,hA,sA,λp1 L1 H1 n1 m1=>⟨_,Z,b,ys,Z,n1.same.seq hB,sB,λp2 L2 H2 n2 m2=>⟨p1,p2,L1,L2,Z,Z,n2.ne n1.here,n2.same _ _ n1.here,n2.here,λp3 L H3 n3 m3=>⟨p3,false,L,Z,n3.here,λp4 H4 n4=>?_⟩⟩⟩⟩⟩;have e:(Q5 λv=>decide (v.toNat∈L))=gj xs ys:=Z1 λv h0 h1=>by
  grind
 rw[e]at n4;exact q H3 p4 H4 (n1.same.trans (n2.same.trans n3.same)) n4
end
abbrev oh:Stmt:=top 23
def oJ:bB ["steps","question","tops","feeds","told","step","bag","used","table"] JH (aD oh):={}
section
variable{K:aH}{κ:Type} [DecidableEq κ]
noncomputable def Lg(pq:PQ κ)(aR:List (List Int))(iY:List cG)(jY:b8)(bH:List Int)(used:List Nat):cG:=match used with
 | []=>[(pq.leaf,⟨1,0,[]⟩)]
 | [i]=>nY pq jY (gj bH (aR.getD i [])) (iY.getD i []) []
 |i::j::_=>xG pq (iY.getD j []) (iY.getD i []) []
def Lh(pq:PQ κ)(ss:List b8)(aR:List (List Int))(dM:List (List Nat)):Nat->List cG
 |0=>[]
 |k+1=>Lh pq ss aR dM k++[Lg pq aR (Lh pq ss aR dM k) (ss.getD k .leaf) (aR.getD k []) (dM.getD k [])]
theorem nA(pq:PQ κ)(ss:List b8)(aR:List (List Int))(dM:List (List Nat)):∀k,(Lh pq ss aR dM k).length=k
 |0=>rfl
 |k+1=>by
  show(_++[_]).length=_
  rw[cC,nA pq ss aR dM k]
  rfl
def Bk(Qn:HD P w K mg base κ)(aR:List (List Int))(iY:List cG)(jY:b8)(bH:List Int)(used:List Nat):Prop:=match used with
 | []=>True
 | [i]=>jY≠.join/\i<iY.length/\(∀x∈iY.getD i [],Qn.pq.Ok (aR.getD i []).length x.1)/\HJ Qn jY (gj bH (aR.getD i [])) (aR.getD i []).length/\(iY.getD i []).length<=4000/\a3T Qn.pq jY (gj bH (aR.getD i [])) (iY.getD i []) []
 | [i,j]=>jY=.join/\i<iY.length/\j<iY.length/\i≠j/\∃m≤5,(∀x∈iY.getD i [],Qn.pq.Ok m x.1)/\(∀x∈iY.getD j [],Qn.pq.Ok m x.1)/\((iY.getD j []).map (·.1)).Nodup/\(iY.getD i []).length<=4000/\(iY.getD j []).length<=900/\JW (iY.getD i [])/\JW (iY.getD j [])/\a3W Qn.pq (iY.getD j []) (iY.getD i []) []
 |_=>False
def Ŏ(H:Hp)(p:Addr)(T:cG):Prop:=∃O,H p=some (.dT O)/\qN H O T
inductive a3Z(Qn:HD P w K mg base κ)(vs:List V)(H:Hp)(Q:VK)(u_3:XK):Prop
 |mk (d a pt pf:Addr) (xs vt:List V) (fs:List Addr) (ss:List b8) (aR:List (List Int)) (dM:List (List Nat)) (_:vs=[.ref a,.ref d,.ref pt,.ref pf]) (_:Qn.At H d) (_:bI K H a xs) (_:Paired (vh K H) xs ss) (_:bI K H pt vt) (_:Paired (λv b=>∃p,v=.ref p/\bI K H p (b.map V.int)) vt aR) (_:bI K H pf (fs.map V.ref)) (_:Paired (λf us=>H f=some (.lst (us.map λj:Nat=>V.int (j:Int)))) fs dM) (_:ss.length<=900) (_:aR.length=ss.length) (_:dM.length=ss.length) (_:(∀b∈aR,Small b)) (_:(∀k,k<ss.length->Bk Qn aR (Lh Qn.pq ss aR dM k) (ss.getD k .leaf) (aR.getD k []) (dM.getD k []))) (_:∀pl ps H',aJ H H'->H pl=none->H' pl=some (.lst (ps.map V.ref))->Paired (Ŏ H') ps (Lh Qn.pq ss aR dM ss.length)->ps.Nodup->(∀p∈ps,H p=none)->Q (.ref pl) H')
def Z2{α:Type}{ps:List α}{j:Nat}{p:α}(nd:ps.Nodup)(h:ps[i]?=some p)(h':ps[j]?=some p):i=j:=by
 have h1:=fY.mp h;have h2:=fY.mp h';have pw:=í.mp nd;grind
def Z4:∀{s:b8},s.word=(Str.ofString "join")->s=.join
 |.leaf,h=>absurd (show Str.ofString "leaf" = Str.ofString "join" from h) ()
 |.inn _,h=>absurd (show Str.ofString "in" = Str.ofString "join" from h) ()
 |.tie _ _,h=>absurd (show Str.ofString "tie" = Str.ofString "join" from h) ()
 |.out _,h=>absurd (show Str.ofString "out" = Str.ofString "join" from h) ()
 |.join,_=>rfl
def a7q{P:St->Hp->Prop}{R:Prop}(h:∀Z97:St->Hp->Prop,(∀σ H,P σ H->Z97 σ H)->(∀σ H,Z97 σ H->P σ H)->R):R:=h P (λ_ _ z=>z) (λ_ _ z=>z)
def R3(B:Bl mg)(Bz:mg "zip" = none)(Qn:HD P w K mg base κ)(oN:Dn K mg "joint" pX jT)(vQ:Dn K mg "states_behind" fX Gi)(qO:Dn K mg "note" vg Df)(xO:Dn K mg "fill_along" jQ JF)(wZ:Dn K mg "fill_joined" iB JG)(yG:Dn K mg "going_up" oh JH):aZ P w K mg base fV 11 yG.f yG.fd JH (a3Z Qn):=by
 have a7r:aZ P w K mg base fV 10 _ _ _ _:=Lf Qn vQ qO xO;have a7s:aZ P w K mg base fV 10 _ _ _ _:=JX Qn qO wZ;have a4a:aZ P w K mg base fV 10 _ _ _ _:=(R0 B oN).mono ();exists yG.F.ok oJ;obtain⟨d,a,pt,pf,xs,vt,fs,ss,aR,dM,rfl,hD,hA,pA,hP,pP,hF,pF,l9,lt,lf,smT,ok,q⟩:=h;have hw1:(A.deeper (PyProof.Rows.envOfC "going_up" (aD oh) s⁻¹ yG.f dD)).units+1<cLine:=by have:=hr.un;omega
 refine⟨_,(aG (bD 4 oJ.nd (cI ao))
   (aG (kh jJ Z (a01 (K:=K) Z Z Bz (J (pv 0) (J (pv 2) (J (pv 3) ao)))) (jN (K:=K) (n:=3) Z Z (cu (aP 5 oJ.nd) (cu (aP 6 oJ.nd) (cu (aP 7 oJ.nd) jz))))
   (aG (bD 8 oJ.nd Jx)
   (kI (dH (qL (eN (K:=K) Z (pv 7) λ_=>rfl))
   (aF (wH (bf (J aA (J aA (J (bf ao) ao)))) (Ji (pv 8) (zJ (K:=K) Z (pv 1) Z) (Fi hw1))))
   (aF (dH (aL iR (aO (aK (K:=K) Z) (pv 5) aA) gA)
   (aF (gW (aY a7s hr Z wZ.m wZ.F.kp wZ.b .nil bW (J (pv 1) (J (pv 8) (J (aO (bF (K:=K) Z) (pv 4) (aO (bF (K:=K) Z) (pv 7) aA)) (J (aO (bF (K:=K) Z) (pv 4) (aO (bF (K:=K) Z) (pv 7) aA)) ao)))))))
   (aF (gW (aY a7r hr Z xO.m xO.F.kp xO.b .nil bW (J (pv 1) (J (pv 8) (J (aO (bF (K:=K) Z) (pv 4) (aO (bF (K:=K) Z) (pv 7) aA)) (J (pv 5) (J (aY a4a hr Z oN.m oN.F.kp oN.b .nil bW (J (pv 6) (J (aO (bF (K:=K) Z) (pv 2) (aO (bF (K:=K) Z) (pv 7) aA)) ao))) ao)))))))))))
   (aF (gW (nU (K:=K) Z lE PySem.F.slot_list_append PySem.F.type_list_append jO (pv 4) (J (pv 8) ao)))))))
   (aF (bA (pv 4))))),?_⟩
 refine⟨(),λpl H1 n1=>?_⟩;have s1:=n1.same;refine⟨_,Z,_,Z,_,Z,a,pt,pf,Z,⟨_,s1.seq hA⟩,⟨_,s1.seq hP⟩,⟨_,s1.seq hF⟩,?_⟩;have lx:xs.length=ss.length:=aQ pA;have lv:vt.length=ss.length:=(aQ pP).trans lt;have lfs:(fs.map V.ref).length=ss.length:=by rw[aM];exact(aQ pF).trans lf
 refine opq (P:=λk σ G=>(∃o5 o6 o7 o8,σ=[some (.ref a),some (.ref d),some (.ref pt),some (.ref pf),some (.ref pl),o5,o6,o7,o8])/\aJ H G/\∃ps:List Addr,G pl=some (.lst (ps.map V.ref))/\Paired (Ŏ G) ps (Lh Qn.pq ss aR dM k)/\ps.Nodup/\∀p∈ps,H p=none) λZ97 ji ij=>?_;refine Ŀ (K:=K) (xs:=xs) (ys:=vt) (zs:=fs.map V.ref) (lx.trans lv.symm) (lx.trans lfs.symm) Z97 (ji _ _ _ ⟨⟨_,_,_,_,Z⟩,s1,[],n1.here,.nil,Ba,λ_ h=>absurd h fu⟩) (λk σ G _ h=>have s:=(ij _ _ _ h).2.1;⟨s.seq hA,s.seq hP,s.seq hF⟩) ?_ ?_
 ·intro k x y z σ G p G1 hx hy hz hJ nw;obtain⟨⟨o5,o6,o7,o8,rfl⟩,sG,ps,hpl,pT,nd,fr⟩:=ij _ _ _ hJ;obtain⟨jY,a5Z,Wm,rfl,hst⟩:=bw pA hx;obtain⟨bH,a6a,pbg,rfl,hbg⟩:=bw pP hy;rw[gk]at hz;obtain⟨f,hf,rfl⟩:=oR.mp hz;obtain⟨used,a6b,hfu⟩:=bw pF hf;have kl:k<ss.length:=(fY.mp a5Z).1;have okk:=ok k kl;have eS:ss.getD k .leaf=jY:=by rw[fK,a5Z];rfl
  have eT:aR.getD k []=bH:=by rw[fK,a6a];rfl
  have eF:dM.getD k []=used:=by rw[fK,a6b];rfl
  have go:Lh Qn.pq ss aR dM (k+1)=Lh Qn.pq ss aR dM k++[Lg Qn.pq aR (Lh Qn.pq ss aR dM k) jY bH used]:=by
   show _++[_]=_;rw[eS,eT,eF]
  rw[eS,eT,eF]at okk;have lps:ps.length=k:=(aQ pT).trans (nA _ _ _ _ k);have sG1:aJ H G1:=sG.trans nw.same;refine⟨p,_,Z,cH.of nw.here,Z,_,_,Z,_,_,Z,_,_,Z,Z,λt ht0=>?_⟩;have n2:=gZ.oM (o:=.dT []) ht0;generalize cM G1 t (.dT [])=G2 at n2 ⊢;have sG2:aJ H G2:=sG1.trans n2.same;have g12:aJ G G2:=nw.same.trans n2.same;have ŏ:=g12 _ _ hpl;have pT2:Paired (Ŏ G2) ps (Lh Qn.pq ss aR dM k):=Paired.cB pT λ_ _ ⟨kv,h1,h2⟩=>⟨kv,g12 _ _ h1,h2.keep (.of g12)⟩;have hD2:Qn.At G2 d:=(Nd.of sG2).at Qn hD;have Ht:H t=none:=by
   cases e:H t with
   |none=>rfl
   |some u=>rw[sG1 _ _ e]at ht0;cases ht0
  have ntp:∀p∈ps,p≠t:=λp' hp' z=>by
   obtain⟨i,hi,e⟩:=oU hp';obtain⟨T',_,kv,h1,_⟩:=bw pT (fY.mpr ⟨hi,e⟩);have:=nw.same _ _ h1;rw[z,ht0]at this;cases this
  have npl:pl≠t:=λz=>by have:=nw.same _ _ hpl;rw[z,ht0]at this;cases this
  have atT:∀i,i<k->∃pi kv,ps[i]?=some pi/\G2 pi=some (.dT kv)/\qN G2 kv ((Lh Qn.pq ss aR dM k).getD i [])/\pi≠t:=λi hi=>by
   have hi':i<ps.length:=()
   obtain⟨T',hT',kv,h1,h2⟩:=bw pT2 (bL hi');refine⟨ps[i],kv,bL hi',h1,?_,ntp _ (oV hi')⟩;rw[fK,hT'];exact h2
  have ixT:∀(i:Nat) (pi:Addr),ps[i]?=some pi->Tt (ps.map V.ref) (i:Int)=some (.ref pi):=λi pi h=>by
   have hi:=(fY.mp h).1;exact cA (by rw[gk,h];rfl)
  refine a7q (P:=λσ' G'=>σ'=[some (.ref a),some (.ref d),some (.ref pt),some (.ref pf),some (.ref pl),some (.ref Wm),some (.ref pbg),some (.ref f),some (.ref t)]/\Sd t G2 G'/\∃kt,G' t=some (.dT kt)/\qN G' kt (Lg Qn.pq aR (Lh Qn.pq ss aR dM k) jY bH used)) λJ2 ji2 ij2=>⟨J2,?_,?_⟩
  ·have hf2:=sG2 _ _ hfu;rcases used with _|⟨i,_|⟨j,_|⟨e,rest⟩⟩⟩
   ·refine⟨_,Z,false,.inl ⟨_,bI.of hf2,Z⟩,gY ?_⟩;obtain⟨dx',fs',hd,_,⟨al,hal,hlf⟩,_⟩:=Qn.ins hD2;refine⟨(),λp3 G3 m3=>⟨(),λp4 G4 m4=>?_⟩⟩;have Ý:=m3.same.trans m4.same;refine⟨_,Z,_,Z,d,_,dx',fs',_,Z,Ý _ _ hd,Qn.cl,Qn.ig,hal,t,al,qx Qn.pq.leaf,[],Z,Z,(hlf.keep (.of Ý)).key,Ý _ _ n2.here,(),λG5 c5=>?_⟩;have nd5:qz G4 G5:=λc' ys hc=>by
     rw[c5.rest c' (λz=>by rw[z,Ý _ _ n2.here]at hc;cases hc)];exact hc
    exact ji2 _ _ ⟨Z,(Sd.of Ý).trans (.Ł c5),_,c5.here,.cons ⟨Z,p4,p3,[],Z,nd5 _ _ m4.here,nd5 _ _ (m4.same _ _ m3.here),.nil⟩ .nil⟩
   ·obtain⟨nj,il,tG,fit,lS,lim⟩:=okk;rw[nA]at il;obtain⟨pi,kv,hpi,hgi,hTi,nti⟩:=atT i il;refine⟨_,Z,true,.inl ⟨_,bI.of hf2,Z⟩,cX ?_⟩;refine⟨_,Z,Wm,jY.vs,0,.str jY.word,Z,Z,sG2.wU hst,by cases jY<;>rfl,Z,_,Z,?_⟩;rw[cZ (show ¬V.str jY.word=V.str (Str.ofString "join")from λz=>nj (Z4 (V.str.inj z)))];refine cX ⟨_,Z,_,Z,_,Z,_,Z,f,_,_,_,Z,Z,bI.of hf2,Z,pl,_,_,_,Z,Z,bI.of ŏ,ixT i pi hpi,_,Z,_,Z,_,Z,_,Z,f,_,_,_,Z,Z,bI.of hf2,Z,?_⟩;have it:i<aR.length:=()
    obtain⟨vb,hvb,pbi,rfl,hbi⟩:∃vb,vt[i]?=some vb/\∃q,vb=.ref q/\bI K H q ((aR.getD i []).map V.int):=by
     have hi':i<vt.length:=()
     obtain⟨b',hb',q',e',h'⟩:=bw pP (bL hi');refine⟨_,bL hi',q',e',?_⟩;rw[fK,hb'];exact h'
    refine⟨pt,vt,_,_,Z,Z,sG2.seq hP,cA hvb,pbg,pbi,bH,aR.getD i [],Z,sG2.seq hbg,sG2.seq hbi,smT _ (jf a6a),smT _ (by rw[fK,bL it];exact oV it),λG3 pj G4 s3 n4=>?_⟩;have Ő:=s3.trans n4.same;refine⟨d,t,pi,Wm,pj,[],kv,[],_,jY,gj bH (aR.getD i []),(aR.getD i []).length,Z,(Nd.of Ő).at Qn hD2,Ő _ _ n2.here,.nil,Ő _ _ hgi,hTi.keep (.of Ő),Ne.symm nti,tG,(sG2.trans Ő).wU hst,n4.here,fit,lS,lim,λkt G5 s5 h5 hT5=>ji2 _ _ ⟨Z,(Sd.of Ő).trans s5,kt,h5,hT5⟩⟩
   ·obtain⟨ej,il,jl,nij,m,m5,tG,okA,ndA,lS,lA,smS,smA,lim⟩:=okk;rw[nA]at il jl;obtain⟨pi,kv,hpi,hgi,hTi,nti⟩:=atT i il;obtain⟨pj,kvj,hpj,hgj,hTj,ntj⟩:=atT j jl;have npp:pi≠pj:=λz=>nij (Z2 nd hpi (by rw[z];exact hpj));refine⟨_,Z,true,.inl ⟨_,bI.of hf2,Z⟩,cX ?_⟩;subst ej;refine⟨_,Z,Wm,b8.join.vs,0,.str (Str.ofString "join"),Z,Z,sG2.wU hst,Z,Z,_,Z,?_⟩;rw[bN (show V.str (Str.ofString "join")=V.str (Str.ofString "join")from Z)];exact gY ⟨_,Z,_,Z,_,Z,_,Z,f,_,_,_,Z,Z,bI.of hf2,Z,pl,_,_,_,Z,Z,bI.of ŏ,ixT i pi hpi,_,Z,_,Z,f,_,_,_,Z,Z,bI.of hf2,Z,pl,_,_,_,Z,Z,bI.of ŏ,ixT j pj hpj,⟨d,t,pi,pj,[],kv,kvj,[],_,_,m,Z,hD2,n2.here,.nil,hgi,hTi,hgj,hTj,Ne.symm nti,Ne.symm ntj,npp,tG,okA,m5,ndA,lS,lA,smS,smA,lim,λkt G5 s5 h5 hT5=>ji2 _ _ ⟨Z,s5,kt,h5,hT5⟩⟩⟩
   ·exact okk.elim
  ·intro σ' G3 h2;obtain⟨rfl,s3,kt,hkt,hTn⟩:=ij2 _ _ h2;have a4b:=s3 _ _ npl ŏ;have tu3:qz G2 G3:=s3.tups n2.here;refine⟨_,Z,.inl ⟨Z,_,bI.of a4b⟩,_,Z,pl,_,_,Z,Z,a4b,by rw[aM,lps];omega,λG4 c4=>?_⟩;have s4:∀c u,c≠pl->G3 c=some u->G4 c=some u:=λc u hc e=>by rw[c4.rest c hc];exact e
   have tu4:qz G3 G4:=λc ys e=>s4 c _ (λz=>by rw[z,a4b]at e;cases e) e;have nlp:∀p∈ps,p≠pl:=λp' hp' z=>by
    obtain⟨i,hi,e⟩:=oU hp';obtain⟨T',_,kv,h1,_⟩:=bw pT2 (fY.mpr ⟨hi,e⟩);rw[z,ŏ]at h1;cases h1
   refine ji _ _ _ ⟨⟨_,_,_,_,Z⟩,λc u e=>?_,ps++[t],by rw[c4.here,eO];rfl,?_,?_,?_⟩
   ·have ncl:c≠pl:=λz=>by rw[z,n1.fresh]at e;cases e
    have nct:c≠t:=λz=>by rw[z,Ht]at e;cases e
    exact s4 c u ncl (s3 c u nct (sG2 _ _ e))
   ·rw[go];have a6c:∀{as:List Addr}{Ts:List cG},Paired (Ŏ G2) as Ts->(∀p∈as,p≠t/\p≠pl)->Paired (Ŏ G4) as Ts:=λ{as Ts} h=>by
     induction h with
     |nil=>intro _;exact .nil
     | @cons p T _ _ h1 _ ih =>
      intro hh;obtain⟨kv,e1,e2⟩:=h1;have hn:=hh p (aV ..);exact .cons ⟨kv,s4 _ _ hn.2 (s3 _ _ hn.1 e1),e2.keep (tu3.trans tu4)⟩ (ih λp' hp'=>hh p' (bh _ hp'))
    exact dh (a6c pT2 λp' hp'=>⟨ntp p' hp',nlp p' hp'⟩) ⟨kt,s4 _ _ (Ne.symm npl) hkt,hTn.keep tu4⟩
   ·exact wz.mpr ⟨nd,Aj _ _,λx hx y hy e=>ntp x hx (by rw[e,bM.mp hy])⟩
   ·intro p' hp';rcases cL.mp hp' with h|h
    ·exact fr p' h
    ·rw[bM.mp h];exact Ht
 ·intro σ G hJ;obtain⟨⟨o5,o6,o7,o8,rfl⟩,sG,ps,hpl,pT,nd,fr⟩:=ij _ _ _ hJ;rw[lx]at pT;exact⟨_,Z,q pl ps G sG n1.fresh hpl pT nd fr⟩
end
abbrev Bm:Stmt:=top 1
def R4:bB ["thing"] ["thing"] (aD Bm):={}
abbrev fP:Stmt:=top 2
def R5:bB uq uq (aD fP):={}
inductive a1d(K:aH)(vs:List V)(H:Hp)(Q:VK)(u_3:XK):Prop
 |mk (x:V) (t:Value) (bi bb:Bool) (_:vs=[x]) (_:ug K H x t) (_:PySem.W.kitOne K t (.type "int")=some bi) (_:PySem.W.kitOne K t (.type "bool")=some bb) (_:Q (.bl (bi && !bb)) H)
inductive a1e(vs:List V)(H:Hp)(Q:VK)(u_3:XK):Prop
 |mk (n:Int) (o:Option Int) (_:vs=[.int n,upV o]) (_:Q (.bl (pH n o)) H)
section
variable{K:aH}
abbrev Fq(K:PySem.W.Frag)(mg:Str->Option Value):=Dn K mg "is_whole" Bm ["thing"]
def R6(B:Bl mg)(jU:Fq K mg):aZ P w K mg base fV 1 jU.f jU.fd ["thing"] (a1d K):=by
 exists jU.F.ok R4;obtain⟨x,t,bi,bb,rfl,ty,h1,h2,q⟩:=h;refine⟨_,(aF (bA (Va (bG (jb (K:=K) Z) Z B.isinstance () (J (pv 0) (J (uM (v:=.ty "int") (u:=.type "int") Z B.int () Z) ao))) (U9 (a2I (bG (jb (K:=K) Z) Z B.isinstance () (J (pv 0) (J (uM (v:=.ty "bool") (u:=.type "bool") Z B.bool () Z) ao)))))))),⟨_,Z,_,_,_,_,_,Z,Z,ty,h1,_,Z,?_⟩⟩;cases bi with
 |true =>
  exact gY ⟨_,Z,_,_,_,_,_,Z,Z,ty,h2,_,Z,q⟩
 |false=>exact cX q
def yH(B:Bl mg)(jU:Fq K mg)(jy:Dn K mg "is_below" fP uq):aZ P w K mg base fV 2 jy.f jy.fd uq a1e:=by
 have a7t:aZ P w K mg base fV 1 _ _ _ _:=R6 B jU;exists jy.F.ok R5;obtain⟨n,o,rfl,q⟩:=h;refine⟨_,(aF (bA (Va (aY a7t hr Z jU.m jU.F.kp jU.b .nil bW (J (pv 1) ao)) (U9 (þ a5d FT aA (pv 1) (pv 0)))))),?_⟩;cases o with
 |none=>exact⟨_,Z,_,_,_,_,Z,ug.non,Rj,PK,_,Z,cX q⟩
 |some i =>
  refine⟨_,Z,_,_,_,_,Z,ug.int i,Gb,CG,_,Z,gY ⟨_,Z,_,_,Z,Z,_,Z,vd (λc=>?_) λc=>?_⟩⟩
  ·have c':0<=i:=gn c;refine⟨_,Z,_,_,Z,Z,?_⟩;have e:pH n (some i)=decide (i<n):=by unfold pH;simp[c']
   rw[e]at q;exact q
  ·have c':¬0<=i:=Um (yg.mpr c);have e:pH n (some i)=false:=by unfold pH;simp[c']
   grind
end
def oK(xs ys:List Int):List Int:=xs.filter λv=>!decide (v∈ys)
abbrev sU:Stmt:=top 4
def Yl:bB jT jT (aD sU):={}
inductive a1f(K:aH)(vs:List V)(H:Hp)(Q:VK)(u_3:XK):Prop
 |mk (a b:Addr) (xs ys:List Int) (_:vs=[.ref a,.ref b]) (_:cH K H a (xs.map V.int)) (_:bI K H b (ys.map V.int)) (_:xs.length<=1000) (_:∀H0 p H',aJ H H0->gZ H0 p (.lst ((oK xs ys).map V.int)) H'->Q (.ref p) H')
section
variable{K:aH}
def ő(B:Bl mg)(mQ:Dn K mg "less" sU jT):aZ P w K mg base fV 1 mQ.f mQ.fd jT (a1f K):=by
 exists mQ.F.ok Yl;obtain⟨a,b,xs,ys,rfl,hA,hB,hz,q⟩:=h;have hv:(A.deeper (PyProof.Rows.envOfC "less" (aD sU) s⁻¹ mQ.f dD)).units+65<cLine:=by have:=hr.un;omega
 refine⟨_,(aF (bA (kE ["v","other"] [none,some 1]  (by kernel_rfl) Z (CJ (K:=K) Z (pv 0)) (λ_ _ _ _ _=>(aP 0 (show(["v","other"]:List Str).Nodup by decide))) (λ_ _ _ _ _=>(wQ (aL (jM (K:=K) Z hv) (pv 0) (pv 1) (by with_unfolding_all rfl)))) λ_ _ _ _ _=>(pv 0)))),⟨_,Z,a,Z,⟨_,hA⟩,a0O (λx=>match x with |.int v=>if !decide (v∈ys)then some (.int v)else none|_=>none) hA () (λx H1 N hx sm hN=>?_) λH1 p H1' sm hp=>?_⟩⟩
 ·obtain⟨v,hv,rfl⟩:=dY.mp hx;have hN':=hN H1 sm;refine⟨_,Z,_,Z,zB (sm.seq hB) ⟨_,Z,?_⟩⟩;dsimp only at hN';cases c:decide (v∈ys)with
  |true=>rw[c]at hN';exact cX hN'
  |false=>rw[c]at hN';exact gY ⟨_,Z,hN'⟩
 ·have e:(xs.map V.int).filterMap (λx=>match x with |.int v=>if !decide (v∈ys)then some (V.int v)else none|_=>none)=(oK xs ys).map V.int:=Ez λv _=>rfl;rw[e]at hp;exact q _ _ _ sm hp
end
inductive a1g(K:aH)(vs:List V)(H:Hp)(Q:VK)(u_3:XK):Prop
 |mk (a b:Addr) (xs ys:List Int) (_:vs=[.ref a,.ref b]) (_:bI K H a (xs.map V.int)) (_:cH K H b (ys.map V.int)) (_:xs.length<=1000) (_:∀H0 p H',aJ H H0->gZ H0 p (.lst ((oK xs ys).map V.int)) H'->Q (.ref p) H')
theorem R7(v:Int):∀ys:List Int,inV (.int v) (ys.map V.int)=decide (v∈ys)
 | []=>rfl
 |y::r=>by
  have ih:=R7 v r
  unfold inV at ih ⊢
  rw[b7,tZ,ih,tX,Bool.or_eq_true,fj,fj,bU]
  have:ć (V.int y) (V.int v)=decide (y=v):=rfl
  grind
def Z5(ys:List Int):(ys.map V.int).all Cq=true:=IK.mpr λx hx=>by
 obtain⟨y,_,rfl⟩:=dY.mp hx;rfl
section
variable{K:aH}
def Œ(B:Bl mg)(mQ:Dn K mg "less" sU jT):aZ P w K mg base fV 1 mQ.f mQ.fd jT (a1g K):=by
 exists mQ.F.ok Yl;obtain⟨a,b,xs,ys,rfl,hA,hB,hz,q⟩:=h;refine⟨_,(aF (bA (kE ["v","other"] [none,some 1]  (by kernel_rfl) Z (fM (K:=K) Z (pv 0)) (λ_ _ _ _ _=>(aP 0 (show(["v","other"]:List Str).Nodup by decide))) (λ_ _ _ _ _=>(wQ (aL (Vz (K:=K) Z) (pv 0) (pv 1) (by with_unfolding_all rfl)))) λ_ _ _ _ _=>(pv 0)))),⟨_,Z,a,Z,⟨_,hA⟩,PL (λx=>match x with |.int v=>if !decide (v∈ys)then some (.int v)else none|_=>none) hA () (λx H1 N hx sm hN=>?_) λH1 p H1' sm hp=>?_⟩⟩
 ·obtain⟨v,hv,rfl⟩:=dY.mp hx;have hN':=hN H1 sm;refine⟨_,Z,_,Z,b,_,Z,.inr (sm.wU hB),Z,Z5 _,_,Z,?_⟩;rw[aB Z,R7];dsimp only at hN';cases c:decide (v∈ys)with
  |true=>rw[c]at hN';exact cX hN'
  |false=>rw[c]at hN';exact gY ⟨_,Z,hN'⟩
 ·have e:(xs.map V.int).filterMap (λx=>match x with |.int v=>if !decide (v∈ys)then some (V.int v)else none|_=>none)=(oK xs ys).map V.int:=Ez λv _=>rfl;rw[e]at hp;exact q _ _ _ sm hp
end
def aZ.either{K:aH}{CX:Q0}{k:Nat}{f:Addr}{fd:FuncData}{ps:List Str}{sp sp':Sp}(F:aZ P w K mg base CX k f fd ps sp)(G:aZ P w K mg base CX k f fd ps sp'):aZ P w K mg base CX k f fd ps (λvs H Q E=>sp vs H Q E\/sp' vs H Q E) :=
 ⟨λvs H Q E h=>h.elim (F.len vs H Q E) (G.len vs H Q E),λA outer s H args us vs Q E hr he hb hv hs=>hs.elim (F.run A outer s H args us vs Q E hr he hb hv) (G.run A outer s H args us vs Q E hr he hb hv)⟩
def Ym(s t:Int×Int):PyData.eqv (yx s) (yx t)=decide (s=t):=by
 unfold yx;rw[PyData.eqv];have e:=PySem.W.ked_eqvAll [s.1,s.2] [t.1,t.2];grind
def a1h(ts:List bY)(t:Int×Int):(ts.map yx).any (λe=>PyData.eqv e (yx t))=decide (t∈ts):=by
 rw[List.any_map];rw[tX,List.any_eq_true,fj];constructor
 ·rintro⟨s,hs,e⟩;have:PyData.eqv (yx s) (yx t)=true:=e;rw[Ym]at this;grind
 ·intro h;exact⟨t,h,by show PyData.eqv (yx t) (yx t)=true;rw[Ym];simp⟩
def Wn(t:Int×Int):SeqAt.shaped (yx t)=true:=by
 unfold SeqAt.shaped;rw[Xr,Jb];exact bN (by have:=Ms t;omega)
abbrev fQ:Stmt:=top 15
def rA:bB ["graph","done","step","used","kind","bag","v"] Dg (aD fQ):={}
noncomputable def qC(n:Nat)(ts:List bY)(done:List b8)(s:b8)(used:List (List Int)):Option (List Int) :=
 match s with
 |.leaf=>some []
 |.inn v=>if(0<=v/\v<(n:Int))/\v∉used.getD 0 []/\b8.out v∉done then some (gj (used.getD 0 []) [v])else none
 |.tie a b=>if(a,b)∈ts/\oK [a,b] (used.getD 0 [])=[]/\b8.tie a b∉done then some (used.getD 0 [])else none
 |.out v=>if v∈used.getD 0 []/\b8.out v∉done then some (oK (used.getD 0 []) [v])else none
 |.join=>if used.getD 0 []=used.getD 1 []then some (used.getD 0 [])else none
def a7u(K:aH)(H:Hp)(ux:List V)(H':Hp)(v:V):Option (List Int)->Prop
 |none=>v=.non
 |some b=>∃p,v=.ref p/\bI K H' p (b.map V.int)/\(H p=none\/V.ref p∈ux)
def Yn{ux:List V}{k:Nat}{v:V}(h:Tt ux (k:Int)=some v):v∈ux:=by
 obtain⟨j,_,e,_⟩:=Pu h;exact jf e
inductive a4c(K:aH)(vs:List V)(H:Hp)(Q:VK)(u_3:XK):Prop
 |mk (g:V) (n:Nat) (ts:List bY) (dn st us:Addr) (ds ux:List V) (done:List b8) (s:b8) (used:List (List Int)) (_:vs=[g,.ref dn,.ref st,.ref us]) (_:vf K H g n ts) (_:n<=10) (_:bI K H dn ds) (_:Paired (vh K H) ds done) (_:cH K H st s.vs) (_:bI K H us ux) (_:Paired (V4 K H) ux used) (_:s.need<=used.length) (_:(∀b∈used,Small b/\b.length<=1000)) (_:∀r H',aJ H H'->a7u K H ux H' r (qC n ts done s used)->Q r H')
def rB{j:Nat}(hi:i<5)(hj:j<5)(h:i≠j):decide (V.str (Gn i)=V.str (Gn j))=false:=cZ λe=>by
 have e':Gn i=Gn j:=by injection e
 have:=JN i hi j hj;grind
def w10:decide (V.str (Str.ofString "in")=V.str (Str.ofString "leaf"))=false:=rB (i:=1) (j:=0) () () ()
def w20:decide (V.str (Str.ofString "tie")=V.str (Str.ofString "leaf"))=false:=rB (i:=2) (j:=0) () () ()
def w21:decide (V.str (Str.ofString "tie")=V.str (Str.ofString "in"))=false:=rB (i:=2) (j:=1) () () ()
def w30:decide (V.str (Str.ofString "out")=V.str (Str.ofString "leaf"))=false:=rB (i:=3) (j:=0) () () ()
def w31:decide (V.str (Str.ofString "out")=V.str (Str.ofString "in"))=false:=rB (i:=3) (j:=1) () () ()
def w32:decide (V.str (Str.ofString "out")=V.str (Str.ofString "tie"))=false:=rB (i:=3) (j:=2) () () ()
def w40:decide (V.str (Str.ofString "join")=V.str (Str.ofString "leaf"))=false:=rB (i:=4) (j:=0) () () ()
def w41:decide (V.str (Str.ofString "join")=V.str (Str.ofString "in"))=false:=rB (i:=4) (j:=1) () () ()
def w42:decide (V.str (Str.ofString "join")=V.str (Str.ofString "tie"))=false:=rB (i:=4) (j:=2) () () ()
def w43:decide (V.str (Str.ofString "join")=V.str (Str.ofString "out"))=false:=rB (i:=4) (j:=3) () () ()
def R8{K:aH}{H:Hp}{ux:List V}{used:List (List Int)}{k:Nat}(p:Paired (V4 K H) ux used)(h:k<used.length):∃b,Tt ux (k:Int)=some (.ref b)/\bI K H b ((used.getD k []).map V.int)/\used.getD k []∈used:=by
 obtain⟨x,hx,⟨b,rfl,hb⟩⟩:=cU p (bL h);refine⟨b,cA hx,?_,?_⟩
 ·grind
 grind
def yI{K:aH}{H:Hp}{dn st:Addr}{ds:List V}{done:List b8}{s:b8}{Q:VK}(hD:bI K H dn ds)(pD:Paired (vh K H) ds done)(hS:cH K H st s.vs)(q:Q (.bl (!decide (s∈done))) H):Vy K true (.ref st) (.ref dn) H Q:=by
 refine⟨s.d,done.map b8.d,vh.isD ⟨st,Z,hS⟩,.lst hD (PX (λ_ _ h=>vh.isD h) pD),Wd _,RW _,?_⟩;rw[aB Z,a05];exact q
section
variable{K:aH}
def Li(B:Bl mg)(jU:Fq K mg)(jy:Dn K mg "is_below" fP uq)(oN:Dn K mg "joint" pX jT)(mQ:Dn K mg "less" sU jT)(HN:Dn K mg "bag_behind" fQ Dg):aZ P w K mg base fV 3 HN.f HN.fd Dg (a4c K):=by
 have œ:aZ P w K mg base fV 2 _ _ _ _:=yH B jU jy;have a4a:aZ P w K mg base fV 2 _ _ _ _:=(R0 B oN).mono ();have a6d:aZ P w K mg base fV 2 _ _ _ _:=(aZ.either (ő B mQ) (Œ B mQ)).mono ();exists HN.F.ok rA;obtain⟨g,n,ts,dn,st,us,ds,ux,done,sp,used,rfl,hG,dw,hD,pD,hS,hU,pU,nu,sm,q⟩:=h;have hu:(A.deeper (PyProof.Rows.envOfC "bag_behind" (aD fQ) s⁻¹ HN.f dD)).units+64<cLine:=by have:=hr.un;omega
 have hv:(A.deeper (PyProof.Rows.envOfC "bag_behind" (aD fQ) s⁻¹ HN.f dD)).units+65<cLine:=by have:=hr.un;omega
 obtain⟨pg,ta,rfl,hP,hT⟩:=id hG;refine⟨_,(aG (bD 4 rA.nd (aO (aK (K:=K) Z) (pv 2) aA))
   (aG (dH (aL iR (pv 4) gA)
   (aF (bA (cI ao)))
   bK)
   (aG (bD 5 rA.nd (aO (bF (K:=K) Z) (pv 3) aA))
   (aG (dH (aL iR (pv 4) gA)
   (aG (bD 6 rA.nd (aO (aK (K:=K) Z) (pv 2) aA))
   (aF (bA (oZ (PW.pt (j9 (eN (K:=K) Z (aY œ hr Z jy.m jy.F.kp jy.b .nil bW (J (aO (aK (K:=K) Z) (pv 0) aA) (J (pv 6) ao))) λ_=>rfl) (j9 (aL (jM (K:=K) Z hv) (pv 6) (pv 5) (by with_unfolding_all rfl)) (mZ (aL (jM (K:=K) Z hv) (bf (J gA (J (pv 6) ao))) (pv 1) (by with_unfolding_all rfl)))))) (aY a4a hr Z oN.m oN.F.kp oN.b .nil bW (J (pv 5) (J (cI (J (pv 6) ao)) ao))) oY))))
   bK)
   (aG (dH (aL iR (pv 4) gA)
   (aF (bA (oZ (PW.pt (j9 (aL (uO (K:=K) Z hv) (jD (Hv (K:=K) Z) (pv 2) (lW aA) lV) (aO (aK (K:=K) Z) (pv 0) aA) (by with_unfolding_all rfl)) (j9 (qL (eN (K:=K) Z (aY a6d hr Z mQ.m mQ.F.kp mQ.b .nil bW (J (jD (Hv (K:=K) Z) (pv 2) (lW aA) lV) (J (pv 5) ao))) λ_=>rfl)) (mZ (aL (jM (K:=K) Z hv) (pv 2) (pv 1) (by with_unfolding_all rfl)))))) (pv 5) oY)))
   bK)
   (aG (dH (aL iR (pv 4) gA)
   (aF (bA (oZ (PW.pt (j9 (aL (uO (K:=K) Z hv) (aO (aK (K:=K) Z) (pv 2) aA) (pv 5) (by with_unfolding_all rfl)) (mZ (aL (jM (K:=K) Z hv) (pv 2) (pv 1) (by with_unfolding_all rfl))))) (aY a6d hr Z mQ.m mQ.F.kp mQ.b .nil bW (J (pv 5) (J (jD (Hv (K:=K) Z) (pv 2) (lW aA) lV) ao))) oY)))
   bK)
   (aF (bA (oZ (aL (a0r (K:=K) Z hu) (pv 5) (aO (bF (K:=K) Z) (pv 3) aA)) (pv 5) oY))))))))),?_⟩
 cases sp with
 |leaf =>
  refine⟨_,Z,st,_,_,_,Z,Z,hS,Z,⟨_,Z,Z,_,Z,?_⟩⟩;rw[bN rfl];exact gY ⟨(),λp1 H1 n1=>q _ H1 n1.same ⟨p1,Z,bI.of n1.here,.inl n1.fresh⟩⟩
 |inn v =>
  obtain⟨b0,a0,hb0,m0⟩:=R8 (k:=0) pU nu;obtain⟨sm0,l0⟩:=sm _ m0;refine⟨_,Z,st,_,_,_,Z,Z,hS,Z,⟨_,Z,Z,_,Z,?_⟩⟩;rw[w10];refine cX ⟨_,Z,us,_,_,_,Z,Z,hU,a0,⟨_,Z,Z,_,Z,?_⟩⟩;rw[bN rfl];refine gY ⟨_,Z,st,_,_,_,Z,Z,hS,Z,⟨_,Z,pg,_,_,_,Z,Z,hP,Z,_,Z,(n:Int),some v,Z,_,Z,?_⟩⟩;have eb:pH (n:Int) (some v)=decide (0<=v/\v<(n:Int)):=rfl;rw[eb];have no:∀{H'},aJ H H'->¬((0<=v/\v<(n:Int))/\v∉used.getD 0 []/\b8.out v∉done)->Q .non H':=λs c=>q _ _ s (by
   unfold qC;dsimp only;rw[aq c];exact Z)
  by_cases c1:0<=v/\v<(n:Int)
  ·rw[bN c1];refine gY ⟨_,Z,_,Z,zB hb0 ⟨_,Z,?_⟩⟩;by_cases c2:v∈used.getD 0 []
   ·rw[bN c2];exact cX (cX (no (aJ.refl _) λh=>h.2.1 c2))
   ·rw[cZ c2];refine gY ⟨_,Z,(),λp2 H2 n2=>?_⟩;refine⟨_,Z,yI (s:=.out v) (n2.same.seq hD) (Paired.cB pD λ_ _ h=>vh.same n2.same h) (cH.of n2.here) ⟨_,Z,?_⟩⟩;by_cases c3:b8.out v∈done
    ·rw[bN c3];exact cX (no n2.same λh=>h.2.2 c3)
    ·rw[cZ c3];refine gY ⟨_,Z,_,Z,(),λp3 H3 n3=>?_⟩;refine⟨b0,p3,_,[v],Z,(n2.same.trans n3.same).seq hb0,bI.of n3.here,sm0,λx hx=>by rw[bM.mp hx];omega,λH4 p5 H5 s4 n5=>?_⟩;refine q _ H5 (n2.same.trans (n3.same.trans (s4.trans n5.same))) ?_;unfold qC;dsimp only;rw[aB ⟨c1,c2,c3⟩];exact⟨p5,Z,bI.of n5.here,.inl ((n2.same.trans (n3.same.trans s4)).free n5.fresh)⟩
  ·rw[cZ c1];exact cX (cX (no (aJ.refl _) λh=>c1 h.1))
 |tie x y =>
  obtain⟨b0,a0,hb0,m0⟩:=R8 (k:=0) pU nu;refine⟨_,Z,st,_,_,_,Z,Z,hS,Z,⟨_,Z,Z,_,Z,?_⟩⟩;rw[w20];refine cX ⟨_,Z,us,_,_,_,Z,Z,hU,a0,⟨_,Z,Z,_,Z,?_⟩⟩;rw[w21];refine cX ⟨_,Z,Z,_,Z,?_⟩;rw[bN rfl];have no:∀{H'},aJ H H'->¬((x,y)∈ts/\oK [x,y] (used.getD 0 [])=[]/\b8.tie x y∉done)->Q .non H':=λs c=>q _ _ s (by
   unfold qC;dsimp only;rw[aq c];exact Z)
  refine gY ⟨_,Z,_,Z,st,_,Z,hS,λh=>absurd h.1 (by show ¬HT.lK 3 0 (some 1)=0;decide),λp1 H1 n1=>?_⟩;refine⟨_,Z,pg,_,_,_,Z,Z,n1.same.wU hP,Z,yx (x,y),ts.map yx,a0w.isD ⟨p1,Z,cH.of n1.here⟩,(hT.same n1.same).isD,Wn _,Rn _,_,Z,?_⟩;rw[aq cY,a1h];by_cases c1:(x,y)∈ts
  ·rw[bN c1];refine gY ⟨_,Z,_,Z,st,_,Z,n1.same.wU hS,λh=>absurd h.1 (by show ¬HT.lK 3 0 (some 1)=0;decide),λp2 H2 n2=>?_⟩;have s2:=n1.same.trans n2.same;refine⟨_,Z,.inl ⟨p2,b0,[x,y],_,Z,cH.of n2.here,s2.seq hb0,(),λH4 p5 H5 s4 n5=>?_⟩⟩;have s5:=s2.trans (s4.trans n5.same);refine⟨_,.inl ⟨_,bI.of n5.here,Z⟩,?_⟩;by_cases c2:oK [x,y] (used.getD 0 [])=[]
   ·rw[c2];refine gY ⟨_,Z,_,Z,yI (s:=.tie x y) (s5.seq hD) (Paired.cB pD λ_ _ h=>vh.same s5 h) (s5.wU hS) ⟨_,Z,?_⟩⟩;by_cases c3:b8.tie x y∈done
    ·rw[bN c3];exact cX (no s5 λh=>h.2.2 c3)
    ·rw[cZ c3];refine gY ⟨_,Z,q _ H5 s5 ?_⟩;unfold qC;dsimp only;rw[aB ⟨c1,c2,c3⟩];exact⟨b0,Z,s5.seq hb0,.inr (Yn a0)⟩
   ·have e:((oK [x,y] (used.getD 0 [])).map V.int).isEmpty=false:=by
     cases c4:oK [x,y] (used.getD 0 [])with
     |nil=>exact absurd c4 c2
     |cons _ _=>rfl
    rw[e];exact cX (cX (no s5 λh=>c2 h.2.1))
  ·rw[cZ c1];exact cX (cX (no n1.same λh=>c1 h.1))
 |out v =>
  obtain⟨b0,a0,hb0,m0⟩:=R8 (k:=0) pU nu;refine⟨_,Z,st,_,_,_,Z,Z,hS,Z,⟨_,Z,Z,_,Z,?_⟩⟩;rw[w30];refine cX ⟨_,Z,us,_,_,_,Z,Z,hU,a0,⟨_,Z,Z,_,Z,?_⟩⟩;rw[w31];refine cX ⟨_,Z,Z,_,Z,?_⟩;rw[w32];refine cX ⟨_,Z,Z,_,Z,?_⟩;rw[bN rfl];have no:∀{H'},aJ H H'->¬(v∈used.getD 0 []/\b8.out v∉done)->Q .non H':=λs c=>q _ _ s (by
   unfold qC;dsimp only;rw[aq c];exact Z)
  refine gY ⟨_,Z,st,_,_,_,Z,Z,hS,Z,_,Z,Bf hb0 ⟨_,Z,?_⟩⟩;by_cases c1:v∈used.getD 0 []
  ·rw[bN c1];refine gY ⟨_,Z,_,Z,yI (s:=.out v) hD pD hS ⟨_,Z,?_⟩⟩;by_cases c2:b8.out v∈done
   ·rw[bN c2];exact cX (no (aJ.refl _) λh=>h.2 c2)
   ·rw[cZ c2];refine gY ⟨_,Z,_,Z,_,Z,st,_,Z,hS,λh=>absurd h.1 (by show ¬HT.lK 2 0 (some 1)=0;decide),λp2 H2 n2=>?_⟩;refine .inr ⟨b0,p2,_,[v],Z,n2.same.seq hb0,cH.of n2.here,(sm _ m0).2,λH4 p5 H5 s4 n5=>q _ H5 (n2.same.trans (s4.trans n5.same)) ?_⟩;unfold qC;dsimp only;rw[aB ⟨c1,c2⟩];exact⟨p5,Z,bI.of n5.here,.inl ((n2.same.trans s4).free n5.fresh)⟩
  ·rw[cZ c1];exact cX (cX (no (aJ.refl _) λh=>c1 h.1))
 |join =>
  obtain⟨b0,a0,hb0,m0⟩:=R8 (k:=0) pU (jC () nu);obtain⟨b1,a1,hb1,m1⟩:=R8 (k:=1) pU (jC () nu);refine⟨_,Z,st,_,_,_,Z,Z,hS,Z,⟨_,Z,Z,_,Z,?_⟩⟩;rw[w40];refine cX ⟨_,Z,us,_,_,_,Z,Z,hU,a0,⟨_,Z,Z,_,Z,?_⟩⟩;rw[w41];refine cX ⟨_,Z,Z,_,Z,?_⟩;rw[w42];refine cX ⟨_,Z,Z,_,Z,?_⟩;rw[w43];refine cX ⟨_,Z,_,Z,us,_,_,_,Z,Z,hU,a1,_,_,.lst hb0 (wR.ints _),.lst hb1 (wR.ints _),shaped_ints _,shaped_ints _,_,Z,?_⟩;rw[aq cY,Jq];by_cases c:used.getD 0 []=used.getD 1 []
  ·rw[bN c];refine gY ⟨_,Z,q _ H (aJ.refl _) ?_⟩;unfold qC;dsimp only;rw[aB c];exact⟨b0,Z,hb0,.inr (Yn a0)⟩
  ·rw[cZ c];refine cX (q _ H (aJ.refl _) ?_);unfold qC;dsimp only;rw[aq c];exact rfl
end
abbrev Gq:Stmt:=top 14
def vo:bB ["graph","steps","tops","feeds","pile","k","step","left","bag"] mW (aD Gq):={}
structure RS where
 aR:List (List Int)
 dM:List (List Nat)
 pile:List Nat
def dX(s:b8)(r:RS):Nat:=r.pile.length-s.need
def sZ(s:b8)(r:RS):List (List Int):=(r.pile.drop (dX s r)).map λj=>r.aR.getD j []
noncomputable def rM(n:Nat)(ts:List bY)(ss:List b8)(k:Nat)(r:RS):Option RS :=
 if(ss.getD k .leaf).need<=r.pile.length then
  (qC n ts (ss.take k) (ss.getD k .leaf) (sZ (ss.getD k .leaf) r)).map λb=>⟨r.aR++[b],r.dM++[r.pile.drop (dX (ss.getD k .leaf) r)],r.pile.take (dX (ss.getD k .leaf) r)++[k]⟩
 else none
def aW(n:Nat)(ts:List bY)(ss:List b8):Nat->RS×Bool
 |0=>(⟨[],[],[]⟩,true)
 |k+1=>if(aW n ts ss k).2=true then
   match rM n ts ss k (aW n ts ss k).1 with
   |some r=>(r,true)
   |none=>((aW n ts ss k).1,false)
  else((aW n ts ss k).1,false)
def cD(n:Nat)(ts:List bY)(ss:List b8):RS:=(aW n ts ss ss.length).1
theorem J0{n:Nat}{ts:List bY}{ss:List b8}{k:Nat}(h:(aW n ts ss k).2=false):∀m,k<=m->aW n ts ss m=((aW n ts ss k).1,false)
 |0,hm=>by
  grind
 |m+1,hm=>by
  by_cases c:k=m+1
  ·grind
  ·have ih:=J0 h m ()
   show(if(aW n ts ss m).2=true then _ else _)=_
   rw[ih]
   rfl
structure a1i(i:Nat)(r:RS):Prop where
 tl:r.aR.length=i
 fl:r.dM.length=i
 pl:r.pile.length<=i
 lt:∀j∈r.pile,j<i
 sm:∀b∈r.aR,Small b/\b.length<=1000
 ff:∀f∈r.dM,f.length<=2
def Z6{n:Nat}{ts:List bY}{done:List b8}{s:b8}{used:List (List Int)}{b:List Int}(dw:n<=10)(sm:∀b∈used,Small b/\b.length<=1000)(h:qC n ts done s used=some b):Small b/\b.length<=1000:=by
 have g:∀k,Small (used.getD k [])/\(used.getD k []).length<=1000:=λk=>by
  by_cases c:k<used.length
  ·grind
  ·rw[fK,List.getElem?_eq_none ()];exact⟨λx hx=>absurd hx fu,()⟩
 unfold qC at h;cases s with
 |leaf =>
  have:b=[]:=(dO h).symm;subst this;exact⟨λx hx=>absurd hx fu,()⟩
 |inn v =>
  dsimp only at h;split at h
  ·rw[<-dO h];refine⟨λx hx=>?_,?_⟩
   ·obtain⟨h1,h2,_⟩:=zG.mp hx;exact⟨h1,h2⟩
   ·unfold gj Q5;grind
  ·cases h
 |tie x y =>
  grind
 |out v =>
  dsimp only at h;split at h
  ·rw[<-dO h];exact⟨λx hx=>(g 0).1 x (lH.mp hx).1,dF (Ed _ _) (g 0).2⟩
  ·cases h
 |join =>
  grind
theorem jA{n:Nat}{ts:List bY}{ss:List b8}(dw:n<=10):∀{i:Nat},(aW n ts ss i).2=true->a1i i (aW n ts ss i).1
 |0,_=>⟨Z,Z,aN _,λj h=>absurd h fu,λb h=>absurd h fu,λb h=>absurd h fu⟩
 |i+1,h=>by
  have e:aW n ts ss (i+1)=if(aW n ts ss i).2=true then
   (match rM n ts ss i (aW n ts ss i).1 with
   |some r=>(r,true)
   |none=>((aW n ts ss i).1,false))
  else((aW n ts ss i).1,false):=rfl
  rw[e]at h ⊢
  by_cases c:(aW n ts ss i).2=true
  ·have I:=jA dw c
   rw[aB c]at h ⊢
   cases d:rM n ts ss i (aW n ts ss i).1 with
   |none=>grind
   |some r =>
    dsimp only
    unfold rM at d
    split at d
    ·obtain⟨b,hb,er⟩:=oR.mp d
     rw[<-er]
     have sb:=Z6 dw (λx hx=>by
      obtain⟨j,hj,e⟩:=dY.mp hx
      have jl:=I.lt j (Ao hj)
      rw[<-e,fK,bL (by rw[I.tl];exact jl)]
      exact I.sm _ (oV _)) hb
     refine⟨?_,?_,?_,λj hj=>?_,λx hx=>?_,λf hf=>?_⟩
     ·show(_++[b]).length=_
      rw[cC,I.tl];rfl
     ·show(_++[_]).length=_
      rw[cC,I.fl];rfl
     ·show(_++[i]).length<=_
      rw[cC,fZ]
      have:=I.pl
      show min _ _+1<=_
      omega
     ·rcases cL.mp hj with hj|hj
      ·have:=I.lt j (nH hj)
       omega
      grind
     ·rcases cL.mp hx with hx|hx
      ·exact I.sm x hx
      grind
     ·rcases cL.mp hf with hf|hf
      ·exact I.ff f hf
      ·rw[bM.mp hf,lG]
       unfold dX
       have:(ss.getD i .leaf).need<=2:=by cases ss.getD i .leaf<;>simp[b8.need]
       omega
    ·cases d
  grind
def Ŕ{n:Nat}{ts:List bY}{ss:List b8}{r:RS}(c:(aW n ts ss i).2=true)(d:rM n ts ss i (aW n ts ss i).1=some r):aW n ts ss (i+1)=(r,true):=by
 show(if(aW n ts ss i).2=true then _ else _)=_;grind
def a1j{n:Nat}{ts:List bY}{ss:List b8}(il:i<ss.length)(c:(aW n ts ss i).2=true)(d:rM n ts ss i (aW n ts ss i).1=none):cD n ts ss=(aW n ts ss i).1:=by
 have e:aW n ts ss (i+1)=((aW n ts ss i).1,false):=by
  show(if(aW n ts ss i).2=true then _ else _)=_;grind
 unfold cD;rw[J0 (k:=i+1) (by rw[e]) ss.length il,e]
abbrev uI(l:List Nat):List V:=l.map λ(x:Nat)=>V.int (x:Int)
theorem J4:∀{m:Nat}{l:List Nat},l.Nodup->(∀x∈l,x<m)->l.length<=m
 |0,l,_,lt=>by
  cases l with
  |nil=>grind
  |cons x r=>exact absurd (lt x aV) (Ay _)
 |m+1,l,nd,lt=>by
  have ih:=J4 (m:=m) (nd.erase m) λx hx=>by
   grind
  grind
def xP(ex:List Addr)(K:aH)(H:Hp)(v:V)(b:List Int):Prop:=∃p,v=.ref p/\bI K H p (b.map V.int)/\p∉ex
def xP.same{K:aH}{H H':Hp}{v:V}{b:List Int}(s:aJ H H')(h:xP ex K H v b):xP ex K H' v b:=by
 obtain⟨p,e,q,n⟩:=h;exact⟨p,e,s.seq q,n⟩
def xP.l{K:aH}{H:Hp}{v:V}{b:List Int}(h:xP ex K H v b):V4 K H v b:=by
 obtain⟨p,e,q,n⟩:=h;exact⟨p,e,q⟩
def a1k{K:aH}{H H':Hp}{p:Addr}{o:HO}{xs:List V}(c:uP H a o H')(n:p≠a)(h:bI K H p xs):bI K H' p xs:=by
 rcases h with h|h
 ·refine .inl ?_;rcases h with h|⟨u,h⟩
  ·exact .inl ((c.rest p n).trans h)
  ·exact .inr ⟨u,(c.rest p n).trans h⟩
 ·exact .inr h
def xP.chg{K:aH}{H H':Hp}{o:HO}{v:V}{b:List Int}(c:uP H a o H')(ha:a∈ex)(h:xP ex K H v b):xP ex K H' v b:=by
 obtain⟨p,e,q,n⟩:=h;exact⟨p,e,a1k c (λz=>n (z▸ha)) q,n⟩
def Bo(ex:List Addr)(H:Hp)(q:Addr)(f:List Nat):Prop:=H q=some (.lst (uI f))/\q∉ex
def Bo.same{H H':Hp}{q:Addr}{f:List Nat}(s:aJ H H')(h:Bo ex H q f):Bo ex H' q f:=⟨s _ _ h.1,h.2⟩
def Bo.chg{H H':Hp}{o:HO}{q:Addr}{f:List Nat}(c:uP H a o H')(ha:a∈ex)(h:Bo ex H q f):Bo ex H' q f:=⟨(c.rest q λz=>h.2 (z▸ha)).trans h.1,h.2⟩
def R9(xs:List V)(k:Nat)(h:k<=xs.length):u9 xs none (some (k:Int))=xs.take k:=by
 unfold u9;have e1:HT.lK xs.length xs.length (some (k:Int))=k:=by
  show min _ _=k;simp;omega
 have e2:HT.lK xs.length 0 none=0:=rfl;rw[e1,e2,UL,Bc]
def Sg(xs:List V)(k:Nat)(h:k<=xs.length):u9 xs (some (k:Int)) none=xs.drop k:=by
 unfold u9;have e1:HT.lK xs.length 0 (some (k:Int))=k:=by
  show min _ _=k;grind
 have e2:HT.lK xs.length xs.length none=xs.length:=rfl;rw[e1,e2,Il (by rw[lG];omega)]
theorem J5{α β:Type}{R:α->β->Prop}:∀{xs:List α}{ys:List β} (i:Nat),Paired R xs ys->Paired R (xs.take i) (ys.take i)
 |_,_,0,_=>.nil
 |_,_,_+1,.nil=>.nil
 |_,_,i+1,.cons q r=>.cons q (J5 i r)
def a7v(ex:List Addr)(K:aH)(H:Hp)(v:V):Option (List Int)->Prop
 |none=>v=.non
 |some b=>xP ex K H v b
theorem MP{ex:List Addr}{K:aH}{H:Hp}{vt:List V}{aR:List (List Int)}(p:Paired (xP ex K H) vt aR):∀l:List Nat,(∀j∈l,j<aR.length)->Paired (V4 K H) (l.map λj=>vt.getD j .non) (l.map λj=>aR.getD j [])
 | [],_=>.nil
 |j::r,h=>by
  have jl:=h j aV
  obtain⟨x,hx,hb⟩:=cU p (bL jl)
  refine .cons ?_ (MP p r λi hi=>h i (bh _ hi))
  dsimp only
  rw[fK,hx,fK,bL jl]
  exact hb.l
inductive a6e(K:aH)(vs:List V)(H:Hp)(Q:VK)(u_3:XK):Prop
 |mk (g:V) (n:Nat) (ts:List bY) (a:Addr) (xs:List V) (ss:List b8) (_:vs=[g,.ref a]) (_:vf K H g n ts) (_:n<=10) (_:bI K H a xs) (_:Paired (vh K H) xs ss) (_:ss.length<=900) (_:∀r pt pf pp vt fs H',aJ H H'->H' r=some (.tup [.ref pt,.ref pf,.ref pp])->H pt=none->H pf=none->H pp=none->H' pt=some (.lst vt)->H' pf=some (.lst (fs.map V.ref))->Bo [pt,pf] H' pp (cD n ts ss).pile->Paired (xP [pt,pf] K H') vt (cD n ts ss).aR->Paired (Bo [pt,pf] H') fs (cD n ts ss).dM->Q (.ref r) H')
section
variable{K:aH}
def a4d(B:Bl mg)(U:Used w K mg)(jU:Fq K mg)(jy:Dn K mg "is_below" fP uq)(oN:Dn K mg "joint" pX jT)(mQ:Dn K mg "less" sU jT)(HN:Dn K mg "bag_behind" fQ Dg)(vU:Dn K mg "run" Gq mW):aZ P w K mg base fV 4 vU.f vU.fd mW (a6e K):=by
 have gZ9:aZ P w K mg base fV 3 _ _ _ _:=Li B jU jy oN mQ HN;exists vU.F.ok vo;obtain⟨g,n,ts,a,xs,ss,rfl,hG,dw,hA,pA,a6f,q⟩:=h;have lx:=aQ pA;refine⟨_,(aG (bD 2 vo.nd (cI ao))
   (aG (bD 3 vo.nd (cI ao))
   (aG (bD 4 vo.nd (cI ao))
   (aG (kh jJ Z (a0v (K:=K) Z Z B.enumerate (J (pv 1) ao)) (jN (K:=K) (n:=2) Z Z (cu (aP 5 vo.nd) (cu (aP 6 vo.nd) jz)))
   (aG (bD 7 vo.nd (bQ Vd (bG (cP (K:=K) Z) Z B.len () (J (pv 4) ao)) (a0S U Z (aO (aK (K:=K) Z) (pv 6) aA) λ_ _=>rfl)))
   (aG (bD 8 vo.nd oY)
   (kI (dH (aL a5e (pv 7) aA)
   (aF (bD 8 vo.nd (aY gZ9 hr Z HN.m HN.F.kp HN.b .nil bW (J (pv 0) (J (jD (yw (K:=K) Z) (pv 1) lV (lW (pv 5))) (J (pv 6) (J (kE ["j","tops"] [none,some 2]  (by kernel_rfl) Z (fM (K:=K) Z (jD (yw (K:=K) Z) (pv 4) (lW (pv 7)) lV)) (λ_ _ _ _ _=>(aP 0 (show(["j","tops"]:List Str).Nodup by decide))) (λ_ _ _ _ _=>gB) λ_ _ _ _ _=>(aO (bF (K:=K) Z) (pv 1) (pv 0))) ao)))))))
   bK)
   (aG (dH (aL ý (pv 8) oY)
   (aF ø)
   bK)
   (aG (gW (nU (K:=K) Z lE PySem.F.slot_list_append PySem.F.type_list_append jO (pv 2) (J (pv 8) ao)))
   (aG (gW (nU (K:=K) Z lE PySem.F.slot_list_append PySem.F.type_list_append jO (pv 3) (J (jD (yw (K:=K) Z) (pv 4) (lW (pv 7)) lV) ao)))
   (aF (bD 4 vo.nd (bQ pG (jD (yw (K:=K) Z) (pv 4) lV (lW (pv 7))) (cI (J (pv 5) ao))))))))))))
   (aF (bA (bf (J (pv 2) (J (pv 3) (J (pv 4) ao)))))))))),?_⟩
 refine⟨(),λp1 H1 n1=>⟨(),λp2 H2 n2=>⟨(),λp3 H3 n3=>?_⟩⟩⟩;have s3:=n1.same.trans (n2.same.trans n3.same);have f1:H p1=none:=n1.fresh;have f2:H p2=none:=n1.same.free n2.fresh;have f3:H p3=none:=n1.same.free (n2.same.free n3.fresh);have n12:p1≠p2:=n2.ne n1.here;have n13:p3≠p1:=(n3.ne (n2.same _ _ n1.here)).symm;have n23:p3≠p2:=(n3.ne n2.here).symm;have ret:∀{H':Hp}{pp:Addr}{vt:List V}{fs:List Addr}{a5 a6 a7 a8:Option V},aJ H H'->H pp=none->H' p1=some (.lst vt)->H' p2=some (.lst (fs.map V.ref))->Bo [p1,p2] H' pp (cD n ts ss).pile->Paired (xP [p1,p2] K H') vt (cD n ts ss).aR->Paired (Bo [p1,p2] H') fs (cD n ts ss).dM->a4U (Rk (Ck (õ 2) (Ck (õ 3) (Ck (õ 4) a0i)))) { nx:=λx H'=>Q V.non H',rt:=Q} [some g,some (.ref a),some (.ref p1),some (.ref p2),some (.ref pp),a5,a6,a7,a8] H':=λ{H' pp vt fs a5 a6 a7 a8} s fp h1 h2 h3 h4 h5=>by
  refine⟨_,Z,_,Z,_,Z,(),λpr Hr nr=>?_⟩;exact q pr p1 p2 pp vt fs Hr (s.trans nr.same) nr.here f1 f2 fp (nr.same _ _ h1) (nr.same _ _ h2) (h3.same nr.same) (Paired.cB h4 λ_ _ h=>h.same nr.same) (Paired.cB h5 λ_ _ h=>h.same nr.same)
 refine⟨_,Z,a,Z,⟨_,s3.seq hA⟩,opq (P:=λi σ H'=>∃(vt:List V) (fs:List Addr) (pp:Addr) (a5 a6 a7 a8:Option V),σ=[some g,some (.ref a),some (.ref p1),some (.ref p2),some (.ref pp),a5,a6,a7,a8]/\aJ H H'/\H' p1=some (.lst vt)/\H' p2=some (.lst (fs.map V.ref))/\(aW n ts ss i).2=true/\H pp=none/\Bo [p1,p2] H' pp (aW n ts ss i).1.pile/\Paired (xP [p1,p2] K H') vt (aW n ts ss i).1.aR/\Paired (Bo [p1,p2] H') fs (aW n ts ss i).1.dM) λZ97 ji ij=>?_⟩;refine ĕ (xs:=xs) Z97 (ji _ _ _ ⟨[],[],p3,none,none,none,none,Z,s3,n3.same _ _ (n2.same _ _ n1.here),n3.same _ _ n2.here,Z,f3,⟨n3.here,by simp[n13,n23]⟩,.nil,.nil⟩) (λi σ H' _ h=>by
  obtain⟨_,_,_,_,_,_,_,_,s,_⟩:=ij _ _ _ h;exact s.seq hA) ?_ ?_
 ·intro i x σ H4 pz H5 hi hJ nz;obtain⟨vt,fs,pp,a5,a6,a7,a8,rfl,s4,h1,h2,go,fp,Eb,pv,pf⟩:=ij _ _ _ hJ;obtain⟨sp,hsp,⟨ps,rfl,hps⟩⟩:=bw pA hi;have il:i<ss.length:=(fY.mp hsp).1;have esp:ss.getD i .leaf=sp:=by rw[fK,hsp];rfl
  have I:=jA (n:=n) (ts:=ts) (ss:=ss) dw go;obtain⟨R,eR⟩:∃R,R=(aW n ts ss i).1:=⟨_,Z⟩;rw[<-eR]at I Eb pv pf;have s5:=s4.trans nz.same;refine⟨pz,_,Z,cH.of nz.here,Z,_,_,Z,_,_,Z,Z,?_⟩;have a6g:=(Eb.same nz.same).1;refine⟨_,Z,pp,_,Z,.inl (bI.of a6g),_,Z,ps,_,((0:Nat):Int),_,Z,Z,s5.wU hps,zL sp,.inr sp.word,_,Z,a04 sp,_,_,Z,Z,?_⟩;dsimp only;rw[aM];obtain⟨lf,elf⟩:∃lf:Int,((R.pile.length:Nat):Int)-((sp.need:Nat):Int)=lf:=⟨_,Z⟩;rw[elf];refine⟨λσ' H'=>∃bv:V,σ'=[some g,some (.ref a),some (.ref p1),some (.ref p2),some (.ref pp),some (.int (i:Int)),some (.ref ps),some (.int lf),some bv]/\aJ H5 H'/\((sp.need<=R.pile.length/\a7v [p1,p2] K H' bv (qC n ts (ss.take i) sp (sZ sp R)))\/(¬sp.need<=R.pile.length/\bv=.non)),?_,?_⟩
  ·refine⟨_,Z,_,_,Z,Z,_,Z,vd (λc=>?_) λc=>⟨.non,Z,aJ.refl _,.inr ⟨?_,Z⟩⟩⟩
   ·have c':(0:Int)<=lf:=gn c;have nl:sp.need<=R.pile.length:=()
    have el:lf=((dX sp R:Nat):Int):=by unfold dX;omega
    have ll:dX sp R<=R.pile.length:=by unfold dX;omega
    rw[el];refine⟨_,Z,_,Z,_,Z,_,Z,a,_,Z,s5.seq hA,λp6 H6 n6=>?_⟩;rw[R9 _ _ ()]at n6;refine⟨_,Z,_,Z,_,Z,_,Z,pp,_,Z,bI.of (n6.same _ _ a6g),λp7 H7 n7=>?_⟩;rw[Sg _ _ (by rw[aM];exact ll)]at n7;have s57:=n6.same.trans n7.same;have ed:(uI R.pile).drop (dX sp R)=uI (R.pile.drop (dX sp R)):=by unfold uI;rw[U5]
    rw[ed]at n7;have h17:=s57 _ _ (nz.same _ _ h1);have lv:=aQ pv;have jt:∀j∈R.pile.drop (dX sp R),j<R.aR.length:=λj hj=>by rw[I.tl];exact I.lt j (Ao hj)
    refine⟨p7,Z,⟨_,bI.of n7.here⟩,?_⟩;refine PL (λv=>match v with |.int z=>some (vt.getD z.toNat .non)|_=>none) (bI.of n7.here) (by rw[aM,lG];have:=I.pl;omega) (λv H8 N hv8 s8 hN=>?_) (λH8 p9 H9 s8 n9=>?_)
    ·obtain⟨j,hj,rfl⟩:=dY.mp hv8;have jl:j<vt.length:=by rw[lv];exact jt j hj
     have hN':=hN H8 s8;dsimp only at hN';rw[j5]at hN';refine⟨_,Z,_,Z,p1,_,_,_,Z,Z,bI.of (s8 _ _ h17),cA (bL jl),?_⟩;rw[fK,bL jl]at hN';exact hN'
    have e9:(uI (R.pile.drop (dX sp R))).filterMap (λv=>match v with |.int z=>some (vt.getD z.toNat .non)|_=>none)=(R.pile.drop (dX sp R)).map λj=>vt.getD j .non:=by
     unfold uI;rw[Ul];refine(CK λj _=>?_);show some (vt.getD ((j:Int)).toNat V.non)=_;rw[j5]
    rw[e9]at n9;have s59:=s57.trans (s8.trans n9.same);have s69:=n7.same.trans (s8.trans n9.same);have pv9:=Paired.cB pv λ_ _ h=>h.same (nz.same.trans s59);refine⟨g,n,ts,p6,ps,p9,xs.take i,_,ss.take i,sp,sZ sp R,Z,(hG.same s5).same s59,dw,bI.of (s69 _ _ n6.here),J5 i (Paired.cB pA λ_ _ h=>(h.same s5).same s59),(s5.trans s59).wU hps,bI.of n9.here,MP pv9 _ jt,?_,λb hb=>?_,λr Z7 s10 bn=>?_⟩
    ·unfold sZ;rw[aM,lG];unfold dX;omega
    ·obtain⟨j,hj,rfl⟩:=dY.mp hb;rw[fK,bL (jt j hj)];exact I.sm _ (oV _)
    refine⟨r,Z,s59.trans s10,.inl ⟨nl,?_⟩⟩;cases eb:qC n ts (ss.take i) sp (sZ sp R)with
    |none=>rw[eb]at bn;exact bn
    |some b =>
     rw[eb]at bn;obtain⟨p,e,hp,h⟩:=bn;refine⟨p,e,hp,?_⟩;rcases h with h|h
     ·have k1:H9 p1=some (.lst vt):=s59 _ _ (nz.same _ _ h1);have k2:H9 p2=some (.lst (fs.map V.ref)):=s59 _ _ (nz.same _ _ h2);intro hm;rcases bU.mp hm with hm|hm
      ·rw[hm,k1]at h;cases h
      ·rw[bM.mp hm,k2]at h;cases h
     ·obtain⟨j,hj,ej⟩:=dY.mp h;have jl:j<vt.length:=by rw[lv];exact jt j hj
      obtain⟨b',_,⟨p',e',_,np⟩⟩:=bw pv (bL jl);rw[fK,bL jl,Ux,e']at ej;injection ej with ej
      rw[<-ej];exact np
   ·have c':¬(0:Int)<=lf:=Um (yg.mpr c);omega
  rintro σ' H6 ⟨bv,rfl,s6,wb⟩;have s46:=nz.same.trans s6;have h16:=s46 _ _ h1;have h26:=s46 _ _ h2;have a6h:=Eb.same s46;have pv6:=Paired.cB pv λ_ _ h=>h.same s46;have pf6:=Paired.cB pf λ_ _ h=>h.same s46;have sH6:=s4.trans s46;have stop:bv=.non->rM n ts ss i R=none:=λe=>by
   unfold rM;rw[esp];rcases wb with⟨nl,w⟩|⟨nl,_⟩
   ·rw[aB nl];cases eb:qC n ts (ss.take i) sp (sZ sp R)with
    |none=>rfl
    |some b =>
     rw[eb]at w;obtain⟨p,e',_⟩:=w;rw[e]at e';cases e'
   ·rw[aq nl]
  refine⟨_,Z,Z,_,Z,?_⟩;by_cases cn:bv=.non
  ·rw[bN cn];refine gY ?_;have ee:=a1j il go (by rw[<-eR];exact stop cn);rw[<-eR]at ee;refine ret sH6 fp h16 h26 ?_ ?_ ?_
   ·rw[ee];exact a6h
   ·rw[ee];exact pv6
   ·rw[ee];exact pf6
  ·rw[cZ cn];refine cX ?_;obtain⟨nl,b,eb,p,rfl,hp,np⟩:sp.need<=R.pile.length/\∃b,qC n ts (ss.take i) sp (sZ sp R)=some b/\xP [p1,p2] K H6 bv b:=by
    rcases wb with⟨nl,w⟩|⟨_,e⟩
    ·refine⟨nl,?_⟩;cases eb:qC n ts (ss.take i) sp (sZ sp R)with
     |none=>rw[eb]at w;exact absurd w cn
     |some b=>rw[eb]at w;exact⟨b,Z,w⟩
    ·exact absurd e cn
   have el:lf=((dX sp R:Nat):Int):=by unfold dX;omega
   have ll:dX sp R<=R.pile.length:=by unfold dX;omega
   rw[el];have lv:=aQ pv;have lff:=aQ pf;have tl:=I.tl;have fl:=I.fl;have pl:=I.pl;have es:rM n ts ss i R=some ⟨R.aR++[b],R.dM++[R.pile.drop (dX sp R)],R.pile.take (dX sp R)++[i]⟩:=by
    unfold rM;rw[esp,aB nl,eb];rfl
   have er:=Ŕ go (by rw[<-eR];exact es);have m1:p1∈[p1,p2]:=aV;have m2:p2∈[p1,p2]:=bh _ (bM.mpr Z);refine⟨_,Z,.inl ⟨Z,_,bI.of h16⟩,_,Z,p1,vt,_,Z,Z,h16,(),λH7 c7=>?_⟩;have h27:H7 p2=some (.lst (fs.map V.ref)):=(c7.rest p2 (Ne.symm n12)).trans h26;have a6i:=a6h.chg c7 m1;refine⟨_,Z,.inl ⟨Z,_,bI.of h27⟩,_,Z,_,Z,_,Z,pp,_,Z,bI.of a6i.1,λp8 H8 n8=>?_⟩;rw[Sg _ _ (by rw[aM];exact ll),show(uI R.pile).drop (dX sp R)=uI (R.pile.drop (dX sp R)) by unfold uI;rw[U5]]at n8;have h28:=n8.same _ _ h27;refine⟨p2,_,_,Z,Z,h28,by rw[aM];omega,λH9 c9=>?_⟩;have n81:p8∉[p1,p2]:=λhm=>by
    have f8:=n8.fresh;rcases bU.mp hm with hm|hm
    ·rw[hm,c7.here]at f8;cases f8
    ·rw[bM.mp hm,h27]at f8;cases f8
   have h19:H9 p1=some (.lst (vt++[.ref p])):=(c9.rest p1 n12).trans (n8.same _ _ c7.here);have a7w:=(a6i.same n8.same).chg c9 m2;refine⟨_,Z,_,Z,_,Z,pp,_,Z,bI.of a7w.1,λp10 Z7 uJ=>?_⟩;rw[R9 _ _ (by rw[aM];exact ll),show(uI R.pile).take (dX sp R)=uI (R.pile.take (dX sp R)) by unfold uI;rw[U6]]at uJ;refine⟨_,Z,(),λp11 Þ Ft=>?_⟩;refine⟨p10,p11,_,_,Z,Z,Ft.same _ _ uJ.here,Ft.here,by rw[aM,fZ];show min _ _+1<=1000;omega,λp12 Wo a1l=>?_⟩;have J6:=uJ.same.trans (Ft.same.trans a1l.same);have sH9:aJ H H9:=((sH6.chg f1 c7).trans n8.same).chg f2 c9;have f12:H p12=none:=sH9.free (uJ.same.free (Ft.same.free a1l.fresh));refine ji _ _ _ ⟨vt++[.ref p],fs++[p8],p12,_,_,_,_,Z,sH9.trans J6,J6 _ _ h19,?_,by rw[er],f12,?_,?_,?_⟩
   ·have:=J6 _ _ c9.here;rw[this,eO];rfl
   ·rw[er];refine⟨?_,λhm=>?_⟩
    ·rw[a1l.here];unfold uI;rw[eO];rfl
    ·have g:=a1l.fresh;rcases bU.mp hm with hm|hm
     ·rw[hm,Ft.same _ _ (uJ.same _ _ h19)]at g;cases g
     ·rw[bM.mp hm,Ft.same _ _ (uJ.same _ _ c9.here)]at g;cases g
   ·rw[er];exact dh (Paired.cB pv6 λ_ _ h=>(((h.chg c7 m1).same n8.same).chg c9 m2).same J6) ((((xP.chg c7 m1 ⟨p,Z,hp,np⟩).same n8.same).chg c9 m2).same J6)
   ·rw[er];exact dh (Paired.cB pf6 λ_ _ h=>(((h.chg c7 m1).same n8.same).chg c9 m2).same J6) ((Bo.chg c9 m2 ⟨n8.here,n81⟩).same J6)
 ·intro σ H4 hJ;obtain⟨vt,fs,pp,a5,a6,a7,a8,rfl,s4,h1,h2,go,fp,Eb,pv,pf⟩:=ij _ _ _ hJ;rw[lx]at Eb pv pf;exact ret s4 fp h1 h2 Eb pv pf
end
abbrev eY:Stmt:=top 16
def nC:bB ["graph","steps","tops","pile","v","a","b"] Gj (aD eY):={}
inductive a6j where
 |ok
 |step (k:Nat)
 |pile
 |place (v:Nat)
 |tie (a b:Int)
def MT(R:RS):List (List Int):=R.pile.map λj=>R.aR.getD j []
noncomputable def Bp(n:Nat)(ts:List bY)(ss:List b8)(R:RS):a6j :=
 if R.aR.length<ss.length then .step R.aR.length
 else if MT R=[[]]then
  match(List.range n).find? λ(v:Nat)=>!decide (b8.inn (v:Int)∈ss)with
  |some v=>.place v
  |none=>match ts.find? λt=>!decide (b8.tie t.1 t.2∈ss)with
   |some t=>.tie t.1 t.2
   |none=>.ok
 else .pile
def a6k(H:Hp)(v:V):a6j->Prop
 |.ok=>v=.non
 |.step k=>∃p,v=.ref p/\H p=some (.tup [.str "step",.int (k:Int)])
 |.pile=>∃p,v=.ref p/\H p=some (.tup [.str "pile"])
 |.place v'=>∃p,v=.ref p/\H p=some (.tup [.str "place",.int (v':Int)])
 |.tie a b=>∃p,v=.ref p/\H p=some (.tup [.str "tie",.int a,.int b])
def J7(b:List Int):PyData:=.list (b.map PyData.int)
def a1m(b:List Int):(J7 b).canLay0=true:=by
 have h:=shaped_ints b;unfold SeqAt.shaped at h;rw[qK]at h;exact h.1
def Z8(b:List Int):(J7 b).depth<=1:=by
 unfold J7;rw[PyData.depth];have:=vJ (k:=0) (f:=PyData.int) (λb=>by simp[PyData.depth]) b;omega
def Gr(bs:List (List Int)):SeqAt.shaped (.list (bs.map J7))=true:=by
 unfold SeqAt.shaped;rw[PyData.canLay0,Hs a1m,PyData.depth,Jb];exact bN (by have:=vJ Z8 bs;omega)
theorem Sh:∀xs ys:List (List Int),PyData.eqvAll (xs.map J7) (ys.map J7)=decide (xs=ys)
 | [],[]=>by simp[PyData.eqvAll]
 | [],_::_=>by simp[PyData.eqvAll]
 |_::_,[]=>by simp[PyData.eqvAll]
 |x::xs,y::ys=>by
  rw[b7,b7,PyData.eqvAll,Sh xs ys,show PyData.eqv (J7 x) (J7 y)=decide (x=y)from Jq x y,tX]
  simp
def ŕ{K:aH}{H:Hp}{v:V}{s:List Int}(h:V4 K H v s):K7 K H v (J7 s):=by
 obtain⟨p,rfl,h⟩:=h;exact .lst h (wR.ints _)
inductive Ŗ(K:aH)(vs:List V)(H:Hp)(Q:VK)(u_3:XK):Prop
 |mk (g:V) (n:Nat) (ts:List bY) (a pt pp:Addr) (xs vt:List V) (ss:List b8) (R:RS) (_:vs=[g,.ref a,.ref pt,.ref pp]) (_:vf K H g n ts) (_:n<=10) (_:bI K H a xs) (_:Paired (vh K H) xs ss) (_:bI K H pt vt) (_:Paired (V4 K H) vt R.aR) (_:bI K H pp (uI R.pile)) (_:(∀j∈R.pile,j<R.aR.length)) (_:R.pile.length<=1000) (_:∀r H',aJ H H'->a6k H' r (Bp n ts ss R)->Q r H')
section
variable{K:aH}
def Gx(B:Bl mg)(uK:Dn K mg "fault_behind" eY Gj):aZ P w K mg base fV 1 uK.f uK.fd Gj (Ŗ K):=by
 exists uK.F.ok nC;obtain⟨g,n,ts,a,pt,pp,xs,vt,ss,R,rfl,hG,dw,hA,pA,hV,pV,hPp,jl,a6l,q⟩:=h;have hu:(A.deeper (PyProof.Rows.envOfC "fault_behind" (aD eY) s⁻¹ uK.f dD)).units+64<cLine:=by have:=hr.un;omega
 have hv:(A.deeper (PyProof.Rows.envOfC "fault_behind" (aD eY) s⁻¹ uK.f dD)).units+65<cLine:=by have:=hr.un;omega
 obtain⟨pg,ta,rfl,hP,hT⟩:=id hG;have lx:=aQ pA;have lv:=aQ pV;refine⟨_,(aG (dH (aL FT (bG (cP (K:=K) Z) Z B.len () (J (pv 2) ao)) (bG (cP (K:=K) Z) Z B.len () (J (pv 1) ao)))
   (aF (bA (bf (J gA (J (bG (cP (K:=K) Z) Z B.len () (J (pv 2) ao)) ao)))))
   bK)
   (aG (dH (aL (Xn (K:=K) Z hu) (kE ["k","tops"] [none,some 2]  (by kernel_rfl) Z (fM (K:=K) Z (pv 3)) (λ_ _ _ _ _=>(aP 0 (show(["k","tops"]:List Str).Nodup by decide))) (λ_ _ _ _ _=>gB) λ_ _ _ _ _=>(aO (bF (K:=K) Z) (pv 1) (pv 0))) (cI (J (cI ao) ao)))
   (aF (bA (bf (J gA ao))))
   bK)
   (aG (kh jJ Z (jX Z B.range (J (aO (aK (K:=K) Z) (pv 0) aA) ao)) (aP 4 nC.nd)
   (aF (dH (aL (jM (K:=K) Z hv) (bf (J gA (J (pv 4) ao))) (pv 1) (by with_unfolding_all rfl))
   (aF (bA (bf (J gA (J (pv 4) ao)))))
   bK)))
   (aG (kh jJ Z (fM (K:=K) Z (aO (aK (K:=K) Z) (pv 0) aA)) (jN (K:=K) (n:=2) Z Z (cu (aP 5 nC.nd) (cu (aP 6 nC.nd) jz)))
   (aF (dH (aL (jM (K:=K) Z hv) (bf (J gA (J (pv 5) (J (pv 6) ao)))) (pv 1) (by with_unfolding_all rfl))
   (aF (bA (bf (J gA (J (pv 5) (J (pv 6) ao))))))
   bK)))
   (aF (bA oY)))))),?_⟩
 refine⟨_,Z,pt,_,Z,.inl hV,_,Z,a,_,Z,.inl hA,_,_,Z,Z,_,Z,?_⟩;rw[lv,lx];by_cases c1:R.aR.length<ss.length
 ·rw[bN (show((R.aR.length:Nat):Int)<((ss.length:Nat):Int) by omega)];refine gY ⟨_,Z,pt,_,Z,.inl hV,(),λp1 H1 n1=>q _ H1 n1.same ?_⟩;unfold Bp;rw[aB c1];rw[lv]at n1;exact⟨p1,Z,n1.here⟩
 ·rw[cZ (show ¬((R.aR.length:Nat):Int)<((ss.length:Nat):Int) by omega)];refine cX ⟨_,Z,pp,Z,⟨_,hPp⟩,?_⟩;refine PL (λv=>match v with |.int z=>some (vt.getD z.toNat .non)|_=>none) hPp (by rw[aM];exact a6l) (λv H8 N hv8 s8 hN=>?_) (λH8 p9 H9 s8 n9=>?_)
  ·obtain⟨j,hj,rfl⟩:=dY.mp hv8;have jv:j<vt.length:=by rw[lv];exact jl j hj
   have hN':=hN H8 s8;dsimp only at hN';rw[j5]at hN';refine⟨_,Z,_,Z,pt,_,_,_,Z,Z,s8.seq hV,cA (bL jv),?_⟩;rw[fK,bL jv]at hN';exact hN'
  have e9:(uI R.pile).filterMap (λv=>match v with |.int z=>some (vt.getD z.toNat .non)|_=>none)=R.pile.map λj=>vt.getD j .non:=by
   unfold uI;rw[Ul];refine(CK λj _=>?_);show some (vt.getD ((j:Int)).toNat V.non)=_;rw[j5]
  rw[e9]at n9;have s09:=s8.trans n9.same;have laid:∀l:List Nat,(∀j∈l,j<R.aR.length)->Paired (V4 K H9) (l.map λj=>vt.getD j .non) (l.map λj=>R.aR.getD j []):=λl=>by
   induction l with
   |nil=>exact λ_=>.nil
   |cons j r ih =>
    intro h;have jl:=h j aV;obtain⟨x,hx,p,e,hb⟩:=cU pV (bL jl);refine .cons ?_ (ih λi hi=>h i (bh _ hi));dsimp only;rw[fK,hx,fK,bL jl];exact⟨p,e,s09.seq hb⟩
  refine⟨(),λp10 Z7 uJ=>⟨(),λp11 Þ Ft=>?_⟩⟩;have ŗ:=uJ.same.trans Ft.same;refine⟨.list ((MT R).map J7),.list ([[]].map J7),.lst (bI.of (ŗ _ _ n9.here)) (PX (λ_ _ h=>ŕ h) (Paired.cB (laid R.pile jl) λ_ _ ⟨p,e,hb⟩=>⟨p,e,ŗ.seq hb⟩)),.lst (bI.of Ft.here) (.cons (.lst (bI.of (Ft.same _ _ uJ.here)) .nil) .nil),Gr _,Gr [[]],_,Z,?_⟩;rw[aB Z,PyData.eqv,Sh];have s11:=s09.trans ŗ;by_cases c2:MT R=[[]]
  ·rw[bN c2];refine cX ?_;refine⟨_,Z,pg,_,_,_,Z,Z,s11.wU hP,Z,_,Z,(),(),?_⟩;rw[j5];refine vG (n:=n) (λi σ H'=>(∃vv:Option V,σ=[some (.ref pg),some (.ref a),some (.ref pt),some (.ref pp),vv,none,none])/\aJ H H'/\∀j,j<i->b8.inn (j:Int)∈ss) ⟨⟨none,Z⟩,s11,λj h=>absurd h (Ay _)⟩ ?_ ?_
   ·rintro i σ Wo hi ⟨⟨vv,rfl⟩,s12,ok⟩;have ei:(0:Int)+(i:Int)=(i:Int):=()
    rw[ei];refine⟨_,Z,(),λp13 H13 n13=>?_⟩;have w5:=s12.trans n13.same;refine⟨_,Z,yI (s:=.inn (i:Int)) (w5.seq hA) (Paired.cB pA λ_ _ h=>vh.same w5 h) (cH.of n13.here) ⟨_,Z,?_⟩⟩;by_cases c3:b8.inn (i:Int)∈ss
    ·rw[bN c3];refine cX ⟨⟨_,Z⟩,w5,λj hj=>?_⟩;by_cases e:j=i
     ·rw[e];exact c3
     ·exact ok j ()
    ·rw[cZ c3];refine gY ⟨_,Z,(),λp14 H14 n14=>q _ H14 (w5.trans n14.same) ?_⟩;unfold Bp;have ef:(List.range n).find? (λ(v:Nat)=>!decide (b8.inn (v:Int)∈ss))=some i:=ó.mpr ⟨by rw[cZ c3];rfl,nQ.mpr hi,λj hj=>by rw[bN (ok j hj)];rfl⟩;rw[aq c1,aB c2,ef];exact⟨p14,Z,n14.here⟩
   ·rintro σ Wo ⟨⟨vv,rfl⟩,s12,ok⟩;have ef:(List.range n).find? (λ(v:Nat)=>!decide (b8.inn (v:Int)∈ss))=none:=Ej.mpr λj hj=>by rw[bN (ok j (nQ.mp hj))];simp
    obtain⟨txs,htx,ptx,ltx⟩:=id (hT.same s12);have ltl:=aQ ptx;refine⟨_,Z,pg,_,_,_,Z,Z,s12.wU hP,Z,ta,Z,⟨_,htx⟩,Cj (xs:=txs) (λi σ H'=>(∃va vb:Option V,σ=[some (.ref pg),some (.ref a),some (.ref pt),some (.ref pp),vv,va,vb])/\aJ Wo H'/\∀t∈ts.take i,b8.tie t.1 t.2∈ss) ⟨⟨none,none,Z⟩,aJ.refl _,λt h=>absurd h (by simp)⟩ (λi σ H' _ ⟨_,s,_⟩=>s.seq htx) ?_ ?_⟩
    ·rintro i x σ H13 hx ⟨⟨va,vb,rfl⟩,w5,ok2⟩;obtain⟨t,ht,⟨px,rfl,hpx⟩⟩:=bw ptx hx;obtain⟨til,tix⟩:=fY.mp ht;have et:ts.take (i+1)=ts.take i++[t]:=by rw[Af til,tix]
     refine⟨px,_,Z,w5.wU hpx,Z,_,_,Z,_,_,Z,Z,?_⟩;refine⟨_,Z,_,Z,(),λp14 H14 n14=>?_⟩;have ß:=(s12.trans w5).trans n14.same;refine⟨_,Z,yI (s:=.tie t.1 t.2) (ß.seq hA) (Paired.cB pA λ_ _ h=>vh.same ß h) (cH.of n14.here) ⟨_,Z,?_⟩⟩;by_cases c3:b8.tie t.1 t.2∈ss
     ·rw[bN c3];refine cX ⟨⟨_,_,Z⟩,w5.trans n14.same,λt' h'=>?_⟩;rw[et]at h';rcases cL.mp h' with h'|h'
      ·exact ok2 t' h'
      ·rw[bM.mp h'];exact c3
     ·rw[cZ c3];refine gY ⟨_,Z,_,Z,(),λp15 H15 n15=>q _ H15 (ß.trans n15.same) ?_⟩;unfold Bp;have eg:ts.find? (λt=>!decide (b8.tie t.1 t.2∈ss))=some t:=by
       rw[<-xZ (i+1) ts,et,Av,Ur,Ej.mpr (λt' h'=>by rw[bN (ok2 t' h')];simp)];rw[Option.none_or];show List.find? _ (t::_)=_;rw[List.find?_cons,cZ c3];rfl
      rw[aq c1,aB c2,ef,eg];exact⟨p15,Z,n15.here⟩
    ·rintro σ H13 ⟨⟨va,vb,rfl⟩,w5,ok2⟩;rw[ltl,iV]at ok2;refine q _ H13 (s12.trans w5) ?_;unfold Bp;have eg:ts.find? (λt=>!decide (b8.tie t.1 t.2∈ss))=none:=Ej.mpr λt h=>by rw[bN (ok2 t h)];simp
     rw[aq c1,aB c2,ef,eg];exact rfl
  ·rw[cZ c2];refine gY ⟨(),λp12 Wo n12=>q _ Wo (s11.trans n12.same) ?_⟩;unfold Bp;rw[aq c1,aq c2];exact⟨p12,Z,n12.here⟩
def a1n{n:Nat}{ts:List bY}{ss:List b8}(dw:n<=10):∃i,i<=ss.length/\a1i i (cD n ts ss)/\(i=ss.length\/i<ss.length):=by
 have h:∀m,m<=ss.length->∃i,i<=m/\a1i i (aW n ts ss m).1:=λm=>by
  induction m with
  |zero=>exact λ_=>⟨0,aN _,jA dw Z⟩
  |succ m ih =>
   intro hm;by_cases c:(aW n ts ss (m+1)).2=true
   ·exact⟨m+1,aN _,jA dw c⟩
   ·obtain⟨i,hi,I⟩:=ih ();refine⟨i,(),?_⟩;have e:(aW n ts ss (m+1)).1=(aW n ts ss m).1:=by
     have e:aW n ts ss (m+1)=if(aW n ts ss m).2=true then
      (match rM n ts ss m (aW n ts ss m).1 with
      |some r=>(r,true)
      |none=>((aW n ts ss m).1,false))
     else((aW n ts ss m).1,false):=rfl
     grind
    grind
 obtain⟨i,hi,I⟩:=h ss.length (aN _);exact⟨i,hi,I,()⟩
end
structure Ř(mg:Str->Option Value) where
 qQ:Value
 vV:mg "BEYOND_WEIGHTS" = some qQ
 vW:cQ (.int 1000000000000000000000000000000) qQ
 sV:Value
 xH:mg "MOST_IN_A_BAG" = some sV
 xK:cQ (.int 4) sV
 uw:Value
 yJ:mg "MOST_COLOURS" = some uw
 yK:cQ (.int 4) uw
def a4e{K:aH}{h:Heap}{Fv:Tok}{Gy:Tok}{J8:Tok}(X:K.In h)(G:h.Ns mainGlobals mg)(Fw:PySem.W.nsIn K mainGlobals "BEYOND_WEIGHTS" = some (some (Value.int 1000000000000000000000000000000 Fv)))(Gz:PySem.W.nsIn K mainGlobals "MOST_IN_A_BAG" = some (some (Value.int 4 Gy)))(J9:PySem.W.nsIn K mainGlobals "MOST_COLOURS" = some (some (Value.int 4 J8))):Nonempty (Ř mg) :=
 ⟨{ qQ:=_,vV:=Ja X G Fw,vW:=⟨_,Z⟩,sV:=_,xH:=Ja X G Gz,xK:=⟨_,Z⟩,uw:=_,yJ:=Ja X G J9,yK:=⟨_,Z⟩}⟩
abbrev mR:Stmt:=inClass (top 35) 0
def yL:bB X3 X3 (aD mR):={}
abbrev fC:Stmt:=inClass (top 35) 1
def xQ:bB kJ kJ (aD fC):={}
abbrev gM:Stmt:=inClass (top 35) 2
def Bq:bB xq xq (aD gM):={}
abbrev gO:Stmt:=inClass (top 35) 3
def Br:bB kJ kJ (aD gO):={}
abbrev ou:Stmt:=inClass (top 36) 0
def zR:bB X4 X4 (aD ou):={}
abbrev lZ:Stmt:=inClass (top 36) 1
def Dp:bB iz iz (aD lZ):={}
abbrev pY:Stmt:=inClass (top 36) 2
def GC:bB sY sY (aD pY):={}
abbrev jB:Stmt:=inClass (top 36) 3
def yM:bB iz iz (aD jB):={}
abbrev qR:Stmt:=inClass (top 37) 0
def Dr:bB Gk Gk (aD qR):={}
abbrev kW:Stmt:=inClass (top 37) 1
def Bs:bB kJ kJ (aD kW):={}
abbrev pZ:Stmt:=inClass (top 37) 2
def GD:bB iz iz (aD pZ):={}
abbrev tH:Stmt:=inClass (top 37) 3
def Lj:bB sY sY (aD tH):={}
abbrev kY:Stmt:=inClass (top 37) 4
def Bt:bB iz iz (aD kY):={}
abbrev qU:Stmt:=inClass (top 38) 0
def Ds:bB Gk Gk (aD qU):={}
abbrev qd:Stmt:=inClass (top 38) 1
def GF:bB xq xq (aD qd):={}
abbrev qe:Stmt:=inClass (top 38) 2
def GJ:bB kJ kJ (aD qe):={}
abbrev qg:Stmt:=inClass (top 38) 3
def GK:bB iz iz (aD qg):={}
abbrev qi:Stmt:=inClass (top 38) 4
def Lk:bB sY sY (aD qi):={}
abbrev kZ:Stmt:=inClass (top 38) 5
def Bu:bB iz iz (aD kZ):={}
structure qX(K:aH)(mg:Str->Option Value) where
 C:Addr
 cl:Cls K C
 m:mg "Question" = some (.ref C)
 bJ:Dm K C "__init__" "Question.__init__" mR X3
 uT:a5J K C "__init__" bJ.f
 ř:Mk K C bJ.f
set_option genInjectivity false in
structure vX(K:aH)(mg:Str->Option Value) where
 C:Addr
 cl:Cls K C
 m:mg "Colours" = some (.ref C)
 fG:eX K C "graph"
 ig:eX K C "leaf"
 fO:eX K C "whole"
 Ka:eX K C "many"
 fD:eX K C "weights"
 bJ:DmD K C "__init__" "Colours.__init__" ou X4
 eE:Dm K C "is_better" "Question.is_better" fC kJ
 jc:Dm K C "shared" "Question.shared" gM xq
 jd:Dm K C "joined" "Question.joined" gO kJ
 je:Dm K C "put_in" "Colours.put_in" lZ iz
 qj:Dm K C "tied" "Colours.tied" pY sY
 eG:Dm K C "taken_out" "Colours.taken_out" jB iz
 ř:Mk K C bJ.f
set_option genInjectivity false in
structure Dt(K:aH)(mg:Str->Option Value) where
 C:Addr
 cl:Cls K C
 m:mg "Apart" = some (.ref C)
 fG:eX K C "graph"
 ig:eX K C "leaf"
 fO:eX K C "whole"
 fD:eX K C "weights"
 bJ:DmD K C "__init__" "Apart.__init__" qR Gk
 eE:Dm K C "is_better" "Apart.is_better" kW kJ
 jc:Dm K C "shared" "Question.shared" gM xq
 jd:Dm K C "joined" "Question.joined" gO kJ
 je:Dm K C "put_in" "Apart.put_in" pZ iz
 qj:Dm K C "tied" "Apart.tied" tH sY
 eG:Dm K C "taken_out" "Apart.taken_out" kY iz
 ř:Mk K C bJ.f
set_option genInjectivity false in
structure Du(K:aH)(mg:Str->Option Value) where
 C:Addr
 cl:Cls K C
 m:mg "Watch" = some (.ref C)
 fG:eX K C "graph"
 ig:eX K C "leaf"
 fO:eX K C "whole"
 fD:eX K C "weights"
 bJ:DmD K C "__init__" "Watch.__init__" qU Gk
 eE:Dm K C "is_better" "Question.is_better" fC kJ
 jc:Dm K C "shared" "Watch.shared" qd xq
 jd:Dm K C "joined" "Watch.joined" qe kJ
 je:Dm K C "put_in" "Watch.put_in" qg iz
 qj:Dm K C "tied" "Watch.tied" qi sY
 eG:Dm K C "taken_out" "Watch.taken_out" kZ iz
 ř:Mk K C bJ.f
abbrev lN:Stmt:=top 17
def tK:bB ["graph","steps","tops","feeds","pile"] mW (aD lN):={}
abbrev vp:Stmt:=top 18
def Kc:bB ["bags"] ["bags"] (aD vp):={}
inductive a4f(K:aH)(vs:List V)(H:Hp)(Q:VK)(u_3:XK):Prop
 |mk (g:V) (n:Nat) (ts:List bY) (a:Addr) (xs:List V) (ss:List b8) (_:vs=[g,.ref a]) (_:vf K H g n ts) (_:n<=10) (_:bI K H a xs) (_:Paired (vh K H) xs ss) (_:ss.length<=900) (_:Bp n ts ss (cD n ts ss)=.ok) (_:∀r pt pf vt fs H',aJ H H'->H' r=some (.tup [.ref pt,.ref pf])->H pt=none->H pf=none->H' pt=some (.lst vt)->H' pf=some (.lst (fs.map V.ref))->Paired (xP [pt,pf] K H') vt (cD n ts ss).aR->Paired (Bo [pt,pf] H') fs (cD n ts ss).dM->Q (.ref r) H')
def zM{n:Nat}{ts:List bY}{ss:List b8}(dw:n<=10)(h:Bp n ts ss (cD n ts ss)=.ok):a1i ss.length (cD n ts ss):=by
 obtain⟨i,il,I,_⟩:=a1n (n:=n) (ts:=ts) (ss:=ss) dw;have e:¬(cD n ts ss).aR.length<ss.length:=λc=>by
  unfold Bp at h;grind
 rw[I.tl]at e;grind
def Sq(n:Nat)(ts:List bY)(ss:List b8)(m:Nat):aW n ts ss (m+1)=if(aW n ts ss m).2=true then
   (match rM n ts ss m (aW n ts ss m).1 with
   |some r=>(r,true)
   |none=>((aW n ts ss m).1,false))
  else((aW n ts ss m).1,false):=rfl
theorem M4{n:Nat}{ts:List bY}{ss:List b8}(dw:n<=10):∀m,(aW n ts ss m).2=false->(aW n ts ss m).1.aR.length<m
 |0,h=>by cases h
 |m+1,h=>by
  rw[Sq]at h ⊢
  by_cases c:(aW n ts ss m).2=true
  ·rw[aB c]at h ⊢
   have I:=jA dw c
   cases d:rM n ts ss m (aW n ts ss m).1 with
   |none=>show(aW n ts ss m).1.aR.length<m+1;rw[I.tl];omega
   |some r=>grind
  ·rw[aq c]
   have:=M4 dw m (yg.mpr c)
   grind
def Ś{n:Nat}{ts:List bY}{ss:List b8}(dw:n<=10)(h:Bp n ts ss (cD n ts ss)=.ok):∀i,i<=ss.length->(aW n ts ss i).2=true:=by
 have e:¬(cD n ts ss).aR.length<ss.length:=λc=>by
  unfold Bp at h;grind
 intro i il;cases c:(aW n ts ss i).2 with
 |true=>rfl
 |false =>
  have e2:=J0 c ss.length il;have:=M4 dw i c;unfold cD at e;grind
section
variable{K:aH}
def Qp(B:Bl mg)(U:Used w K mg)(jU:Fq K mg)(jy:Dn K mg "is_below" fP uq)(oN:Dn K mg "joint" pX jT)(mQ:Dn K mg "less" sU jT)(HN:Dn K mg "bag_behind" fQ Dg)(vU:Dn K mg "run" Gq mW)(uK:Dn K mg "fault_behind" eY Gj)(xR:Dn K mg "run_whole" lN mW):aZ P w K mg base fV 5 xR.f xR.fd mW (a4f K):=by
 have a7x:aZ P w K mg base fV 4 _ _ _ _:=a4d B U jU jy oN mQ HN vU;have a7y:aZ P w K mg base fV 4 _ _ _ _:=(Gx B uK).mono ();exists xR.F.ok tK;obtain⟨g,n,ts,a,xs,ss,rfl,hG,dw,hA,pA,a6f,tG,q⟩:=h;refine⟨_,(aG (wH (aY a7x hr Z vU.m vU.F.kp vU.b .nil bW (J (pv 0) (J (pv 1) ao))) (jN (K:=K) (n:=3) Z Z (cu (aP 2 tK.nd) (cu (aP 3 tK.nd) (cu (aP 4 tK.nd) jz)))))
   (aG (dH (aL Xg (aY a7y hr Z uK.m uK.F.kp uK.b .nil bW (J (pv 0) (J (pv 1) (J (pv 2) (J (pv 4) ao))))) oY)
   (aF Ci)
   bK)
   (aF (bA (bf (J (pv 2) (J (pv 3) ao))))))),?_⟩
 have I:=zM dw tG;have pl:=I.pl;refine⟨_,Z,_,Z,g,n,ts,a,xs,ss,Z,hG,dw,hA,pA,a6f,λr pt pf pp vt fs H1 s1 hr1 ft ff fp ht hf hp pv pf'=>⟨r,_,Z,cH.of hr1,Z,_,_,Z,_,_,Z,_,_,Z,Z,?_⟩⟩;refine⟨_,Z,_,Z,_,Z,_,Z,g,n,ts,a,pt,pp,xs,vt,ss,cD n ts ss,Z,hG.same s1,dw,s1.seq hA,Paired.cB pA λ_ _ h=>h.same s1,bI.of ht,Paired.cB pv λ_ _ h=>h.l,bI.of hp.1,(λj hj=>by rw[I.tl];exact I.lt j hj),(),λv H2 s2 fv=>?_⟩;rw[tG]at fv;obtain rfl:v=.non:=fv;refine⟨Z,_,Z,cX ?_⟩;refine⟨_,Z,_,Z,(),λp3 H3 n3=>?_⟩;have w5:=s2.trans n3.same;exact q p3 pt pf vt fs H3 (s1.trans w5) n3.here ft ff (w5 _ _ ht) (w5 _ _ hf) (Paired.cB pv λ_ _ h=>h.same w5) (Paired.cB pf' λ_ _ h=>h.same w5)
end
inductive a4g(K:aH)(vs:List V)(H:Hp)(Q:VK)(u_3:XK):Prop
 |mk (a:Addr) (xs:List V) (rs:List Ca) (_:vs=[.ref a]) (_:bI K H a xs) (_:Paired (λv r=>∃q,v=.ref q/\bI K H q (r.2.map V.int)) xs rs) (_:rs.length<=900) (_:(∀r∈rs,r.2.length<=4)) (_:∀H',aJ H H'->Q .non H')
section
variable{K:aH}
abbrev ś(K:PySem.W.Frag)(mg:Str->Option Value):=Dn K mg "refuse_wide" vp ["bags"]
def Kd(B:Bl mg)(Ct:Ř mg)(xT:ś K mg):aZ P w K mg base fV 1 xT.f xT.fd ["bags"] (a4g K):=by
 exists xT.F.ok Kc;obtain⟨a,xs,rs,rfl,hx,hp,l9,h4,q⟩:=h;have lx:=aQ hp;refine⟨_,(aF (dH (eN (K:=K) Z (bG (Zi (K:=K) Z Z) Z B.any () (J (kE ["bag"] [none]  (by kernel_rfl) Z (fM (K:=K) Z (pv 0)) (λ_ _ _ _ _=>(aP 0 (show(["bag"]:List Str).Nodup by decide))) (λ_ _ _ _ _=>gB) λ_ _ _ _ _=>(wK Jj (bG (cP (K:=K) Z) Z B.len () (J (pv 0) ao)) (Pq (v:=.int 4) Z Ct.xH Ct.xK))) ao)) λ_=>rfl)
   (aF Ci)
   bK)),?_⟩
 refine⟨_,Z,a,Z,⟨_,hx⟩,Ė (λj=>some (.bl false)) hx () (λj x H3 N hj s3 hN=>?_) λH3 p H4 s3 nw=>?_⟩
 ·obtain⟨r,hr1,⟨b,rfl,hb⟩⟩:=bw hp hj;refine⟨_,Z,b,_,Z,.inl (s3.seq hb),_,_,Z,Z,?_⟩;grind
 have e1:(List.range xs.length).filterMap (λj=>some (V.bl false))=((List.range rs.length).map λ_=>false).map V.bl:=by
  rw[lx,mL];exact CK λ_ _=>rfl
 rw[e1]at nw;refine⟨p,_,_,Z,bI.of nw.here,pB.bls _,_,Z,?_⟩;have e2:((List.range rs.length).map λ_=>false).any id=false:=by
  grind
 rw[e2];exact cX (q H4 (s3.trans nw.same))
end
abbrev yN:Stmt:=top 20
def Fx:bB JH Mw (aD yN):={}
abbrev lC:Stmt:=top 21
def Bv:bB ["table"] ["table"] (aD lC):={}
abbrev mj:Stmt:=top 22
def vq:bB ["graph","steps","tops","feeds"] mW (aD mj):={}
def a1o{K:aH}{H:Hp}{vs:List V}{bs:List (List Int)}(h:Paired (xP ex K H) vs bs):Paired (λv (r:Ca)=>∃q,v=.ref q/\bI K H q (r.2.map V.int)) vs (bs.map λb=>(none,b)):=by
 induction h with
 |nil=>exact .nil
 |cons h _ ih =>
  obtain⟨q,e,h,_⟩:=h;exact .cons ⟨q,e,h⟩ ih
inductive a6m(K:aH)(vs:List V)(H:Hp)(Q:VK)(u_3:XK):Prop
 |mk (g:V) (n:Nat) (ts:List bY) (a:Addr) (xs:List V) (ss:List b8) (_:vs=[g,.ref a]) (_:vf K H g n ts) (_:n<=10) (_:bI K H a xs) (_:Paired (vh K H) xs ss) (_:ss.length<=800) (_:Bp n ts ss (cD n ts ss)=.ok) (_:(∀b∈(cD n ts ss).aR,b.length<=4)) (_:∀r pt pf vt fs H',aJ H H'->H' r=some (.tup [.ref pt,.ref pf])->H' pt=some (.lst vt)->H' pf=some (.lst (fs.map V.ref))->Paired (xP [pt,pf] K H') vt (cD n ts ss).aR->Paired (Bo [pt,pf] H') fs (cD n ts ss).dM->Q (.ref r) H')
def Ŝ(H:Hp)(v:V)(r:gC):Prop:=∃p,v=.ref p/\H p=some (.tup [.int r.m,.int r.b])
def xU(H:Hp):List (List Key×V)->cG->Prop:=Paired λkv tr=>kv.1=qx tr.1/\Ŝ H kv.2 tr.2
inductive Ke(H:Hp)(v:V)(T:cG):Prop
 |mk (p O:_) (_:v=.ref p) (_:H p=some (.dT O)) (_:xU H O T)
def Ŝ.keep{H H':Hp}{v:V}{r:gC}(k:qz H H')(h:Ŝ H v r):Ŝ H' v r:=by
 obtain⟨p,e,h⟩:=h;exact⟨p,e,k _ _ h⟩
def Ke.keep{H H':Hp}{v:V}{T:cG}(s:aJ H H')(h:Ke H v T):Ke H' v T:=by
 obtain⟨p,O,e,h1,h2⟩:=h;exact⟨p,O,e,s _ _ h1,Paired.cB h2 λ_ _ z=>⟨z.1,z.2.keep (.of s)⟩⟩
inductive Z9(vs:List V)(H:Hp)(Q:VK)(u_3:XK):Prop
 |mk (t:Addr) (O:List (List Key×V)) (T:cG) (_:vs=[.ref t]) (_:H t=some (.dT O)) (_:qN H O T) (_:T.length<=900) (_:(T.map (·.1)).Nodup) (_:∀p kvs' H',aJ H H'->H' p=some (.dT kvs')->xU H' kvs' T->Q (.ref p) H')
section
variable{K:aH}{κ:Type} [DecidableEq κ]
def Ln(B:Bl mg)(Ct:Ř mg)(U:Used w K mg)(jU:Fq K mg)(jy:Dn K mg "is_below" fP uq)(oN:Dn K mg "joint" pX jT)(mQ:Dn K mg "less" sU jT)(HN:Dn K mg "bag_behind" fQ Dg)(vU:Dn K mg "run" Gq mW)(uK:Dn K mg "fault_behind" eY Gj)(xR:Dn K mg "run_whole" lN mW)(xT:ś K mg)(zT:Dn K mg "run_narrow" mj mW):aZ P w K mg base fV 6 zT.f zT.fd mW (a6m K):=by
 have a7z:aZ P w K mg base fV 5 _ _ _ _:=Qp B U jU jy oN mQ HN vU uK xR;have a7A:aZ P w K mg base fV 5 _ _ _ _:=(Kd B Ct xT).mono ();exists zT.F.ok vq;obtain⟨g,n,ts,a,xs,ss,rfl,hg,dw,hA,pA,l8,qY,b4,q⟩:=h;refine⟨_,(aG (wH (aY a7z hr Z xR.m xR.F.kp xR.b .nil bW (J (pv 0) (J (pv 1) ao))) (jN (K:=K) (n:=2) Z Z (cu (aP 2 vq.nd) (cu (aP 3 vq.nd) jz))))
   (aG (gW (aY a7A hr Z xT.m xT.F.kp xT.b .nil bW (J (pv 2) ao)))
   (aF (bA (bf (J (pv 2) (J (pv 3) ao))))))),?_⟩
 refine⟨_,Z,_,Z,g,n,ts,a,xs,ss,Z,hg,dw,hA,pA,(),qY,λr pt pf vt fs H1 s1 hr1 fpt fpf hpt hpf pT pF=>?_⟩;refine⟨r,_,Z,cH.of hr1,Z,_,_,Z,_,_,Z,Z,?_⟩;have lT:(cD n ts ss).aR.length<=900:=by
  have:=(zM dw qY).tl;omega
 refine⟨_,Z,pt,vt,(cD n ts ss).aR.map (λb=>(none,b)),Z,bI.of hpt,a1o pT,(),?_,λH2 s2=>?_⟩
 ·grind
 ·refine⟨_,Z,_,Z,(),λp3 H3 n3=>?_⟩;have s23:=s2.trans n3.same;exact q p3 pt pf vt fs H3 (s1.trans s23) n3.here (s23 _ _ hpt) (s23 _ _ hpf) (Paired.cB pT λ_ _ ⟨p,e,h,ne⟩=>⟨p,e,s23.seq h,ne⟩) (Paired.cB pF λ_ _ ⟨h,ne⟩=>⟨s23 _ _ h,ne⟩)
abbrev a1p(K:PySem.W.Frag)(mg:Str->Option Value):=Dn K mg "without_sources" lC ["table"]
def Bw(B:Bl mg)(yO:a1p K mg):aZ P w K mg base fV 1 yO.f yO.fd ["table"] Z9:=by
 exists yO.F.ok Bv;obtain⟨t,O,T,rfl,ht,hT,lT,nd,q⟩:=h;have hw2:(A.deeper (PyProof.Rows.envOfC "without_sources" (aD lC) s⁻¹ yO.f dD)).units+2<cLine:=by have:=hr.un;omega
 refine⟨_,(aF (bA (iC (V8 (K:=K) Z Z hw2) Z B.dict () (J (ĵ (kE ["state","row"] [none,none]  (by kernel_rfl) Z (vL (tD (K:=K) Z Ak Ij Ik vK (pv 0))) (λ_ _ _ _ _=>(jN (K:=K) (n:=2) Z Z (cu (aP 0 (show(["state","row"]:List Str).Nodup by decide)) (cu (aP 1 (show(["state","row"]:List Str).Nodup by decide)) jz)))) (λ_ _ _ _ _=>gB) λ_ _ _ _ _=>(bf (J (pv 0) (J (bf (J (aO (aK (K:=K) Z) (pv 1) aA) (J (aO (aK (K:=K) Z) (pv 1) aA) ao))) ao))))) ao)))),⟨_,Z,.inr (.inr (.inl ⟨Z,.inr ⟨_,ht⟩⟩)),t,O,Z,Z,ht,λpv H1 n1=>⟨pv,t,O,Z,n1.here,n1.same _ _ ht,λo as pk=>?_⟩⟩⟩;have h1t:=n1.same _ _ ht;have Wi:Nd H (cM H1 t (.jq o (.dT O))):=(Nd.of n1.same).trans (Nd.jq h1t);have Tw:cM H1 t (.jq o (.dT O)) t=some (.jq o (.dT O)):=cV;have Yk:∀c,c≠t->cM H1 t (.jq o (.dT O)) c=H1 c:=λc hc=>aU hc;generalize cM H1 t (.jq o (.dT O))=G0 at pk Wi Tw Yk ⊢;have lk:=aQ hT;have la:=aQ pk;refine ZK (λi ys G=>aJ G0 G/\∃kw,Paired (PrL G) ys kw/\xU G kw (T.take i)) ⟨aJ.refl _,[],.nil,.nil⟩ (λi ys G hi ⟨sG,kw,p1,p2⟩=>⟨sG _ _ Tw,?_⟩) (λi ys G a0 v0 p G1 ha0 hv0 ⟨sG,kw,p1,p2⟩ nw=>?_) (λys G pl ⟨sG,kw,p1,p2⟩ hpl=>?_)
 ·rw[aQ p1,aQ p2,fZ];omega
 ·obtain⟨kv,hkv,hak⟩:=bw pk ha0;obtain⟨⟨st,row⟩,hsx,ek,hrow⟩:=bw hT hkv;have ek:kv.1=qx st:=ek;have hv0':v0=kv.2:=by
   grind
  subst hv0';rw[ek]at hak;have sG1:=sG.trans nw.same;obtain⟨pr,qr,asr,ZW,hpr,_⟩:=hrow.keep (Wi.tups.trans (.of sG1));refine⟨p,_,Z,cH.of nw.here,Z,_,_,Z,_,_,Z,Z,?_⟩;rw[ZW];refine⟨_,Z,_,Z,pr,_,_,.int row.m,Z,Z,cH.of hpr,Z,_,Z,pr,_,_,.int row.b,Z,Z,cH.of hpr,Z,(),λq1 G2 m2=>⟨(),λq2 G3 m3=>?_⟩⟩;have w5:=nw.same.trans (m2.same.trans m3.same);refine⟨sG.trans w5,kw++[(qx st,.ref q1)],dh (Paired.cB p1 λ_ _ ⟨pp,kp,e,h1,h2⟩=>⟨pp,kp,e,w5 _ _ h1,w5 _ _ h2⟩) ⟨q2,a0,Z,m3.here,(sG.trans w5) _ _ hak⟩,?_⟩;rw[mK,hsx];exact dh (Paired.cB p2 λ_ _ z=>⟨z.1,z.2.keep (.of w5)⟩) ⟨Z,q1,Z,m3.same _ _ m2.here⟩
 ·have n2:=gZ.oM (o:=.lst ys) hpl;generalize cM G pl (.lst ys)=G2 at n2 ⊢;have g2t:=n2.same _ _ (sG _ _ Tw);rw[show T.take as.length=T by grind]at p2;have tu:qz G (cM G2 t (.dT O)):=λc zs e=>Nd.Ql g2t _ _ (n2.same _ _ e);have sF:aJ H (cM G2 t (.dT O)):=λc u e=>by
   by_cases z:c=t
   ·rw[z]at e ⊢;rw[cV,<-e,ht]
   ·rw[aU z];refine(sG.trans n2.same) c u ?_;rw[Yk c z];exact n1.same _ _ e
  have npl:pl≠t:=λz=>by have:=n2.here;grind
  refine⟨t,o,O,O,ht,g2t,?_⟩;refine⟨pl,ys,kw,Z,by rw[aU npl];exact n2.here,Paired.cB p1 λ_ _ ⟨pp,kp,e,h1,h2⟩=>⟨pp,kp,e,tu _ _ h1,tu _ _ h2⟩,?_,λpd H5 n5=>?_⟩
  ·have go:∀{kw:List (List Key×V)}{T:cG},xU G kw T->kw.map (·.1)=T.map λx=>qx x.1:=λ{kw T} h=>by
    induction h with
    |nil=>rfl
    |cons a _ ih=>grind
   rw[go p2];have e2:(T.map λx=>qx x.1)=(T.map (·.1)).map qx:=by rw[mL];rfl
   rw[e2];exact Ek.mpr (nd.imp λ{a b} ne e=>ne (Hz e))
  ·exact q pd kw H5 (sF.trans n5.same) n5.here (Paired.cB p2 λ_ _ z=>⟨z.1,z.2.keep (tu.trans (.of n5.same))⟩)
inductive ŝ(Qn:HD P w K mg base κ)(vs:List V)(H:Hp)(Q:VK)(u_3:XK):Prop
 |mk (d a:Addr) (xs:List V) (ss:List b8) (_:vs=[.ref a,.ref d]) (_:Qn.At H d) (_:Qn.n<=10) (_:bI K H a xs) (_:Paired (vh K H) xs ss) (_:ss.length<=800) (_:Bp Qn.n Qn.ts ss (cD Qn.n Qn.ts ss)=.ok) (_:(∀b∈(cD Qn.n Qn.ts ss).aR,b.length<=4)) (_:(∀k,k<ss.length->Bk Qn (cD Qn.n Qn.ts ss).aR (Lh Qn.pq ss (cD Qn.n Qn.ts ss).aR (cD Qn.n Qn.ts ss).dM k) (ss.getD k .leaf) ((cD Qn.n Qn.ts ss).aR.getD k []) ((cD Qn.n Qn.ts ss).dM.getD k []))) (_:(∀T∈Lh Qn.pq ss (cD Qn.n Qn.ts ss).aR (cD Qn.n Qn.ts ss).dM ss.length,T.length<=900/\(T.map (·.1)).Nodup)) (_:∀pl ys H',aJ H H'->H' pl=some (.lst ys)->Paired (Ke H') ys (Lh Qn.pq ss (cD Qn.n Qn.ts ss).aR (cD Qn.n Qn.ts ss).dM ss.length)->Q (.ref pl) H')
def Fy(B:Bl mg)(Bz:mg "zip" = none)(Ct:Ř mg)(U:Used w K mg)(Qn:HD P w K mg base κ)(jU:Fq K mg)(jy:Dn K mg "is_below" fP uq)(oN:Dn K mg "joint" pX jT)(mQ:Dn K mg "less" sU jT)(HN:Dn K mg "bag_behind" fQ Dg)(vU:Dn K mg "run" Gq mW)(uK:Dn K mg "fault_behind" eY Gj)(xR:Dn K mg "run_whole" lN mW)(xT:ś K mg)(zT:Dn K mg "run_narrow" mj mW)(vQ:Dn K mg "states_behind" fX Gi)(qO:Dn K mg "note" vg Df)(xO:Dn K mg "fill_along" jQ JF)(wZ:Dn K mg "fill_joined" iB JG)(yG:Dn K mg "going_up" oh JH)(yO:a1p K mg)(uL:Dn K mg "tables" yN Mw):aZ P w K mg base fV 12 uL.f uL.fd Mw (ŝ Qn):=by
 have a7B:aZ P w K mg base fV 11 _ _ _ _:=(Ln B Ct U jU jy oN mQ HN vU uK xR xT zT).mono ();have a7C:aZ P w K mg base fV 11 _ _ _ _:=R3 B Bz Qn oN vQ qO xO wZ yG;have a7D:aZ P w K mg base fV 11 _ _ _ _:=(Bw B yO).mono ();exists uL.F.ok Fx;obtain⟨d,a,xs,ss,rfl,hD,dw,hA,pA,l8,qY,b4,ok,sm,q⟩:=h;refine⟨_,(aG (wH (aY a7B hr Z zT.m zT.F.kp zT.b .nil bW (J (zJ (K:=K) Z (pv 1) Z) (J (pv 0) ao))) (jN (K:=K) (n:=2) Z Z (cu (aP 2 Fx.nd) (cu (aP 3 Fx.nd) jz))))
   (aF (bA (kE ["table"] [none]  (by kernel_rfl) Z (fM (K:=K) Z (aY a7C hr Z yG.m yG.F.kp yG.b .nil bW (J (pv 0) (J (pv 1) (J (pv 2) (J (pv 3) ao)))))) (λ_ _ _ _ _=>(aP 0 (show(["table"]:List Str).Nodup by grind) Z (Or.inl Z))) (λ_ _ _ _ _=>gB) λ_ _ _ _ _=>(aY a7D hr Z yO.m yO.F.kp yO.b .nil bW (J (pv 0) ao)))))),?_⟩
 obtain⟨dx,fs,hd,_,_,_,g,hgl,hg⟩:=Qn.ins hD;have RI:=zM dw qY;refine⟨_,Z,d,_,dx,fs,_,Z,hd,Qn.cl,Qn.fG,hgl,_,Z,⟨g,Qn.n,Qn.ts,a,xs,ss,Z,hg,dw,hA,pA,l8,qY,b4,λr pt pf vt fs' H1 s1 hr1 hpt hpf pT pF=>⟨r,_,Z,cH.of hr1,Z,_,_,Z,_,_,Z,Z,⟨_,Z,_,Z,_,Z,_,Z,?_⟩⟩⟩⟩;refine⟨d,a,pt,pf,xs,vt,fs',ss,(cD Qn.n Qn.ts ss).aR,(cD Qn.n Qn.ts ss).dM,Z,(Nd.of s1).at Qn hD,s1.seq hA,Paired.cB pA λ_ _ h=>h.same s1,bI.of hpt,Paired.cB pT λ_ _ ⟨p,e,h,_⟩=>⟨p,e,h⟩,bI.of hpf,Paired.cB pF λ_ _ ⟨h,_⟩=>h,(),RI.tl,RI.fl,λb hb=>(RI.sm b hb).1,ok,λpl ps H2 s2 fpl hpl pP nd fr=>⟨pl,Z,⟨_,bI.of hpl⟩,?_⟩⟩;have lg:=nA Qn.pq ss (cD Qn.n Qn.ts ss).aR (cD Qn.n Qn.ts ss).dM ss.length;have lp:=aQ pP;refine uN (K:=K) (a:=pl) (xs:=ps.map V.ref) (λi ys G=>aJ H2 G/\Paired (Ke G) ys ((Lh Qn.pq ss (cD Qn.n Qn.ts ss).aR (cD Qn.n Qn.ts ss).dM ss.length).take i)) ⟨aJ.refl _,.nil⟩ (λi ys G hi ⟨sG,p⟩=>⟨bI.of (sG _ _ hpl),?_⟩) (λi x ys G hx ⟨sG,p⟩=>?_) (λys G ⟨sG,p⟩ pr hpr=>?_)
 ·rw[aQ p,fZ];exact d7 (cO ())
 ·rw[gk]at hx;obtain⟨p0,hp0,rfl⟩:=oR.mp hx;obtain⟨T,hT,kv,h1,h2⟩:=bw pP hp0;obtain⟨sl,sn⟩:=sm T (jf hT);refine⟨_,Z,p0,kv,T,Z,sG _ _ h1,h2.keep (.of sG),sl,sn,λp' kv' G1 s' h1' h2'=>⟨sG.trans s',?_⟩⟩;rw[mK,hT];exact dh (Paired.cB p λ_ _ h=>h.keep s') ⟨p',kv',Z,h1',h2'⟩
 ·have n3:=gZ.oM (o:=.lst ys) hpr;rw[show(ps.map V.ref).length=ss.length by grind,show(Lh Qn.pq ss (cD Qn.n Qn.ts ss).aR (cD Qn.n Qn.ts ss).dM ss.length).take ss.length=Lh Qn.pq ss (cD Qn.n Qn.ts ss).aR (cD Qn.n Qn.ts ss).dM ss.length from Il (O8 lg)]at p;exact q pr ys _ (s1.trans (s2.trans (sG.trans n3.same))) n3.here (Paired.cB p λ_ _ h=>h.keep n3.same)
end
end K
namespace L2
open PyProof.Rows Bg
section
variable{X:Cx}{K:aH}
inductive a4h(K:aH)(x:V)(y:V)(H:Hp)(Q:VK):Prop
 |mk (a b xs ys:_) (_:x=.ref a) (_:y=.ref b) (_:cH K H a xs) (_:cH K H b ys) (_:xs≠[]) (_:ys≠[]) (_:xs.length+ys.length<=1000) (_:∀p H',gZ H p (.tup (xs++ys)) H'->Q (.ref p) H')
def Ş(e:X.K=K):sS X (binaryOp .Add) (a4h K):=by
 subst e;exact Xj.weak λx y H Q ⟨a,b,xs,ys,e1,e2,h1,h2,n1,n2,z,q⟩=>⟨a,b,xs,ys,e1,e2,h1,h2,n1,d7 (cO z),λe=>absurd e n2,λ_ p hp=>q p _ (gZ.oM hp)⟩
end
end L2
namespace HT
open PyProof.Rows Bg
section
variable{prog:Program}{w:World}{A:Around}{E:Value->Shared->Prop}{s:Shared}
def a1q{t b:Addr}{vs ws:List Value}{Q:Value->Shared->Prop}(ht:IsTup s.heap t vs.toArray)(hb:IsTup s.heap b ws.toArray)(hv:vs=[])(h1:Q (.ref b) s):wpAny (model prog w) A (binaryOp .Add (.ref t) (.ref b)) Q E s:=by
 obtain⟨⟨cls,dd,data,sl⟩,ho,hc,n,hd⟩:=id ht;obtain⟨⟨cls2,dd2,data2,sl2⟩,ho2,hc2,n2,hd2⟩:=id hb;simp only at hc hd hc2 hd2;subst hc hd hc2 hd2;exact O9 ⟨_,ho,Z⟩ ⟨_,ho2,Z⟩ Om O6 NZ NK (Ny _ _)
   (tuple_addW0 t b vs.toArray ws.toArray n n2 dd dd2 sl sl2 (by simp[hv])) ⟨ho,ho2,h1⟩
def zU{t sl:Addr}{items:Array Value}{vl vu:Value}{lo hi:Option Int}{Q:Value->Shared->Prop}(ht:IsTup s.heap t items)(hs:s.heap.IsSliceOf sl vl vu .none)(pl:IsPart vl lo)(pu:IsPart vu hi)
  (hw:lK items.size 0 lo=0/\lK items.size items.size hi=items.size) (h:Q (.ref t) s):wpAny (model prog w) A (getItem (.ref t) (.ref sl)) Q E s:=by
 obtain⟨os,hos,hcs,hds⟩:=id hs;have hTs:s.TypeIs (.ref sl) "slice" :=⟨os,hos,hcs⟩;unfold getItem;try with_reducible refine fB ?_
 first|refine M (aj ?_)|skip
 refine M (wpAny_sequenceKey ht.typeIs () ?_);refine M (oO (name:=Str.ofString "__getitem__") ht.typeIs Nq
  (gq Nq ht.typeIs entry_tuple_getitem ?_ (args_tuple_getitem _ _)))
 show wpAny _ _ (Builtin.Tuple.tupleItemsOf (.ref t) >>= _) _ _ s;refine M (tupleItemsOf_ ht (M (uZ hTs ?_)));rw[aB ()];refine M (vH hs pl pu ?_);show wpAny _ _ (if(((lK items.size 0 lo:Nat):Int)==0&&(1:Int)==1&&(lK items.size items.size hi-lK items.size 0 lo)==items.size)=true then _ else _) _ _ s;rw[aB (by rw[hw.1,hw.2];simp)];refine M (M (uZ ht.typeIs (aj ?_)));rw[aB ()];exact M (j8 (M (aj (aj ⟨_,Z,aj h⟩))))
end
end HT
namespace L2
open PyProof.Rows Bg
section
variable{X:Cx}
inductive a7E(x:V)(lo:Option Int)(hi:Option Int)(H:Hp)(Q:VK):Prop
 |mk (a xs:_) (_:x=.ref a) (_:H a=some (.tup xs)) (_:∀p H',aJ H H'->H' p=some (.tup (u9 xs lo hi))->Q (.ref p) H')
def HS:SlR X a7E:=by
 intro Y s σ H x v vl vu lo hi sl Q I rx hs pl pu h;obtain⟨a,xs,rfl,hx,q⟩:=h;by_cases hw:HT.lK xs.length 0 lo=0/\HT.lK xs.length xs.length hi=xs.length
 ·cases rx;obtain⟨bV,r,ht,hz⟩:=I.tuple (cH.of hx);have hlen:bV.toArray.size=xs.length:=by rw[gR];exact r.length.symm
  refine⟨"tuple",_,PyProof.Rows.slot_tuple_getitem.lookup,ht.typeIs,HT.zU ht hs pl pu () ⟨.ref a,H,I,Z,q a H (aJ.refl _) ?_⟩⟩;have e:u9 xs lo hi=xs:=by
   unfold u9;grind
  grind
 ·exact Ć Y s σ H _ v vl vu lo hi sl Q I rx hs pl pu ⟨a,xs,Z,cH.of hx,hw,λp hp=>q p _ (Lw.mV hp _) cV⟩
inductive a6n(x:V)(y:V)(H:Hp)(Q:VK):Prop
 |mk (a b xs ys:_) (_:x=.ref a) (_:y=.ref b) (_:H a=some (.tup xs)) (_:H b=some (.tup ys)) (_:xs.length+ys.length<=1000) (_:∀p H',aJ H H'->H' p=some (.tup (xs++ys))->Q (.ref p) H')
def Qq:sS X (binaryOp .Add) a6n:=by
 intro Y s σ H x y v u Q I rx ry h;obtain⟨a,b,xs,ys,rfl,rfl,ha,hb,hz,q⟩:=h;by_cases hx:xs=[]
 ·cases rx;cases ry;obtain⟨bV,r1,p1,_⟩:=I.tuple (cH.of ha);obtain⟨its2,r2,p2,_⟩:=I.tuple (cH.of hb);exact HT.a1q p1 p2 (r1.Cp.mpr hx) ⟨.ref b,H,I,Z,q b H (aJ.refl _) ()⟩
 ·exact Xj Y s σ H _ _ v u Q I rx ry ⟨a,b,xs,ys,Z,Z,cH.of ha,cH.of hb,hx,d7 (cO hz),λe=>q a H (aJ.refl _) (),λ_ p hp=>q p _ (Lw.mV hp _) cV⟩
end
end L2
namespace L2
open PyProof.Rows
section
variable{K:aH}{a:Addr}{xs:List V}{ix:List (Option Nat)}{g:TG}{tt:TT}{te:TE}{σ:St}{H1:Hp}{Q:VK}
def Qs(Pv:Nat->List V->Hp->Prop)(h0:Pv 0 [] H1)(hl:∀i ys H,i<=xs.length->Pv i ys H->cH K H a xs/\ys.length<=sizeLine)
  (hs:∀i x ys H,xs[i]?=some x->Pv i ys H->g x (rF ix σ) H λσ2 H2=>tt σ2 H2 λb H3=>if b=true then te σ2 H3 λv H4=>Pv (i+1) (ys++[v]) H4 else Pv (i+1) ys H3)
  (hd:∀ys H,Pv xs.length ys H->∀p,H p=none->Q (.ref p) (cM H p (.lst ys))):nR ix g tt te σ H1 Q (Itt K a):=by
 refine⟨λi m ys H=>m=xs.length-i/\i<=xs.length/\Pv i ys H,⟨xs.length,by simp,dG _,h0⟩,?_⟩;rintro i m ys H ⟨rfl,hi,p⟩;obtain⟨q,z⟩:=hl i ys H hi p;by_cases hlt:i<xs.length
 ·refine .inr ⟨⟨xs,xs[i],q,by simp[hlt]⟩,z,λys' H'=>Pv (i+1) ys' H',λys' H' p'=>⟨xs.length-(i+1),(),Z,hlt,p'⟩,λx H' y=>?_⟩;obtain⟨e',y⟩:=y;subst e';exact hs i x ys _ (y xs q) p
 ·have ei:i=xs.length:=()
  subst ei;exact .inl ⟨⟨xs,q,aN _⟩,z,λpp hp=>hd ys H p pp hp⟩
end
end L2
namespace K
open L2 Lw Bg
variable{K:aH}{P:Program}{w:World}{mg:Str->Option Value}{base:Heap}{ex:List (Str×V)}{n c:Nat}{ts:List bY}
abbrev eZ:Stmt:=top 32
def Kf:bB xr xr (aD eZ):={}
abbrev cW:Stmt:=top 33
def Dv:bB xu xu (aD cW):={}
def tL(s:dU)(p:Nat)(x:Int):dU:=s.take p++([x]++s.drop p)
def Lp(s:dU)(p:Nat):dU:=s.take p++s.drop (p+1)
def Yo(s:dU)(p:Nat)(h:p<=s.length):u9 (s.map V.int) none (some (p:Int))=(s.take p).map V.int:=by
 unfold u9;rw[HT.Pr,HT.Rf,UL,Bc,aM,Nat.min_eq_left h,U6]
def Yp(s:dU)(p:Nat)(h:p<=s.length):u9 (s.map V.int) (some (p:Int)) none=(s.drop p).map V.int:=by
 unfold u9;rw[HT.Pr,HT.Rf,aM,Nat.min_eq_left h,U5];exact Il (by rw[lG,aM];exact aN _)
inductive a1r(vs:List V)(H:Hp)(Q:VK)(u_3:XK):Prop
 |mk (a:Addr) (s:dU) (p:Nat) (x:Int) (_:vs=[.ref a,.int p,.int x]) (_:uG H a s) (_:p<=s.length) (_:s.length<=100) (_:∀b H',aJ H H'->uG H' b (tL s p x)->Q (.ref b) H')
inductive Wq(vs:List V)(H:Hp)(Q:VK)(u_3:XK):Prop
 |mk (a:Addr) (s:dU) (p:Nat) (_:vs=[.ref a,.int p]) (_:uG H a s) (_:p<s.length) (_:s.length<=100) (_:∀b H',aJ H H'->uG H' b (Lp s p)->Q (.ref b) H')
def uy(jV:Dn K mg "with_number" eZ xr):aZ P w K mg base fV 1 jV.f jV.fd xr a1r:=by
 exists jV.F.ok Kf;obtain⟨a,st,p,x,rfl,ha,hp,l1,q⟩:=h;refine⟨_,(aF (bA (bQ Qq (bQ Qq (jD HS (pv 0) lV (lW (pv 1))) (bf (J (pv 2) ao))) (jD HS (pv 0) (lW (pv 1)) lV)))),⟨_,Z,_,Z,_,Z,a,_,Z,ha,λb1 H1 s1 h1=>?_⟩⟩;rw[Yo st p hp]at h1;refine⟨_,Z,(),λb2 H2 n2=>⟨b1,b2,_,_,Z,Z,n2.same _ _ h1,n2.here,?_,λb3 H3 s3 h3=>?_⟩⟩
 ·grind
 have w5:=n2.same.trans s3;refine⟨_,Z,_,Z,_,Z,a,_,Z,(s1.trans w5) _ _ ha,λb4 H4 s4 h4=>?_⟩;rw[Yp st p hp]at h4;refine⟨b3,b4,_,_,Z,Z,s4 _ _ h3,h4,?_,λb5 H5 s5 h5=>q b5 H5 (s1.trans (w5.trans (s4.trans s5))) ?_⟩
 ·grind
 ·show H5 b5=some (.tup ((tL st p x).map V.int));rw[h5];unfold tL;grind
def ql(jW:Dn K mg "without_number" cW xu):aZ P w K mg base fV 1 jW.f jW.fd xu Wq:=by
 exists jW.F.ok Dv;obtain⟨a,st,p,rfl,ha,hp,l1,q⟩:=h;refine⟨_,(aF (bA (bQ Qq (jD HS (pv 0) lV (lW (pv 1))) (jD HS (pv 0) (lW (bQ fL (pv 1) aA)) lV)))),⟨_,Z,_,Z,_,Z,a,_,Z,ha,λb1 H1 s1 h1=>?_⟩⟩;rw[Yo st p ()]at h1;refine⟨_,Z,_,Z,_,_,Z,Z,_,Z,a,_,Z,s1 _ _ ha,λb4 H4 s4 h4=>?_⟩;try dsimp only at h4
 rw[show((p:Int)+1)=((p+1:Nat):Int) by omega,Yp st (p+1) ()]at h4;refine⟨b1,b4,_,_,Z,Z,s4 _ _ h1,h4,?_,λb5 H5 s5 h5=>q b5 H5 (s1.trans (s4.trans s5)) ?_⟩
 ·grind
 ·show H5 b5=some (.tup ((Lp st p).map V.int));rw[h5];unfold Lp;grind
abbrev jR:Stmt:=top 31
def Lq:bB Gm Gm (aD jR):={}
def Qt:Int:=1000000000000000000000000000000
def WtV(K:aH)(H:Hp)(v:V)(o:Option (List Int)):Prop:=match o with
 |none=>v=.non
 |some ws=>∃a,v=.ref a/\bI K H a (ws.map V.int)
def À(m:Nat):Option (List Int)->Bool
 |none=>true
 |some ws=>decide (ws.length=m)&&ws.all λx=>decide (0<=x)&&decide (x<Qt)
def wtL(m:Nat):Option (List Int)->List Int
 |none=>List.replicate m 1
 |some ws=>ws
def btF:V->Option V
 |.int y=>some (.bl (pH Qt (some y)))
 |_=>none
theorem a2t:∀ws:List Int,(ws.map V.int).filterMap btF=(ws.map λy=>pH Qt (some y)).map V.bl
 | []=>rfl
 |x::r=>by
  rw[b7,Nz (show btF (V.int x)=some (.bl (pH Qt (some x)))from Z),a2t r]
  rfl
def a1s(x:Int):pH Qt (some x)=(decide (0<=x)&&decide (x<Qt)):=by
 unfold pH;grind
inductive Á(K:aH)(vs:List V)(H:Hp)(Q:VK)(u_3:XK):Prop
 |mk (m:Nat) (v:V) (o:Option (List Int)) (_:vs=[.int m,v]) (_:WtV K H v o) (_:m<=100) (_:(∀ws,o=some ws->ws.length<=200)) (_:À m o=true) (_:∀p H',aJ H H'->H p=none->H' p=some (.lst ((wtL m o).map V.int))->Q (.ref p) H')
def vy(B:Bl mg)(Ct:Ř mg)(jU:Fq K mg)(jy:Dn K mg "is_below" fP uq)(tM:Dn K mg "weights_of" jR Gm):aZ P w K mg base fV 3 tM.f tM.fd Gm (Á K):=by
 have œ:aZ P w K mg base fV 2 _ _ _ _:=yH B jU jy;exists tM.F.ok Lq;obtain⟨m,v,o,rfl,hV,a7T,hw,ok,q⟩:=h;refine⟨_,(aG (dH (aL ý (pv 1) oY)
   (aF (bA (kE ["k"] [none]  (by kernel_rfl) Z (jX Z B.range (J (pv 0) ao)) (λ_ _ _ _ _=>(aP 0 (show(["k"]:List Str).Nodup by decide))) (λ_ _ _ _ _=>gB) λ_ _ _ _ _=>aA)))
   bK)
   (aG (dH (PW.pt (FQ (aL Ma (bG (cP (K:=K) Z) Z B.len () (J (pv 1) ao)) (pv 0)) (Ew (qL (eN (K:=K) Z (bG (Zh (K:=K) Z Z) Z B.all () (J (kE ["weight"] [none]  (by kernel_rfl) Z (fM (K:=K) Z (pv 1)) (λ_ _ _ _ _=>(aP 0 (show(["weight"]:List Str).Nodup by decide))) (λ_ _ _ _ _=>gB) λ_ _ _ _ _=>(aY œ hr Z jy.m jy.F.kp jy.b .nil bW (J (Pq (v:=.int 1000000000000000000000000000000) Z Ct.vV Ct.vW) (J (pv 0) ao)))) ao)) λ_=>rfl)))))
   (aF Ci)
   bK)
   (aF (bA (iC (um (K:=K) Z) Z B.list () (J (pv 1) ao)))))),?_⟩
 cases o with
 |none =>
  obtain rfl:v=.non:=hV;refine⟨_,Z,Z,_,Z,gY ?_⟩;refine⟨_,Z,_,Z,(),(),?_⟩;rw[j5];refine a0u (λ_=>some (V.int 1)) () (λi H' N hi s1 hN=>hN H' s1) (λH1 p H2 s1 n2=>q p H2 (s1.trans n2.same) (s1.free n2.fresh) ?_);rw[n2.here];show some (HO.lst _)=some (HO.lst ((List.replicate m (1:Int)).map V.int));rw[CK (f:=λ_=>some (V.int 1)) (g:=λ_=>V.int 1) (λ_ _=>rfl),List.map_const',qJ,List.map_replicate]
 |some ws =>
  obtain⟨a,rfl,hA⟩:=hV;have lw:=hw ws rfl;have ok':=ok;unfold À at ok';rw[qK,fj,IK]at ok';obtain⟨e1,e2⟩:=ok';refine⟨_,Z,Z,_,Z,cX ⟨_,Z,a,_,Z,.inl hA,_,Z,Z,_,Z,?_⟩⟩;rw[aM,e1,bN rfl];refine cX ⟨_,Z,a,Z,⟨_,hA⟩,PL btF hA () (λx G5 N hx s5 hN5=>?_) λG5 p6 H6 s5 n6=>?_⟩
  ·obtain⟨y,hy,rfl⟩:=dY.mp hx;exact⟨_,Z,Qt,some y,Z,hN5 G5 s5⟩
  rw[a2t]at n6;refine⟨p6,_,_,Z,bI.of n6.here,pB.bls _,?_⟩;have e7:(ws.map λy=>pH Qt (some y)).all id=true:=by
   rw[List.all_map,IK];intro x hx;show pH Qt (some x)=true;rw[a1s];exact e2 x hx
  rw[e7];refine⟨_,Z,cX ⟨_,Z,a,_,Z,.inl ((s5.trans n6.same).seq hA),λp8 H8 n8=>q p8 H8 (s5.trans (n6.same.trans n8.same)) ((s5.trans n6.same).free n8.fresh) n8.here⟩⟩
def fsQ(pg:Addr)(l u:V):List (Str×V):=[("graph",.ref pg),("leaf",l),("whole",u)]
inductive a1t(K:aH)(C:Addr)(vs:List V)(H:Hp)(Q:VK)(u_3:XK):Prop
 |mk (d dx g t:Addr) (n:Nat) (xs:List V) (l u:V) (_:vs=[.ref d,.ref g,l,u]) (_:H d=some (.ins C dx [])) (_:cH K H g [.int n,.ref t]) (_:H t=some (.lst xs)) (_:xs.length<=1000) (_:∀pg pt H',Sd d H H'->H' d=some (.ins C dx (fsQ pg l u))->H' pg=some (.tup [.int n,.ref pt])->H' pt=some (.lst xs)->Q .non H')
def qZ(B:Bl mg)(cF:qX K mg){C:Addr}(cl:Cls K C)(fG:eX K C "graph")(ig:eX K C "leaf")(fO:eX K C "whole"):aZ P w K mg base fV 1 cF.bJ.f cF.bJ.fd X3 (a1t K C):=by
 exists cF.bJ.F.ok yL;obtain⟨d,dx,g,t,n,xs,l,u,rfl,hd,hg,ht,lx,q⟩:=h;refine⟨_,(aG (Bd (pv 0) (bf (J (aO (aK (K:=K) Z) (pv 1) aA) (J (iC (um (K:=K) Z) Z B.list () (J (aO (aK (K:=K) Z) (pv 1) aA) ao)) ao))) Z)
   (aG (Bd (pv 0) (pv 2) Z)
   (aF (Bd (pv 0) (pv 3) Z)))),?_⟩
 refine⟨_,Z,g,_,_,V.int n,Z,Z,hg,cA (j:=0) Z,_,Z,g,_,_,V.ref t,Z,Z,hg,cA (j:=1) Z,t,_,Z,.inl (bI.of ht),λpt H1 n1=>⟨(),λpg H2 n2=>?_⟩⟩;have h2:=n2.same _ _ (n1.same _ _ hd);refine⟨_,Z,d,_,_,_,Z,h2,cl,fG,(),?_⟩;generalize hU1:cM H2 d _=U1;have u1:uP H2 d (.ins C dx (wL "graph" (.ref pg) [])) U1:=by rw[<-hU1];exact uP.oM
 refine⟨_,Z,_,Z,d,_,_,_,Z,u1.here,cl,ig,(by show 1<1000;decide),?_⟩;generalize hU2:cM U1 d _=U2;have u2:uP U1 d (.ins C dx (wL "leaf" l (wL "graph" (.ref pg) []))) U2:=by rw[<-hU2];exact uP.oM
 refine⟨_,Z,_,Z,d,_,_,_,Z,u2.here,cl,fO,(by show 2<1000;decide),?_⟩;generalize hU3:cM U2 d _=U3;have u3:uP U2 d (.ins C dx (fsQ pg l u)) U3:=by rw[<-hU3];exact uP.oM
 have sr:∀c,c≠d->U3 c=H2 c:=λc hc=>by rw[u3.rest _ hc,u2.rest _ hc,u1.rest _ hc]
 have dt:pt≠d:=λe=>by have:=n1.fresh;grind
 have dg:pg≠d:=λe=>by have:=n2.fresh;rw[e,n1.same _ _ hd]at this;cases this
 exact q pg pt U3 (λc o hc hh=>by rw[sr c hc];exact n2.same _ _ (n1.same _ _ hh)) u3.here (by rw[sr _ dg];exact n2.here) (by rw[sr _ dt];exact n2.same _ _ n1.here)
inductive Fz(K:aH)(C:Addr)(ex:List (Str×V))(n:Nat)(ts:List bY)(ws:List Int)(H:Hp)(d:Addr):Prop
 |mk (dx pg pt xs l u pw:_) (_:H d=some (.ins C dx (fsQ pg (.ref l) (.ref u)++(ex++[(("weights" : Str),V.ref pw)])))) (_:H pg=some (.tup [.int n,.ref pt])) (_:H pt=some (.lst xs)) (_:Paired (tE H) xs ts) (_:ts.length<=1000) (_:H l=some (.tup [])) (_:H u=some (.tup [])) (_:H pw=some (.lst (ws.map V.int)))
def Wr{H H':Hp}{v:V}{t:Int×Int}(k:qz H H')(h:tE H v t):tE H' v t:=by
 obtain⟨p,e,h⟩:=h;exact⟨p,e,k _ _ h⟩
def Fz.keep{C:Addr}{ws:List Int}{H H':Hp}{d:Addr}(a:Nd H H')(h:Fz K C ex n ts ws H d):Fz K C ex n ts ws H' d:=by
 obtain⟨dx,pg,pt,xs,l,u,pw,h1,h2,h3,h4,h5,h6,h7,h8⟩:=h;exact⟨dx,pg,pt,xs,l,u,pw,a _ _ (λ_ z=>by cases z) (λ_ z=>by cases z) h1,a.tups _ _ h2,a.lst h3,Paired.cB h4 λ_ _ z=>Wr a.tups z,h5,a.tups _ _ h6,a.tups _ _ h7,a.lst h8⟩
def Fz.ins{K:aH}{C:Addr}{ex:List (Str×V)}{n:Nat}{ts:List bY}{ws:List Int}{H:Hp}{d:Addr}(hx:∀m,m∈(JD:List Str)->ex.lookup m=none)(h:Fz K C ex n ts ws H d):∃dx fs,H d=some (.ins C dx fs)/\(∀m,m∈(JD:List Str)->fs.lookup m=none)/\
  (∃a,fs.lookup ("leaf" : Str)=some (.ref a)/\uG H a [])/\(∃a,fs.lookup ("whole" : Str)=some (.ref a)/\uG H a [])/\∃g,fs.lookup ("graph" : Str)=some g/\vf K H g n ts:=by
 obtain⟨dx,pg,pt,xs,l,u,pw,h1,h2,h3,h4,h5,h6,h7,h8⟩:=h;refine⟨dx,_,h1,λm hm=>?_,⟨l,Z,h6⟩,⟨u,Z,h7⟩,.ref pg,Z,pg,pt,Z,cH.of h2,xs,bI.of h3,Paired.cB h4 λ_ _ ⟨p,e,h⟩=>⟨p,e,cH.of h⟩,h5⟩;have e:=hx m hm;have go:∀m∈(JD:List Str),(m==("graph" : Str))=false/\(m==("leaf" : Str))=false/\(m==("whole" : Str))=false/\(m==("weights" : Str))=false:=()
 obtain⟨g1,g2,g3,g4⟩:=go m hm;have lk:∀(l1 l2:List (Str×V)),l1.lookup m=none->(l1++l2).lookup m=l2.lookup m:=λl1 l2 h=>by
  grind
 have fq:(fsQ pg (.ref l) (.ref u)).lookup m=none:=by
  unfold fsQ;grind
 grind
def Fz.wts{C:Addr}{ws:List Int}{H:Hp}{d:Addr}(hx:ex.lookup ("weights" : Str)=none)(h:Fz K C ex n ts ws H d):∃dx fs pw,H d=some (.ins C dx fs)/\fs.lookup ("weights" : Str)=some (.ref pw)/\H pw=some (.lst (ws.map V.int)):=by
 obtain⟨dx,pg,pt,xs,l,u,pw,h1,h2,h3,h4,h5,h6,h7,h8⟩:=h;refine⟨dx,_,pw,h1,?_,h8⟩;show List.lookup _ (ex++_)=_;clear h1
 induction ex with
 |nil=>rfl
 |cons a l1 ih =>
  rw[Iz]at hx;rw[List.cons_append,Iz];cases c:("weights" : Str)==a.1 with
  |true=>rw[c]at hx;cases hx
  |false=>rw[c]at hx;exact ih hx
def dz(s:dU)(i:Nat):Int:=s.getD i 0
def Q6{s:dU}{i:Nat}(h:i<s.length):Tt (s.map V.int) (i:Int)=some (.int (dz s i)):=by
 refine cA ?_;rw[gk,bL h];unfold dz;grind
def tG(c:Int)(m:Nat)(s:dU):Prop:=s.length=m/\∀x∈s,0<=x/\x<c
noncomputable def pqC(c:Nat)(ws:List Int):PQ Key where
 leaf:=[]
 whole:=[]
 bt:=λa b=>decide (a<b)
 sh:=qx
 jn:=λs _=>[s]
 inn:=λs p _=>(List.range c).map λk:Nat=>(tL s p (k:Int),0)
 tie:=λs a b _=>if dz s a≠dz s b then [(s,0)]else []
 out:=λs p v=>[(Lp s p,ws.getD v 0*dz s p)]
 Ok:=tG (c:Int)
noncomputable def pqA(ws:List Int):PQ Key where
 leaf:=[]
 whole:=[]
 bt:=λa b=>decide (b<a)
 sh:=qx
 jn:=λs _=>[s]
 inn:=λs p _=>[(tL s p 0,0),(tL s p 1,0)]
 tie:=λs a b _=>if dz s a+dz s b<2 then [(s,0)]else []
 out:=λs p v=>[(Lp s p,ws.getD v 0*dz s p)]
 Ok:=tG 2
def lD(s:dU)(a b:Nat):dU:=(List.range s.length).map λk=>if k=a\/k=b then max (dz s k) 1 else dz s k
noncomputable def pqW(ws:List Int):PQ Bool where
 leaf:=[]
 whole:=[]
 bt:=λa b=>decide (a<b)
 sh:=λs=>s.map λx=>decide (x=2)
 jn:=λs t=>[List.zipWith max s t]
 inn:=λs p _=>[(tL s p 0,0),(tL s p 2,0)]
 tie:=λs a b _=>if(dz s a=0/\dz s b=2)\/(dz s a=2/\dz s b=0)then [(lD s a b,0)]else [(s,0)]
 out:=λs p v=>if dz s p=0 then []else [(Lp s p,if dz s p=2 then ws.getD v 0 else 0)]
 Ok:=tG 3
theorem Ss{P:Program}{w:World}:∀s:dU,Paired (λv (x:Key)=>∀u,cQ v u->(dN P w).is x u=true) (s.map V.int) (qx s)
 | []=>.nil
 |i::s=>.cons (λu ⟨t,e⟩=>by rw[e,U7];exact Ox i) (Ss s)
section
variable{C:Addr}{ws:List Int}
def qF{κ:Type} [DecidableEq κ] (d_:Dm K C "is_better" "Question.is_better" fC kJ) (pq:PQ κ) (hb:pq.bt=λa b=>decide (a<b)) (At:Hp->Addr->Prop):aZ P w K mg base fV 1 d_.f d_.fd kJ (JK pq At):=by
 exists d_.F.ok xQ;obtain⟨d,a,b,rfl,hD,q⟩:=h;refine⟨_,(aF (bA (wK FT (pv 1) (pv 2)))),?_⟩;rw[hb]at q;exact⟨_,Z,_,Z,_,_,Z,Z,q⟩
def Bx(d_:Dm K C "is_better" "Apart.is_better" kW kJ)(At:Hp->Addr->Prop):aZ P w K mg base fV 1 d_.f d_.fd kJ (JK (pqA ws) At):=by
 exists d_.F.ok Bs;obtain⟨d,a,b,rfl,hD,q⟩:=h;exact⟨_,(aF (bA (wK Jj (pv 1) (pv 2)))),⟨_,Z,_,Z,_,_,Z,Z,q⟩⟩
def uz(d_:Dm K C "shared" "Question.shared" gM xq)(pq:PQ Key)(hs:pq.sh=qx)(At:Hp->Addr->Prop):aZ P w K mg base fV 1 d_.f d_.fd xq (JL (dN P w) pq At):=by
 exists d_.F.ok Bq;obtain⟨d,a,m,st,rfl,hD,ha,ok,m5,q⟩:=h;refine⟨_,(aF (bA (pv 1))),?_⟩;exact⟨_,Z,q a H (aJ.refl _) ⟨_,ha,by rw[hs];exact Ss st⟩⟩
def uD(d_:Dm K C "joined" "Question.joined" gO kJ)(pq:PQ Key)(hj:pq.jn=λs _=>[s])(At:Hp->Addr->Prop):aZ P w K mg base fV 1 d_.f d_.fd kJ (JM pq At):=by
 exists d_.F.ok Br;obtain⟨d,a,b,m,st,t,rfl,hD,ha,hb,ok,ok',m5,sh,q⟩:=h;refine⟨_,(aF (bA (cI (J (pv 1) ao)))),?_⟩;refine⟨_,Z,(),λp H1 n1=>q p _ H1 n1.same n1.here ?_⟩;rw[hj];exact .cons ⟨a,Z,ha.keep (.of n1.same)⟩ .nil
def Dw(B:Bl mg)(c4:c<=4)(cl:Cls K C)(nm:eX K C "many")(d_:Dm K C "put_in" "Colours.put_in" lZ iz)(jV:Dn K mg "with_number" eZ xr):aZ P w K mg base fV 2 d_.f d_.fd iz (Yd (pqC c ws) (Fz K C [("many",.int c)] n ts ws)):=by
 have ş:aZ P w K mg base fV 1 _ _ _ _:=uy jV;exists d_.F.ok Dp;obtain⟨d,a,m,spot,v,st,rfl,hD,ha,ok,m4,sp,q⟩:=h;refine⟨_,(aF (bA (kE ["colour","state","spot"] [none,some 1,some 2]  (by kernel_rfl) Z (jX Z B.range (J (zJ (K:=K) Z (pv 0) Z) ao)) (λ_ _ _ _ _=>(aP 0 (show(["colour","state","spot"]:List Str).Nodup by decide))) (λ_ _ _ _ _=>gB) λ_ _ _ _ _=>(bf (J (aY ş hr Z jV.m jV.F.kp jV.b .nil bW (J (pv 1) (J (pv 2) (J (pv 0) ao)))) (J aA ao)))))),?_⟩;have l1:st.length=m:=ok.1;obtain⟨dx,pg,pt,xs,l,u,pw,h1,_⟩:=id hD;refine⟨_,Z,d,C,dx,_,.int c,Z,h1,cl,nm,Z,_,Z,(),(),?_⟩;refine yu (n:=c) (λi ys G=>aJ H G/\Paired (χ G) ys ((List.range i).map λk:Nat=>(tL st spot (k:Int),(0:Int)))) ⟨aJ.refl _,.nil⟩ (λi ys G hi ⟨_,p⟩=>?_) (λi ys G hi ⟨sG,p⟩=>?_) (λys G ⟨sG,p⟩ pr hpr=>?_)
 ·rw[aQ p,aM,qJ];exact d7 (cO ())
 ·rw[Int.zero_add];refine⟨_,Z,_,Z,_,Z,a,st,spot,(i:Int),Z,ha.keep (.of sG),(),(),λb G1 s1 hb=>⟨(),λp2 G2 n2=>?_⟩⟩;have s12:=s1.trans n2.same;refine⟨sG.trans s12,?_⟩;rw[wA,eO];exact dh (Paired.cB p λ_ _ h=>h.keep (.of s12)) ⟨p2,b,Z,n2.here,hb.keep (.of n2.same)⟩
 ·have n3:=gZ.oM (o:=.lst ys) hpr;exact q pr ys _ (sG.trans n3.same) n3.here (Paired.cB p λ_ _ h=>h.keep (.of n3.same))
def GP(d_:Dm K C "tied" "Colours.tied" pY sY)(At:Hp->Addr->Prop)(Ti:Int×Int->Prop):aZ P w K mg base fV 2 d_.f d_.fd sY (Yg (pqC c ws) At Ti):=by
 exists d_.F.ok GC;obtain⟨d,a,p,m,gh,bR,t,st,rfl,hD,ha,ok,m5,o1,o2,ne,ti,hp,q⟩:=h;have l1:st.length=m:=ok.1;refine⟨_,(aF (bA (oZ (aL Ma (aO (aK (K:=K) Z) (pv 1) (pv 2)) (aO (aK (K:=K) Z) (pv 1) (pv 3))) (cI (J (bf (J (pv 1) (J aA ao))) ao)) (cI ao)))),⟨_,Z,_,Z,a,_,_,_,Z,Z,cH.of ha,Q6 (),_,Z,_,Z,a,_,_,_,Z,Z,cH.of ha,Q6 (),Z,_,Z,?_⟩⟩;by_cases c1:dz st gh=dz st bR
 ·rw[bN (show V.int (dz st gh)=V.int (dz st bR) by rw[c1])];refine cX ⟨(),λp1 H1 n1=>q p1 [] H1 n1.same n1.here ?_⟩;show Paired _ _ (if dz st gh≠dz st bR then [(st,(0:Int))]else []);rw[aq (λz=>z c1)];exact .nil
 ·rw[cZ (show ¬V.int (dz st gh)=V.int (dz st bR)from λz=>c1 (V.int.inj z))];refine gY ⟨_,Z,(),λp1 H1 n1=>⟨(),λp2 H2 n2=>q p2 _ H2 (n1.same.trans n2.same) n2.here ?_⟩⟩;show Paired _ _ (if dz st gh≠dz st bR then [(st,(0:Int))]else []);rw[aB c1];exact .cons ⟨p1,a,Z,n2.same _ _ n1.here,ha.keep (.of (n1.same.trans n2.same))⟩ .nil
def yP(hC:c<=4)(cl:Cls K C)(nw:eX K C "weights")(lw:ws.length=n)(d_:Dm K C "taken_out" "Colours.taken_out" jB iz)(jW:Dn K mg "without_number" cW xu):aZ P w K mg base fV 2 d_.f d_.fd iz (Ye (pqC c ws) (Fz K C [("many",.int c)] n ts ws) (λv=>v<n)):=by
 have Š:aZ P w K mg base fV 1 _ _ _ _:=ql jW;exists d_.F.ok yM;obtain⟨d,a,m,spot,v,st,rfl,hD,ha,ok,m5,sp,vn,q⟩:=h;have l1:st.length=m:=ok.1;refine⟨_,(aF (bA (cI (J (bf (J (aY Š hr Z jW.m jW.F.kp jW.b .nil bW (J (pv 1) (J (pv 2) ao))) (J (bQ wJ (aO (bF (K:=K) Z) (zJ (K:=K) Z (pv 0) Z) (pv 3)) (aO (aK (K:=K) Z) (pv 1) (pv 2))) ao))) ao)))),?_⟩;obtain⟨dx,fs,pw,h1,hl,hw⟩:=hD.wts rfl;refine⟨_,Z,_,Z,a,st,spot,Z,ha,(),(),λb H1 s1 hb=>?_⟩;have ew:Tt (ws.map V.int) (v:Int)=some (.int (ws.getD v 0)):=by
  refine cA ?_;grind
 have bd : -(2^64)<dz st spot/\dz st spot<2^64:=by
  have hm:dz st spot∈st:=by
   unfold dz;grind
  have:=ok.2 _ hm;grind
 exact⟨_,Z,d,C,dx,fs,.ref pw,Z,s1 _ _ h1,cl,nw,hl,_,Z,pw,_,_,_,Z,Z,bI.of (s1 _ _ hw),ew,_,Z,_,Z,a,_,_,_,Z,Z,cH.of (s1 _ _ ha),Q6 (),_,_,Z,Z,.inr bd,(),λp2 H2 n2=>⟨(),λp3 H3 n3=>q p3 _ H3 (s1.trans (n2.same.trans n3.same)) n3.here (.cons ⟨p2,b,Z,n3.same _ _ n2.here,hb.keep (.of (n2.same.trans n3.same))⟩ .nil)⟩⟩
def Lr(d_:Dm K C "tied" "Apart.tied" tH sY)(At:Hp->Addr->Prop)(Ti:Int×Int->Prop):aZ P w K mg base fV 2 d_.f d_.fd sY (Yg (pqA ws) At Ti):=by
 exists d_.F.ok Lj;obtain⟨d,a,p,m,gh,bR,t,st,rfl,hD,ha,ok,m5,o1,o2,ne,ti,hp,q⟩:=h;have l1:st.length=m:=ok.1;refine⟨_,(aF (bA (oZ (aL FT (bQ fL (aO (aK (K:=K) Z) (pv 1) (pv 2)) (aO (aK (K:=K) Z) (pv 1) (pv 3))) aA) (cI (J (bf (J (pv 1) (J aA ao))) ao)) (cI ao)))),⟨_,Z,_,Z,a,_,_,_,Z,Z,cH.of ha,Q6 (),_,Z,_,Z,a,_,_,_,Z,Z,cH.of ha,Q6 (),_,_,Z,Z,_,_,Z,Z,_,Z,?_⟩⟩;by_cases c1:dz st gh+dz st bR<2
 ·rw[bN c1];refine gY ⟨_,Z,(),λp1 H1 n1=>⟨(),λp2 H2 n2=>q p2 _ H2 (n1.same.trans n2.same) n2.here ?_⟩⟩;show Paired _ _ (if dz st gh+dz st bR<2 then [(st,(0:Int))]else []);rw[aB c1];exact .cons ⟨p1,a,Z,n2.same _ _ n1.here,ha.keep (.of (n1.same.trans n2.same))⟩ .nil
 ·rw[cZ c1];refine cX ⟨(),λp1 H1 n1=>q p1 [] H1 n1.same n1.here ?_⟩;show Paired _ _ (if dz st gh+dz st bR<2 then [(st,(0:Int))]else []);rw[aq c1];exact .nil
def BJ(cl:Cls K C)(nw:eX K C "weights")(lw:ws.length=n)(d_:Dm K C "taken_out" "Apart.taken_out" kY iz)(jW:Dn K mg "without_number" cW xu):aZ P w K mg base fV 2 d_.f d_.fd iz (Ye (pqA ws) (Fz K C [] n ts ws) (λv=>v<n)):=by
 have Š:aZ P w K mg base fV 1 _ _ _ _:=ql jW;exists d_.F.ok Bt;obtain⟨d,a,m,spot,v,st,rfl,hD,ha,ok,m5,sp,vn,q⟩:=h;have l1:st.length=m:=ok.1;refine⟨_,(aF (bA (cI (J (bf (J (aY Š hr Z jW.m jW.F.kp jW.b .nil bW (J (pv 1) (J (pv 2) ao))) (J (bQ wJ (aO (bF (K:=K) Z) (zJ (K:=K) Z (pv 0) Z) (pv 3)) (aO (aK (K:=K) Z) (pv 1) (pv 2))) ao))) ao)))),?_⟩;obtain⟨dx,fs,pw,h1,hl,hw⟩:=hD.wts rfl;refine⟨_,Z,_,Z,a,st,spot,Z,ha,(),(),λb H1 s1 hb=>?_⟩;have ew:Tt (ws.map V.int) (v:Int)=some (.int (ws.getD v 0)):=by
  refine cA ?_;grind
 have bd : -(2^64)<dz st spot/\dz st spot<2^64:=by
  have hm:dz st spot∈st:=by
   unfold dz;grind
  have:=ok.2 _ hm;omega
 exact⟨_,Z,d,C,dx,fs,.ref pw,Z,s1 _ _ h1,cl,nw,hl,_,Z,pw,_,_,_,Z,Z,bI.of (s1 _ _ hw),ew,_,Z,_,Z,a,_,_,_,Z,Z,cH.of (s1 _ _ ha),Q6 (),_,_,Z,Z,.inr bd,(),λp2 H2 n2=>⟨(),λp3 H3 n3=>q p3 _ H3 (s1.trans (n2.same.trans n3.same)) n3.here (.cons ⟨p2,b,Z,n3.same _ _ n2.here,hb.keep (.of (n2.same.trans n3.same))⟩ .nil)⟩⟩
def GQ(B:Bl mg)(d_:Dm K C "put_in" "Apart.put_in" pZ iz)(jV:Dn K mg "with_number" eZ xr)(At:Hp->Addr->Prop):aZ P w K mg base fV 2 d_.f d_.fd iz (Yd (pqA ws) At):=by
 have ş:aZ P w K mg base fV 1 _ _ _ _:=uy jV;exists d_.F.ok GD;obtain⟨d,a,m,spot,v,st,rfl,hD,ha,ok,m4,sp,q⟩:=h;have l1:st.length=m:=ok.1;refine⟨_,(aF (bA (kE X5 [none,some 1,some 2]  (by kernel_rfl) Z (CJ (K:=K) Z (bf (J aA (J aA ao)))) (λ_ _ _ _ _=>(aP 0 (show(X5:List Str).Nodup by decide))) (λ_ _ _ _ _=>gB) λ_ _ _ _ _=>(bf (J (aY ş hr Z jV.m jV.F.kp jV.b .nil bW (J (pv 1) (J (pv 2) (J (pv 0) ao)))) (J aA ao)))))),⟨(),λpt H1 n1=>⟨pt,Z,⟨_,cH.of n1.here⟩,Qs (K:=K) (a:=pt) (xs:=[V.int 0,V.int 1]) (λi ys G=>aJ H1 G/\Paired (χ G) ys ([(tL st spot 0,(0:Int)),(tL st spot 1,0)].take i)) ⟨aJ.refl _,.nil⟩ (λi ys G hi ⟨sG,p⟩=>⟨cH.of (sG _ _ n1.here),?_⟩) (λi x ys G hx ⟨sG,p⟩=>?_) λys G ⟨sG,p⟩ pr hpr=>?_⟩⟩⟩
 ·rw[aQ p,fZ];exact d7 (cO (by show min i 2<=1000;omega))
 ·obtain⟨xx,rfl,e⟩:∃xx:Int,x=V.int xx/\[(tL st spot 0,(0:Int)),(tL st spot 1,0)].take (i+1)=[(tL st spot 0,(0:Int)),(tL st spot 1,0)].take i++[(tL st spot xx,0)]:=by
   rcases i with _|_|i
   ·cases hx;exact⟨0,Z,Z⟩
   ·cases hx;exact⟨1,Z,Z⟩
   ·cases hx
  refine⟨_,Z,_,Z,_,Z,a,st,spot,xx,Z,ha.keep (.of (n1.same.trans sG)),(),(),λb G1 s1 hb=>⟨(),λp2 G2 n2=>?_⟩⟩;have s12:=s1.trans n2.same;refine⟨sG.trans s12,?_⟩;rw[e];exact dh (Paired.cB p λ_ _ h=>h.keep (.of s12)) ⟨p2,b,Z,n2.here,hb.keep (.of n2.same)⟩
 ·have n3:=gZ.oM (o:=.lst ys) hpr;exact q pr ys _ (n1.same.trans (sG.trans n3.same)) n3.here (Paired.cB p λ_ _ h=>h.keep (.of n3.same))
def GR(B:Bl mg)(d_:Dm K C "put_in" "Watch.put_in" qg iz)(jV:Dn K mg "with_number" eZ xr)(At:Hp->Addr->Prop):aZ P w K mg base fV 2 d_.f d_.fd iz (Yd (pqW ws) At):=by
 have ş:aZ P w K mg base fV 1 _ _ _ _:=uy jV;exists d_.F.ok GK;obtain⟨d,a,m,spot,v,st,rfl,hD,ha,ok,m4,sp,q⟩:=h;have l1:st.length=m:=ok.1;refine⟨_,(aF (bA (kE X5 [none,some 1,some 2]  (by kernel_rfl) Z (CJ (K:=K) Z (bf (J aA (J aA ao)))) (λ_ _ _ _ _=>(aP 0 (show(X5:List Str).Nodup by decide))) (λ_ _ _ _ _=>gB) λ_ _ _ _ _=>(bf (J (aY ş hr Z jV.m jV.F.kp jV.b .nil bW (J (pv 1) (J (pv 2) (J (pv 0) ao)))) (J aA ao)))))),⟨(),λpt H1 n1=>⟨pt,Z,⟨_,cH.of n1.here⟩,Qs (K:=K) (a:=pt) (xs:=[V.int 0,V.int 2]) (λi ys G=>aJ H1 G/\Paired (χ G) ys ([(tL st spot 0,(0:Int)),(tL st spot 2,0)].take i)) ⟨aJ.refl _,.nil⟩ (λi ys G hi ⟨sG,p⟩=>⟨cH.of (sG _ _ n1.here),?_⟩) (λi x ys G hx ⟨sG,p⟩=>?_) λys G ⟨sG,p⟩ pr hpr=>?_⟩⟩⟩
 ·rw[aQ p,fZ];exact d7 (cO (by show min i 2<=1000;omega))
 ·obtain⟨xx,rfl,e⟩:∃xx:Int,x=V.int xx/\[(tL st spot 0,(0:Int)),(tL st spot 2,0)].take (i+1)=[(tL st spot 0,(0:Int)),(tL st spot 2,0)].take i++[(tL st spot xx,0)]:=by
   rcases i with _|_|i
   ·cases hx;exact⟨0,Z,Z⟩
   ·cases hx;exact⟨2,Z,Z⟩
   ·cases hx
  refine⟨_,Z,_,Z,_,Z,a,st,spot,xx,Z,ha.keep (.of (n1.same.trans sG)),(),(),λb G1 s1 hb=>⟨(),λp2 G2 n2=>?_⟩⟩;have s12:=s1.trans n2.same;refine⟨sG.trans s12,?_⟩;rw[e];exact dh (Paired.cB p λ_ _ h=>h.keep (.of s12)) ⟨p2,b,Z,n2.here,hb.keep (.of n2.same)⟩
 ·have n3:=gZ.oM (o:=.lst ys) hpr;exact q pr ys _ (n1.same.trans (sG.trans n3.same)) n3.here (Paired.cB p λ_ _ h=>h.keep (.of n3.same))
def BK(cl:Cls K C)(nw:eX K C "weights")(lw:ws.length=n)(d_:Dm K C "taken_out" "Watch.taken_out" kZ iz)(jW:Dn K mg "without_number" cW xu):aZ P w K mg base fV 2 d_.f d_.fd iz (Ye (pqW ws) (Fz K C [] n ts ws) (λv=>v<n)):=by
 have Š:aZ P w K mg base fV 1 _ _ _ _:=ql jW;exists d_.F.ok Bu;obtain⟨d,a,m,spot,v,st,rfl,hD,ha,ok,m5,sp,vn,q⟩:=h;have l1:st.length=m:=ok.1;refine⟨_,(aG (dH (aL iR (aO (aK (K:=K) Z) (pv 1) (pv 2)) aA)
   (aF (bA (cI ao)))
   bK)
   (aF (bA (cI (J (bf (J (aY Š hr Z jW.m jW.F.kp jW.b .nil bW (J (pv 1) (J (pv 2) ao))) (J (oZ (aL iR (aO (aK (K:=K) Z) (pv 1) (pv 2)) aA) (aO (bF (K:=K) Z) (zJ (K:=K) Z (pv 0) Z) (pv 3)) aA) ao))) ao))))),?_⟩
 obtain⟨dx,fs,pw,h1,hl,hw⟩:=hD.wts rfl;refine⟨_,Z,_,Z,a,_,_,_,Z,Z,cH.of ha,Q6 (),Z,_,Z,?_⟩;by_cases c0:dz st spot=0
 ·rw[bN (show V.int (dz st spot)=V.int 0 by rw[c0])];refine gY ⟨(),λp1 H1 n1=>q p1 [] H1 n1.same n1.here ?_⟩;show Paired _ _ (if dz st spot=0 then []else _);rw[aB c0];exact .nil
 rw[cZ (show ¬V.int (dz st spot)=V.int 0 from λz=>c0 (V.int.inj z))];refine cX ⟨_,Z,_,Z,a,st,spot,Z,ha,(),(),λb H1 s1 hb=>?_⟩;have ew:Tt (ws.map V.int) (v:Int)=some (.int (ws.getD v 0)):=by
  refine cA ?_;grind
 refine⟨_,Z,_,Z,a,_,_,_,Z,Z,cH.of (s1 _ _ ha),Q6 (),Z,_,Z,?_⟩;have fin:∀x:Int,x=(if dz st spot=2 then ws.getD v 0 else 0)->∀p2 H2,gZ H1 p2 (.tup [.ref b,.int x]) H2->∀p3 H3,gZ H2 p3 (.lst [.ref p2]) H3->Q (.ref p3) H3:=λx ex p2 H2 n2 p3 H3 n3=>by
  refine q p3 _ H3 (s1.trans (n2.same.trans n3.same)) n3.here ?_;show Paired _ _ (if dz st spot=0 then []else [(Lp st spot,if dz st spot=2 then ws.getD v 0 else 0)]);rw[aq c0,<-ex];exact .cons ⟨p2,b,Z,n3.same _ _ n2.here,hb.keep (.of (n2.same.trans n3.same))⟩ .nil
 by_cases c2:dz st spot=2
 ·rw[bN (show V.int (dz st spot)=V.int 2 by rw[c2])];exact gY ⟨_,Z,d,C,dx,fs,.ref pw,Z,s1 _ _ h1,cl,nw,hl,_,Z,pw,_,_,_,Z,Z,bI.of (s1 _ _ hw),ew,(),λp2 H2 n2=>⟨(),λp3 H3 n3=>fin _ () p2 H2 n2 p3 H3 n3⟩⟩
 ·rw[cZ (show ¬V.int (dz st spot)=V.int 2 from λz=>c2 (V.int.inj z))];exact cX ⟨(),λp2 H2 n2=>⟨(),λp3 H3 n3=>fin _ () p2 H2 n2 p3 H3 n3⟩⟩
end
end K
namespace Te
open PyProof.Rows
open AutoSeq1 (wpAny_loadPart')
variable{Q:Value->Shared->Prop}
section
variable{prog:Program}{w:World}{A:Around}{E:Value->Shared->Prop}{s:Shared}{q t:Addr}{i:Nat}{ys:Array Value}
def nref(t:Addr):¬((Value.ref t==Value.none)=true):=cY
def more{y:Value}(hq:s.heap.IsTupleIter q t i)(ht:s.heap.IsTuple t ys)(hy:ys[i]?=some y)
  (k:∀g,g.IsTupleIter q t (i+1)->Heap.SameBut q s.heap g->Q y { s with heap:=g}):wpAny (model prog w) A (Builtin.SmallTypes.nextOf (.ref q)) Q E s:=by
 have ty:=hq.typeIs;obtain⟨oq,g1,g2,g3⟩:=hq;obtain⟨ot,g4,_,m,g5⟩:=ht;unfold Builtin.SmallTypes.nextOf;refine M (oO (name:=Str.ofString "__next__") ty Np (gq Np ty ä ((show wpAny _ _ (field (.ref q) 0 >>= _) _ _ s from M (gw g1 g3 (x:=.ref t) Z ((show wpAny _ _ (if(Value.ref t==Value.none)=true then _ else _) _ _ s from ?_))))) (ã _)));rw[aq (nref t)];refine(show wpAny _ _ (field (.ref q) 1 >>= _) _ _ s from M (gw g1 g3 (x:=.int i 0) Z ((show wpAny _ _ (seqItems? (.ref t) >>= _) _ _ s from M (oW g4 g5 ?_)))));simp only[Int.toNat_natCast,hy];refine M (wpAny_setField g1 g3 (by simp) (aj ⟨y,Z,aj (k _ ⟨_,xX _ g1 (Obj.isFreed_of_fields (Obj.data_mapFields g3 _)),(Obj.cls_mapFields ..).trans g2,?_⟩ (nJ ..))⟩));rw[Obj.data_mapFields g3];simp[rawInt]
def Qu(hh:A.handled=none)(hq:s.heap.IsTupleIter q t i)(ht:s.heap.IsTuple t ys)(hy:ys[i]?=none)
  (k:∀g e,Heap.ExtBut q s.heap g->(∃o,g.get? e=some o/\o.cls=.type "StopIteration")->E (.ref e) { s with heap:=g}):wpAny (model prog w) A (Builtin.SmallTypes.nextOf (.ref q)) Q E s:=by
 have ty:=hq.typeIs;obtain⟨oq,g1,g2,g3⟩:=hq;obtain⟨ot,g4,_,m,g5⟩:=ht;unfold Builtin.SmallTypes.nextOf;refine M (oO (name:=Str.ofString "__next__") ty Np (gq Np ty ä ((show wpAny _ _ (field (.ref q) 0 >>= _) _ _ s from M (gw g1 g3 (x:=.ref t) Z ((show wpAny _ _ (if(Value.ref t==Value.none)=true then _ else _) _ _ s from ?_))))) (ã _)));rw[aq (nref t)];refine(show wpAny _ _ (field (.ref q) 1 >>= _) _ _ s from M (gw g1 g3 (x:=.int i 0) Z ((show wpAny _ _ (seqItems? (.ref t) >>= _) _ _ s from M (oW g4 g5 ?_)))));simp only[Int.toNat_natCast,hy];refine M (j8 (M (wpAny_setField g1 g3 (by simp) (show wpAny _ _ (newExc (.type "StopIteration") [] >>= _) _ _ _ from M ?_))));simp only[newExc,newTuple];refine M (j6 (M (m:=firstArgMember _ _) (Jc (a:=Value.none) (by first|rfl|(simp only[firstArgMember];rfl)) (j6 ?_ (by size_fits)))) (by size_fits));simp only[raiseNew];refine M (O7 ?_);first
  |rw[show A.in1.handled=none from hh]
  |rw[hh]
 refine M (aj (Pg (k _ _ (((nJ ..).extBut.push _).push _) ⟨_,bT _ Z,Z⟩)))
def keepI{h h':Heap}(x:h.IsTupleIter q t i)(k:∀o,h.get? q=some o->h'.get? q=some o):h'.IsTupleIter q t i:=by
 obtain⟨o,e,r⟩:=x;exact⟨o,k o e,r⟩
def Ac{h h':Heap}(x:h.IsTuple t ys)(k:∀o,h.get? t=some o->h'.get? t=some o):h'.IsTuple t ys:=by
 obtain⟨o,e,r⟩:=x;exact⟨o,k o e,r⟩
def draws(hh:A.handled=none)(q t:Addr)(ne:t≠q)(ys:Array Value):Draws prog w A q [q,t] ys.size (λj v=>ys[j]?=some v) (λj h=>h.IsTupleIter q t j/\h.IsTuple t ys) where
 live:=λ_ _ st=>by
  obtain⟨⟨o,e,_⟩,_⟩:=st
  exact⟨o,e⟩
 frame:=λ_ _ _ st k=>⟨keepI st.1 λo e=>k q (by simp) o e,Ac st.2 λo e=>k t (by simp) o e⟩
 item:=λj s Q E lt st k=>more st.1 st.2 (y:=ys[j]) (by simp[lt]) λg hg sb=>k _ g s.toks (by simp[lt]) ⟨hg,Ac st.2 λo e=>sb.extBut _ _ ne e⟩ sb
 done:=λs Q E st k=>Qu hh st.1 st.2 (by simp) k
end
set_option tactic.hygienic true in
def š(t:Addr)(ys:Array Value)(m:Nat)(dct:Option Addr)(sl:Array (Option Value)) :
  Meets (Builtin.«enumerate.__new__» ⟨[.type "enumerate",.ref t],[]⟩) (λ_ R s=>s.heap.get? t=some { cls:=.type "tuple",dict:=dct,data:=.seq ys m,slots:=sl}/\
   R (.ok (.ret (.ref (s.heap.push { cls:=.type "tuple_iterator",data:=.fields #[.ref t,.int 0 0]}).objs.size))) { s with heap:=(s.heap.push { cls:=.type "tuple_iterator",data:=.fields #[.ref t,.int 0 0]}).push { cls:=.type "enumerate",data:=.fields #[.none,.bool false,.ref s⁻¹,rawInt 0,.none,.none]}}) :=
 .of_wp λprog w A R s h=>by
  obtain⟨hp,g,d,tk,os⟩:=s;obtain⟨hl,h⟩:=h;have sub:=sub_enumerate;have hT:Heap.IsTuple (Shared.heap ⟨hp,g,d,tk,os⟩) t ys:=⟨_,hl,Z,m,Z⟩
  wp_walk using nP hl
  refine wpAny_stack_any λst=>aj ?_;split
  ·rename_i c _ _ _ _ _;cases(c==Value.type "enumerate")<;>(wp_walk using nP hl,Ei hT;exact⟨_,Z,h⟩)
  ·wp_walk using nP hl,Ei hT
   exact⟨_,Z,h⟩
section
variable{prog:Program}{w:World}{A:Around}{E:Value->Shared->Prop}{s:Shared}
def Â{t:Addr}{ys:Array Value}(hT:s.heap.IsTuple t ys)
  (h:∀g,IsEnum g (s⁻¹+1) s⁻¹ 0 .none->g.IsTupleIter s⁻¹ t 0->(∀b o,s.heap.get? b=some o->g.get? b=some o)->Q (.ref (s⁻¹+1)) { s with heap:=g}) :
  wpAny (model prog w) A (call (.type "enumerate") [.ref t]) Q E s:=by
 obtain⟨⟨c,dct,dt,sl⟩,hl,hc,n,hd⟩:=hT;replace hc:c=.type "tuple" := hc;replace hd:dt=.seq ys n:=hd;subst hc hd;refine callType_new PySem.F.called_enumerate () (PySem.F.typeCall_enumerate_1 _) (PySem.F.newCall_enumerate_1 _) (λobj=>PySem.F.args_object_init_2 obj _) PySem.F.entry_enumerate_new (š t ys n dct sl) ⟨hl,?_⟩;have sz:(s.heap.push { cls:=.type "tuple_iterator",data:=.fields #[.ref t,.int 0 0]}).objs.size=s⁻¹+1:=j7 ..;show _/\_;rw[sz];have he:IsEnum ((s.heap.push { cls:=.type "tuple_iterator",data:=.fields #[.ref t,.int 0 0]}).push { cls:=.type "enumerate",data:=.fields #[.none,.bool false,.ref s⁻¹,rawInt 0,.none,.none]}) (s⁻¹+1) s⁻¹ 0 .none:=by
  have:=bT (s.heap.push { cls:=.type "tuple_iterator",data:=.fields #[.ref t,.int 0 0]}) (o:={ cls:=.type "enumerate",data:=.fields #[.none,.bool false,.ref s⁻¹,rawInt 0,.none,.none]}) rfl;grind
 exact⟨⟨_,he,Z⟩,h _ he ⟨_,bx _ (bT _ Z),Z,Z⟩ λb o x=>bx _ (bx _ x)⟩
end
end Te
namespace L2
open PyProof.Rows
variable{K:aH}
def a4i(K:aH)(a:Addr):It :=
 ⟨λi H=>∃xs x,cH K H a xs/\xs[i]?=some x,λi H x H'=>∃p y,x=.ref p/\gZ H p (.tup [.int i,y]) H'/\∀xs,cH K H a xs->xs[i]?=some y,λi H=>∃xs,cH K H a xs/\xs.length=i⟩
def M5{h:Heap}{a it:Addr}{ys:Array Value}{i:Nat}(ht:h.IsTuple a ys)(hi:h.IsTupleIter it a i):a≠it:=λz=>by
 obtain⟨o,e,c,_⟩:=ht;obtain⟨o',e',c',_⟩:=hi;grind
def Ws{P:Program}{w:World}{elts:List Expr}{k:Nat}{pos:Pos}(a it e:Addr)(hei:e≠it):Turn P w K (.Tuple elts k pos) (a4i K a) [e,it] e (λi h=>(∃old,IsEnum h e it i old)/\h.IsTupleIter it a i) where
 mem:=by simp
 obj:=λi h st b hb=>by
  obtain⟨⟨old,he⟩,hit⟩:=st
  rcases bU.mp hb with rfl|hb
  ·grind
  ·rw[bM.mp hb]
   obtain⟨o,e1,c,d⟩:=hit
   grind
 keep:=λi h h' st kk=>by
  obtain⟨⟨old,he⟩,hit⟩:=st
  exact⟨⟨old,kk e (by simp) _ he⟩,Te.keepI hit λo q=>kk it (by simp) o q⟩
 item:=by
  intro X hP hw hK hc i Y s σ H E I hf st hg
  subst hP hw hK
  obtain⟨xs,x,hq,hx⟩:=hg
  obtain⟨bV,rv,pl,hz⟩:=I.tuple hq
  have pl:s.heap.IsTuple a bV.toArray:=pl
  obtain⟨u,hu,ru⟩:=rv.get hx
  obtain⟨⟨old,he⟩,hit⟩:=st
  have hlt:i<bV.toArray.size:=by
   grind
  have hea:e≠a:=λz=>by
   obtain⟨o,e1,c,_⟩:=pl
   grind
  refine wpAny_pyNext_enum_itemD (Te.draws (show X.A.in1.handled=none from I.ok.hd hc) it a (M5 pl hit) bV.toArray) he ⟨hit,pl⟩ hlt hei () λu' h' tk hu' ho hst hT hsz hk=>?_
  have eu:u'=u:=by
   grind
  subst eu
  refine⟨_,Z,ê ho λh2 he2 hs2=>?_⟩
  have eT:s⁻¹≠e:=gG (aX he)
  have iT:s⁻¹≠it:=by
   obtain⟨o,e1,_⟩:=hit
   exact gG (aX e1)
  have hT2:h2.get? s⁻¹=some { cls:=.type "tuple",data:=.seq #[.int i tk,u']}:=(hs2.2 _ eT).trans hT
  have kp:∀b o,b∉[e,it]->s.heap.get? b=some o->h2.get? b=some o:=λb o hb q=>by
   simp only[List.mem_cons,List.not_mem_nil,or_false,not_or]at hb
   exact(hs2.2 b hb.1).trans (hk b o hb.1 hb.2 q)
  have I1:bC X Y σ H { s with heap:=h2,toks:=tk+1}:=(zH I [e,it] (λc hc=>hf c hc) kp).tok (tk+1)
  have hfree:H s⁻¹=none:=I.hok.fresh (aN _)
  have I2:bC X Y σ (cM H s⁻¹ (.tup [.int i,x])) { s with heap:=h2,toks:=tk+1}:=by
   refine bC.track I1 hfree I.sz (gG I.lt) (λy c q=>?_) (λp hp=>bZ (aX (I.pin p hp).1)) ⟨(by show 2<=sizeLine;decide),[.int i tk,u'],.cons ⟨_,Z⟩ (.cons ru .nil),⟨_,hT2,Z,_,Z⟩⟩
   obtain⟨v,oc,q1,_⟩:=I.cell y c q
   grind
  refine⟨.ref s⁻¹,_,I2,Z,⟨_,x,Z,gZ.oM hfree,λys hy=>by rw[I.zA hy hq];exact hx⟩,⟨⟨u',?_⟩,Te.keepI hst.1 λo q=>(hs2.2 it (Ne.symm hei)).trans q⟩,λb hb=>?_⟩
  ·grind
  ·have f0:=(hf b hb).1
   rw[aU ?_]
   ·exact f0
   grind
 done:=by
  intro X hP hw hK hc i Y s σ H E I hf st hg
  subst hP hw hK
  obtain⟨xs,hq,hx⟩:=hg
  obtain⟨bV,rv,pl,hz⟩:=I.tuple hq
  have pl:s.heap.IsTuple a bV.toArray:=pl
  obtain⟨⟨old,he⟩,hit⟩:=st
  obtain⟨g0,g1,g2,g3,g4,g5⟩:=hf it (by simp)
  have hl:bV.toArray.size=i:=by rw[gR,<-hx];exact rv.length.symm
  exact wpAny_pyNext_enum_endD (Te.draws (show X.A.in1.handled=none from I.ok.hd hc) it a (M5 pl hit) bV.toArray) he ⟨(),pl⟩ λh' eb=>⟨Z,I.turned (t':=s.toks) (λb o hb q=>eb b o hb q) g0 g1 g3 g4 g5⟩
 self:=λ_ _ _ _ _ st h=>by
  obtain⟨⟨old,he⟩,_⟩:=st
  exact Oi he h
section
variable{X:Cx}
def a4j(K:aH)(ta:TA):TI:=λσ H R=>ta σ H λvs H1=>∃a,vs=[.ref a]/\(∃xs,cH K H1 a xs)/\R (a4i K a) H1
def Ţ{elts:List Expr}{k:Nat}{tpos:Pos}{l:Expr}{ta:TA}{p pos:Pos}(e0:X.K=K)(hg:Gl X "enumerate")(hm:X.mg "enumerate" = none)(ha:PA X [l] ta)(hs:starEach [l] X.env=[(false,eval l X.env)]:=by rfl) :
  PI X (.Tuple elts k tpos) (.Call (.Name "enumerate" p) [l] [] pos) (a4j K ta):=by
 subst e0;intro Y s σ H R I h;refine yd (wG I hg hm boot_enumerate (Ag (jx (ha pos Y s σ H _ I h) λus s1 ⟨vs,H1,I1,r1,q1⟩=>?_) hs (by rfl)));obtain⟨a,e,⟨xs,hq⟩,q⟩:=q1;subst e;obtain⟨u,rfl,ru⟩:=vals1 r1;cases ru;obtain⟨bV,rv,pl,hz⟩:=I1.tuple hq;refine Te.Â (show s1.heap.IsTuple a bV.toArray from pl) λh' he hit hk=>Oi he ?_;have I2:bC X Y σ H1 { s1 with heap:=h'}:=I1.kept (t':=s1.toks) hk;refine⟨s1⁻¹+1,[s1⁻¹+1,s1⁻¹],_,_,H1,Z,I2,Ws a s1⁻¹ (s1⁻¹+1) (gG (Aw _)),⟨⟨_,he⟩,hit⟩,λb hb=>?_,q⟩;have hb':s1⁻¹<=b:=by
  grind
 exact I1.Gv hb' (I1.hok.fresh hb')
end
def ţ{a:Addr}{xs:List V}{ix:List (Option Nat)}{g:TG}{tt:TT}{te:TE}{σ:St}{H1:Hp}{Q:VK}(Pv:Nat->List V->Hp->Prop)(h0:Pv 0 [] H1)(hl:∀i ys H,i<=xs.length->Pv i ys H->cH K H a xs/\ys.length<=sizeLine)
  (hs:∀(i:Nat) x ys H p H0,xs[i]?=some x->Pv i ys H->gZ H p (.tup [.int i,x]) H0->g (.ref p) (rF ix σ) H0 λσ2 H2=>tt σ2 H2 λb H3=>if b=true then te σ2 H3 λv H4=>Pv (i+1) (ys++[v]) H4 else Pv (i+1) ys H3)
  (hd:∀ys H,Pv xs.length ys H->∀p,H p=none->Q (.ref p) (cM H p (.lst ys))):nR ix g tt te σ H1 Q (a4i K a):=by
 refine⟨λi m ys H=>m=xs.length-i/\i<=xs.length/\Pv i ys H,⟨xs.length,by simp,dG _,h0⟩,?_⟩;rintro i m ys H ⟨rfl,hi,p⟩;obtain⟨q,z⟩:=hl i ys H hi p;by_cases hlt:i<xs.length
 ·refine .inr ⟨⟨xs,xs[i],q,by simp[hlt]⟩,z,Pv (i+1),λys' H' p'=>⟨xs.length-(i+1),(),Z,hlt,p'⟩,λx H' y=>?_⟩;obtain⟨pp,y0,rfl,nw,ex⟩:=y;exact hs i y0 ys H pp H' (ex xs q) p nw
 ·have e:i=xs.length:=()
  subst e;exact .inl ⟨⟨xs,q,Z⟩,z,hd ys H p⟩
end L2
namespace Tz
open PyProof.Rows
variable{a z I Z96 b i1 i2:Addr}{f0 f1 x:Value}{k:Nat}{xs ys:Array Value}{Q:Value->Shared->Prop}
abbrev Zo(h:Heap)(z I Z96:Addr)(f0 f1:Value):Prop:=h.get? z=some { cls:=.type "zip",dict:=none,data:=.fields #[f0,f1,.bool false,.ref I,.ref Z96],slots:=#[]}
abbrev Po(h:Heap)(T:Addr)(a b:Value):Prop:=h.get? T=some { cls:=.type "tuple",data:=.seq #[a,b]}
section
variable{Z98:Model}{prog:Program}{w:World}{A:Around}{E:Value->Shared->Prop}{s:Shared}
def alive{Q:Option Obj->Shared->Prop}(h:Q (s.heap.get? a) s):wpAny Z98 A (loadIfAlive a) Q E s:=λ_ _ _=>h
def Yq{Q:Bool->Shared->Prop}(hz:Zo s.heap z I Z96 f0 f1)(hf:f0=.none\/∃T:Nat,f0=rawInt (T:Int))(yes:Q true s)(no:∀g b,Zo g z I Z96 f0 b->Heap.SameBut z s.heap g->Q false { s with heap:=g}) :
  wpAny (model prog w) A (Builtin.SmallTypes.ownedTupleIsFree (.ref z)) Q E s:=by
 unfold Builtin.SmallTypes.ownedTupleIsFree;refine M (gw hz Z (x:=f0) Z ?_);rcases hf with rfl|⟨T,rfl⟩
 ·exact aj yes
 ·show wpAny _ _ (loadIfAlive _ >>= _) _ _ s;refine M (alive ?_);cases c:s.heap.get? ((T:Int).toNat)with
  |none=>exact aj yes
  |some o =>
   show wpAny _ _ (field (.ref z) 1 >>= _) _ _ s;refine M (gw hz Z (x:=f1) Z ?_);by_cases e:(f1 != Value.bool true)=true
   ·rw[aB e];refine M (iU hz (by simp) λg hg sb=>aj (no g _ hg sb))
   ·rw[aq e];exact M (aj (aj (no s.heap f1 hz ⟨Z,λ_ _=>rfl⟩)))
def Fr0(f0:Value):Prop:=f0=.none\/∃T:Nat,f0=rawInt (T:Int)
def Yr{T:Addr}{a b:Value}{Q:Unit->Shared->Prop}(hT:Po s.heap T a b)
  (h:∀g,g.get? T=some { cls:=.type "tuple",data:=.seq ((#[a,b]:Array Value).setIfInBounds k x)}->Heap.SameBut T s.heap g->Q ⟨⟩ { s with heap:=g}):wpAny (model prog w) A (updateSeq T (·.setIfInBounds k x)) Q E s:=wpAny_updateSeq_pair hT h
def item{y c d:Value}(D:ZipApart z I Z96 i1 i2 a b)(hz:Zo s.heap z I Z96 f0 f1)(hf:Fr0 f0)(hI:Po s.heap I (.ref i1) (.ref i2))(hO:Po s.heap Z96 c d)
  (h1:s.heap.IsTupleIter i1 a k) (h2:s.heap.IsTupleIter i2 b k) (t1:s.heap.IsTuple a xs) (t2:s.heap.IsTuple b ys) (hx:xs[k]?=some x) (hy:ys[k]?=some y)
  (hQ:∀g,(∃e0 e1,Zo g z I Z96 e0 e1/\Fr0 e0)->(∃c d,Po g Z96 c d)->g.IsTupleIter i1 a (k+1)->g.IsTupleIter i2 b (k+1)->Po g s⁻¹ x y->(∀c o,c≠z->c≠Z96->c≠i1->c≠i2->s.heap.get? c=some o->g.get? c=some o)->Q (.ref s⁻¹) { s with heap:=g}) :
  wpAny (model prog w) A (Builtin.«zip.__next__» ⟨[.ref z],[]⟩) (λfin s'=>∃v,fin=.done (.ret v)/\Q v s') E s:=by
 refine(show wpAny _ _ (field (.ref z) 2 >>= _) _ _ _ from M (gw hz Z (x:=.bool false) Z ((show wpAny _ _ (field (.ref z) 3 >>= _) _ _ _ from M (gw hz Z (x:=.ref I) Z (M (oW hI Z ((show wpAny _ _ (Builtin.SmallTypes.ownedTupleIsFree (.ref z) >>= _) _ _ _ from M (Yq hz hf ?_ λg0 b0 hz0 sb0=>?_))))))))))
 ·simp only[if_true];refine M (j8 (M (gw hz Z (x:=.ref Z96) Z (M (iU hz (by simp) λg1 hz1 Fb=>M ?_)))));replace hz1:Zo g1 z I Z96 .ellipsis f1:=hz1;simp only[List.zipIdx_cons,List.zipIdx_nil,List.forIn_cons,List.forIn_nil];refine M (M (Bb ((show wpAny _ _ (Builtin.SmallTypes.nextOf (.ref i1) >>= _) _ _ _ from M (Te.more (Te.keepI h1 λo e=>Fb.extBut _ _ D.i1z e) (Te.Ac t1 λo e=>Fb.extBut _ _ D.l1z e) hx λg2 k1 Rv=>aj ?_)))));have hO2:Po g2 Z96 c d:=Rv.extBut _ _ D.TOi1 (Fb.extBut _ _ D.TOz hO);refine M (oW hO2 Z (M (Yr hO2 λg3 hO3 Zu=>M (yp (aj (M (M (Bb ?_))))))));replace hO3:Po g3 Z96 x d:=hO3;have st:∀c' o,c'≠z->c'≠i1->c'≠Z96->s.heap.get? c'=some o->g3.get? c'=some o:=λc' o n1 n2 n3 e=>Zu.extBut _ _ n3 (Rv.extBut _ _ n2 (Fb.extBut _ _ n1 e));refine(show wpAny _ _ (Builtin.SmallTypes.nextOf (.ref i2) >>= _) _ _ _ from M (Te.more (Te.keepI h2 λo e=>st _ _ D.i2z D.i12.symm D.TOi2.symm e) (Te.Ac t2 λo e=>st _ _ D.l2z D.l2i1 D.l2TO e) hy λg4 k2 Ť=>aj ?_));have hO4:Po g4 Z96 x d:=Ť.extBut _ _ D.TOi2 hO3;refine M (oW hO4 Z (M (Yr hO4 λg5 hO5 sb5=>M (yp (aj (aj ?_))))));replace hO5:Po g5 Z96 x y:=hO5;refine M (oW hO5 Z (M (IV ?_)));have sz:g5.objs.size=s⁻¹:=by rw[sb5.1,Ť.1,Zu.1,Rv.1,Fb.1]
  have hz5:Zo g5 z I Z96 .ellipsis f1:=sb5.extBut _ _ D.TOz.symm (Ť.extBut _ _ D.i2z.symm (Zu.extBut _ _ D.TOz.symm (Rv.extBut _ _ D.i1z.symm hz1)));have st5:∀c' o,c'≠z->c'≠Z96->c'≠i1->c'≠i2->s.heap.get? c'=some o->g5.get? c'=some o:=λc' o n1 n2 n3 n4 e=>sb5.extBut _ _ n2 (Ť.extBut _ _ n4 (st c' o n1 n3 n2 e));have k1':g5.IsTupleIter i1 a (k+1):=Te.keepI k1 λo e=>sb5.extBut _ _ D.TOi1.symm (Ť.extBut _ _ D.i12 (Zu.extBut _ _ D.TOi1.symm e));have k2':g5.IsTupleIter i2 b (k+1):=Te.keepI k2 λo e=>sb5.extBut _ _ D.TOi2.symm e;have zl:z<g5.objs.size:=aX hz5;refine(show wpAny _ _ (Builtin.SmallTypes.ownedTupleHandOut (.ref z) (.ref g5.objs.size) >>= _) _ _ _ from M ?_);unfold Builtin.SmallTypes.ownedTupleHandOut;have hz6:Zo (g5.push { cls:=.type "tuple",data:=.seq #[x,y]}) z I Z96 .ellipsis f1:=bx _ hz5;refine M (iU hz6 (by simp) λg7 hz7 sb7=>?_);replace hz7:Zo g7 z I Z96 (rawInt g5.objs.size) f1:=hz7;refine iU hz7 (by simp) λg8 hz8 sb8=>?_;replace hz8:Zo g8 z I Z96 (rawInt g5.objs.size) (.bool false):=hz8;have up:∀c' o,c'≠z->g5.get? c'=some o->g8.get? c'=some o:=λc' o n1 e=>sb8.extBut _ _ n1 (sb7.extBut _ _ n1 (bx _ e));have hT8:Po g8 g5.objs.size x y:=sb8.extBut _ _ (gG zl) (sb7.extBut _ _ (gG zl) (bT _ Z));refine aj ⟨_,Z,?_⟩;show Q (.ref g5.objs.size) _;rw[sz]at hT8 ⊢;exact hQ g8 ⟨_,_,hz8,.inr ⟨_,Z⟩⟩ ⟨_,_,up _ _ D.TOz hO5⟩ (Te.keepI k1' λo e=>up _ o D.i1z e) (Te.keepI k2' λo e=>up _ o D.i2z e) hT8 λc' o n1 n2 n3 n4 e=>up c' o n1 (st5 c' o n1 n2 n3 n4 e)
 ·rw[aq cY];refine(show wpAny _ _ (forIn (#[Value.ref i1,Value.ref i2]:Array Value) _ _ >>= _) _ _ _ from ?_);rw[<-Og];simp only[List.forIn_cons,List.forIn_nil];refine M (M (M (fB ((show wpAny _ _ (Builtin.SmallTypes.nextOf (.ref i1) >>= _) _ _ _ from M (Te.more (Te.keepI h1 λo e=>sb0.extBut _ _ D.i1z e) (Te.Ac t1 λo e=>sb0.extBut _ _ D.l1z e) hx λg2 k1 Rv=>aj (aj (M (M (fB ?_))))))))));have st:∀c' o,c'≠z->c'≠i1->s.heap.get? c'=some o->g2.get? c'=some o:=λc' o n1 n2 e=>Rv.extBut _ _ n2 (sb0.extBut _ _ n1 e);refine(show wpAny _ _ (Builtin.SmallTypes.nextOf (.ref i2) >>= _) _ _ _ from M (Te.more (Te.keepI h2 λo e=>st _ _ D.i2z D.i12.symm e) (Te.Ac t2 λo e=>st _ _ D.l2z D.l2i1 e) hy λg4 k2 Ť=>aj (aj (aj ?_))));refine M (IV ?_ (show 2<=sizeLine by decide));have sz:g4.objs.size=s⁻¹:=by rw[Ť.1,Rv.1,sb0.1]
  have hz4:Zo g4 z I Z96 f0 b0:=Ť.extBut _ _ D.i2z.symm (Rv.extBut _ _ D.i1z.symm hz0);have hO4:Po g4 Z96 c d:=Ť.extBut _ _ D.TOi2 (st _ _ D.TOz D.TOi1 hO);have k1':g4.IsTupleIter i1 a (k+1):=Te.keepI k1 λo e=>Ť.extBut _ _ D.i12 e;have up:∀c' o,g4.get? c'=some o->(g4.push { cls:=.type "tuple",data:=.seq #[x,y]}).get? c'=some o:=λc' o e=>bx _ e;have hT:Po (g4.push { cls:=.type "tuple",data:=.seq #[x,y]}) g4.objs.size x y:=bT _ rfl;refine aj ⟨_,Z,?_⟩;show Q (.ref g4.objs.size) _;rw[sz]at hT ⊢;exact hQ _ ⟨_,_,up _ _ hz4,hf⟩ ⟨_,_,up _ _ hO4⟩ (Te.keepI k1' λo e=>up _ o e) (Te.keepI k2 λo e=>up _ o e) hT λc' o n1 n2 n3 n4 e=>up c' o (Ť.extBut _ _ n4 (st c' o n1 n3 e))
def ended{Q:Fin->Shared->Prop}(hh:A.handled=none)(D:ZipApart z I Z96 i1 i2 a b)(hz:Zo s.heap z I Z96 f0 f1)(hf:Fr0 f0)(hI:Po s.heap I (.ref i1) (.ref i2))
  (h1:s.heap.IsTupleIter i1 a k) (t1:s.heap.IsTuple a xs) (hx:xs[k]?=none)
  (hE:∀g e,(∀c o,c≠z->c≠Z96->c≠i1->c≠i2->s.heap.get? c=some o->g.get? c=some o)->(∃o,g.get? e=some o/\o.cls=.type "StopIteration")->E (.ref e) { s with heap:=g}) :
  wpAny (model prog w) A (Builtin.«zip.__next__» ⟨[.ref z],[]⟩) Q E s:=by
 refine(show wpAny _ _ (field (.ref z) 2 >>= _) _ _ _ from M (gw hz Z (x:=.bool false) Z ((show wpAny _ _ (field (.ref z) 3 >>= _) _ _ _ from M (gw hz Z (x:=.ref I) Z (M (oW hI Z ((show wpAny _ _ (Builtin.SmallTypes.ownedTupleIsFree (.ref z) >>= _) _ _ _ from M (Yq hz hf ?_ λg0 b0 hz0 sb0=>?_))))))))))
 ·simp only[if_true];refine M (j8 (M (gw hz Z (x:=.ref Z96) Z (M (iU hz (by simp) λg1 hz1 Fb=>M ?_)))));replace hz1:Zo g1 z I Z96 .ellipsis f1:=hz1;simp only[List.zipIdx_cons,List.zipIdx_nil,List.forIn_cons,List.forIn_nil];refine M (M (Bb ((show wpAny _ _ (Builtin.SmallTypes.nextOf (.ref i1) >>= _) _ _ _ from M (Te.Qu hh (Te.keepI h1 λo e=>Fb.extBut _ _ D.i1z e) (Te.Ac t1 λo e=>Fb.extBut _ _ D.l1z e) hx λg2 e2 Rv st2=>?_)))));obtain⟨oe,hoe,hce⟩:=st2;have hz2:Zo g2 z I Z96 .ellipsis f1:=Rv _ _ D.i1z.symm hz1;have nez:e2≠z:=λv=>by
   grind
  exact iU hz2 (by simp) λg3 _ Zu=>hE g3 e2 (λc' o n1 _ n3 _ v=>Zu.extBut _ _ n1 (Rv _ _ n3 (Fb.extBut _ _ n1 v))) ⟨oe,Zu.extBut _ _ nez hoe,hce⟩
 ·rw[aq cY];refine(show wpAny _ _ (forIn (#[Value.ref i1,Value.ref i2]:Array Value) _ _ >>= _) _ _ _ from ?_);rw[<-Og];simp only[List.forIn_cons,List.forIn_nil];exact M (M (M (fB ((show wpAny _ _ (Builtin.SmallTypes.nextOf (.ref i1) >>= _) _ _ _ from M (Te.Qu hh (Te.keepI h1 λo e=>sb0.extBut _ _ D.i1z e) (Te.Ac t1 λo e=>sb0.extBut _ _ D.l1z e) hx λg2 e2 Rv st2=>hE g2 e2 (λc' o n1 _ n3 _ v=>Rv _ _ n3 (sb0.extBut _ _ n1 v)) st2))))))
def next_item{y c d:Value}{Q:Option Value->Shared->Prop}(D:ZipApart z I Z96 i1 i2 a b)(hz:Zo s.heap z I Z96 f0 f1)(hf:Fr0 f0)(hI:Po s.heap I (.ref i1) (.ref i2))(hO:Po s.heap Z96 c d)
  (h1:s.heap.IsTupleIter i1 a k) (h2:s.heap.IsTupleIter i2 b k) (t1:s.heap.IsTuple a xs) (t2:s.heap.IsTuple b ys) (hx:xs[k]?=some x) (hy:ys[k]?=some y)
  (hQ:∀g,(∃e0 e1,Zo g z I Z96 e0 e1/\Fr0 e0)->(∃c d,Po g Z96 c d)->g.IsTupleIter i1 a (k+1)->g.IsTupleIter i2 b (k+1)->Po g s⁻¹ x y->(∀c o,c≠z->c≠Z96->c≠i1->c≠i2->s.heap.get? c=some o->g.get? c=some o)->Q (some (.ref s⁻¹)) { s with heap:=g}) :
  wpAny (model prog w) A (pyNext (.ref z)) Q E s:=by
 have ty:s.TypeIs (.ref z) "zip" :=⟨_,hz,Z⟩;unfold pyNext;exact M (uc (oO (name:=Str.ofString "__next__") ty Oa (gq Oa ty PySem.F.entry_zip_next (item D hz hf hI hO h1 h2 t1 t2 hx hy λg a1 a2 a3 a4 a5 a6=>aj (hQ g a1 a2 a3 a4 a5 a6)) (PySem.F.args_zip_next_1 _))))
def next_end{Q:Option Value->Shared->Prop}(hh:A.handled=none)(D:ZipApart z I Z96 i1 i2 a b)(hz:Zo s.heap z I Z96 f0 f1)(hf:Fr0 f0)(hI:Po s.heap I (.ref i1) (.ref i2))
  (h1:s.heap.IsTupleIter i1 a k) (t1:s.heap.IsTuple a xs) (hx:xs[k]?=none) (hQ:∀g,(∀c o,c≠z->c≠Z96->c≠i1->c≠i2->s.heap.get? c=some o->g.get? c=some o)->Q none { s with heap:=g}):wpAny (model prog w) A (pyNext (.ref z)) Q E s:=by
 have ty:s.TypeIs (.ref z) "zip" :=⟨_,hz,Z⟩;unfold pyNext;refine M (uc (oO (name:=Str.ofString "__next__") ty Oa (gq Oa ty PySem.F.entry_zip_next (ended hh D hz hf hI h1 t1 hx λg e fr st=>?_) (PySem.F.args_zip_next_1 _))));obtain⟨o,ho,hc⟩:=st;exact M (tW (T:="StopIteration") (b:=true) ⟨o,ho,hc⟩ IW (aj (hQ _ fr)))
def M6(hz:Zo s.heap z I Z96 f0 f1)(h:Q (.ref z) s):wpAny (model prog w) A (pyIter (.ref z)) Q E s:=by
 have ty:s.TypeIs (.ref z) "zip" :=⟨_,hz,Z⟩;exact Iw ty PySem.F.slot_zip_iter (gq PySem.F.slot_zip_iter ty PySem.F.entry_zip_iter (show wpAny _ _ (ret (.ref z)) _ _ s from aj ⟨_,Z,"zip",_,ty,PySem.F.slot_zip_next.lookup,h⟩) (PySem.F.args_zip_iter_1 _))
end
abbrev z1(h:Heap)(a:Addr):Heap:=h.push { cls:=.type "tuple_iterator",data:=.fields #[.ref a,.int 0 0]}
abbrev z2(h:Heap)(a b:Addr):Heap:=(z1 h a).push { cls:=.type "tuple_iterator",data:=.fields #[.ref b,.int 0 0]}
abbrev z3(h:Heap)(a b:Addr):Heap:=(z2 h a b).push { cls:=.type "tuple",data:=.seq #[.ref h.objs.size,.ref (z1 h a).objs.size]}
abbrev z4(h:Heap)(a b:Addr):Heap:=(z3 h a b).push { cls:=.type "tuple",data:=.seq #[.none,.none]}
abbrev z5(h:Heap)(a b:Addr):Heap:=(z4 h a b).push { cls:=.type "zip",data:=.fields #[.none,.bool false,.bool false,.ref (z2 h a b).objs.size,.ref (z3 h a b).objs.size]}
def a1u(a b:Addr)(xs ys:Array Value):Meets (Builtin.«zip.__new__» ⟨[.type "zip",.ref a,.ref b],[]⟩) (λ_ R s=>s.heap.IsTuple a xs/\s.heap.IsTuple b ys/\R (.ok (.ret (.ref (z4 s.heap a b).objs.size))) { s with heap:=z5 s.heap a b}) :=
 .of_wp λprog w A R s h=>by
  obtain⟨hp,g,d,tk,os⟩:=s;obtain⟨ha,hb,h⟩:=h;have sub:=sub_zip;have hA:Heap.IsTuple (Shared.heap ⟨hp,g,d,tk,os⟩) a xs:=ha;have hB:Heap.IsTuple (Shared.heap ⟨hp.push { cls:=.type "tuple_iterator",data:=.fields #[.ref a,.int 0 0]},g,d,tk,os⟩) b ys:=Te.Ac hb λo e=>bx _ e
  wp_walk using Ei hA,Ei hB
  exact⟨_,Z,h⟩
section
variable{prog:Program}{w:World}{A:Around}{E:Value->Shared->Prop}{s:Shared}
def ť(ha:s.heap.IsTuple a xs)(hb:s.heap.IsTuple b ys)
  (h:∀g,Zo g (s⁻¹+4) (s⁻¹+2) (s⁻¹+3) .none (.bool false)->Po g (s⁻¹+2) (.ref s⁻¹) (.ref (s⁻¹+1))->Po g (s⁻¹+3) .none .none->g.IsTupleIter s⁻¹ a 0->g.IsTupleIter (s⁻¹+1) b 0->(∀c o,s.heap.get? c=some o->g.get? c=some o)->Q (.ref (s⁻¹+4)) { s with heap:=g}) :
  wpAny (model prog w) A (call (.type "zip") [.ref a,.ref b]) Q E s:=by
 refine callType_new PySem.F.called_zip () (PySem.F.typeCall_zip_2 _ _) (PySem.F.newCall_zip_2 _ _) (λobj=>PySem.F.args_object_init_3 obj _ _) PySem.F.entry_zip_new (a1u a b xs ys) ⟨ha,hb,?_⟩;have e1:(z1 s.heap a).objs.size=s⁻¹+1:=j7 ..;have e2:(z2 s.heap a b).objs.size=s⁻¹+2:=by rw[j7,e1]
 have e3:(z3 s.heap a b).objs.size=s⁻¹+3:=by rw[j7,e2]
 have e4:(z4 s.heap a b).objs.size=s⁻¹+4:=by rw[j7,e3]
 have up:=λ(h:Heap) (u:Obj) (c:Addr) (o:Obj) (e:h.get? c=some o)=>bx u e;have k5:(z5 s.heap a b).get? (z4 s.heap a b).objs.size=some _:=bT _ rfl;have k4:(z5 s.heap a b).get? (z3 s.heap a b).objs.size=some _:=up _ _ _ _ (bT _ Z);have k3:(z5 s.heap a b).get? (z2 s.heap a b).objs.size=some _:=up _ _ _ _ (up _ _ _ _ (bT _ Z));have k2:(z5 s.heap a b).get? (z1 s.heap a).objs.size=some _:=up _ _ _ _ (up _ _ _ _ (up _ _ _ _ (bT _ Z)));have k1:(z5 s.heap a b).get? s⁻¹=some _:=up _ _ _ _ (up _ _ _ _ (up _ _ _ _ (up _ _ _ _ (bT _ Z))));show _/\_;rw[e2,e3,e4]at k5;rw[e1,e2]at k3;rw[e3]at k4;rw[e1]at k2;rw[e4];exact⟨⟨_,k5,Z⟩,h _ k5 k3 k4 ⟨_,k1,Z,Z⟩ ⟨_,k2,Z,Z⟩ λc o x=>up _ _ _ _ (up _ _ _ _ (up _ _ _ _ (up _ _ _ _ (up _ _ _ _ x))))⟩
end
end Tz
namespace L2
open PyProof.Rows
variable{K:aH}
def a4k(K:aH)(a b:Addr):It :=
 ⟨λi H=>∃xs ys x y,cH K H a xs/\cH K H b ys/\xs[i]?=some x/\ys[i]?=some y,
 λi H v H'=>∃p x y,v=.ref p/\gZ H p (.tup [x,y]) H'/\(∀xs,cH K H a xs->xs[i]?=some x)/\∀ys,cH K H b ys->ys[i]?=some y,
 λi H=>∃xs,cH K H a xs/\xs.length<=i⟩
def Ã{P:Program}{w:World}{nm:Str}{pos:Pos}(a b z TI TO i1 i2:Addr)(D:ZipApart z TI TO i1 i2 a b) :
  Turn P w K (.Name nm pos) (a4k K a b) [z,TI,TO,i1,i2] z (λi h=>(∃f0 f1,Tz.Zo h z TI TO f0 f1/\Tz.Fr0 f0)/\Tz.Po h TI (.ref i1) (.ref i2)/\(∃x y,Tz.Po h TO x y)/\h.IsTupleIter i1 a i/\h.IsTupleIter i2 b i) where
 mem:=by simp
 obj:=λi h st c hc=>by
  obtain⟨⟨f0,f1,hz,_⟩,hTI,⟨x,y,hTO⟩,⟨o1,e1,c1,d1⟩,⟨o2,e2,c2,d2⟩⟩:=st
  grind
 keep:=λi h h' st kk=>by
  obtain⟨⟨f0,f1,hz,ff⟩,hTI,⟨x,y,hTO⟩,h1,h2⟩:=st
  exact⟨⟨f0,f1,kk z (by simp) _ hz,ff⟩,kk TI (by simp) _ hTI,⟨x,y,kk TO (by simp) _ hTO⟩,Te.keepI h1 λo q=>kk i1 (by simp) o q,Te.keepI h2 λo q=>kk i2 (by simp) o q⟩
 item:=by
  intro X hP hw hK hc i Y s σ H E I hf st hg
  subst hP hw hK
  obtain⟨xs,ys,x,y,hq1,hq2,hx,hy⟩:=hg
  obtain⟨RQ,rv1,ZQ,hz1⟩:=I.tuple hq1
  obtain⟨its2,rv2,pl2,hz2⟩:=I.tuple hq2
  obtain⟨u1,hu1,ru1⟩:=rv1.get hx
  obtain⟨u2,hu2,υ⟩:=rv2.get hy
  obtain⟨⟨f0,f1,hz,ff⟩,hTI,⟨x0,y0,hTO⟩,h1,h2⟩:=st
  refine Tz.next_item D hz ff hTI hTO h1 h2 (show s.heap.IsTuple a RQ.toArray from ZQ) (show s.heap.IsTuple b its2.toArray from pl2) (x:=u1) (y:=u2) () () λh3 a1 a2 a3 a4 a5 hk=>?_
  refine⟨_,Z,aj ?_⟩
  have lt:∀{c o},s.heap.get? c=some o->s⁻¹≠c:=λe=>gG (aX e)
  have nz:=lt hz
  have nTI:=lt hTI
  have nTO:=lt hTO
  have n1:s⁻¹≠i1:=by obtain⟨_,e,_⟩:=h1;exact lt e
  have n2:s⁻¹≠i2:=by obtain⟨_,e,_⟩:=h2;exact lt e
  have kp:∀c o,c∉[z,TO,i1,i2]->s.heap.get? c=some o->h3.get? c=some o:=λc o hc q=>by
   grind
  have I1:bC X Y σ H { s with heap:=h3}:=zH I [z,TO,i1,i2] (λc hc=>hf c ()) kp
  have hfree:H s⁻¹=none:=I.hok.fresh (aN _)
  have I2:bC X Y σ (cM H s⁻¹ (.tup [x,y])) { s with heap:=h3}:=by
   refine bC.track I1 hfree I.sz (gG I.lt) (λy c q=>?_) (λp hp=>bZ (aX (I.pin p hp).1)) ⟨(by show 2<=sizeLine;decide),[u1,u2],.cons ru1 (.cons υ .nil),⟨_,a5,Z,_,Z⟩⟩
   obtain⟨v,oc,q1,_⟩:=I.cell y c q
   exact bZ (aX q1)
  refine⟨.ref s⁻¹,_,I2,Z,⟨_,x,y,Z,gZ.oM hfree,λxs' hy'=>by rw[I.zA hy' hq1];exact hx,λys' hy'=>by rw[I.zA hy' hq2];exact hy⟩,
   ⟨a1,hk TI _ D.TIz D.TITO D.TIi1 D.TIi2 hTI,a2,a3,a4⟩,λc hc=>?_⟩
  have f0:=(hf c hc).1
  rw[aU ?_]
  ·exact f0
  grind
 done:=by
  intro X hP hw hK hc i Y s σ H E I hf st hg
  subst hP hw hK
  obtain⟨xs,hq1,hl⟩:=hg
  obtain⟨RQ,rv1,ZQ,hz1⟩:=I.tuple hq1
  have l1:=rv1.length
  obtain⟨⟨f0,f1,hz,ff⟩,hTI,⟨x0,y0,hTO⟩,h1,h2⟩:=st
  refine Tz.next_end (I.ok.hd hc) D hz ff hTI h1 (show s.heap.IsTuple a RQ.toArray from ZQ) (by simp;omega) λh' hk=>⟨Z,zH I [z,TO,i1,i2] (λc hc=>hf c ()) λc o hc q=>?_⟩
  grind
 self:=λ_ _ _ _ _ st h=>by
  obtain⟨⟨f0,f1,hz,ff⟩,_⟩:=st
  exact Tz.M6 hz h
section
variable{X:Cx}
def a6o(K:aH)(ta:TA):TI:=λσ H R=>ta σ H λvs H1=>∃a b,vs=[.ref a,.ref b]/\(∃xs,cH K H1 a xs)/\(∃ys,cH K H1 b ys)/\R (a4k K a b) H1
def a1v{nm:Str}{tpos:Pos}{l m:Expr}{ta:TA}{p pos:Pos}(e0:X.K=K)(hg:Gl X "zip")(hm:X.mg "zip" = none)(ha:PA X [l,m] ta)(hs:starEach [l,m] X.env=[(false,eval l X.env),(false,eval m X.env)]:=by rfl)(hs2:starEach [m] X.env=[(false,eval m X.env)]:=by rfl) :
  PI X (.Name nm tpos) (.Call (.Name "zip" p) [l,m] [] pos) (a6o K ta):=by
 subst e0;intro Y s σ H R I h;refine yd (wG I hg hm boot_zip ?_);refine Ag (jx (ha pos Y s σ H _ I h) λus s1 ⟨vs,H1,I1,r1,q1⟩=>?_) (by rw[hs,hs2]) (by rw[hs2];rfl);obtain⟨a,b,e,⟨xs,hq1⟩,⟨ys,hq2⟩,q⟩:=q1;subst e;obtain⟨u1,u2,rfl,r1,r2⟩:=vals2 r1;cases r1;cases r2;obtain⟨RQ,rv1,ZQ,hz1⟩:=I1.tuple hq1;obtain⟨its2,rv2,pl2,hz2⟩:=I1.tuple hq2;have pa:s1.heap.IsTuple a RQ.toArray:=ZQ;have pb:s1.heap.IsTuple b its2.toArray:=pl2;refine Tz.ť pa pb λh' hz hTI hTO h1 h2 hk=>Tz.M6 hz ?_;have I2:bC X Y σ H1 { s1 with heap:=h'}:=I1.kept (t':=s1.toks) hk;have la:a<s1⁻¹:=by obtain⟨o,e,_⟩:=pa;exact aX e
 have lb:b<s1⁻¹:=by obtain⟨o,e,_⟩:=pb;exact aX e
 refine⟨s1⁻¹+4,[s1⁻¹+4,s1⁻¹+2,s1⁻¹+3,s1⁻¹,s1⁻¹+1],_,_,H1,Z,I2,Ã a b _ _ _ _ _ (zipApart_new la lb),⟨⟨_,_,hz,.inl Z⟩,hTI,⟨_,_,hTO⟩,h1,h2⟩,λc hc=>?_,q⟩;have hb':s1⁻¹<=c:=by
  grind
 exact I1.Gv hb' (I1.hok.fresh hb')
end
def a1w{a b:Addr}{xs ys:List V}{ix:List (Option Nat)}{g:TG}{tt:TT}{te:TE}{σ:St}{H1:Hp}{Q:VK}(el:xs.length=ys.length)(Pv:Nat->List V->Hp->Prop)(h0:Pv 0 [] H1)(hl:∀i us H,i<=xs.length->Pv i us H->cH K H a xs/\cH K H b ys/\us.length<=sizeLine)
  (hs:∀(i:Nat) x y us H p H0,xs[i]?=some x->ys[i]?=some y->Pv i us H->gZ H p (.tup [x,y]) H0->g (.ref p) (rF ix σ) H0 λσ2 H2=>tt σ2 H2 λb H3=>if b=true then te σ2 H3 λv H4=>Pv (i+1) (us++[v]) H4 else Pv (i+1) us H3)
  (hd:∀us H,Pv xs.length us H->∀p,H p=none->Q (.ref p) (cM H p (.lst us))):nR ix g tt te σ H1 Q (a4k K a b):=by
 refine⟨λi m us H=>m=xs.length-i/\i<=xs.length/\Pv i us H,⟨xs.length,by simp,dG _,h0⟩,?_⟩;rintro i m us H ⟨rfl,hi,p⟩;obtain⟨q,q2,z⟩:=hl i us H hi p;by_cases hlt:i<xs.length
 ·refine .inr ⟨⟨xs,ys,xs[i],ys[i],q,q2,by simp[hlt],by simp[el▸hlt]⟩,z,Pv (i+1),λys' H' p'=>⟨xs.length-(i+1),(),Z,hlt,p'⟩,λx H' y=>?_⟩;obtain⟨pp,x0,y0,rfl,nw,ex,ey⟩:=y;exact hs i x0 y0 us H pp H' (ex xs q) (ey ys q2) p nw
 ·have e:i=xs.length:=()
  subst e;exact .inl ⟨⟨xs,q,aN _⟩,z,hd us H p⟩
end L2
namespace Tm
open PyProof.Rows
section
variable{prog:Program}{w:World}{A:Around}{E:Value->Shared->Prop}{s:Shared}{t:Addr}{xs:Array (Int×Tok)}
def a1x{Q:Value->Shared->Prop}(hh:A.handled=none)(ht:s.heap.IsTuple t (intItems xs))(hne:0<xs.size)
  (h:∀v g tk,(intItems xs)[argBest (λi j=>decide (numAt xs i>numAt xs j)) (xs.size-1)]?=some v->(∀b o,s.heap.get? b=some o->g.get? b=some o)->Q v { s with heap:=g,toks:=tk}):wpAny (model prog w) A (call (.builtin "max") [.ref t]) Q E s:=by
 have lt:t<s⁻¹:=by
  obtain⟨_,e,_⟩:=ht;exact aX e
 refine call_max_walk (Ei ht ⟨s⁻¹,[s⁻¹,t],[s⁻¹],_,_,_,_,Z,Walks.tuple (A:=A.in1) hh _ t (bZ lt) (intItems xs),⟨⟨_,bT _ Z,Z,Z⟩,Te.Ac ht λo e=>bx _ e⟩,λb hb=>?_,by simpa [intItems]using hne,CmpOf.ints_gt (numAt xs) (λ_ _=>intItems_at),λv g tk hP hk=>?_⟩)
 ·show b<(s.heap.push _).objs.size;rw[j7];grind
 ·refine h v g tk (by simpa [intItems]using hP) λb o e=>hk b o (λhm=>?_) (bx _ e);rw[bM.mp hm]at e;exact absurd (aX e) (wD _)
end
end Tm
namespace L2
open PyProof.Rows
section
variable{X:Cx}{K:aH}
inductive a6p(K:aH)(xs:List V)(H:Hp)(Q:VK):Prop
 |mk (p ns:_) (_:xs=[.ref p]) (_:cH K H p (List.map V.int ns)) (_:0<ns.length) (_:∀Z98,Z98∈ns->(∀a∈ns,a<=Z98)->Q (.int Z98) H)
def Ä(e:X.K=K)(cm:X.calm=true):jG X (.builtin "max") (a6p K):=by
 subst e;intro Y s σ H xs us Q I r h;obtain⟨p,ns,rfl,hL,hne,q⟩:=h;obtain⟨u,rfl,rx⟩:=vals1 r;cases rx;obtain⟨bV,r',pl,hz⟩:=I.tuple hL;have pl:s.heap.IsTuple p bV.toArray:=pl;have hi:=ints_of r';have hlen:=hi.length;obtain⟨zs,ez⟩:=hi.allInts.items;have hsz:0<zs.size:=by
  have:=congrArg Array.size ez;rw[gR]at this;have e2:(intItems zs).size=zs.size:=by simp[intItems]
  omega
 have en:zs.toList.map (·.1)=ns:=by
  rw[<-nums_intItems,<-ez];exact hi.numsOf
 refine Tm.a1x (xs:=zs) (I.ok.hd cm) () hsz λv h' tk hv hk=>?_;obtain⟨t,rfl⟩:=intItems_at hv;obtain⟨h1,h2⟩:=argBest_gt (numAt zs) (zs.size-1);refine⟨.int _,H,I.kept hk,⟨t,Z⟩,q _ ?_ λa ha=>?_⟩
 ·rw[numAt_eq,<-en];exact getD_mem (by rw[aM,uY];omega)
 ·rw[<-en]at ha;obtain⟨j,hj,rfl⟩:=mem_getD ha;rw[aM,uY]at hj;rw[<-numAt_eq];exact h2 j ()
end
end L2
namespace K
open L2 Lw Bg
variable{K:aH}{P:Program}{w:World}{mg:Str->Option Value}{base:Heap}{T:cG}{wd j':Nat}{E G us:List Int}{σ:St}{α:Type}{B:List bY}{g:TG}
def in2{x a b:Int}:inV (V.int x) [V.int a,V.int b]=true↔x=a\/x=b:=by
 show(ć (V.int a) (V.int x)||(ć (V.int b) (V.int x)||false))=true↔_;show((a==x)||((b==x)||false))=true↔_;grind
theorem M7{P:Program}{w:World}:∀bs:List Bool,Paired (λv (x:Bool)=>∀u,cQ v u->(Dk.JB P w).is x u=true) (bs.map V.bl) bs
 | []=>.nil
 |b::bs=>.cons (λu e=>by
   have e:u=Value.bool b:=e
   rw[e]
   exact Ox b) (M7 bs)
section
variable{C:Addr}{ex:List (Str×V)}{n:Nat}{ts:List bY}{ws:List Int}
def GX(B:Bl mg)(d_:Dm K C "shared" "Watch.shared" qd xq)(At:Hp->Addr->Prop):aZ P w K mg base fV 1 d_.f d_.fd xq (JL (Dk.JB P w) (pqW ws) At):=by
 exists d_.F.ok GF;obtain⟨d,a,m,st,rfl,hD,ha,ok,m5,q⟩:=h;have l1:st.length=m:=ok.1;refine⟨_,(aF (bA (iC rz Z B.tuple () (J (kE ["number"] [none]  (by kernel_rfl) Z (CJ (K:=K) Z (pv 1)) (λ_ _ _ _ _=>(aP 0 (show(["number"]:List Str).Nodup by decide))) (λ_ _ _ _ _=>gB) λ_ _ _ _ _=>(wK iR (pv 0) aA)) ao)))),⟨_,Z,a,Z,⟨_,cH.of ha⟩,?_⟩⟩;refine Qs (K:=K) (a:=a) (xs:=st.map V.int) (λi ys G=>G=H/\ys=((st.take i).map λx=>decide (x=2)).map V.bl) ⟨Z,Z⟩ (λi ys G hi ⟨e,ey⟩=>⟨by rw[e];exact cH.of ha,?_⟩) (λi x ys G hx ⟨e,ey⟩=>?_) (λys G ⟨e,ey⟩ pr hpr=>?_)
 ·rw[ey,aM,aM,fZ];exact d7 (cO ())
 ·subst e;rw[gk]at hx;obtain⟨y,hy,rfl⟩:=oR.mp hx;refine⟨_,Z,Z,Z,?_⟩;rw[ey,mK,hy,eO,eO];congr 1;show [V.bl (decide (V.int y=V.int 2))]=[V.bl (decide (y=2))];congr 2;grind
 ·subst e;rw[aM,iV]at ey;have n1:=gZ.oM (o:=.lst ys) hpr;generalize cM G pr (.lst ys)=G1 at n1 ⊢;refine⟨pr,ys,Z,.inl ⟨bI.of n1.here,λl hl=>?_⟩⟩;have n2:=gZ.oM (o:=.tup ys) hl;refine q l _ (n1.same.trans n2.same) ⟨ys,n2.here,?_⟩;rw[ey];exact M7 _
def GZ(B:Bl mg)(Bz:mg "zip" = none)(d_:Dm K C "joined" "Watch.joined" qe kJ)(At:Hp->Addr->Prop):aZ P w K mg base fV 1 d_.f d_.fd kJ (JM (pqW ws) At):=by
 exists d_.F.ok GJ;obtain⟨d,a,b,m,st,t,rfl,hD,ha,hb,ok,ok',m5,sh,q⟩:=h;have l1:st.length=m:=ok.1;have l2:t.length=m:=ok'.1;refine⟨_,(aF (bA (cI (J (iC rz Z B.tuple () (J (kE ["pair"] [none]  (by kernel_rfl) Z (a1v (K:=K) Z Z Bz (J (pv 1) (J (pv 2) ao))) (λ_ _ _ _ _=>(aP 0 (show(["pair"]:List Str).Nodup by decide))) (λ_ _ _ _ _=>gB) λ_ _ _ _ _=>(bG (Ä (K:=K) Z Z) Z B.max () (J (pv 0) ao))) ao)) ao)))),⟨_,Z,_,Z,a,b,Z,⟨_,cH.of ha⟩,⟨_,cH.of hb⟩,?_⟩⟩;have lz:(List.zipWith max st t).length=m:=()
 refine a1w (K:=K) (a:=a) (b:=b) (xs:=st.map V.int) (ys:=t.map V.int) () (λi us G=>aJ H G/\us=((List.zipWith max st t).take i).map V.int) ⟨aJ.refl _,Z⟩ (λi us G hi ⟨sG,ey⟩=>⟨cH.of (sG _ _ ha),cH.of (sG _ _ hb),?_⟩) (λi x y us G p G0 hx hy ⟨sG,ey⟩ nw=>?_) (λus G ⟨sG,ey⟩ pr hpr=>?_)
 ·rw[ey,aM,fZ];exact d7 (cO ())
 ·rw[gk]at hx hy;obtain⟨x',hx',rfl⟩:=oR.mp hx;obtain⟨y',hy',rfl⟩:=oR.mp hy;refine⟨_,Z,p,[x',y'],Z,cH.of nw.here,(),λZ98 hM hb'=>⟨sG.trans nw.same,?_⟩⟩;have eM:Z98=max x' y':=by
   have h1:=hb' x' (aV ..);have h2:=hb' y' (bh _ (aV ..));grind
  have ez:(List.zipWith max st t)[i]?=some Z98:=by
   rw[List.getElem?_zipWith,hx',hy',eM]
  rw[ey,mK,ez,eO];rfl
 ·rw[aM,l1,<-lz,iV]at ey;have n1:=gZ.oM (o:=.lst us) hpr;generalize cM G pr (.lst us)=G1 at n1 ⊢;refine⟨pr,us,Z,.inl ⟨bI.of n1.here,λl hl=>?_⟩⟩;have n2:=gZ.oM (o:=.tup us) hl;generalize cM G1 l (.tup us)=G2 at n2 ⊢;refine⟨(),λp3 G3 n3=>q p3 _ G3 (sG.trans (n1.same.trans (n2.same.trans n3.same))) n3.here (.cons ⟨l,Z,?_⟩ .nil)⟩;show G3 l=some (.tup ((List.zipWith max st t).map V.int));rw[<-ey];exact n3.same _ _ n2.here
def Ls(B:Bl mg)(d_:Dm K C "tied" "Watch.tied" qi sY)(At:Hp->Addr->Prop)(Ti:Int×Int->Prop):aZ P w K mg base fV 1 d_.f d_.fd sY (Yg (pqW ws) At Ti):=by
 exists d_.F.ok Lk;obtain⟨d,a,p,m,gh,bR,t,st,rfl,hD,ha,ok,m5,o1,o2,ne,ti,hp,q⟩:=h;have l1:st.length=m:=ok.1;have hu:(A.deeper (PyProof.Rows.envOfC "Watch.tied" (aD qi) s⁻¹ d_.f dD)).units+64<cLine:=by have:=hr.un;omega
 refine⟨_,(aG (dH (aL (Xn (K:=K) Z hu) (bG (Dd (K:=K) Z) Z B.sorted () (J (cI (J (aO (aK (K:=K) Z) (pv 1) (pv 2)) (J (aO (aK (K:=K) Z) (pv 1) (pv 3)) ao))) ao)) (cI (J aA (J aA ao))))
   (aF (bA (cI (J (bf (J (pv 1) (J aA ao))) ao))))
   bK)
   (aF (bA (cI (J (bf (J (iC rz Z B.tuple () (J (kE ["k","number","one","other"] [none,none,some 2,some 3]  (by kernel_rfl) Z (Ţ (K:=K) Z Z B.enumerate (J (pv 1) ao)) (λ_ _ _ _ _=>(jN (K:=K) (n:=2) Z Z (cu (aP 0 (show(["k","number","one","other"]:List Str).Nodup by decide)) (cu (aP 1 (show(["k","number","one","other"]:List Str).Nodup by decide)) jz)))) (λ_ _ _ _ _=>gB) λ_ _ _ _ _=>(oZ (aL (a0s (K:=K) Z) (pv 0) (bf (J (pv 2) (J (pv 3) ao))) (by with_unfolding_all rfl)) (bG (YZ Z) Z B.max () (J (pv 1) (J aA ao))) (pv 1))) ao)) (J aA ao))) ao))))),?_⟩
 refine⟨_,Z,_,Z,a,_,_,_,Z,Z,cH.of ha,Q6 (),_,Z,_,Z,a,_,_,_,Z,Z,cH.of ha,Q6 (),(),λp1 H1 n1=>?_⟩;refine⟨p1,[dz st gh,dz st bR],Z,bI.of n1.here,by show 2<64;decide,λp2 H2 zs n2 pm sd=>?_⟩;refine⟨(),λp3 H3 n3=>?_⟩;have w5:=n1.same.trans (n2.same.trans n3.same);refine⟨_,_,.lst (bI.of (n3.same _ _ n2.here)) (wR.ints zs),.lst (bI.of (show H3 p3=some (.lst ([0,2].map V.int))from n3.here)) (wR.ints [0,2]),shaped_ints zs,shaped_ints _,_,Z,?_⟩;rw[Jq];have key:zs=[0,2]↔((dz st gh=0/\dz st bR=2)\/(dz st gh=2/\dz st bR=0)):=by
  constructor
  ·intro e;have pm:=pm;rw[e]at pm;have m1:dz st gh∈([0,2]:List Int):=pm.mem_iff.mpr (aV ..);have m2:dz st bR∈([0,2]:List Int):=pm.mem_iff.mpr (bh _ (aV ..));have m3:(0:Int)∈[dz st gh,dz st bR]:=pm.mem_iff.mp (aV ..);have m4:(2:Int)∈[dz st gh,dz st bR]:=pm.mem_iff.mp (bh _ (aV ..));simp only[List.mem_cons,List.not_mem_nil,or_false]at m1 m2 m3 m4;omega
  ·intro h;have ln:=pm.length_eq
   match zs,ln,pm,sd with
   | [x,y],_,pm,sd =>
    have hxy:x<=y:=(Aq.mp sd).1 y (bM.mpr Z);have m1:x∈[dz st gh,dz st bR]:=pm.mem_iff.mp (aV ..);have m2:y∈[dz st gh,dz st bR]:=pm.mem_iff.mp (bh _ (aV ..));have m3:dz st gh∈[x,y]:=pm.mem_iff.mpr (aV ..);have m4:dz st bR∈[x,y]:=pm.mem_iff.mpr (bh _ (aV ..));simp only[List.mem_cons,List.not_mem_nil,or_false]at m1 m2 m3 m4;have e1:x=0:=()
    have e2:y=2:=()
    rw[e1,e2]
 by_cases c:(dz st gh=0/\dz st bR=2)\/(dz st gh=2/\dz st bR=0)
 ·rw[bN (key.mpr c)];refine cX ⟨_,Z,a,Z,⟨_,cH.of (w5 _ _ ha)⟩,?_⟩;have ll:(lD st gh bR).length=m:=by unfold lD;rw[aM,qJ];exact l1
  refine ţ (K:=K) (a:=a) (xs:=st.map V.int) (λi us G=>aJ H3 G/\us=((lD st gh bR).take i).map V.int) ⟨aJ.refl _,Z⟩ (λi us G hi ⟨sG,ey⟩=>⟨cH.of (sG _ _ (w5 _ _ ha)),?_⟩) (λi x us G pp G0 hx ⟨sG,ey⟩ nw=>?_) (λus G ⟨sG,ey⟩ pr hpr=>?_)
  ·rw[ey,aM,fZ];exact d7 (cO ())
  ·rw[gk]at hx;obtain⟨x',hx',rfl⟩:=oR.mp hx;have il:i<st.length:=(fY.mp hx').1;have ea:dz st i=x':=by
    unfold dz;rw[fK,hx'];rfl
   refine⟨pp,_,Z,cH.of nw.here,Z,_,_,Z,_,_,Z,Z,?_⟩;refine⟨_,Z,_,Z,_,Z,(),λp4 G4 n4=>⟨p4,_,Z,.inr (cH.of n4.here),Z,Z,_,Z,?_⟩⟩;have s4:=sG.trans (nw.same.trans n4.same);have el:(lD st gh bR)[i]?=some (if i=gh\/i=bR then max x' 1 else x'):=by
    unfold lD;rw[gk,Io il,<-ea];rfl
   have nx:∀z:Int,z=(if i=gh\/i=bR then max x' 1 else x')->us++[V.int z]=((lD st gh bR).take (i+1)).map V.int:=λz hz=>by
    rw[ey,mK,el,eO,hz];rfl
   by_cases ci:i=gh\/i=bR
   ·rw[show(if false=true then !inV (V.int (i:Int)) [V.int (gh:Int),V.int (bR:Int)]else inV (V.int (i:Int)) [V.int (gh:Int),V.int (bR:Int)])=true by
     rw[aq cY];exact in2.mpr ()]
    refine gY ⟨_,Z,_,_,Z,s4,nx _ ?_⟩;rw[aB ci];by_cases c1:(1:Int)>x'
    ·rw[aB c1];omega
    ·rw[aq c1];omega
   ·rw[show(if false=true then !inV (V.int (i:Int)) [V.int (gh:Int),V.int (bR:Int)]else inV (V.int (i:Int)) [V.int (gh:Int),V.int (bR:Int)])=false by
     rw[aq cY];exact yg.mpr (λz=>ci (by have:=in2.mp z;omega))]
    exact cX ⟨_,Z,s4,nx _ (by rw[aq ci])⟩
  ·rw[aM,l1,<-ll,iV]at ey;have m1:=gZ.oM (o:=.lst us) hpr;generalize cM G pr (.lst us)=G1 at m1 ⊢;refine⟨pr,us,Z,.inl ⟨bI.of m1.here,λl hl=>?_⟩⟩;have m2:=gZ.oM (o:=.tup us) hl;generalize cM G1 l (.tup us)=G2 at m2 ⊢;refine⟨(),λp4 G3 m3=>⟨(),λp5 G4 m4=>q p5 _ G4 (w5.trans (sG.trans (m1.same.trans (m2.same.trans (m3.same.trans m4.same))))) m4.here ?_⟩⟩;show Paired _ _ (if(dz st gh=0/\dz st bR=2)\/(dz st gh=2/\dz st bR=0)then [(lD st gh bR,(0:Int))]else [(st,0)]);rw[aB c];refine .cons ⟨p4,l,Z,m4.same _ _ m3.here,?_⟩ .nil;show G4 l=some (.tup ((lD st gh bR).map V.int));rw[<-ey];exact m4.same _ _ (m3.same _ _ m2.here)
 ·rw[cZ (λz=>c (key.mp z))];refine gY ⟨_,Z,(),λp4 H4 n4=>⟨(),λp5 H5 n5=>q p5 _ H5 (w5.trans (n4.same.trans n5.same)) n5.here ?_⟩⟩;show Paired _ _ (if(dz st gh=0/\dz st bR=2)\/(dz st gh=2/\dz st bR=0)then [(lD st gh bR,(0:Int))]else [(st,0)]);rw[aq c];exact .cons ⟨p4,a,Z,n5.same _ _ n4.here,ha.keep (.of (w5.trans (n4.same.trans n5.same)))⟩ .nil
end
inductive Ys(K:aH)(C:Addr)(vs:List V)(H:Hp)(Q:VK)(u_3:XK):Prop
 |mk (d dx g t:Addr) (n:Nat) (xs:List V) (ts:List bY) (v:V) (o:Option (List Int)) (_:vs=[.ref d,.ref g,v]) (_:H d=some (.ins C dx [])) (_:cH K H g [.int n,.ref t]) (_:H t=some (.lst xs)) (_:Paired (tE H) xs ts) (_:ts.length<=1000) (_:n<=100) (_:WtV K H v o) (_:(∀ws,o=some ws->ws.length<=200)) (_:À n o=true) (_:∀H',Sd d H H'->Fz K C [] n ts (wtL n o) H' d->Q .non H')
inductive a1y(K:aH)(C:Addr)(vs:List V)(H:Hp)(Q:VK)(u_3:XK):Prop
 |mk (d dx g t:Addr) (n c:Nat) (xs:List V) (ts:List bY) (v:V) (o:Option (List Int)) (_:vs=[.ref d,.ref g,.int c,v]) (_:c<=4) (_:H d=some (.ins C dx [])) (_:cH K H g [.int n,.ref t]) (_:H t=some (.lst xs)) (_:Paired (tE H) xs ts) (_:ts.length<=1000) (_:n<=100) (_:WtV K H v o) (_:(∀ws,o=some ws->ws.length<=200)) (_:À n o=true) (_:∀H',Sd d H H'->Fz K C [("many",.int c)] n ts (wtL n o) H' d->Q .non H')
def Sd.a7F{d C dx:Addr}{fs:List (Str×V)}{H H':Hp}{a:Addr}{xs:List V}(e:Sd d H H')(hd:H d=some (.ins C dx fs))(h:bI K H a xs):bI K H' a xs:=by
 rcases h with(h|⟨o,h⟩)|h
 ·exact .inl (.inl (e _ _ (λz=>by grind) h))
 ·exact .inl (.inr ⟨o,e _ _ (λz=>by grind) h⟩)
 ·exact .inr h
def Sd.tupI{d C dx:Addr}{fs:List (Str×V)}{H H':Hp}{a:Addr}{xs:List V}(e:Sd d H H')(hd:H d=some (.ins C dx fs))(h:cH K H a xs):cH K H' a xs:=by
 rcases h with(h|⟨o,h⟩)|h
 ·exact .inl (.inl (e _ _ (λz=>by grind) h))
 ·exact .inl (.inr ⟨o,e _ _ (λz=>by grind) h⟩)
 ·exact .inr h
def Sd.wtI{d C dx:Addr}{fs:List (Str×V)}{H H':Hp}(e:Sd d H H')(hd:H d=some (.ins C dx fs)):∀{v:V}{o:Option (List Int)},WtV K H v o->WtV K H' v o
 |_,none,h=>h
 |_,some _,⟨a,e1,h⟩=>⟨a,e1,e.a7F hd h⟩
def Sd.a4l{d C dx:Addr}{fs:List (Str×V)}{H H':Hp}(e:Sd d H H')(hd:H d=some (.ins C dx fs)){v:V}{t:Int×Int}(h:tE H v t):tE H' v t:=by
 obtain⟨p,e1,h⟩:=h;exact⟨p,e1,e _ _ (λz=>by grind) h⟩
def Lx(B:Bl mg)(Ct:Ř mg)(cF:qX K mg)(cJ:Dt K mg)(jU:Fq K mg)(jy:Dn K mg "is_below" fP uq)(tM:Dn K mg "weights_of" jR Gm):aZ P w K mg base fV 5 cJ.bJ.f cJ.bJ.fd Gk (Ys K cJ.C):=by
 have gU:aZ P w K mg base fV 4 _ _ _ _:=(qZ B cF cJ.cl cJ.fG cJ.ig cJ.fO).mono ();have Ŧ:aZ P w K mg base fV 4 _ _ _ _:=(vy B Ct jU jy tM).mono ();refine cJ.bJ.F.ok Dr (λvs H Q E h=>?_) (λdD A outer s H vs Q E hr h=>?_)
 ·obtain⟨d,dx,g,t,n,xs,ts,v,o,rfl,_⟩:=h;rfl
 obtain⟨d,dx,g,t,n,xs,ts,v,o,rfl,hd,hg,ht,pT,lT,n1,hV,hw,ok,q⟩:=h;refine⟨_,(aG (gW (Qk Z cF.m cF.uT gU hr cF.bJ.b .nil bW (J (pv 0) (J (pv 1) (J (bf ao) (J (bf ao) ao))))))
   (aF (Bd (pv 0) (aY Ŧ hr Z tM.m tM.F.kp tM.b .nil bW (J (aO (aK (K:=K) Z) (pv 1) aA) (J (pv 2) ao))) Z))),?_⟩
 refine⟨_,Z,_,Z,(),λp1 H1 m1=>⟨(),λp2 H2 m2=>?_⟩⟩;have s2:aJ H H2:=m1.same.trans m2.same;have lx:xs.length<=1000:=by rw[aQ pT];exact lT
 refine⟨d,dx,g,t,n,xs,.ref p1,.ref p2,Z,s2 _ _ hd,s2.wU hg,s2 _ _ ht,lx,λpg pt H3 s3 h3d h3g h3t=>?_⟩;have e3:Sd d H H3:=λc o hc hh=>s3 c o hc (s2 _ _ hh);have np1:p1≠d:=λe=>by have:=m1.fresh;grind
 have np2:p2≠d:=λe=>by have:=m2.fresh;rw[e,m1.same _ _ hd]at this;cases this
 have h3l:H3 p1=some (.tup []):=s3 _ _ np1 (m2.same _ _ m1.here);have h3u:H3 p2=some (.tup []):=s3 _ _ np2 m2.here;refine⟨_,Z,g,_,_,V.int n,Z,Z,e3.tupI hd hg,cA (j:=0) Z,_,Z,n,v,o,Z,e3.wtI hd hV,n1,hw,ok,λpw H4 s4 f4 h4=>?_⟩;refine⟨_,Z,d,_,_,_,Z,s4 _ _ h3d,cJ.cl,cJ.fD,(by show 3<1000;decide),?_⟩;generalize hU:cM H4 d _=U;have u1:uP H4 d (.ins cJ.C dx (fsQ pg (.ref p1) (.ref p2)++([]++[(("weights" : Str),V.ref pw)]))) U:=by rw[<-hU];exact uP.oM
 have up:∀c u,c≠d->H3 c=some u->U c=some u:=λc u hc e=>by rw[u1.rest c hc];exact s4 _ _ e
 have nd:∀c u,(∀dx fs,u≠.ins cJ.C dx fs)->H3 c=some u->c≠d:=λc u hn e z=>by grind
 have dpw:pw≠d:=λe=>by grind
 exact q U (λc u hc e=>up c u hc (e3 c u hc e)) ⟨dx,pg,pt,xs,p1,p2,pw,u1.here,up _ _ (nd _ _ (λ_ _ z=>by cases z) h3g) h3g,up _ _ (nd _ _ (λ_ _ z=>by cases z) h3t) h3t,Paired.cB pT λ_ _ h=>by
  obtain⟨pp,e1,e2⟩:=e3.a4l hd h;exact⟨pp,e1,up _ _ (nd _ _ (λ_ _ z=>by cases z) e2) e2⟩,lT,up _ _ np1 h3l,up _ _ np2 h3u,by rw[u1.rest _ dpw];exact h4⟩
def Ly(B:Bl mg)(Ct:Ř mg)(cF:qX K mg)(dB:Du K mg)(jU:Fq K mg)(jy:Dn K mg "is_below" fP uq)(tM:Dn K mg "weights_of" jR Gm):aZ P w K mg base fV 5 dB.bJ.f dB.bJ.fd Gk (Ys K dB.C):=by
 have gU:aZ P w K mg base fV 4 _ _ _ _:=(qZ B cF dB.cl dB.fG dB.ig dB.fO).mono ();have Ŧ:aZ P w K mg base fV 4 _ _ _ _:=(vy B Ct jU jy tM).mono ();refine dB.bJ.F.ok Ds (λvs H Q E h=>?_) (λdD A outer s H vs Q E hr h=>?_)
 ·obtain⟨d,dx,g,t,n,xs,ts,v,o,rfl,_⟩:=h;rfl
 obtain⟨d,dx,g,t,n,xs,ts,v,o,rfl,hd,hg,ht,pT,lT,n1,hV,hw,ok,q⟩:=h;refine⟨_,(aG (gW (Qk Z cF.m cF.uT gU hr cF.bJ.b .nil bW (J (pv 0) (J (pv 1) (J (bf ao) (J (bf ao) ao))))))
   (aF (Bd (pv 0) (aY Ŧ hr Z tM.m tM.F.kp tM.b .nil bW (J (aO (aK (K:=K) Z) (pv 1) aA) (J (pv 2) ao))) Z))),?_⟩
 refine⟨_,Z,_,Z,(),λp1 H1 m1=>⟨(),λp2 H2 m2=>?_⟩⟩;have s2:aJ H H2:=m1.same.trans m2.same;have lx:xs.length<=1000:=by rw[aQ pT];exact lT
 refine⟨d,dx,g,t,n,xs,.ref p1,.ref p2,Z,s2 _ _ hd,s2.wU hg,s2 _ _ ht,lx,λpg pt H3 s3 h3d h3g h3t=>?_⟩;have e3:Sd d H H3:=λc o hc hh=>s3 c o hc (s2 _ _ hh);have np1:p1≠d:=λe=>by have:=m1.fresh;grind
 have np2:p2≠d:=λe=>by have:=m2.fresh;rw[e,m1.same _ _ hd]at this;cases this
 have h3l:H3 p1=some (.tup []):=s3 _ _ np1 (m2.same _ _ m1.here);have h3u:H3 p2=some (.tup []):=s3 _ _ np2 m2.here;refine⟨_,Z,g,_,_,V.int n,Z,Z,e3.tupI hd hg,cA (j:=0) Z,_,Z,n,v,o,Z,e3.wtI hd hV,n1,hw,ok,λpw H4 s4 f4 h4=>?_⟩;refine⟨_,Z,d,_,_,_,Z,s4 _ _ h3d,dB.cl,dB.fD,(by show 3<1000;decide),?_⟩;generalize hU:cM H4 d _=U;have u1:uP H4 d (.ins dB.C dx (fsQ pg (.ref p1) (.ref p2)++([]++[(("weights" : Str),V.ref pw)]))) U:=by rw[<-hU];exact uP.oM
 have up:∀c u,c≠d->H3 c=some u->U c=some u:=λc u hc e=>by rw[u1.rest c hc];exact s4 _ _ e
 have nd:∀c u,(∀dx fs,u≠.ins dB.C dx fs)->H3 c=some u->c≠d:=λc u hn e z=>by grind
 have dpw:pw≠d:=λe=>by grind
 exact q U (λc u hc e=>up c u hc (e3 c u hc e)) ⟨dx,pg,pt,xs,p1,p2,pw,u1.here,up _ _ (nd _ _ (λ_ _ z=>by cases z) h3g) h3g,up _ _ (nd _ _ (λ_ _ z=>by cases z) h3t) h3t,Paired.cB pT λ_ _ h=>by
  obtain⟨pp,e1,e2⟩:=e3.a4l hd h;exact⟨pp,e1,up _ _ (nd _ _ (λ_ _ z=>by cases z) e2) e2⟩,lT,up _ _ np1 h3l,up _ _ np2 h3u,by rw[u1.rest _ dpw];exact h4⟩
def Hf(B:Bl mg)(Ct:Ř mg)(cF:qX K mg)(bO:vX K mg)(jU:Fq K mg)(jy:Dn K mg "is_below" fP uq)(tM:Dn K mg "weights_of" jR Gm):aZ P w K mg base fV 5 bO.bJ.f bO.bJ.fd X4 (a1y K bO.C):=by
 have gU:aZ P w K mg base fV 4 _ _ _ _:=(qZ B cF bO.cl bO.fG bO.ig bO.fO).mono ();have Ŧ:aZ P w K mg base fV 4 _ _ _ _:=(vy B Ct jU jy tM).mono ();have œ:aZ P w K mg base fV 4 _ _ _ _:=(yH B jU jy).mono ();refine bO.bJ.F.ok zR (λvs H Q E h=>?_) (λdD A outer s H vs Q E hr h=>?_)
 ·obtain⟨d,dx,g,t,n,c,xs,ts,v,o,rfl,_⟩:=h;rfl
 obtain⟨d,dx,g,t,n,c,xs,ts,v,o,rfl,c4,hd,hg,ht,pT,lT,n1,hV,hw,ok,q⟩:=h;refine⟨_,(aG (dH (qL (eN (K:=K) Z (aY œ hr Z jy.m jy.F.kp jy.b .nil bW (J (bQ fL (Pq (v:=.int 4) Z Ct.yJ Ct.yK) aA) (J (pv 2) ao))) λ_=>rfl))
   (aF Ci)
   bK)
   (aG (gW (Qk Z cF.m cF.uT gU hr cF.bJ.b .nil bW (J (pv 0) (J (pv 1) (J (bf ao) (J (bf ao) ao))))))
   (aG (Bd (pv 0) (pv 2) Z)
   (aF (Bd (pv 0) (aY Ŧ hr Z tM.m tM.F.kp tM.b .nil bW (J (aO (aK (K:=K) Z) (pv 1) aA) (J (pv 3) ao))) Z))))),?_⟩
 have bl:pH (4+1) (some (c:Int))=true:=bN (show 0<=(c:Int)/\(c:Int)<4+1 by omega);refine⟨_,_,Z,Z,_,Z,4+1,some (c:Int),Z,?_⟩;rw[bl];refine⟨_,Z,cX ⟨_,Z,_,Z,(),λp1 H1 m1=>⟨(),λp2 H2 m2=>?_⟩⟩⟩;have s2:aJ H H2:=m1.same.trans m2.same;have lx:xs.length<=1000:=by rw[aQ pT];exact lT
 refine⟨d,dx,g,t,n,xs,.ref p1,.ref p2,Z,s2 _ _ hd,s2.wU hg,s2 _ _ ht,lx,λpg pt H3 s3 h3d h3g h3t=>?_⟩;have e3:Sd d H H3:=λc o hc hh=>s3 c o hc (s2 _ _ hh);have np1:p1≠d:=λe=>by have:=m1.fresh;grind
 have np2:p2≠d:=λe=>by have:=m2.fresh;rw[e,m1.same _ _ hd]at this;cases this
 have h3l:H3 p1=some (.tup []):=s3 _ _ np1 (m2.same _ _ m1.here);have h3u:H3 p2=some (.tup []):=s3 _ _ np2 m2.here;refine⟨_,Z,_,Z,d,_,_,_,Z,h3d,bO.cl,bO.Ka,(by show 3<1000;decide),?_⟩;generalize hU0:cM H3 d _=U0;have u0:uP H3 d (.ins bO.C dx (fsQ pg (.ref p1) (.ref p2)++[(("many" : Str),V.int c)])) U0:=by rw[<-hU0];exact uP.oM
 have e4:Sd d H U0:=λc' u hc hh=>by rw[u0.rest c' hc];exact e3 c' u hc hh
 refine⟨_,Z,g,_,_,V.int n,Z,Z,e4.tupI hd hg,cA (j:=0) Z,_,Z,n,v,o,Z,e4.wtI hd hV,n1,hw,ok,λpw H4 s4 f4 h4=>?_⟩;refine⟨_,Z,d,_,_,_,Z,s4 _ _ u0.here,bO.cl,bO.fD,(by show 4<1000;decide),?_⟩;generalize hU:cM H4 d _=U;have u1:uP H4 d (.ins bO.C dx (fsQ pg (.ref p1) (.ref p2)++([(("many" : Str),V.int c)]++[(("weights" : Str),V.ref pw)]))) U:=by rw[<-hU];exact uP.oM
 have up:∀c' u,c'≠d->H3 c'=some u->U c'=some u:=λc' u hc e=>by
  rw[u1.rest c' hc];refine s4 _ _ ?_;rw[u0.rest c' hc];exact e
 have nd:∀c' u,(∀dx fs,u≠.ins bO.C dx fs)->H3 c'=some u->c'≠d:=λc' u hn e z=>by grind
 have dpw:pw≠d:=λe=>by rw[e,u0.here]at f4;cases f4
 exact q U (λc' u hc e=>up c' u hc (e3 c' u hc e)) ⟨dx,pg,pt,xs,p1,p2,pw,u1.here,up _ _ (nd _ _ (λ_ _ z=>by cases z) h3g) h3g,up _ _ (nd _ _ (λ_ _ z=>by cases z) h3t) h3t,Paired.cB pT λ_ _ h=>by
  obtain⟨pp,e1,e2⟩:=e3.a4l hd h;exact⟨pp,e1,up _ _ (nd _ _ (λ_ _ z=>by cases z) e2) e2⟩,lT,up _ _ np1 h3l,up _ _ np2 h3u,by rw[u1.rest _ dpw];exact h4⟩
def Å(c:Nat):∀m,m∈(JD:List Str)->([(("many" : Str),V.int (c:Int))]).lookup m=none:=λm hm=>by
 have go:∀m∈(JD:List Str),(m==("many" : Str))=false:=()
 rw[Iz,go m hm];rfl
noncomputable def a4m(B:Bl mg)(D:vX K mg){c:Nat}(c4:c<=4)(n:Nat)(ts:List bY)(ws:List Int)(lw:ws.length=n)(jV:Dn K mg "with_number" eZ xr)(jW:Dn K mg "without_number" cW xu):HD P w K mg base Key where
 C:=D.C
 cl:=D.cl
 knd:=dN P w
 pq:=pqC c ws
 At:=Fz K D.C [("many",.int c)] n ts ws
 Pl:=λv=>v<n
 Ti:=λ_=>True
 n:=n
 ts:=ts
 keep:=λa h=>Fz.keep a h
 ins:=λh=>Fz.ins (Å c) h
 ig:=D.ig
 fO:=D.fO
 fG:=D.fG
 oG:=⟨_,_,D.eE.mt,D.eE.b,(qF D.eE _ Z _).mono ()⟩
 rK:=⟨_,_,D.jc.mt,D.jc.b,(uz D.jc _ Z _).mono ()⟩
 vM:=⟨_,_,D.jd.mt,D.jd.b,(uD D.jd _ Z _).mono ()⟩
 vN:=⟨_,_,D.je.mt,D.je.b,(Dw B c4 D.cl D.Ka D.je jV).mono ()⟩
 oH:=⟨_,_,D.eG.mt,D.eG.b,(yP c4 D.cl D.fD lw D.eG jW).mono ()⟩
 Fl:=⟨_,_,D.qj.mt,D.qj.b,(GP D.qj _ _).mono ()⟩
noncomputable def a4n(B:Bl mg)(D:Dt K mg)(n:Nat)(ts:List bY)(ws:List Int)(lw:ws.length=n)(jV:Dn K mg "with_number" eZ xr)(jW:Dn K mg "without_number" cW xu):HD P w K mg base Key where
 C:=D.C
 cl:=D.cl
 knd:=dN P w
 pq:=pqA ws
 At:=Fz K D.C [] n ts ws
 Pl:=λv=>v<n
 Ti:=λ_=>True
 n:=n
 ts:=ts
 keep:=λa h=>Fz.keep a h
 ins:=λh=>Fz.ins (λ_ _=>rfl) h
 ig:=D.ig
 fO:=D.fO
 fG:=D.fG
 oG:=⟨_,_,D.eE.mt,D.eE.b,(Bx D.eE _).mono ()⟩
 rK:=⟨_,_,D.jc.mt,D.jc.b,(uz D.jc _ Z _).mono ()⟩
 vM:=⟨_,_,D.jd.mt,D.jd.b,(uD D.jd _ Z _).mono ()⟩
 vN:=⟨_,_,D.je.mt,D.je.b,(GQ B D.je jV _).mono ()⟩
 oH:=⟨_,_,D.eG.mt,D.eG.b,(BJ D.cl D.fD lw D.eG jW).mono ()⟩
 Fl:=⟨_,_,D.qj.mt,D.qj.b,(Lr D.qj _ _).mono ()⟩
noncomputable def a4o(B:Bl mg)(Bz:mg "zip" = none)(D:Du K mg)(n:Nat)(ts:List bY)(ws:List Int)(lw:ws.length=n)(jV:Dn K mg "with_number" eZ xr)(jW:Dn K mg "without_number" cW xu):HD P w K mg base Bool where
 C:=D.C
 cl:=D.cl
 knd:=Dk.JB P w
 pq:=pqW ws
 At:=Fz K D.C [] n ts ws
 Pl:=λv=>v<n
 Ti:=λ_=>True
 n:=n
 ts:=ts
 keep:=λa h=>Fz.keep a h
 ins:=λh=>Fz.ins (λ_ _=>rfl) h
 ig:=D.ig
 fO:=D.fO
 fG:=D.fG
 oG:=⟨_,_,D.eE.mt,D.eE.b,(qF D.eE _ Z _).mono ()⟩
 rK:=⟨_,_,D.jc.mt,D.jc.b,(GX B D.jc _).mono ()⟩
 vM:=⟨_,_,D.jd.mt,D.jd.b,(GZ B Bz D.jd _).mono ()⟩
 vN:=⟨_,_,D.je.mt,D.je.b,(GR B D.je jV _).mono ()⟩
 oH:=⟨_,_,D.eG.mt,D.eG.b,(BK D.cl D.fD lw D.eG jW).mono ()⟩
 Fl:=⟨_,_,D.qj.mt,D.qj.b,(Ls B D.qj _ _).mono ()⟩
namespace Go
theorem w6:∀{xs ys:List Int},xs.Pairwise (· < ·)->ys.Pairwise (· < ·)->(∀v,v∈xs↔v∈ys)->xs=ys
 | [],[],_,_,_=>rfl
 | [],y::ys,_,_,h=>absurd ((h y).mpr aV) fu
 |x::xs,[],_,_,h=>absurd ((h x).mp aV) fu
 |x::xs,y::ys,hx,hy,h=>by
  rw[Aq]at hx hy
  have e:x=y:=by
   rcases bU.mp ((h x).mp aV)with h1|h1
   ·exact h1
   ·rcases bU.mp ((h y).mpr aV)with h2|h2
    ·exact h2.symm
    grind
  subst e
  rw[w6 hx.2 hy.2 λv=>⟨λhv=>?_,λhv=>?_⟩]
  ·grind
  grind
end Go
structure Dz{κ:Type}(pq:PQ κ):Prop where
 leaf:pq.Ok 0 pq.leaf
 inn:∀{m s p v},pq.Ok m s->p<=m->(pq.inn s p v).length<=4/\∀x∈pq.inn s p v,pq.Ok (m+1) x.1
 tie:∀{m s a b t},pq.Ok m s->a<m->b<m->(pq.tie s a b t).length<=4/\∀x∈pq.tie s a b t,pq.Ok m x.1
 out:∀{m s p v},pq.Ok (m+1) s->p<m+1->(pq.out s p v).length<=4/\∀x∈pq.out s p v,pq.Ok m x.1
 jn:∀{m s t},pq.Ok m s->pq.Ok m t->(pq.jn s t).length<=4/\∀x∈pq.jn s t,pq.Ok m x
 fin:∀{m:Nat}{l:List dU},m<=4->l.Nodup->(∀s∈l,pq.Ok m s)->l.length<=900
def dW(T:cG):Nat:=(T.map λx=>x.2.m.natAbs).sum
structure Ad{κ:Type}(pq:PQ κ)(m:Nat)(T:cG):Prop where
 nd:(T.map (·.1)).Nodup
 ok:∀x∈T,pq.Ok m x.1
def Ad.nil{κ:Type}{pq:PQ κ}{m:Nat}:Ad pq m []:=⟨Ba,λ_ h=>absurd h fu⟩
def Ad.len{κ:Type}{pq:PQ κ}(pk:Dz pq){m:Nat}(h:Ad pq m T)(m4:m<=4):T.length<=900:=by
 have:=pk.fin m4 h.nd (λs hs=>by
  obtain⟨x,hx,rfl⟩:=dY.mp hs;exact h.ok x hx)
 grind
def Æ(T:cG)(s:dU)(r:gC):(rJ T s r).map (·.1)=if(T.any λx=>decide (x.1=s))=true then T.map (·.1)else T.map (·.1)++[s]:=by
 unfold rJ;split
 ·rw[mL];refine yc λx _=>?_;grind
 grind
set_option tactic.hygienic true in
def a1z{κ:Type}{pq:PQ κ}{m:Nat}{s:dU}{r:gC}(h:Ad pq m T)(hs:pq.Ok m s):Ad pq m (rJ T s r):=by
 have e:=Æ T s r;refine⟨?_,λx hx=>?_⟩
 ·rw[e];split
  ·exact h.nd
  ·rename_i c;refine wz.mpr ⟨h.nd,Aj _ _,λa ha b hb ab=>?_⟩;grind
 ·have:x.1∈(rJ T s r).map (·.1):=dY.mpr ⟨x,hx,Z⟩;rw[e]at this;split at this
  ·obtain⟨y,hy,ey⟩:=dY.mp this;rw[<-ey];exact h.ok y hy
  ·rcases cL.mp this with z|z
   ·obtain⟨y,hy,ey⟩:=dY.mp z;rw[<-ey];exact h.ok y hy
   grind
def Yt{κ:Type}{pq:PQ κ}{bt:Int->Int->Bool}{m:Nat}{s:dU}{r:gC}(h:Ad pq m T)(hs:pq.Ok m s):Ad pq m (mF bt T s r):=by
 unfold mF;split<;>exact a1z h hs
def Yu{s:dU}{r:gC}(nd:(T.map (·.1)).Nodup):dW (rJ T s r)+((uH T s).map λo=>o.m.natAbs).getD 0=dW T+r.m.natAbs:=by
 induction T with
 |nil=>exact Nat.add_comm (r.m.natAbs+0) 0
 |cons x T ih =>
  rw[b7,iW]at nd;have ih:=ih nd.2;unfold rJ uH at ih ⊢;by_cases c:x.1=s
  ·rw[tZ,bN c,Bool.true_or,aB Z,uX (by exact bN c)];have e:(T.map λy=>if y.1=s then(y.1,r)else y)=T:=by
    have:∀y∈T,(λy:dU×gC=>if y.1=s then(y.1,r)else y) y=id y:=λy hy=>aq λz=>nd.1 (dY.mpr ⟨y,hy,z.trans c.symm⟩);rw[yc this,List.map_id]
   rw[b7,aB c,e];unfold dW;rw[b7,b7,wF,wF];show r.m.natAbs+_+x.2.m.natAbs=_;omega
  ·rw[tZ,cZ c,Bool.false_or,qI (by exact λz=>c (gn z))];by_cases d:(T.any λy=>decide (y.1=s))=true
   ·rw[aB d]at ih ⊢;rw[b7,aq c];unfold dW at ih ⊢;rw[b7,b7,wF,wF];omega
   ·rw[aq d]at ih ⊢;unfold dW at ih ⊢;rw[List.cons_append,b7,b7,wF,wF];omega
set_option tactic.hygienic true in
def Sv{bt:Int->Int->Bool}{s:dU}{r:gC}(nd:(T.map (·.1)).Nodup):dW (mF bt T s r)<=dW T+r.m.natAbs:=by
 unfold mF;split
 ·rename_i e;have:=Yu (s:=s) (r:=r) nd;omega
 ·rename_i o e;have:=Yu (s:=s) (r:=⟨o.m+r.m,(zY bt r o).b,(zY bt r o).src⟩) nd;grind
section
variable{κ:Type} [DecidableEq κ]
theorem BL{pq:PQ κ}{bt:Int->Int->Bool}{m:Nat}{old:dU}{row:gC}:∀{l:List (dU×Int)}{T:cG},Ad pq m T->(∀x∈l,pq.Ok m x.1)->Ad pq m (pQ bt old row l T)/\dW (pQ bt old row l T)<=dW T+l.length*row.m.natAbs
 | [],T,h,_=>⟨h,by show dW T<=dW T+0*_;omega⟩
 |x::l,T,h,hl=>by
  have h1:Ad pq m (mF bt T x.1 ⟨row.m,row.b+x.2,[old]⟩):=Yt h (hl x (aV ..))
  have s1:=Sv (bt:=bt) (s:=x.1) (r:=⟨row.m,row.b+x.2,[old]⟩) h.nd
  have s1:dW (mF bt T x.1 ⟨row.m,row.b+x.2,[old]⟩)<=dW T+row.m.natAbs:=s1
  obtain⟨h2,s2⟩:=BL (bt:=bt) (old:=old) (row:=row) h1 (λy hy=>hl y (bh _ hy))
  refine⟨h2,dF s2 ?_⟩
  rw[jH,Nat.succ_mul]
  omega
theorem Kg{pq:PQ κ}{jY:b8}{B:List Int}{m m':Nat}:∀{S T:cG},Ad pq m' T->(∀x∈S,pq.Ok m x.1)->(∀s,pq.Ok m s->(Wg pq s jY B).length<=4/\∀x∈Wg pq s jY B,pq.Ok m' x.1)->Ad pq m' (nY pq jY B S T)/\dW (nY pq jY B S T)<=dW T+4*dW S
 | [],T,h,_,_=>⟨h,by show dW T<=dW T+_;omega⟩
 |x::S,T,h,hS,hb=>by
  obtain⟨l4,ob⟩:=hb x.1 (hS x (aV ..))
  obtain⟨h1,s1⟩:=BL (bt:=pq.bt) (old:=x.1) (row:=x.2) h ob
  obtain⟨h2,s2⟩:=Kg h1 (λy hy=>hS y (bh _ hy)) hb
  refine⟨h2,dF s2 ?_⟩
  have e:dW (x::S)=x.2.m.natAbs+dW S:=by unfold dW;grind
  rw[e]
  have:(Wg pq x.1 jY B).length*x.2.m.natAbs<=4*x.2.m.natAbs:=Nat.mul_le_mul_right _ l4
  omega
def Ç{pq:PQ κ}(pk:Dz pq){jY:b8}{B:List Int}{m m':Nat}(m4:m'<=4){S:cG}(hS:∀x∈S,pq.Ok m x.1)(hb:∀s,pq.Ok m s->(Wg pq s jY B).length<=4/\∀x∈Wg pq s jY B,pq.Ok m' x.1):a3T pq jY B S []:=by
 intro i hi x hx j hj;have h1:=(Kg (pq:=pq) (jY:=jY) (B:=B) (m:=m) (m':=m') (S:=S.take i) Ad.nil (λy hy=>hS y (nH hy)) hb).1;obtain⟨_,ob⟩:=hb x.1 (hS x (jf hx));have h2:=(BL (bt:=pq.bt) (old:=x.1) (row:=x.2) (l:=(Wg pq x.1 jY B).take j) h1 λy hy=>ob y (nH hy)).1;have:=h2.len pk m4;omega
theorem Kh{pq:PQ κ}{bt:Int->Int->Bool}{m:Nat}{gh bR:dU}{row more:gC}:∀{l:List dU}{T:cG},Ad pq m T->(∀x∈l,pq.Ok m x)->Ad pq m (Aa bt gh bR row more l T)/\dW (Aa bt gh bR row more l T)<=dW T+l.length*(row.m.natAbs*more.m.natAbs)
 | [],T,h,_=>⟨h,by show dW T<=dW T+0*_;omega⟩
 |x::l,T,h,hl=>by
  have h1:Ad pq m (mF bt T x ⟨row.m*more.m,row.b+more.b,[gh,bR]⟩):=Yt h (hl x (aV ..))
  have s1:=Sv (bt:=bt) (s:=x) (r:=⟨row.m*more.m,row.b+more.b,[gh,bR]⟩) h.nd
  have s1:dW (mF bt T x ⟨row.m*more.m,row.b+more.b,[gh,bR]⟩)<=dW T+(row.m*more.m).natAbs:=s1
  rw[Int.natAbs_mul]at s1
  obtain⟨h2,s2⟩:=Kh (bt:=bt) (gh:=gh) (bR:=bR) (row:=row) (more:=more) h1 (λy hy=>hl y (bh _ hy))
  refine⟨h2,dF s2 ?_⟩
  rw[jH,Nat.succ_mul]
  omega
theorem Kl{pq:PQ κ}(pk:Dz pq){m:Nat}{gh:dU}{row:gC}(oo:pq.Ok m gh):∀{A T:cG},Ad pq m T->(∀x∈A,pq.Ok m x.1)->Ad pq m (Ab pq gh row A T)/\dW (Ab pq gh row A T)<=dW T+4*(row.m.natAbs*dW A)
 | [],T,h,_=>⟨h,by show dW T<=dW T+_;omega⟩
 |x::A,T,h,hA=>by
  obtain⟨l4,oj⟩:=pk.jn oo (hA x (aV ..))
  obtain⟨h1,s1⟩:=Kh (bt:=pq.bt) (gh:=gh) (bR:=x.1) (row:=row) (more:=x.2) h oj
  obtain⟨h2,s2⟩:=Kl pk oo (row:=row) h1 (λy hy=>hA y (bh _ hy))
  refine⟨h2,dF s2 ?_⟩
  have e:dW (x::A)=x.2.m.natAbs+dW A:=by unfold dW;grind
  rw[e,Nat.mul_add]
  have:=Nat.mul_le_mul_right (row.m.natAbs*x.2.m.natAbs) l4
  omega
theorem sum_filter(p:dU×gC->Bool):∀A:cG,dW (A.filter p)<=dW A
 | []=>aN _
 |x::A=>by
  have ih:=sum_filter p A
  have e:dW (x::A)=x.2.m.natAbs+dW A:=by unfold dW;grind
  by_cases c:p x=true
  ·rw[T4 c]
   have e':dW (x::A.filter p)=x.2.m.natAbs+dW (A.filter p):=by unfold dW;grind
   omega
  grind
theorem Qv{pq:PQ κ}(pk:Dz pq){m:Nat}{A:cG}(hA:∀x∈A,pq.Ok m x.1):∀{S T:cG},Ad pq m T->(∀x∈S,pq.Ok m x.1)->Ad pq m (xG pq A S T)/\dW (xG pq A S T)<=dW T+4*(dW S*dW A)
 | [],T,h,_=>⟨h,by show dW T<=dW T+_;omega⟩
 |x::S,T,h,hS=>by
  have hA':∀y∈qP pq x.1 A,pq.Ok m y.1:=λy hy=>hA y (lH.mp hy).1
  obtain⟨h1,s1⟩:=Kl pk (hS x (aV ..)) (row:=x.2) h hA'
  obtain⟨h2,s2⟩:=Qv pk hA h1 (λy hy=>hS y (bh _ hy))
  refine⟨h2,dF s2 ?_⟩
  have e:dW (x::S)=x.2.m.natAbs+dW S:=by unfold dW;grind
  rw[e,Nat.add_mul]
  have f:dW (qP pq x.1 A)<=dW A:=sum_filter _ A
  have:=Nat.mul_le_mul_left x.2.m.natAbs f
  omega
def ŧ{pq:PQ κ}(pk:Dz pq){m:Nat}(m4:m<=4){A S:cG}(hA:∀x∈A,pq.Ok m x.1)(hS:∀x∈S,pq.Ok m x.1):a3W pq A S []:=by
 intro i x hx j y hy l hl;have h1:=(Qv pk hA (S:=S.take i) Ad.nil λz hz=>hS z (nH hz)).1;have ox:=hS x (jf hx);have h2:=(Kl pk ox (row:=x.2) (A:=(qP pq x.1 A).take j) h1 λz hz=>hA z (lH.mp (nH hz)).1).1;have oy:=hA y (lH.mp (jf hy)).1;have h3:=(Kh (bt:=pq.bt) (gh:=x.1) (bR:=y.1) (row:=x.2) (more:=y.2) (l:=(pq.jn x.1 y.1).take l) h2 λz hz=>(pk.jn ox oy).2 z (nH hz)).1;have:=h3.len pk m4;omega
end
namespace Go
def getD_at{ss:List b8}{i:Nat}{s:b8}(h:ss[i]?=some s):ss.getD i .leaf=s:=by
 rw[fK,h];rfl
section
variable{n:Nat}{ts:List bY}{ss:List b8}
def Km{i:Nat}{s:b8}(h:ss[i]?=some s)(g1:(aW n ts ss i).2=true)(g2:(aW n ts ss (i+1)).2=true):∃b,qC n ts (ss.take i) s (sZ s (aW n ts ss i).1)=some b/\s.need<=(aW n ts ss i).1.pile.length/\(aW n ts ss (i+1)).1=⟨(aW n ts ss i).1.aR++[b],(aW n ts ss i).1.dM++[(aW n ts ss i).1.pile.drop (dX s (aW n ts ss i).1)],(aW n ts ss i).1.pile.take (dX s (aW n ts ss i).1)++[i]⟩:=by
 rw[Sq,aB g1]at g2 ⊢;cases d:rM n ts ss i (aW n ts ss i).1 with
 |none=>grind
 |some r =>
  unfold rM at d;rw[getD_at h]at d;by_cases c:s.need<=(aW n ts ss i).1.pile.length
  ·rw[aB c]at d;obtain⟨b,hb,er⟩:=oR.mp d;grind
  grind
theorem Yv(go:∀i,i<=ss.length->(aW n ts ss i).2=true)(dw:n<=10){k:Nat}{s:b8}(h:ss[k]?=some s):∀j,k+1<=j->j<=ss.length->(aW n ts ss j).1.dM.getD k []=(aW n ts ss k).1.pile.drop (dX s (aW n ts ss k).1)
 |0,h1,_=>absurd h1 ()
 |j+1,h1,h2=>by
  have kl:=(fY.mp h).1
  obtain⟨b,_,_,e⟩:=Km (n:=n) (ts:=ts) (s:=ss[j]'()) (bL ()) (go j ()) (go (j+1) h2)
  have I:=jA dw (go j ())
  rw[e]
  show((aW n ts ss j).1.dM++[_]).getD k []=_
  by_cases c:j=k
  ·subst c
   rw[fK,Ah (by rw[I.fl];omega),I.fl,Er]
   grind
  ·rw[fK,Ai (by rw[I.fl];omega),<-fK]
   exact Yv go dw h j () ()
abbrev gK(n:Nat)(ts:List bY)(ss:List b8)(k:Nat):List Int:=(cD n ts ss).aR.getD k []
abbrev rN(n:Nat)(ts:List bY)(ss:List b8)(k:Nat):List Nat:=(cD n ts ss).dM.getD k []
theorem Wt(go:∀i,i<=ss.length->(aW n ts ss i).2=true)(dw:n<=10){k:Nat}:∀j,k+1<=j->j<=ss.length->(aW n ts ss j).1.aR.getD k []=(aW n ts ss (k+1)).1.aR.getD k []
 |0,h1,_=>absurd h1 ()
 |j+1,h1,h2=>by
  by_cases c:j=k
  ·rw[c]
  obtain⟨b,_,_,e⟩:=Km (n:=n) (ts:=ts) (s:=ss[j]'()) (bL ()) (go j ()) (go (j+1) h2)
  have I:=jA dw (go j ())
  rw[e]
  show((aW n ts ss j).1.aR++[_]).getD k []=_
  rw[fK,Ai (by rw[I.tl];omega),<-fK]
  exact Wt go dw j () ()
def Qw(go:∀i,i<=ss.length->(aW n ts ss i).2=true)(dw:n<=10){k j:Nat}(h1:k+1<=j)(h2:j<=ss.length):(aW n ts ss j).1.aR.getD k []=gK n ts ss k:=by
 rw[Wt go dw j h1 h2];exact(Wt go dw ss.length () (aN _)).symm
structure StE(n:Nat)(ts:List bY)(ss:List b8)(k:Nat)(s:b8):Prop where
 bH:qC n ts (ss.take k) s ((rN n ts ss k).map (gK n ts ss))=some (gK n ts ss k)
 len:(rN n ts ss k).length=s.need
 lt:∀j∈rN n ts ss k,j<k
 pile:(aW n ts ss (k+1)).1.pile=(aW n ts ss k).1.pile.take (dX s (aW n ts ss k).1)++[k]
 feed:rN n ts ss k=(aW n ts ss k).1.pile.drop (dX s (aW n ts ss k).1)
def BP(go:∀i,i<=ss.length->(aW n ts ss i).2=true)(dw:n<=10){k:Nat}{s:b8}(h:ss[k]?=some s):StE n ts ss k s:=by
 have kl:=(fY.mp h).1;obtain⟨b,hb,hn,e⟩:=Km (n:=n) (ts:=ts) h (go k ()) (go (k+1) ());have I:=jA dw (go k ());have ef:rN n ts ss k=(aW n ts ss k).1.pile.drop (dX s (aW n ts ss k).1):=Yv go dw h ss.length () (aN _);have lt:∀j∈rN n ts ss k,j<k:=λj hj=>by
  rw[ef]at hj;exact I.lt j (Ao hj)
 have eu:sZ s (aW n ts ss k).1=(rN n ts ss k).map (gK n ts ss):=by
  unfold sZ;rw[<-ef];exact yc λj hj=>Qw go dw (lt j hj) ()
 have eb:gK n ts ss k=b:=by
  rw[<-Qw go dw (Nat.le_refl (k+1)) (),e];show((aW n ts ss k).1.aR++[b]).getD k []=b;rw[fK,Ah (by rw[I.tl];omega),I.tl,Er];rfl
 refine⟨(),?_,lt,by rw[e],ef⟩;rw[ef,lG];unfold dX;omega
def xg(p:Int->Bool):(Q5 p).Pairwise (· < ·):=by
 unfold Q5;refine Im _ ?_;rw[Ek];exact List.pairwise_lt_range.imp λh=>by omega
def Wu{l:List α}(h:l.length=1):∃i,l=[i]:=by
 rcases l with _|⟨i,_|⟨j,l⟩⟩
 ·cases h
 ·grind
 ·cases h
def two_of{l:List α}(h:l.length=2):∃i j,l=[i,j]:=by
 rcases l with _|⟨i,_|⟨j,_|⟨x,l⟩⟩⟩
 ·cases h
 ·cases h
 ·grind
 ·cases h
inductive StB(n:Nat)(ts:List bY)(ss:List b8)(k:Nat):b8->Prop
 |leaf:rN n ts ss k=[]->gK n ts ss k=[]->StB n ts ss k .leaf
 |inn {i v}:rN n ts ss k=[i]->i<k->0<=v->v<(n:Int)->v∉gK n ts ss i->gK n ts ss k=gj (gK n ts ss i) [v]->b8.out v∉ss.take k->StB n ts ss k (.inn v)
 |tie {i a b}:rN n ts ss k=[i]->i<k->(a,b)∈ts->a∈gK n ts ss i->b∈gK n ts ss i->gK n ts ss k=gK n ts ss i->StB n ts ss k (.tie a b)
 |out {i v}:rN n ts ss k=[i]->i<k->v∈gK n ts ss i->gK n ts ss k=oK (gK n ts ss i) [v]->b8.out v∉ss.take k->StB n ts ss k (.out v)
 |join {i j}:rN n ts ss k=[i,j]->i<k->j<k->gK n ts ss i=gK n ts ss j->gK n ts ss k=gK n ts ss i->StB n ts ss k .join
set_option tactic.hygienic true in
def a1A{k:Nat}{s:b8}(S:StE n ts ss k s):StB n ts ss k s:=by
 have hb:=S.bH;cases s with
 |leaf=>exact .leaf (NP.mp S.len) (dO hb).symm
 |inn v =>
  obtain⟨i,ei⟩:=Wu S.len;have lt:=S.lt i ();rw[ei]at hb;unfold qC at hb;dsimp only at hb;split at hb
  ·rename_i c;exact .inn ei lt c.1.1 c.1.2 c.2.1 (dO hb).symm c.2.2
  ·cases hb
 |tie a b =>
  obtain⟨i,ei⟩:=Wu S.len;have lt:=S.lt i ();rw[ei]at hb;unfold qC at hb;dsimp only at hb;split at hb
  ·rename_i c;have c2:oK [a,b] (gK n ts ss i)=[]:=c.2.1;have mm:∀x∈[a,b],x∈gK n ts ss i:=λx hx=>by
    cases d:decide (x∈gK n ts ss i)with
    |true=>grind
    |false =>
     have:x∈oK [a,b] (gK n ts ss i):=lH.mpr ⟨hx,by rw[d];rfl⟩;grind
   exact .tie ei lt c.1 (mm a (by simp)) (mm b (by simp)) (dO hb).symm
  ·cases hb
 |out v =>
  obtain⟨i,ei⟩:=Wu S.len;have lt:=S.lt i ();rw[ei]at hb;unfold qC at hb;dsimp only at hb;split at hb
  ·rename_i c;exact .out ei lt c.1 (dO hb).symm c.2
  ·cases hb
 |join =>
  obtain⟨i,j,ei⟩:=two_of S.len;have lt:=S.lt i (by rw[ei];simp);have lt':=S.lt j (by rw[ei];simp);rw[ei]at hb;unfold qC at hb;dsimp only at hb;split at hb
  ·rename_i c;exact .join ei lt lt' c (dO hb).symm
  ·cases hb
def Sw(dw:n<=10)(all:∀(k:Nat) (s:b8),ss[k]?=some s->StB n ts ss k s):∀k,k<ss.length->(gK n ts ss k).Pairwise (· < ·)/\∀v∈gK n ts ss k,0<=v/\v<(n:Int):=by
 intro k
 induction k using Nat.strongRecOn with
 |_ k ih =>
  intro kl;have S:=all k _ (bL kl);generalize ss[k]=s at S;cases S with
  |leaf _ e=>rw[e];exact⟨.nil,λv h=>absurd h fu⟩
  | @inn i v _ lt v0 vn _ e _ =>
   rw[e];refine⟨xg _,λx hx=>?_⟩;have:=(zG.mp hx).2.2;rcases gn this with h|h
   ·exact(ih i lt ()).2 x h
   ·rw[bM.mp h];exact⟨v0,vn⟩
  | @tie i a b _ lt _ _ _ e=>rw[e];exact ih i lt ()
  | @out i v _ lt _ e _ =>
   rw[e];have:=ih i lt ();exact⟨this.1.filter _,λx hx=>this.2 x (lH.mp hx).1⟩
  | @join i j _ lt _ _ e=>rw[e];exact ih i lt ()
def tR(dw:n<=10){p q:List Int}(hp:∀v∈p,0<=v/\v<(n:Int))(hq:∀v∈q,0<=v/\v<(n:Int)){v:Int}:v∈gj p q↔v∈p\/v∈q:=by
 refine⟨λh=>gn (zG.mp h).2.2,λh=>zG.mpr ?_⟩;grind
def zN(dw:n<=10){p q:List Int}(ap:p.Pairwise (· < ·))(hp:∀v∈p,0<=v/\v<(n:Int))(h:∀v∈q,v∈p):gj p q=p/\gj q p=p:=by
 have hq:=λv hv=>hp v (h v hv);refine⟨w6 (xg _) ap λv=>?_,w6 (xg _) ap λv=>?_⟩
 ·rw[tR dw hp hq];exact⟨λz=>z.elim id (h v),.inl⟩
 ·rw[tR dw hq hp];exact⟨λz=>z.elim (h v) id,.inr⟩
def Ae{b:List Int}(h:b.Pairwise (· < ·)):b.Nodup:=h.imp λh=>by omega
def a1B(dw:n<=10){p:List Int}{v:Int}(ap:p.Pairwise (· < ·))(hp:∀v∈p,0<=v/\v<(n:Int))(hv:0<=v/\v<(n:Int))(h:v∉p):(gj p [v]).length=p.length+1:=by
 have:(gj p [v]).Perm (v::p):=(Ig (Ae (xg _)) (iW.mpr ⟨h,Ae ap⟩)).mpr λx=>by
  show x∈gj p [v]↔_;rw[show x∈gj p [v]↔x∈p\/x∈[v]from tR dw hp (λy hy=>by rw[bM.mp hy];exact hv)];simp[or_comm]
 rw[this.length_eq];rfl
def a1C{p:List Int}{v:Int}(ap:p.Pairwise (· < ·))(h:v∈p):(oK p [v]).length+1=p.length:=by
 have:(oK p [v]).Perm (p.erase v):=(Ig ((Ae ap).filter _) ((Ae ap).erase v)).mpr λx=>by
  rw[(Ae ap).mem_erase_iff,lH];simp[and_comm]
 rw[this.length_eq,List.length_erase_of_mem h];grind
theorem Sx(go:∀i,i<=ss.length->(aW n ts ss i).2=true)(dw:n<=10):∀i,i<=ss.length->(aW n ts ss i).1.pile.Pairwise (· < ·)
 |0,_=>.nil
 |i+1,il=>by
  have S:=BP (n:=n) (ts:=ts) go dw (List.getElem?_eq_getElem (show i<ss.length by omega))
  have I:=jA dw (go i ())
  rw[S.pile]
  refine Ue.mpr ⟨(Sx go dw i ()).sublist (Oh _ _),Aj _ _,λa ha b hb=>?_⟩
  rw[bM.mp hb]
  exact I.lt a (nH ha)
end
end Go
namespace Go
section
variable{κ:Type} [DecidableEq κ]
variable{n:Nat}{ts:List bY}{ss:List b8}
abbrev zV(pq:PQ κ)(n:Nat)(ts:List bY)(ss:List b8)(k:Nat):List cG:=Lh pq ss (cD n ts ss).aR (cD n ts ss).dM k
def Qx(pq:PQ κ){k j:Nat}(h:j<k):(zV pq n ts ss (k+1)).getD j []=(zV pq n ts ss k).getD j []:=by
 show(zV pq n ts ss k++[_]).getD j []=_;rw[fK,Ai (by rw[nA];exact h),<-fK]
def Qy(pq:PQ κ)(k:Nat):(zV pq n ts ss (k+1)).getD k []=Lg pq (cD n ts ss).aR (zV pq n ts ss k) (ss.getD k .leaf) (gK n ts ss k) (rN n ts ss k):=by
 show(zV pq n ts ss k++[_]).getD k []=_;rw[fK,Ah (by rw[nA];grind),nA,Er];rfl
theorem Qz(pq:PQ κ){j:Nat}:∀{k:Nat},j<k->(zV pq n ts ss k).getD j []=(zV pq n ts ss (j+1)).getD j []
 |0,h=>absurd h (Ay _)
 |k+1,h=>by
  by_cases c:j=k
  ·rw[c]
  ·rw[Qx pq (show j<k by omega)]
   exact Qz pq ()
structure GoI(pq:PQ κ)(n:Nat)(ts:List bY)(ss:List b8)(k:Nat):Prop where
 ok:∀j,j<k->Ad pq (gK n ts ss j).length ((zV pq n ts ss k).getD j [])
 cost:∃c:Nat->Nat,(∀j,j<k->dW ((zV pq n ts ss k).getD j [])<=16^c j)/\((aW n ts ss k).1.pile.map c).sum<=k
theorem Ũ{c:Nat->Nat}:∀{l:List Nat}{i:Nat},i∈l->c i<=(l.map c).sum
 |a::l,i,h=>by
  rw[b7,wF]
  rcases bU.mp h with h|h
  ·rw[h];omega
  ·have:=Ũ (c:=c) h
   omega
theorem a6q:∀{T:cG}{x:dU×gC},x∈T->x.2.m.natAbs<=dW T
 |y::T,x,h=>by
  have e:dW (y::T)=y.2.m.natAbs+dW T:=by unfold dW;grind
  rw[e]
  rcases bU.mp h with h|h
  ·rw[h];omega
  ·have:=a6q h
   omega
def Sy{c:Nat}(h:dW T<=16^c)(l:c<=800):JW T:=λx hx=>by
 have h1:=a6q hx;have e:(16:Nat)^c=2^(4*c):=by rw[Nat.pow_mul]
 have:(2:Nat)^(4*c)<2^4000:=Nat.pow_lt_pow_right () ();omega
def wY{B:List Int}{v:Int}(h:v∈B):B.idxOf v<B.length:=Nx h
def Ko(Qn:HD P w K mg base κ)(pk:Dz Qn.pq){aR:List (List Int)}{iY:List cG}{jY:b8}{bH:List Int}{i:Nat}(nj:jY≠.join)(il:i<iY.length)(hT:Ad Qn.pq (aR.getD i []).length (iY.getD i []))(m4:(aR.getD i []).length<=4)(b4:bH.length<=4)(fit:HJ Qn jY (gj bH (aR.getD i [])) (aR.getD i []).length)
  (hb:∀s,Qn.pq.Ok (aR.getD i []).length s->(Wg Qn.pq s jY (gj bH (aR.getD i []))).length<=4/\∀x∈Wg Qn.pq s jY (gj bH (aR.getD i [])),Qn.pq.Ok bH.length x.1):Bk Qn aR iY jY bH [i]/\Ad Qn.pq bH.length (Lg Qn.pq aR iY jY bH [i])/\dW (Lg Qn.pq aR iY jY bH [i])<=4*dW (iY.getD i []):=by
 have l9:=hT.len pk m4;obtain⟨h1,h2⟩:=Kg (pq:=Qn.pq) (jY:=jY) (B:=gj bH (aR.getD i [])) (S:=iY.getD i []) Ad.nil hT.ok hb;refine⟨⟨nj,il,hT.ok,fit,(),Ç pk b4 hT.ok hb⟩,h1,?_⟩;have e:dW []=0:=rfl;rw[e,Nat.zero_add]at h2;exact h2
def two_step(Qn:HD P w K mg base κ)(pk:Dz Qn.pq){aR:List (List Int)}{iY:List cG}{bH:List Int}{i j m ci cj:Nat}(il:i<iY.length)(jl:j<iY.length)(nij:i≠j)(em:bH.length=m)(m4:m<=4)(hi:Ad Qn.pq m (iY.getD i []))(hj:Ad Qn.pq m (iY.getD j []))(si:dW (iY.getD i [])<=16^ci)(sj:dW (iY.getD j [])<=16^cj)(li:ci<=800)(lj:cj<=800):Bk Qn aR iY .join bH [i,j]/\Ad Qn.pq bH.length (Lg Qn.pq aR iY .join bH [i,j])/\dW (Lg Qn.pq aR iY .join bH [i,j])<=4*(dW (iY.getD i [])*dW (iY.getD j [])):=by
 have l1:=hi.len pk m4;have l2:=hj.len pk m4;obtain⟨h1,h2⟩:=Qv pk (A:=iY.getD j []) hj.ok (S:=iY.getD i []) Ad.nil hi.ok;refine⟨⟨Z,il,jl,nij,m,(),hi.ok,hj.ok,hj.nd,(),l2,Sy si li,Sy sj lj,ŧ pk m4 hj.ok hi.ok⟩,by rw[em];exact h1,?_⟩;have e:dW []=0:=rfl;rw[e,Nat.zero_add]at h2;exact h2
def pow_step{c x:Nat}(h:x<=16^c):4*x<=16^(1+c):=by
 grind
def Yw(Qn:HD P w K mg base κ)(pk:Dz Qn.pq)(hPl:∀k:Nat,k<Qn.n->Qn.Pl k)(hTi:∀t∈Qn.ts,Qn.Ti t)(ne:∀t∈Qn.ts,t.1≠t.2)(dw:Qn.n<=10)(l8:ss.length<=800)(qY:Bp Qn.n Qn.ts ss (cD Qn.n Qn.ts ss)=.ok)(b4:∀b∈(cD Qn.n Qn.ts ss).aR,b.length<=4){k:Nat}(kl:k<ss.length)(I:GoI Qn.pq Qn.n Qn.ts ss k):Bk Qn (cD Qn.n Qn.ts ss).aR (zV Qn.pq Qn.n Qn.ts ss k) (ss.getD k .leaf) (gK Qn.n Qn.ts ss k) (rN Qn.n Qn.ts ss k)/\GoI Qn.pq Qn.n Qn.ts ss (k+1):=by
 have go:=Ś dw qY;have RI:=zM dw qY;have all:∀(k:Nat) (s:b8),ss[k]?=some s->StB Qn.n Qn.ts ss k s:=λk s h=>a1A (BP go dw h);have tp:=Sw dw all;have t4:∀j,j<ss.length->(gK Qn.n Qn.ts ss j).length<=4:=λj hj=>by
  have hl:j<(cD Qn.n Qn.ts ss).aR.length:=by rw[RI.tl];exact hj
  have e:gK Qn.n Qn.ts ss j=(cD Qn.n Qn.ts ss).aR[j]:=by
   show(cD Qn.n Qn.ts ss).aR.getD j []=_;rw[fK,bL hl];rfl
  rw[e];exact b4 _ (oV hl)
 have hs:=bL kl;have S:=BP (n:=Qn.n) (ts:=Qn.ts) go dw hs;have SB:=a1A S;have es:=getD_at hs;obtain⟨c,hc,hsum⟩:=I.cost;have c8:∀i∈rN Qn.n Qn.ts ss k,c i<=800:=λi hi=>by
  have:c i<=_:=Ũ (c:=c) (l:=(aW Qn.n Qn.ts ss k).1.pile) (by rw[S.feed]at hi;exact Ao hi);omega
 suffices h:Bk Qn (cD Qn.n Qn.ts ss).aR (zV Qn.pq Qn.n Qn.ts ss k) (ss.getD k .leaf) (gK Qn.n Qn.ts ss k) (rN Qn.n Qn.ts ss k)/\Ad Qn.pq (gK Qn.n Qn.ts ss k).length (Lg Qn.pq (cD Qn.n Qn.ts ss).aR (zV Qn.pq Qn.n Qn.ts ss k) (ss.getD k .leaf) (gK Qn.n Qn.ts ss k) (rN Qn.n Qn.ts ss k))/\dW (Lg Qn.pq (cD Qn.n Qn.ts ss).aR (zV Qn.pq Qn.n Qn.ts ss k) (ss.getD k .leaf) (gK Qn.n Qn.ts ss k) (rN Qn.n Qn.ts ss k))<=16^(1+((rN Qn.n Qn.ts ss k).map c).sum) by
  obtain⟨h1,h2,h3⟩:=h;refine⟨h1,⟨λj hj=>?_,λj=>if j=k then 1+((rN Qn.n Qn.ts ss k).map c).sum else c j,λj hj=>?_,?_⟩⟩
  ·by_cases e:j=k
   ·rw[e,Qy];exact h2
   ·rw[Qx _ ()];exact I.ok j ()
  ·show dW _<=16^(if j=k then 1+((rN Qn.n Qn.ts ss k).map c).sum else c j);by_cases e:j=k
   ·rw[aB e,e,Qy];exact h3
   ·rw[aq e,Qx _ ()];exact hc j ()
  ·have Z97:=jA dw (go k ());rw[S.pile,eO,List.sum_append];have e1:((aW Qn.n Qn.ts ss k).1.pile.take (dX ss[k] (aW Qn.n Qn.ts ss k).1)).map (λj=>if j=k then 1+((rN Qn.n Qn.ts ss k).map c).sum else c j)=((aW Qn.n Qn.ts ss k).1.pile.take (dX ss[k] (aW Qn.n Qn.ts ss k).1)).map c:=yc λj hj=>aq (by have:=Z97.lt j (nH hj);omega);have e2:([k].map λj=>if j=k then 1+((rN Qn.n Qn.ts ss k).map c).sum else c j).sum=1+((rN Qn.n Qn.ts ss k).map c).sum:=by
    show(if k=k then 1+((rN Qn.n Qn.ts ss k).map c).sum else c k)+0=_;rw[aB Z,Nat.add_zero]
   rw[e1,e2,S.feed];have e3:((aW Qn.n Qn.ts ss k).1.pile.map c).sum=(((aW Qn.n Qn.ts ss k).1.pile.take (dX ss[k] (aW Qn.n Qn.ts ss k).1)).map c).sum+(((aW Qn.n Qn.ts ss k).1.pile.drop (dX ss[k] (aW Qn.n Qn.ts ss k).1)).map c).sum:=by
    rw[<-List.sum_append,<-eO,xZ]
   omega
 rw[es];have lk:(zV Qn.pq Qn.n Qn.ts ss k).length=k:=nA _ _ _ _ k;have pa:=Sx (n:=Qn.n) (ts:=Qn.ts) go dw k ();have fd:=S.feed;obtain⟨ak,bk⟩:=tp k kl;have k4:=t4 k kl;generalize ss[k]=s at SB fd ⊢;cases SB with
 |leaf ef et =>
  rw[ef,et];refine⟨trivial,⟨Aj _ _,λx hx=>?_⟩,by show 1<=16^1;decide⟩;rw[bM.mp hx];exact pk.leaf
 | @inn i v ef lt v0 vn nv et _ =>
  obtain⟨ai,bi⟩:=tp i ();have ci:=hc i lt;have e1:gj (gK Qn.n Qn.ts ss k) (gK Qn.n Qn.ts ss i)=gK Qn.n Qn.ts ss k:=(zN dw ak bk λx hx=>by rw[et];exact(tR dw bi λy hy=>by rw[bM.mp hy];exact⟨v0,vn⟩).mpr (.inl hx)).1;have e2:(gK Qn.n Qn.ts ss k).length=(gK Qn.n Qn.ts ss i).length+1:=by rw[et];exact a1B dw ai bi ⟨v0,vn⟩ nv
  have vk:v∈gK Qn.n Qn.ts ss k:=by rw[et];exact(tR dw bi λy hy=>by rw[bM.mp hy];exact⟨v0,vn⟩).mpr (.inr (T5 v))
  rw[ef];obtain⟨h1,h2,h3⟩:=Ko Qn pk (aR:=(cD Qn.n Qn.ts ss).aR) (iY:=zV Qn.pq Qn.n Qn.ts ss k) (jY:=.inn v) (bH:=gK Qn.n Qn.ts ss k) (i:=i) (λz=>by cases z) () (I.ok i lt) (t4 i ()) k4 (by
   rw[e1];exact⟨⟨v.toNat,()⟩,vk,e2,t4 i ()⟩) (λs hs=>by
   rw[e1];have q:(gK Qn.n Qn.ts ss k).idxOf v<(gK Qn.n Qn.ts ss i).length+1:=by rw[<-e2];exact wY vk
   obtain⟨g1,g2⟩:=pk.inn (p:=(gK Qn.n Qn.ts ss k).idxOf v) (v:=v.toNat) hs (Nat.le_of_lt_succ q);exact⟨g1,λx hx=>by rw[e2];exact g2 x hx⟩)
  exact⟨h1,h2,dF h3 (pow_step (by rw[Uo,Uq];exact ci))⟩
 | @tie i a b ef lt ht ma mb et =>
  obtain⟨ai,bi⟩:=tp i ();have ci:=hc i lt;have e1:gj (gK Qn.n Qn.ts ss k) (gK Qn.n Qn.ts ss i)=gK Qn.n Qn.ts ss i:=by rw[et];exact(zN dw ai bi λ_ h=>h).1
  rw[ef];obtain⟨h1,h2,h3⟩:=Ko Qn pk (aR:=(cD Qn.n Qn.ts ss).aR) (iY:=zV Qn.pq Qn.n Qn.ts ss k) (jY:=.tie a b) (bH:=gK Qn.n Qn.ts ss k) (i:=i) (λz=>by cases z) () (I.ok i lt) (t4 i ()) k4 (by
   rw[e1];exact⟨ma,mb,ne _ ht,Z,Nat.le_succ_of_le (t4 i ()),hTi _ ht⟩) (λs hs=>by
   rw[e1,et];exact pk.tie hs (wY ma) (wY mb))
  exact⟨h1,h2,dF h3 (pow_step (by rw[Uo,Uq];exact ci))⟩
 | @out i v ef lt mv et _ =>
  obtain⟨ai,bi⟩:=tp i ();have ci:=hc i lt;have e1:gj (gK Qn.n Qn.ts ss k) (gK Qn.n Qn.ts ss i)=gK Qn.n Qn.ts ss i:=(zN dw ai bi λx hx=>by rw[et]at hx;exact(lH.mp hx).1).2;have e2:(gK Qn.n Qn.ts ss k).length+1=(gK Qn.n Qn.ts ss i).length:=by rw[et];exact a1C ai mv
  have bv:=bi v mv;rw[ef];obtain⟨h1,h2,h3⟩:=Ko Qn pk (aR:=(cD Qn.n Qn.ts ss).aR) (iY:=zV Qn.pq Qn.n Qn.ts ss k) (jY:=.out v) (bH:=gK Qn.n Qn.ts ss k) (i:=i) (λz=>by cases z) () (I.ok i lt) (t4 i ()) k4 (by
   rw[e1];exact⟨⟨v.toNat,(),hPl _ ()⟩,mv,Z,Nat.le_succ_of_le (t4 i ())⟩) (λs hs=>by
   rw[e1];have hs':Qn.pq.Ok ((gK Qn.n Qn.ts ss k).length+1) s:=by rw[e2];exact hs
   exact pk.out hs' (by rw[e2];exact wY mv))
  exact⟨h1,h2,dF h3 (pow_step (by rw[Uo,Uq];exact ci))⟩
 | @join i j ef lt lt' eij et =>
  have nij:i≠j:=λz=>by
   have pd:=pa.sublist (List.drop_sublist (dX .join (aW Qn.n Qn.ts ss k).1) _);rw[<-fd,ef]at pd;have:=(Aq.mp pd).1 j (T5 j);omega
  have ci:=hc i lt;have cj:=hc j lt';have c1:=c8 i (by rw[ef];simp);have c2:=c8 j (by rw[ef];simp);have oi:=I.ok i lt;have oj:=I.ok j lt';rw[<-et]at oi;rw[<-eij,<-et]at oj;rw[ef];obtain⟨h1,h2,h3⟩:=two_step Qn pk (aR:=(cD Qn.n Qn.ts ss).aR) (iY:=zV Qn.pq Qn.n Qn.ts ss k) (bH:=gK Qn.n Qn.ts ss k) () () nij Z k4 oi oj ci cj c1 c2;refine⟨h1,h2,dF h3 (pow_step ?_)⟩;have e4:([i,j].map c).sum=c i+c j:=by
   show c i+(c j+0)=_;omega
  rw[e4,Nat.pow_add];exact Nat.mul_le_mul ci cj
theorem Wv(Qn:HD P w K mg base κ)(pk:Dz Qn.pq)(hPl:∀k:Nat,k<Qn.n->Qn.Pl k)(hTi:∀t∈Qn.ts,Qn.Ti t)(ne:∀t∈Qn.ts,t.1≠t.2)(dw:Qn.n<=10)(l8:ss.length<=800)(qY:Bp Qn.n Qn.ts ss (cD Qn.n Qn.ts ss)=.ok)(b4:∀b∈(cD Qn.n Qn.ts ss).aR,b.length<=4):∀k,k<=ss.length->GoI Qn.pq Qn.n Qn.ts ss k
 |0,_=>⟨λj h=>absurd h (Ay _),λ_=>0,λj h=>absurd h (Ay _),aN _⟩
 |k+1,h=>(Yw Qn pk hPl hTi ne dw l8 qY b4 () (Wv Qn pk hPl hTi ne dw l8 qY b4 k ())).2
def Rq(Qn:HD P w K mg base κ)(pk:Dz Qn.pq)(hPl:∀k:Nat,k<Qn.n->Qn.Pl k)(hTi:∀t∈Qn.ts,Qn.Ti t)(ne:∀t∈Qn.ts,t.1≠t.2)(dw:Qn.n<=10)(l8:ss.length<=800)(qY:Bp Qn.n Qn.ts ss (cD Qn.n Qn.ts ss)=.ok)(b4:∀b∈(cD Qn.n Qn.ts ss).aR,b.length<=4) :
  (∀k,k<ss.length->Bk Qn (cD Qn.n Qn.ts ss).aR (Lh Qn.pq ss (cD Qn.n Qn.ts ss).aR (cD Qn.n Qn.ts ss).dM k) (ss.getD k .leaf) ((cD Qn.n Qn.ts ss).aR.getD k []) ((cD Qn.n Qn.ts ss).dM.getD k []))/\
  (∀T∈Lh Qn.pq ss (cD Qn.n Qn.ts ss).aR (cD Qn.n Qn.ts ss).dM ss.length,T.length<=900/\(T.map (·.1)).Nodup):=by
 have A:=Wv Qn pk hPl hTi ne dw l8 qY b4;refine⟨λk hk=>(Yw Qn pk hPl hTi ne dw l8 qY b4 hk (A k ())).1,λT hT=>?_⟩;obtain⟨j,hj,e⟩:=oU hT;rw[nA]at hj;have h:=(A ss.length (aN _)).ok j hj;have e2:(zV Qn.pq Qn.n Qn.ts ss ss.length).getD j []=T:=by
  rw[fK,bL (by rw[nA];exact hj),<-e];rfl
 rw[e2]at h;have RI:=zM dw qY;have hl:j<(cD Qn.n Qn.ts ss).aR.length:=by rw[RI.tl];exact hj
 refine⟨h.len pk ?_,h.nd⟩;show((cD Qn.n Qn.ts ss).aR.getD j []).length<=4;rw[fK,bL hl];exact b4 _ (oV hl)
end
end Go
namespace Go
def codeS:dU->Nat
 | []=>0
 |x::s=>x.toNat+4*codeS s
theorem Yx{c:Int}(c4:c<=4):∀{m:Nat}{s:dU},tG c m s->codeS s<4^m
 |_,[],⟨rfl,_⟩=>by decide
 |_,x::s,⟨rfl,h⟩=>by
  have h1:=h x (aV ..)
  have h2:=Yx c4 (m:=s.length) (s:=s) ⟨Z,λy hy=>h y (bh _ hy)⟩
  show x.toNat+4*codeS s<4^(s.length+1)
  grind
theorem code_inj{c:Int}(c4:c<=4):∀{m:Nat}{s t:dU},tG c m s->tG c m t->codeS s=codeS t->s=t
 |_,[],[],_,_,_=>rfl
 |_,[],y::t,⟨h,_⟩,⟨h',_⟩,_=>by grind
 |_,x::s,[],⟨h,_⟩,⟨h',_⟩,_=>by grind
 |_,x::s,y::t,⟨h,a⟩,⟨h',b⟩,e=>by
  have e:x.toNat+4*codeS s=y.toNat+4*codeS t:=e
  have h1:=a x (aV ..)
  have h2:=b y (aV ..)
  have lt:t.length=s.length:=by
   grind
  have e1:x=y:=()
  have e2:s=t:=code_inj c4 (m:=s.length) ⟨Z,λz hz=>a z (bh _ hz)⟩ ⟨lt,λz hz=>b z (bh _ hz)⟩ ()
  rw[e1,e2]
theorem Ww{α β:Type}{f:α->β}:∀{l:List α},l.Nodup->(∀a∈l,∀b∈l,f a=f b->a=b)->(l.map f).Nodup
 | [],_,_=>Ba
 |a::l,nd,h=>by
  rw[iW]at nd
  rw[b7,iW]
  refine⟨λz=>?_,Ww nd.2 λx hx y hy=>h x (bh _ hx) y (bh _ hy)⟩
  grind
def HW{c:Int}(c4:c<=4){m:Nat}{l:List dU}(m4:m<=4)(nd:l.Nodup)(h:∀s∈l,tG c m s):l.length<=900:=by
 have h1:=J4 (m:=4^m) (Ww (f:=codeS) nd λa ha b hb=>code_inj c4 (h a ha) (h b hb)) (λx hx=>by
  obtain⟨s,hs,rfl⟩:=dY.mp hx;exact Yx c4 (h s hs))
 rw[aM]at h1;have h2:4^m<=4^4:=Nat.pow_le_pow_right () m4;grind
def Kq{c:Int}{m p:Nat}{s:dU}{x:Int}(h:tG c m s)(hp:p<=m)(hx:0<=x/\x<c):tG c (m+1) (tL s p x):=by
 obtain⟨h1,h2⟩:=h;refine⟨?_,λy hy=>?_⟩
 ·show(s.take p++([x]++s.drop p)).length=m+1;grind
 ·rcases cL.mp (show y∈s.take p++([x]++s.drop p)from hy)with z|z
  ·grind
  grind
def Wx{c:Int}{m p:Nat}{s:dU}(h:tG c (m+1) s)(hp:p<m+1):tG c m (Lp s p):=by
 obtain⟨h1,h2⟩:=h;refine⟨?_,λy hy=>?_⟩
 ·show(s.take p++s.drop (p+1)).length=m;grind
 ·rcases cL.mp (show y∈s.take p++s.drop (p+1)from hy)with z|z
  ·grind
  grind
def Wy(c:Int):tG c 0 []:=⟨Z,λ_ h=>absurd h fu⟩
def Yy{c:Int}{m i:Nat}{s:dU}(h:tG c m s)(hi:i<m):0<=dz s i/\dz s i<c:=by
 have l:i<s.length:=by rw[h.1];exact hi
 unfold dz;rw[fK,bL l];exact h.2 _ (oV l)
def a1D{m a b:Nat}{s:dU}(h:tG 3 m s):tG 3 m (lD s a b):=by
 refine⟨by unfold lD;rw[aM,qJ];exact h.1,λy hy=>?_⟩;obtain⟨k,hk,rfl⟩:=dY.mp hy;have:=Yy h (i:=k) (by rw[<-h.1];exact nQ.mp hk);split
 ·omega
 ·exact this
theorem ũ:∀{m:Nat}{s t:dU},tG 3 m s->tG 3 m t->tG 3 m (List.zipWith max s t)
 |_,[],_,⟨rfl,_⟩,_=>⟨Z,λ_ h=>absurd h fu⟩
 |_,x::s,[],⟨h,_⟩,⟨h',_⟩=>by grind
 |_,x::s,y::t,⟨rfl,a⟩,⟨h',b⟩=>by
  have lt:t.length=s.length:=by
   grind
  obtain⟨l,g⟩:=ũ (m:=s.length) (s:=s) (t:=t) ⟨Z,λz hz=>a z (bh _ hz)⟩ ⟨lt,λz hz=>b z (bh _ hz)⟩
  refine⟨(),λz hz=>?_⟩
  rcases bU.mp (show z∈max x y::List.zipWith max s t from hz)with e|e
  ·have:=a x (aV ..)
   have:=b y (aV ..)
   rw[e]
   omega
  ·exact g z e
def BR{c:Int}{m:Nat}{s:dU}{a:Int}(h:tG c m s):[(s,a)].length<=4/\∀x∈[(s,a)],tG c m x.1:=⟨(),λx hx=>by grind⟩
def Ū{c:Int}{m:Nat}:([]:List (dU×Int)).length<=4/\∀x∈([]:List (dU×Int)),tG c m x.1:=⟨dG _,λx hx=>absurd hx fu⟩
def SJ{c:Int}{m:Nat}{s t:dU}{a b:Int}(h:tG c m s)(h':tG c m t):[(s,a),(t,b)].length<=4/\∀x∈[(s,a),(t,b)],tG c m x.1:=⟨(),λx hx=>by
 grind⟩
def okC{c:Nat}(c4:c<=4)(ws:List Int):Dz (pqC c ws) where
 leaf:=Wy _
 inn:=λ{m s p v} h hp=>by
  refine⟨by show((List.range c).map _).length<=4;grind,λx hx=>?_⟩
  obtain⟨k,hk,rfl⟩:=dY.mp (show x∈(List.range c).map _ from hx)
  have:=nQ.mp hk
  exact Kq h hp ⟨(),()⟩
 tie:=λ{m s a b t} h ha hb=>by
  show(if dz s a≠dz s b then [(s,(0:Int))]else []).length<=4/\∀x∈(if dz s a≠dz s b then [(s,(0:Int))]else []),tG c m x.1
  split
  ·exact BR h
  ·exact Ū
 out:=λh hp=>BR (Wx h hp)
 jn:=λ{m s t} h _=>⟨by show 1<=4;decide,λx hx=>by rw[bM.mp (show x∈[s]from hx)];exact h⟩
 fin:=λm4 nd h=>HW (c:=(c:Int)) () m4 nd h
def okA(ws:List Int):Dz (pqA ws) where
 leaf:=Wy _
 inn:=λh hp=>SJ (Kq h hp ⟨(),()⟩) (Kq h hp ⟨(),()⟩)
 tie:=λ{m s a b t} h ha hb=>by
  show(if dz s a+dz s b<2 then [(s,(0:Int))]else []).length<=4/\∀x∈(if dz s a+dz s b<2 then [(s,(0:Int))]else []),tG 2 m x.1
  split
  ·exact BR h
  ·exact Ū
 out:=λh hp=>BR (Wx h hp)
 jn:=λ{m s t} h _=>⟨by show 1<=4;decide,λx hx=>by rw[bM.mp (show x∈[s]from hx)];exact h⟩
 fin:=λm4 nd h=>HW (c:=2) () m4 nd h
def okW(ws:List Int):Dz (pqW ws) where
 leaf:=Wy _
 inn:=λh hp=>SJ (Kq h hp ⟨(),()⟩) (Kq h hp ⟨(),()⟩)
 tie:=λ{m s a b t} h ha hb=>by
  show(if(dz s a=0/\dz s b=2)\/(dz s a=2/\dz s b=0)then [(lD s a b,(0:Int))]else [(s,0)]).length<=4/\∀x∈(if(dz s a=0/\dz s b=2)\/(dz s a=2/\dz s b=0)then [(lD s a b,(0:Int))]else [(s,0)]),tG 3 m x.1
  split
  ·exact BR (a1D h)
  ·exact BR h
 out:=λ{m s p v} h hp=>by
  show(if dz s p=0 then []else [(Lp s p,if dz s p=2 then ws.getD v 0 else 0)]).length<=4/\∀x∈(if dz s p=0 then []else [(Lp s p,if dz s p=2 then ws.getD v 0 else 0)]),tG 3 m x.1
  split
  ·exact Ū
  ·exact BR (Wx h hp)
 jn:=λ{m s t} h h'=>⟨by show 1<=4;decide,λx hx=>by rw[bM.mp (show x∈[List.zipWith max s t]from hx)];exact ũ h h'⟩
 fin:=λm4 nd h=>HW (c:=3) () m4 nd h
end Go
def getD_at{ss:List b8}{i:Nat}{s:b8}(h:ss[i]?=some s):ss.getD i .leaf=s:=by
 rw[fK,h];rfl
def QB{ss:List b8}{i:Nat}{s:b8}(h:ss[i]?=some s):ss.take (i+1)=ss.take i++[s]:=by
 obtain⟨il,e⟩:=fY.mp h;rw[Af il,e]
structure Kp where
 P:List (List Int)
 G:List Int
 B:List bY
variable{κ:Kp}
def Kp.top(κ:Kp):List Int:=κ.P.getLastD []
def Can(n:Nat)(ts:List bY)(κ:Kp):b8->Prop
 |.leaf=>True
 |.inn v=>κ.P≠[]/\(0<=v/\v<(n:Int))/\v∉κ.top/\v∉κ.G
 |.tie a b=>κ.P≠[]/\(a,b)∈ts/\(a,b)∉κ.B/\a∈κ.top/\b∈κ.top
 |.out v=>κ.P≠[]/\v∈κ.top/\v∉κ.G
 |.join=>1<κ.P.length/\κ.top.Perm (κ.P.getD (κ.P.length-2) [])
noncomputable def Lz(κ:Kp):b8->Kp
 |.leaf=>{ κ with P:=κ.P++[[]]}
 |.inn v=>{ κ with P:=κ.P.dropLast++[κ.top++[v]]}
 |.tie a b=>{ κ with B:=κ.B++[(a,b)]}
 |.out v=>{ κ with P:=κ.P.dropLast++[κ.top.erase v],G:=κ.G++[v]}
 |.join=>{ κ with P:=κ.P.dropLast}
structure KOk(n c:Nat)(κ:Kp):Prop where
 nd:∀b∈κ.P,b.Nodup/\∀v∈b,0<=v/\v<(n:Int)
 pl:κ.P.length<=c
 gl:κ.G.length<=c
 bl:κ.B.length<=c
def tU{P:List (List Int)}(h:P≠[]):P=P.dropLast++[P.getLastD []]:=by
 have e:=(List.dropLast_concat_getLast h).symm;grind
def KOk.Wz{n c:Nat}(h:KOk n c κ):κ.top.Nodup/\∀v∈κ.top,0<=v/\v<(n:Int):=by
 by_cases e:κ.P=[]
 ·unfold Kp.top;grind
 ·refine h.nd _ ?_;have:κ.P.getLastD []∈κ.P.dropLast++[κ.P.getLastD []]:=iG _ aV
  rwa [<-tU e]at this
def KOk.do{n c:Nat}{ts:List bY}{s:b8}(h:KOk n c κ)(hc:Can n ts κ s):KOk n (c+1) (Lz κ s):=by
 have dl:∀b∈κ.P.dropLast,b.Nodup/\∀v∈b,0<=v/\v<(n:Int):=λb hb=>h.nd b ((List.dropLast_sublist _).subset hb);have l1:κ.P.dropLast.length<=c:=by rw[Ud];have:=h.pl;omega
 have h1:=h.pl;have h2:=h.gl;have h3:=h.bl;have cat:∀b:List Int,b.Nodup->(∀v∈b,0<=v/\v<(n:Int))->∀x∈κ.P.dropLast++[b],x.Nodup/\∀v∈x,0<=v/\v<(n:Int):=λb hb hv x hx=>by
  grind
 cases s with
 |leaf =>
  refine⟨λb hb=>?_,by show(κ.P++[[]]).length<=_;grind,by show κ.G.length<=_;omega,by show κ.B.length<=_;omega⟩;rcases cL.mp hb with hb|hb
  ·exact h.nd b hb
  grind
 |inn v =>
  obtain⟨_,hv,hn,_⟩:=hc;refine⟨cat _ ?_ ?_,by show(κ.P.dropLast++[_]).length<=_;grind,by show κ.G.length<=_;omega,by show κ.B.length<=_;omega⟩
  ·rw[wz];refine⟨h.Wz.1,by simp,λa ha b hb e=>?_⟩;grind
  ·intro x hx;rcases cL.mp hx with hx|hx
   ·exact h.Wz.2 x hx
   grind
 |tie a b=>exact⟨h.nd,by show κ.P.length<=_;omega,by show κ.G.length<=_;omega,by show(κ.B++[_]).length<=_;grind⟩
 |out v =>
  refine⟨cat _ (h.Wz.1.erase v) (λx hx=>h.Wz.2 x (List.mem_of_mem_erase hx)),by show(κ.P.dropLast++[_]).length<=_;grind,by show(κ.G++[v]).length<=_;grind,by show κ.B.length<=_;omega⟩
 |join=>exact⟨dl,by show κ.P.dropLast.length<=_;omega,by show κ.G.length<=_;omega,by show κ.B.length<=_;omega⟩
def a2u{n:Nat}{b:List Int}(dw:n<=10)(nd:b.Nodup)(bd:∀v∈b,0<=v/\v<(n:Int)):b.length<=10:=by
 have h1:(b.map Int.toNat).Nodup:=by
  unfold List.Nodup;rw[Ek];refine(List.pairwise_iff_forall_sublist.mpr λ{x y} hs=>?_);grind
 have h2:=J4 (m:=n) h1 λx hx=>by
  grind
 grind
theorem rC{α β:Type}{R:α->β->Prop}:∀{xs:List α}{ys:List β}{y:β},Paired R xs (ys++[y])->∃xs' x,xs=xs'++[x]/\Paired R xs' ys/\R x y
 | [],ys,y,h=>by
  have:=aQ h
  grind
 |x::r,[],y,h=>by
  cases h with
  |cons h1 h2 =>
   cases h2
   exact⟨[],x,Z,.nil,h1⟩
 |x::r,z::ys,y,h=>by
  cases h with
  |cons h1 h2 =>
   obtain⟨xs',x',e,p,q⟩:=rC h2
   exact⟨x::xs',x',by rw[e];rfl,.cons h1 p,q⟩
structure QD(n:Nat)(ts:List bY)(ss:List b8)(i:Nat)(κ:Kp)(E:List Int):Prop where
 go:(aW n ts ss i).2=true
 rel:Paired (λj b=>∀v,v∈(aW n ts ss i).1.aR.getD j []↔v∈b) (aW n ts ss i).1.pile κ.P
 asc:∀b∈(aW n ts ss i).1.aR,b.Pairwise (· < ·)
 outs:∀v,b8.out v∈ss.take i↔v∈κ.G
 ties:∀a b,b8.tie a b∈ss.take i↔(a,b)∈κ.B
 ins:∀v,b8.inn v∈ss.take i↔v∈E
 ok:KOk n i κ
def a6r{n:Nat}{ts:List bY}{ss:List b8}:QD n ts ss 0 ⟨[],[],[]⟩ [] :=
 ⟨Z,.nil,λb h=>absurd h fu,λv=>by simp,λa b=>by simp,λv=>by simp,⟨λb h=>absurd h fu,aN _,aN _,aN _⟩⟩
def xg(p:Int->Bool):(Q5 p).Pairwise (· < ·):=by
 unfold Q5;refine Im _ ?_;rw[Ek];exact List.pairwise_lt_range.imp λh=>by omega
theorem w6:∀{xs ys:List Int},xs.Pairwise (· < ·)->ys.Pairwise (· < ·)->(∀v,v∈xs↔v∈ys)->xs=ys
 | [],[],_,_,_=>rfl
 | [],y::ys,_,_,h=>absurd ((h y).mpr aV) fu
 |x::xs,[],_,_,h=>absurd ((h x).mp aV) fu
 |x::xs,y::ys,hx,hy,h=>by
  rw[Aq]at hx hy
  have e:x=y:=by
   rcases bU.mp ((h x).mp aV)with h1|h1
   ·exact h1
   ·rcases bU.mp ((h y).mpr aV)with h2|h2
    ·exact h2.symm
    grind
  subst e
  rw[w6 hx.2 hy.2 λv=>⟨λhv=>?_,λhv=>?_⟩]
  ·grind
  grind
def DG{n:Nat}{ts:List bY}{ss:List b8}{i:Nat}{κ':Kp}{E':List Int}{s:b8}{b:List Int}{vD:List Nat}(dw:n<=10)(D:QD n ts ss i κ E)(h:ss[i]?=some s)(hn:s.need<=(aW n ts ss i).1.pile.length)(hl:(aW n ts ss i).1.pile.take (dX s (aW n ts ss i).1)=vD)
  (hb:qC n ts (ss.take i) s (sZ s (aW n ts ss i).1)=some b) (as:b.Pairwise (· < ·))
  (rel:Paired (λj b=>∀v,v∈(aW n ts ss i).1.aR.getD j []↔v∈b) vD κ'.P.dropLast) (ne:κ'.P≠[]) (mb:∀v,v∈b↔v∈κ'.top)
  (mo:∀v,b8.out v∈ss.take (i+1)↔v∈κ'.G) (mt:∀x y,b8.tie x y∈ss.take (i+1)↔(x,y)∈κ'.B) (mi:∀v,b8.inn v∈ss.take (i+1)↔v∈E') (ok:KOk n (i+1) κ'):QD n ts ss (i+1) κ' E':=by
 have d:rM n ts ss i (aW n ts ss i).1=some ⟨(aW n ts ss i).1.aR++[b],(aW n ts ss i).1.dM++[(aW n ts ss i).1.pile.drop (dX s (aW n ts ss i).1)],vD++[i]⟩:=by
  unfold rM;rw[getD_at h,aB hn,hb,hl];rfl
 have e:=Ŕ D.go d;have I:=jA dw D.go;have tl:=I.tl;refine⟨by rw[e],?_,?_,mo,mt,mi,ok⟩
 ·rw[e,tU ne];refine dh ?_ ?_
  ·have lt:∀j∈vD,j<i:=λj hj=>I.lt j (nH (hl▸hj));have:∀{xs:List Nat}{ys:List (List Int)},(∀j∈xs,j<i)->Paired (λj b=>∀v,v∈(aW n ts ss i).1.aR.getD j []↔v∈b) xs ys->Paired (λj b'=>∀v,v∈((aW n ts ss i).1.aR++[b]).getD j []↔v∈b') xs ys:=λ{xs}=>by
    induction xs with
    |nil=>intro ys _ h;cases h;exact .nil
    |cons x r ih =>
     intro ys hx h;cases h with
     |cons h1 h2 =>
      refine .cons (λv=>?_) (ih (λj hj=>hx j (bh _ hj)) h2);rw[fK,Ai (by rw[tl];exact hx x aV),<-fK];exact h1 v
   exact this lt rel
  ·intro v;show v∈((aW n ts ss i).1.aR++[b]).getD i []↔_;rw[fK,Ah (),tl,Er];exact mb v
 ·rw[e];intro x hx;rcases cL.mp hx with hx|hx
  ·exact D.asc x hx
  ·rw[bM.mp hx];exact as
def HX{n:Nat}{ts:List bY}{ss:List b8}{i:Nat}(dw:n<=10)(D:QD n ts ss i κ E)(ne:κ.P≠[]):∃vD j,(aW n ts ss i).1.pile=vD++[j]/\Paired (λj b=>∀v,v∈(aW n ts ss i).1.aR.getD j []↔v∈b) vD κ.P.dropLast/\(∀v,v∈(aW n ts ss i).1.aR.getD j []↔v∈κ.top)/\((aW n ts ss i).1.aR.getD j []).Pairwise (· < ·):=by
 have r:=D.rel;rw[tU ne]at r;obtain⟨vD,j,e,p,q⟩:=rC r;refine⟨vD,j,e,p,q,?_⟩;have I:=jA dw D.go;have jl:j<(aW n ts ss i).1.aR.length:=by rw[I.tl];exact I.lt j (by rw[e];simp)
 rw[fK,bL jl];exact D.asc _ (oV jl)
def Kr{s:b8}{r:RS}{vD:List Nat}{j:Nat}(h1:s.need=1)(e:r.pile=vD++[j]):s.need<=r.pile.length/\r.pile.take (dX s r)=vD/\sZ s r=[r.aR.getD j []]:=by
 have el:dX s r=vD.length:=by unfold dX;grind
 refine⟨(),(),?_⟩;unfold sZ;grind
def Ks{P:List (List Int)}(h:P≠[]):P.getLastD []∈P:=by
 have:P.getLastD []∈P.dropLast++[P.getLastD []]:=iG _ aV
 rwa [<-tU h]at this
def SM{P:List (List Int)}(l2:1<P.length):P.getD (P.length-2) []=P.dropLast.getLastD []:=by
 grind
def join_split{n:Nat}{ts:List bY}{ss:List b8}{i:Nat}(dw:n<=10)(D:QD n ts ss i κ E)(l2:1<κ.P.length):∃vD j1 j2,(aW n ts ss i).1.pile=vD++[j1,j2]/\b8.join.need<=(aW n ts ss i).1.pile.length/\(aW n ts ss i).1.pile.take (dX .join (aW n ts ss i).1)=vD/\sZ .join (aW n ts ss i).1=[(aW n ts ss i).1.aR.getD j1 [],(aW n ts ss i).1.aR.getD j2 []]/\Paired (λj b=>∀v,v∈(aW n ts ss i).1.aR.getD j []↔v∈b) vD κ.P.dropLast.dropLast/\(∀v,v∈(aW n ts ss i).1.aR.getD j1 []↔v∈κ.P.dropLast.getLastD [])/\(∀v,v∈(aW n ts ss i).1.aR.getD j2 []↔v∈κ.top)/\((aW n ts ss i).1.aR.getD j1 []).Pairwise (· < ·)/\((aW n ts ss i).1.aR.getD j2 []).Pairwise (· < ·)/\κ.P.dropLast≠[]/\κ.P.getD (κ.P.length-2) []=κ.P.dropLast.getLastD []:=by
 have ne:κ.P≠[]:=λz=>by grind
 have ne2:κ.P.dropLast≠[]:=λz=>by
  have:=Ud (xs:=κ.P);grind
 obtain⟨ZQ,j2,e,p,q,as2⟩:=HX dw D ne;have I:=jA dw D.go;rw[tU ne2]at p;obtain⟨vD,j1,rfl,p0,q0⟩:=rC p;have e':(aW n ts ss i).1.pile=vD++[j1,j2]:=()
 have el:dX .join (aW n ts ss i).1=vD.length:=by unfold dX;rw[e',cC];show vD.length+2-2=_;omega
 have jl:j1<(aW n ts ss i).1.aR.length:=by rw[I.tl];exact I.lt j1 (by rw[e'];simp)
 refine⟨vD,j1,j2,e',by rw[e',cC];show 2<=vD.length+2;omega,(),?_,p0,q0,q,?_,as2,ne2,?_⟩
 ·unfold sZ;grind
 ·rw[fK,bL jl];exact D.asc _ (oV jl)
 ·exact SM l2
def a4p{n:Nat}{ts:List bY}{ss:List b8}{i:Nat}{s:b8}(dw:n<=10)(D:QD n ts ss i κ E)(h:ss[i]?=some s)(c:Can n ts κ s):∃E',(E'=match s with |.inn v=>E++[v]|_=>E)/\QD n ts ss (i+1) (Lz κ s) E':=by
 have tk:=QB h;have ok:=D.ok.do c
 have mo:∀v,b8.out v∈ss.take (i+1)↔v∈κ.G\/s=.out v:=λv=>by rw[tk,cL,D.outs,bM,eq_comm]
 have mt:∀a b,b8.tie a b∈ss.take (i+1)↔(a,b)∈κ.B\/s=.tie a b:=λa b=>by rw[tk,cL,D.ties,bM,eq_comm]
 have mi:∀v,b8.inn v∈ss.take (i+1)↔v∈E\/s=.inn v:=λv=>by rw[tk,cL,D.ins,bM,eq_comm]
 have dl:∀b:List Int,(κ.P.dropLast++[b]).dropLast=κ.P.dropLast:=λb=>Ef;have gl:∀(P:List (List Int)) (b:List Int),(P++[b]).getLastD []=b:=λP b=>by rw[ï,Oc];rfl
 have ne:∀(P:List (List Int)) (b:List Int),P++[b]≠[]:=λP b z=>by simp at z
 cases s with
 |leaf =>
  refine⟨E,Z,DG dw D h (vD:=(aW n ts ss i).1.pile) (b:=[]) (dG _) ?_ Z .nil ?_ (ne _ _) ?_ ?_ ?_ ?_ ok⟩
  ·show List.take ((aW n ts ss i).1.pile.length-0) _=_;rw[Bc,iV]
  ·show Paired _ _ (κ.P++[[]]).dropLast;rw[Ef];exact D.rel
  ·intro v;show _↔v∈(κ.P++[[]]).getLastD [];rw[gl]
  ·intro v;rw[mo];simp[Lz]
  ·intro a b;rw[mt];simp[Lz]
  ·intro v;rw[mi];simp
 |inn v =>
  obtain⟨hP,hv,hn,hg⟩:=c;obtain⟨vD,j,e,p,q,as⟩:=HX dw D hP;obtain⟨u1,u2,u3⟩:=Kr (s:=.inn v) Z e;refine⟨E++[v],Z,DG dw D h (vD:=vD) (b:=gj ((aW n ts ss i).1.aR.getD j []) [v]) u1 u2 ?_ (xg _) ?_ (ne _ _) ?_ ?_ ?_ ?_ ok⟩
  ·rw[u3];unfold qC;dsimp only;rw[aB ⟨hv,λz=>hn ((q v).mp z),λz=>hg ((D.outs v).mp z)⟩];rfl
  ·show Paired _ _ (κ.P.dropLast++[_]).dropLast;rw[dl];exact p
  ·intro x;show _↔x∈(κ.P.dropLast++[κ.top++[v]]).getLastD [];rw[gl];unfold gj;rw[zG,fj,q,cL];constructor
   ·exact λz=>z.2.2
   ·intro z;have bd:=D.ok.Wz.2;refine⟨?_,?_,z⟩
    ·rcases z with z|z
     ·exact(bd x z).1
     ·rw[bM.mp z];exact hv.1
    ·rcases z with z|z
     ·have:=(bd x z).2;omega
     ·rw[bM.mp z];have:=hv.2;omega
  ·intro x;rw[mo];simp[Lz]
  ·intro a b;rw[mt];simp[Lz]
  ·intro x;rw[mi];simp[eq_comm]
 |tie x y =>
  obtain⟨hP,ht,hb,h1,h2⟩:=c;obtain⟨vD,j,e,p,q,as⟩:=HX dw D hP;obtain⟨u1,u2,u3⟩:=Kr (s:=.tie x y) Z e;refine⟨E,Z,DG dw D h (vD:=vD) (b:=(aW n ts ss i).1.aR.getD j []) u1 u2 ?_ as p hP q ?_ ?_ ?_ ok⟩
  ·rw[u3];unfold qC;dsimp only;rw[aB]
   ·rfl
   ·refine⟨ht,?_,λz=>hb ((D.ties x y).mp z)⟩;unfold oK;rw[List.filter_eq_nil_iff];intro v hv;have:v∈(aW n ts ss i).1.aR.getD j []:=by
     rcases bU.mp hv with rfl|hv
     ·exact(q _).mpr h1
     ·rw[bM.mp hv];exact(q _).mpr h2
    simpa using this
  ·intro v;rw[mo];simp[Lz]
  ·intro a b;rw[mt];simp[Lz,eq_comm]
  ·intro v;rw[mi];simp
 |out v =>
  obtain⟨hP,hv,hg⟩:=c;obtain⟨vD,j,e,p,q,as⟩:=HX dw D hP;obtain⟨u1,u2,u3⟩:=Kr (s:=.out v) Z e;refine⟨E,Z,DG dw D h (vD:=vD) (b:=oK ((aW n ts ss i).1.aR.getD j []) [v]) u1 u2 ?_ (Im _ as) ?_ (ne _ _) ?_ ?_ ?_ ?_ ok⟩
  ·rw[u3];unfold qC;dsimp only;rw[aB ⟨(q v).mpr hv,λz=>hg ((D.outs v).mp z)⟩];rfl
  ·show Paired _ _ (κ.P.dropLast++[_]).dropLast;rw[dl];exact p
  ·intro x;show _↔x∈(κ.P.dropLast++[κ.top.erase v]).getLastD [];rw[gl,D.ok.Wz.1.mem_erase_iff];unfold oK;rw[lH,q];simp[and_comm]
  ·intro x;rw[mo];simp[Lz,eq_comm]
  ·intro a b;rw[mt];simp[Lz]
  ·intro x;rw[mi];simp
 |join =>
  obtain⟨l2,pm⟩:=c;obtain⟨vD,j1,j2,e,u1,u2,u3,p,q1,q2,as1,as2,ne2,eg⟩:=join_split dw D l2;have eb:(aW n ts ss i).1.aR.getD j1 []=(aW n ts ss i).1.aR.getD j2 []:=w6 as1 as2 λv=>by
   rw[q1,q2,<-eg];exact(pm.mem_iff).symm
  refine⟨E,Z,DG dw D h (vD:=vD) (b:=(aW n ts ss i).1.aR.getD j1 []) u1 u2 ?_ as1 p ne2 q1 ?_ ?_ ?_ ok⟩
  ·rw[u3];unfold qC;dsimp only;rw[aB]
   ·rfl
   ·exact eb
  ·intro v;rw[mo];simp[Lz]
  ·intro a b;rw[mt];simp[Lz]
  ·intro v;rw[mi];simp
def a1E{n:Nat}{ts:List bY}{ss:List b8}(dw:n<=10)(D:QD n ts ss ss.length κ E):(κ.P≠[[]]->Bp n ts ss (cD n ts ss)=.pile)/\(κ.P=[[]]->∀v:Nat,v<n->(∀j:Nat,j<v->(j:Int)∈E)->(v:Int)∉E->Bp n ts ss (cD n ts ss)=.place v)/\(κ.P=[[]]->(∀j:Nat,j<n->(j:Int)∈E)->Bp n ts ss (cD n ts ss)=match ts.find? λt=>!decide (t∈κ.B)with|some t=>.tie t.1 t.2|none=>.ok):=by
 have I:=jA dw D.go;have l1:¬(cD n ts ss).aR.length<ss.length:=by unfold cD;rw[I.tl];omega
 have l2:MT (cD n ts ss)=[[]]↔κ.P=[[]]:=by
  have r:=D.rel;unfold MT cD;generalize (aW n ts ss ss.length).1.pile=pl at *
  generalize (aW n ts ss ss.length).1.aR=tp at *
  generalize κ.P=P at *
  cases r with
  |nil=>simp
  | @cons x b xs bs h1 h2 =>
   have e:tp.getD x []=[]↔b=[]:=by
    rw[TQ,TQ];grind
   cases h2 with
   |nil =>
    grind
   |cons h3 h4 =>
    grind
 have ins:∀v,b8.inn v∈ss↔v∈E:=λv=>by have:=D.ins v;grind
 have tis:∀a b,b8.tie a b∈ss↔(a,b)∈κ.B:=λa b=>by have:=D.ties a b;grind
 refine⟨λh=>?_,λh v hv ok no=>?_,λh ok=>?_⟩
 ·unfold Bp;grind
 ·have ef:(List.range n).find? (λ(v:Nat)=>!decide (b8.inn (v:Int)∈ss))=some v:=ó.mpr ⟨(),nQ.mpr hv,λj hj=>by grind⟩;unfold Bp;grind
 ·have ef:(List.range n).find? (λ(v:Nat)=>!decide (b8.inn (v:Int)∈ss))=none:=Ej.mpr λj hj=>by grind
  have eg:(λt:Int×Int=>!decide (b8.tie t.1 t.2∈ss))=λt=>!decide (t∈κ.B):=funext λt=>by grind
  unfold Bp;rw[aq l1,aB (l2.mpr h),ef,eg];try rfl
structure Tb(n m:Nat)(up:Nat->Nat)(bH:Nat->List Int):Prop where
 pos:0<m
 ups:∀k,0<k->k<m->up k<k
 nd:∀k,(bH k).Nodup
 lt:∀k,∀v∈bH k,0<=v/\v<(n:Int)
 fr:∀k,0<k->k<m->∀v∈bH k,v∈bH (up k)\/∀j,j<k->v∉bH j
 no:∀k,m<=k->bH k=[]
inductive qG(m:Nat)(up:Nat->Nat)(k:Nat):Nat->Prop
 |self:k<m->qG m up k k
 |step {r:Nat}:0<r->r<m->qG m up k (up r)->qG m up k r
section
variable{n m:Nat}{up:Nat->Nat}{bH:Nat->List Int}
def Tb.in_(T:Tb n m up bH){k:Nat}{v:Int}(h:v∈bH k):k<m:=by
 rcases yh k m with c|c
 ·exact c
 ·rw[T.no k c]at h;grind
def qG.le(T:Tb n m up bH){k r:Nat}(h:qG m up k r):k<=r:=by
 induction h with
 |self=>grind
 |step r0 rm _ ih=>have:=T.ups _ r0 rm;omega
def qG.trans{k j r:Nat}(h1:qG m up k j)(h2:qG m up j r):qG m up k r:=by
 induction h2 with
 |self=>exact h1
 |step r0 rm _ ih=>exact .step r0 rm ih
def qG.kid(T:Tb n m up bH){k r:Nat}(h:qG m up k r):r=k\/∃j,0<j/\j<m/\up j=k/\qG m up j r:=by
 induction h with
 |self=>exact .inl rfl
 | @step r r0 rm _ ih =>
  rcases ih with e|⟨j,a,b,c,d⟩
  ·exact .inr ⟨r,r0,rm,e,.self rm⟩
  ·exact .inr ⟨j,a,b,c,.step r0 rm d⟩
def qG.cmp{j r:Nat}(h1:qG m up j r)(h2:qG m up j' r):qG m up j j'\/qG m up j' j:=by
 induction h1 with
 |self=>exact .inr h2
 | @step r r0 rm h ih =>
  cases h2 with
  |self=>exact .inl (.step r0 rm h)
  |step _ _ h'=>exact ih h'
def HY(T:Tb n m up bH){j r:Nat}(j0:0<j)(jm:j<m)(j0':0<j')(jm':j'<m)(e:up j=up j')(h1:qG m up j r)(h2:qG m up j' r):j=j':=by
 have gh:∀{a b:Nat},0<a->a<m->up a=up b->qG m up a b->a=b:=λ{a b} a0 am e h=>by
  cases h with
  |self=>rfl
  |step b0 bm h =>
   rw[<-e]at h;have l1:=h.le T;have l2:=T.ups a a0 am;omega
 rcases h1.cmp h2 with h|h
 ·grind
 grind
def vY(T:Tb n m up bH){j:Nat}{v:Int}(h:v∈bH j)(fr:j=0\/v∉bH (up j)):∀q,v∈bH q->qG m up j q:=by
 have jm:=T.in_ h;have no:∀i,i<j->v∉bH i:=λi hi=>by
  rcases fr with e|e
  ·omega
  ·rcases T.fr j () jm v h with z|z
   ·grind
   grind
 intro q
 induction q using Nat.strongRecOn with
 |ind q ih =>
  intro hq;have qm:=T.in_ hq;by_cases c:q=j
  ·rw[c];exact .self jm
  ·have lj:j<q:=by
    grind
   rcases T.fr q () qm v hq with z|z
   ·exact .step () qm (ih _ (T.ups q () qm) z)
   grind
def conn(T:Tb n m up bH){j r:Nat}{v:Int}(b:qG m up j r)(h:v∈bH r):(v∈bH j/\v∈bH (up j))\/∀q,v∈bH q->qG m up j q:=by
 induction b with
 |self jm =>
  by_cases c:v∈bH (up j)
  ·exact .inl ⟨h,c⟩
  ·exact .inr (vY T h (.inr c))
 | @step r r0 rm b ih =>
  by_cases c:v∈bH (up r)
  ·exact ih c
  ·exact .inr λq hq=>qG.trans (.step r0 rm b) (vY T h (.inr c) q hq)
def Ku(m:Nat)(up:Nat->Nat)(bH:Nat->List Int)(k:Nat)(v:Int):Prop:=∃r,qG m up k r/\v∈bH r
def ū(T:Tb n m up bH){j:Nat}{v:Int}(j0:0<j)(jm:j<m)(h:Ku m up bH j v)(hu:v∈bH (up j)):v∈bH j:=by
 obtain⟨r,b,hr⟩:=h;rcases conn T b hr with z|z
 ·exact z.1
 ·have l1:=(z _ hu).le T;have l2:=T.ups j j0 jm;omega
def a1F(T:Tb n m up bH){j:Nat}{v:Int}(j0:0<j)(jm:j<m)(j0':0<j')(jm':j'<m)(e:up j=up j')(ne:j≠j')(h:Ku m up bH j v)(h':Ku m up bH j' v):v∈bH (up j):=by
 obtain⟨r,b,hr⟩:=h;obtain⟨r',b',hr'⟩:=h';rcases conn T b hr with z|z
 ·exact z.2
 ·exact absurd (HY T j0 jm j0' jm' e (z _ hr') b') ne
def SN(T:Tb n m up bH):∀r,r<m->qG m up 0 r:=by
 intro r
 induction r using Nat.strongRecOn with
 |ind r ih =>
  intro rm;by_cases c:r=0
  ·rw[c];exact .self T.pos
  ·have:=T.ups r () rm;exact .step () rm (ih _ this ())
def jw(up:Nat->Nat)(bH:Nat->List Int)(r:Nat)(t:Int×Int):Prop:=t.1∈bH r/\t.2∈bH r/\(r=0\/¬(t.1∈bH (up r)/\t.2∈bH (up r)))
instance (up:Nat->Nat) (bH:Nat->List Int) (r:Nat) (t:Int×Int):Decidable (jw up bH r t):=by unfold jw;infer_instance
def SQ(T:Tb n m up bH){r:Nat}{t:Int×Int}(h:jw up bH r t):∀q,t.1∈bH q->t.2∈bH q->qG m up r q:=by
 obtain⟨h1,h2,h3⟩:=h;intro q q1 q2;rcases h3 with e|e
 ·exact vY T h1 (.inl e) q q1
 ·by_cases c:t.1∈bH (up r)
  ·exact vY T h2 (.inr λz=>e ⟨c,z⟩) q q2
  ·exact vY T h1 (.inr c) q q1
def vZ(T:Tb n m up bH){r r':Nat}{t:Int×Int}(h:jw up bH r t)(h':jw up bH r' t):r=r':=by
 have l1:=(SQ T h r' h'.1 h'.2.1).le T;have l2:=(SQ T h' r h.1 h.2.1).le T;omega
def a1G(T:Tb n m up bH){t:Int×Int}:∀q,t.1∈bH q->t.2∈bH q->∃r,r<m/\jw up bH r t:=by
 intro q
 induction q using Nat.strongRecOn with
 |ind q ih =>
  intro q1 q2;have qm:=T.in_ q1;by_cases c:q=0
  ·exact⟨q,qm,q1,q2,.inl c⟩
  ·by_cases d:t.1∈bH (up q)/\t.2∈bH (up q)
   ·exact ih _ (T.ups q () qm) d.1 d.2
   ·exact⟨q,qm,q1,q2,.inr d⟩
end
def Hg(κ:Kp)(ss:List b8):Kp:=ss.foldl Lz κ
def uE(n wd:Nat)(ts:List bY):Kp->List b8->Prop
 |_,[]=>True
 |κ,s::r=>(Can n ts κ s/\(Lz κ s).top.length<=wd)/\uE n wd ts (Lz κ s) r
section
variable{n:Nat}{ts:List bY}
def nD(κ:Kp)(a b:List b8):Hg κ (a++b)=Hg (Hg κ a) b:=List.foldl_append
theorem qp:∀{κ:Kp}{a b:List b8},uE n wd ts κ a->uE n wd ts (Hg κ a) b->uE n wd ts κ (a++b)
 |_,[],_,_,h=>h
 |_,_::_,_,h,h'=>⟨h.1,qp h.2 h'⟩
theorem zO:∀{κ:Kp}{a b:List b8},uE n wd ts κ (a++b)->uE n wd ts κ a/\uE n wd ts (Hg κ a) b
 |_,[],_,h=>⟨trivial,h⟩
 |_,_::_,_,h=>⟨⟨h.1,(zO h.2).1⟩,(zO h.2).2⟩
def sX(P:List (List Int))(b:List Int)(G:List Int)(B:List bY):(Kp.mk (P++[b]) G B).top=b:=by
 show(P++[b]).getLastD []=b;grind
def Ŭ(P:List (List Int))(b:List Int)(G:List Int)(B:List bY):(Kp.mk (P++[b]) G B).P≠[]:=λz=>by
 have:P++[b]=[]:=z;simp at this
theorem WD:∀(vs:List Int) {P:List (List Int)}{b G:List Int}{B:List bY},vs.Nodup->(∀v∈vs,0<=v/\v<(n:Int))->(∀v∈vs,v∉b)->(∀v∈vs,v∉G)->b.length+vs.length<=wd->uE n wd ts ⟨P++[b],G,B⟩ (vs.map .inn)/\Hg ⟨P++[b],G,B⟩ (vs.map .inn)=⟨P++[b++vs],G,B⟩
 | [],P,b,G,B,_,_,_,_,_=>⟨trivial,by rw[mH];rfl⟩
 |v::vs,P,b,G,B,nd,lt,nb,ng,hw=>by
  rw[jH]at hw
  obtain⟨n1,n2⟩:=iW.mp nd
  have e:Lz ⟨P++[b],G,B⟩ (.inn v)=⟨P++[b++[v]],G,B⟩:=by
   show Kp.mk ((P++[b]).dropLast++[(Kp.mk (P++[b]) G B).top++[v]]) G B=_
   rw[sX,Ef]
  obtain⟨i1,i2⟩:=WD vs (P:=P) (b:=b++[v]) (G:=G) (B:=B) n2 (λx hx=>lt x (bh _ hx)) (λx hx z=>by
   grind) (λx hx=>ng x (bh _ hx)) ()
  refine⟨⟨⟨⟨Ŭ _ _ _ _,lt v aV,?_,ng v aV⟩,?_⟩,?_⟩,?_⟩
  ·rw[sX];grind
  ·rw[e,sX,cC,Ec];omega
  ·grind
  ·show Hg (Lz ⟨P++[b],G,B⟩ (.inn v)) (vs.map .inn)=_
   grind
theorem QF:∀(vs:List Int) {P:List (List Int)}{b G:List Int}{B:List bY},vs.Nodup->b.Nodup->(∀v∈vs,v∈b)->(∀v∈vs,v∉G)->b.length<=wd->uE n wd ts ⟨P++[b],G,B⟩ (vs.map .out)/\∃b',b'.Nodup/\(∀v,v∈b'↔v∈b/\v∉vs)/\Hg ⟨P++[b],G,B⟩ (vs.map .out)=⟨P++[b'],G++vs,B⟩
 | [],P,b,G,B,_,nb,_,_,_=>⟨trivial,b,nb,λv=>by simp,by rw[mH];rfl⟩
 |v::vs,P,b,G,B,nd,nb,mb,ng,hw=>by
  obtain⟨n1,n2⟩:=iW.mp nd
  have e:Lz ⟨P++[b],G,B⟩ (.out v)=⟨P++[b.erase v],G++[v],B⟩:=by
   show Kp.mk ((P++[b]).dropLast++[(Kp.mk (P++[b]) G B).top.erase v]) (G++[v]) B=_
   rw[sX,Ef]
  obtain⟨i1,b',d1,d2,i2⟩:=QF vs (P:=P) (b:=b.erase v) (G:=G++[v]) (B:=B) n2 (nb.erase v) (λx hx=>nb.mem_erase_iff.mpr ⟨λz=>n1 (z▸hx),mb x (bh _ hx)⟩) (λx hx z=>by
   grind) (dF List.length_erase_le hw)
  refine⟨⟨⟨⟨Ŭ _ _ _ _,?_,ng v aV⟩,?_⟩,?_⟩,b',d1,λx=>?_,?_⟩
  ·rw[sX];grind
  ·rw[e,sX];grind
  ·grind
  ·grind
  ·show Hg (Lz ⟨P++[b],G,B⟩ (.out v)) (vs.map .out)=_
   grind
theorem QG:∀(tl:List bY) {P:List (List Int)}{b G:List Int}{B:List bY},tl.Nodup->(∀t∈tl,t∈ts/\t∉B/\t.1∈b/\t.2∈b)->b.length<=wd->uE n wd ts ⟨P++[b],G,B⟩ (tl.map λt=>.tie t.1 t.2)/\Hg ⟨P++[b],G,B⟩ (tl.map λt=>.tie t.1 t.2)=⟨P++[b],G,B++tl⟩
 | [],P,b,G,B,_,_,_=>⟨trivial,by rw[mH];rfl⟩
 |t::tl,P,b,G,B,nd,ok,hw=>by
  obtain⟨n1,n2⟩:=iW.mp nd
  obtain⟨o1,o2,o3,o4⟩:=ok t aV
  obtain⟨i1,i2⟩:=QG tl (P:=P) (b:=b) (G:=G) (B:=B++[t]) n2 (λs hs=>by
   grind) hw
  refine⟨⟨⟨⟨Ŭ _ _ _ _,o1,o2,?_,?_⟩,?_⟩,i1⟩,?_⟩
  ·rw[sX];exact o3
  ·rw[sX];exact o4
  ·show(Kp.mk (P++[b]) G (B++[t])).top.length<=wd
   rw[sX];exact hw
  ·show Hg ⟨P++[b],G,B++[t]⟩ (tl.map _)=_
   grind
def a1H{n:Nat}{ts:List bY}{P:List (List Int)}{b b':List Int}(pm:b'.Perm b):Can n ts ⟨P++[b]++[b'],G,B⟩ .join/\Lz ⟨P++[b]++[b'],G,B⟩ .join=⟨P++[b],G,B⟩:=by
 refine⟨⟨?_,?_⟩,?_⟩
 ·grind
 ·rw[sX];show b'.Perm ((P++[b]++[b']).getD ((P++[b]++[b']).length-2) []);have:(P++[b]++[b']).getD ((P++[b]++[b']).length-2) []=b:=by
   rw[SM (by simp),Ef,ï,Oc];rfl
  rw[this];exact pm
 ·show Kp.mk (P++[b]++[b']).dropLast G B=_;grind
end
def vz(x y:List Int):List Int:=x.filter λv=>!decide (v∈y)
def lQ{x y:List Int}{v:Int}:v∈vz x y↔v∈x/\v∉y:=by
 unfold vz;grind
def qt(bH:Nat->List Int)(j k:Nat):List b8:=(vz (bH j) (bH k)).map .out++(vz (bH k) (bH j)).map .inn
section
variable{n m:Nat}{up:Nat->Nat}{bH:Nat->List Int}{ts:List bY}
def ŭ(T:Tb n m up bH)(hW:∀k,(bH k).length<=wd){j k:Nat}{P:List (List Int)}{b:List Int}(pm:b.Perm (bH j))(h1:∀v∈bH j,v∉bH k->v∉G)(h2:∀v∈bH k,v∉bH j->v∉G):uE n wd ts ⟨P++[b],G,B⟩ (qt bH j k)/\∃b',b'.Perm (bH k)/\Hg ⟨P++[b],G,B⟩ (qt bH j k)=⟨P++[b'],G++vz (bH j) (bH k),B⟩:=by
 have nb:b.Nodup:=pm.nodup_iff.mpr (T.nd j);obtain⟨o1,b1,d1,d2,o2⟩:=QF (n:=n) (ts:=ts) (vz (bH j) (bH k)) (P:=P) (b:=b) (G:=G) (B:=B) ((T.nd j).filter _) nb (λv hv=>pm.mem_iff.mpr (lQ.mp hv).1) (λv hv=>h1 v (lQ.mp hv).1 (lQ.mp hv).2) (by rw[pm.length_eq];exact hW j);have m1:∀v,v∈b1↔v∈bH j/\v∈bH k:=λv=>by
  rw[d2,pm.mem_iff,lQ];grind
 have pk:(b1++vz (bH k) (bH j)).Perm (bH k):=by
  refine(Ig (wz.mpr ⟨d1,(show(vz (bH k) (bH j)).Nodup from(T.nd k).filter _),λx hx y hy e=>?_⟩) (T.nd k)).mpr λv=>?_
  ·subst e;exact(lQ.mp hy).2 ((m1 x).mp hx).1
  ·rw[cL,m1];show _\/v∈vz (bH k) (bH j)↔_;rw[lQ];grind
 obtain⟨i1,i2⟩:=WD (n:=n) (ts:=ts) (vz (bH k) (bH j)) (P:=P) (b:=b1) (G:=G++vz (bH j) (bH k)) (B:=B) ((T.nd k).filter _) (λv hv=>T.lt k v (lQ.mp hv).1) (λv hv z=>(lQ.mp hv).2 ((m1 v).mp z).1) (λv hv z=>by
  obtain⟨a,c⟩:=lQ.mp hv;rcases cL.mp z with z|z
  ·grind
  ·exact(lQ.mp z).2 a) (by have h1:=pk.length_eq;have h2:=hW k;rw[cC]at h1;rw[h1];exact h2)
 exact⟨qp o1 (),b1++vz (bH k) (bH j),pk,by unfold qt;rw[nD,o2,i2]⟩
def WK(n wd m:Nat)(up:Nat->Nat)(bH:Nat->List Int)(ts tb:List bY)(j:Nat)(ss:List b8):Prop :=
 ∀P G B,(∀v,Ku m up bH j v->v∉G)->(∀t∈B,∀r,qG m up j r->¬jw up bH r t)->∃b G' B',b.Perm (bH j)/\uE n wd ts ⟨P,G,B⟩ ss/\Hg ⟨P,G,B⟩ ss=⟨P++[b],G',B'⟩/\(∀v,v∈G'↔v∈G\/(Ku m up bH j v/\v∉bH j))/\∀t,t∈B'↔t∈B\/(t∈tb/\∃r,qG m up j r/\jw up bH r t)
theorem QH(T:Tb n m up bH)(hW:∀k,(bH k).length<=wd){tb:List bY}{k:Nat}{L:Nat->List b8}:∀(js:List Nat),js.Nodup->(∀j∈js,0<j/\j<m/\up j=k)->(∀j∈js,WK n wd m up bH ts tb j (L j))->∀{P:List (List Int)}{b G:List Int}{B:List bY},b.Perm (bH k)->(∀j∈js,∀v,Ku m up bH j v->v∉G)->(∀v∈bH k,v∉G)->(∀j∈js,∀t∈B,∀r,qG m up j r->¬jw up bH r t)->
  ∃G' B',uE n wd ts ⟨P++[b],G,B⟩ (js.flatMap λj=>L j++(qt bH j k++[.join]))/\Hg ⟨P++[b],G,B⟩ (js.flatMap λj=>L j++(qt bH j k++[.join]))=⟨P++[b],G',B'⟩/\(∀v,v∈G'↔v∈G\/∃j∈js,Ku m up bH j v/\v∉bH k)/\∀t,t∈B'↔t∈B\/(t∈tb/\∃j∈js,∃r,qG m up j r/\jw up bH r t)
 | [],_,_,_,P,b,G,B,_,_,_,_=>⟨G,B,trivial,Z,λv=>by simp,λt=>by simp⟩
 |j::js,nd,kd,ly,P,b,G,B,pm,hG,hK,hB=>by
  obtain⟨n1,n2⟩:=iW.mp nd
  obtain⟨j0,jm,ju⟩:=kd j aV
  obtain⟨bj,G1,B1,pj,a1,e1,mG1,mB1⟩:=ly j aV (P++[b]) G B (hG j aV) (hB j aV)
  have a7R:∀v∈bH j,Ku m up bH j v:=λv hv=>⟨j,.self jm,hv⟩
  obtain⟨a2,b2,p2,e2⟩:=ŭ (ts:=ts) T hW (k:=k) (P:=P++[b]) (G:=G1) (B:=B1) pj (λv hv _ z=>by
   grind) (λv hv nv z=>by
   rcases(mG1 v).mp z with z|z
   ·grind
   ·exact nv (ū T j0 jm z.1 (ju▸hv)))
  obtain⟨c3,e3⟩:=a1H (n:=n) (ts:=ts) (P:=P) (b:=b) (b':=b2) (G:=G1++vz (bH j) (bH k)) (B:=B1) (p2.trans pm.symm)
  have mG2:∀v,v∈G1++vz (bH j) (bH k)↔v∈G\/(Ku m up bH j v/\v∉bH k):=λv=>by
   rw[cL,mG1,lQ]
   constructor
   ·rintro((z|⟨z1,z2⟩)|⟨z1,z2⟩)
    ·exact .inl z
    ·exact .inr ⟨z1,λz=>z2 (ū T j0 jm z1 (ju▸z))⟩
    grind
   grind
  obtain⟨G',B',a4,e4,mG,mB⟩:=QH T hW js n2 (λi hi=>kd i (bh _ hi)) (λi hi=>ly i (bh _ hi)) (P:=P) (b:=b) (G:=G1++vz (bH j) (bH k)) (B:=B1) pm (λi hi v hv z=>by
   obtain⟨i0,im,iu⟩:=kd i (bh _ hi)
   rcases(mG2 v).mp z with z|⟨z1,z2⟩
   ·grind
   ·exact z2 (ju▸a1F T j0 jm i0 im (ju.trans iu.symm) (λz=>n1 (z▸hi)) z1 hv)) (λv hv z=>by
   grind) (λi hi t ht r br hr=>by
   obtain⟨i0,im,iu⟩:=kd i (bh _ hi)
   rcases(mB1 t).mp ht with z|⟨_,r',br',hr'⟩
   ·grind
   ·have:=vZ T hr hr'
    subst this
    exact n1 (HY T j0 jm i0 im (ju.trans iu.symm) br' br▸hi))
  have es:(j::js).flatMap (λj=>L j++(qt bH j k++[.join]))=L j++(qt bH j k++([.join]++js.flatMap λj=>L j++(qt bH j k++[.join]))):=by
   grind
  rw[es]
  refine⟨G',B',qp a1 ?_,?_,λv=>?_,λt=>?_⟩
  ·rw[e1]
   refine qp a2 ?_
   rw[e2]
   exact⟨⟨c3,by rw[e3,sX,pm.length_eq];exact hW k⟩,by rw[e3];exact a4⟩
  ·rw[nD,e1,nD,e2]
   show Hg (Lz _ .join) (js.flatMap λj=>L j++(qt bH j k++[.join]))=_
   rw[e3,e4]
  ·grind
  grind
def v5(up:Nat->Nat)(bH:Nat->List Int)(tb:List bY)(k:Nat):List bY:=tb.filter λt=>decide (jw up bH k t)
def gV(m:Nat)(up:Nat->Nat)(k:Nat):List Nat:=(List.range m).filter λj=>decide (k<j)&&decide (up j=k)
def mY(T:Tb n m up bH){k j:Nat}:j∈gV m up k↔0<j/\j<m/\up j=k:=by
 unfold gV;rw[lH,nQ,qK,fj,fj];constructor
 ·grind
 ·rintro⟨a,b,c⟩;have:=T.ups j a b;exact⟨b,(),c⟩
def Ia(m:Nat)(up:Nat->Nat)(k:Nat):(gV m up k).Nodup:=List.nodup_range.sublist Ui
def a4q(T:Tb n m up bH)(hW:∀k,(bH k).length<=wd){tb:List bY}{k:Nat}(km:k<m)(tn:tb.Nodup)(sub:∀t∈tb,t∈ts){P:List (List Int)}{b G':List Int}{B':List bY}(pm:b.Perm (bH k))(hB:∀t∈B,∀r,qG m up k r->¬jw up bH r t)(mG:∀v,v∈G'↔v∈G\/∃j∈gV m up k,Ku m up bH j v/\v∉bH k)(mB:∀t,t∈B'↔t∈B\/(t∈tb/\∃j∈gV m up k,∃r,qG m up j r/\jw up bH r t)) :
  ∃B2,uE n wd ts ⟨P++[b],G',B'⟩ ((v5 up bH tb k).map λt=>.tie t.1 t.2)/\Hg ⟨P++[b],G',B'⟩ ((v5 up bH tb k).map λt=>.tie t.1 t.2)=⟨P++[b],G',B2⟩/\(∀v,v∈G'↔v∈G\/(Ku m up bH k v/\v∉bH k))/\∀t,t∈B2↔t∈B\/(t∈tb/\∃r,qG m up k r/\jw up bH r t):=by
 have mo:∀t,t∈v5 up bH tb k↔t∈tb/\jw up bH k t:=λt=>by
  unfold v5;rw[lH,fj]
 have kb:∀{j r:Nat},j∈gV m up k->qG m up j r->qG m up k r:=λ{j r} hj b=>by
  obtain⟨j0,jm,ju⟩:=(mY T).mp hj;exact qG.trans (.step j0 jm (by rw[ju];exact .self km)) b
 obtain⟨a,e⟩:=QG (n:=n) (ts:=ts) (v5 up bH tb k) (P:=P) (b:=b) (G:=G') (B:=B') (tn.sublist Ui) (λt ht=>by
  obtain⟨t1,h⟩:=(mo t).mp ht;refine⟨sub t t1,λz=>?_,pm.mem_iff.mpr h.1,pm.mem_iff.mpr h.2.1⟩;rcases(mB t).mp z with z|⟨_,j,hj,r,br,hr⟩
  ·exact hB t z k (.self km) h
  ·have:=vZ T hr h;subst this;obtain⟨j0,jm,ju⟩:=(mY T).mp hj;have l1:=br.le T;have l2:=T.ups j j0 jm;omega) (by rw[pm.length_eq];exact hW k)
 refine⟨B'++v5 up bH tb k,a,e,λv=>?_,λt=>?_⟩
 ·rw[mG];constructor
  ·rintro(z|⟨j,hj,⟨r,br,hr⟩,z⟩)
   ·exact .inl z
   ·exact .inr ⟨⟨r,kb hj br,hr⟩,z⟩
  ·rintro(z|⟨⟨r,br,hr⟩,z⟩)
   ·exact .inl z
   ·rcases br.kid T with c|⟨j,j0,jm,ju,bj⟩
    ·exact absurd (c▸hr) z
    ·exact .inr ⟨j,(mY T).mpr ⟨j0,jm,ju⟩,⟨r,bj,hr⟩,z⟩
 ·rw[cL,mB,mo];constructor
  ·rintro((z|⟨z0,j,hj,r,br,hr⟩)|⟨z0,z⟩)
   ·exact .inl z
   ·exact .inr ⟨z0,r,kb hj br,hr⟩
   ·exact .inr ⟨z0,k,.self km,z⟩
  ·rintro(z|⟨z0,r,br,hr⟩)
   ·exact .inl (.inl z)
   ·rcases br.kid T with c|⟨j,j0,jm,ju,bj⟩
    ·exact .inr ⟨z0,c▸hr⟩
    ·exact .inl (.inr ⟨z0,j,(mY T).mpr ⟨j0,jm,ju⟩,r,bj,hr⟩)
end
section
variable{n:Nat}{ts:List bY}{ss:List b8}
theorem Kv(dw:n<=10)(c:uE n wd ts ⟨[],[],[]⟩ ss):∀i,i<=ss.length->∃E,QD n ts ss i (Hg ⟨[],[],[]⟩ (ss.take i)) E
 |0,_=>⟨[],a6r⟩
 |i+1,il=>by
  obtain⟨E,D⟩:=Kv dw c i ()
  have hs:ss[i]?=some (ss[i]'()):=bL ()
  have c1:uE n wd ts ⟨[],[],[]⟩ (ss.take i++ss.drop i):=by rw[xZ];exact c
  have c2:=(zO c1).2
  rw[Ih (show i<ss.length by omega)]at c2
  obtain⟨E',_,D'⟩:=a4p dw D hs c2.1.1
  refine⟨E',?_⟩
  rw[QB hs,nD]
  exact D'
def a1I(c:uE n wd ts ⟨[],[],[]⟩ ss){i:Nat}(il:i<ss.length):(Hg ⟨[],[],[]⟩ (ss.take (i+1))).top.length<=wd:=by
 have c1:uE n wd ts ⟨[],[],[]⟩ (ss.take i++ss.drop i):=by rw[xZ];exact c
 have c2:=(zO c1).2;rw[Ih il]at c2;have hs:ss[i]?=some (ss[i]'il):=bL il;rw[QB hs,nD];exact c2.1.2
end
section
variable{n:Nat}{ts:List bY}
theorem Ů:∀(a:List b8) {κ:Kp}{pre:List b8},uE n wd ts κ a->(∀v,(v∈κ.G\/∃b∈κ.P,v∈b)->b8.inn v∈pre)->∀v,(v∈(Hg κ a).G\/∃b∈(Hg κ a).P,v∈b)->b8.inn v∈pre++a
 | [],κ,pre,_,h,v,hv=>by rw[mH];exact h v hv
 |s::r,κ,pre,c,h,v,hv=>by
  have e:pre++s::r=(pre++[s])++r:=()
  rw[e]
  refine Ů r c.2 (λu hu=>?_) v hv
  have old:∀{u},(u∈κ.G\/∃b∈κ.P,u∈b)->b8.inn u∈pre++[s]:=λhu=>sI _ (h _ hu)
  have dl:∀{b:List Int},b∈κ.P.dropLast->b∈κ.P:=λhb=>nH (by rw[List.dropLast_eq_take]at hb;exact hb)
  have can:=c.1.1
  cases s with
  |leaf =>
   rcases hu with hu|⟨b,hb,hu⟩
   ·exact old (.inl hu)
   ·rcases cL.mp (show b∈κ.P++[[]]from hb)with hb|hb
    ·grind
    grind
  |inn x =>
   rcases hu with hu|⟨b,hb,hu⟩
   ·exact old (.inl hu)
   ·rcases cL.mp (show b∈κ.P.dropLast++[κ.top++[x]]from hb)with hb|hb
    ·grind
    ·rw[bM.mp hb]at hu
     rcases cL.mp hu with hu|hu
     ·exact old (.inr ⟨_,Ks can.1,hu⟩)
     grind
  |tie x y=>exact old hu
  |out x =>
   rcases hu with hu|⟨b,hb,hu⟩
   ·rcases cL.mp (show u∈κ.G++[x]from hu)with hu|hu
    ·grind
    ·rw[bM.mp hu]
     exact old (.inr ⟨_,Ks can.1,can.2.1⟩)
   ·rcases cL.mp (show b∈κ.P.dropLast++[κ.top.erase x]from hb)with hb|hb
    ·grind
    ·rw[bM.mp hb]at hu
     exact old (.inr ⟨_,Ks can.1,List.mem_of_mem_erase hu⟩)
  |join =>
   rcases hu with hu|⟨b,hb,hu⟩
   ·exact old (.inl hu)
   ·exact old (.inr ⟨b,dl hb,hu⟩)
end
section
variable{n:Nat}{ts:List bY}{ss:List b8}
def a6s(dw:n<=10)(c:uE n wd ts ⟨[],[],[]⟩ ss)(h:Hg ⟨[],[],[]⟩ ss=⟨[[]],G,B⟩)(cov:∀v:Int,0<=v->v<(n:Int)->v∈G)(mB:∀t,t∈B↔t∈ts):Bp n ts ss (cD n ts ss)=.ok:=by
 obtain⟨E,D⟩:=Kv dw c ss.length (aN _);rw[iV,h]at D;have hE:∀j:Nat,j<n->(j:Int)∈E:=λj hj=>by
  have h1:=Ů ss c (pre:=[]) (λv hv=>by
   grind) (j:Int) (.inl ())
  have h2:=(D.ins (j:Int)).mp ();exact h2
 have:=(a1E dw D).2.2 Z hE;grind
def È(dw:n<=10)(c:uE n wd ts ⟨[],[],[]⟩ ss)(qY:Bp n ts ss (cD n ts ss)=.ok):∀b∈(cD n ts ss).aR,b.length<=wd:=by
 have go:=Ś dw qY;have I:=zM dw qY;intro b hb;obtain⟨k,kl,e⟩:=oU hb;rw[I.tl]at kl;have eb:Go.gK n ts ss k=b:=by
  show(cD n ts ss).aR.getD k []=b;rw[fK,bL (by rw[I.tl];exact kl),<-e];rfl
 obtain⟨E',D'⟩:=Kv dw c (k+1) ();have S:=Go.BP (n:=n) (ts:=ts) go dw (List.getElem?_eq_getElem kl);have r:=D'.rel;have wd':=a1I c kl;have ok':=D'.ok;generalize Hg ⟨[],[],[]⟩ (ss.take (k+1))=κ at r wd' ok';rw[S.pile]at r;have ne:κ.P≠[]:=λz=>by
  rw[z]at r;have:=aQ r;simp at this
 rw[tU ne]at r;obtain⟨xs',x,ex,_,hx⟩:=rC r;have ex':=(List.append_inj' ex Z).2;cases ex';rw[Go.Qw go dw (Nat.le_refl _) ()]at hx;have hx':∀v,v∈Go.gK n ts ss k↔v∈κ.top:=hx;have nd:=(Go.Sw dw (λk s h=>Go.a1A (Go.BP go dw h)) k kl).1;rw[eb]at hx' nd;have pm:b.Perm κ.top:=(Ig (Go.Ae nd) ok'.Wz.1).mpr hx';rw[pm.length_eq];exact wd'
end
theorem M8{α:Type}(p q:α->Bool)(h:∀x,p x=true->q x=true):∀l:List α,l.countP p+l.countP (λx=>q x && !p x)=l.countP q
 | []=>rfl
 |x::l=>by
  have ih:=M8 p q h l
  grind
theorem FJ{α:Type}(l:List α)(p:Nat->α->Bool):∀(js:List Nat) (q:α->Bool),js.Nodup->(∀j∈js,∀x,p j x=true->q x=true)->(∀j∈js,∀j'∈js,∀x,p j x=true->p j' x=true->j=j')->(js.map λj=>l.countP (p j)).sum<=l.countP q
 | [],_,_,_,_=>dG _
 |j::js,q,nd,hq,gh=>by
  obtain⟨n1,n2⟩:=iW.mp nd
  have ih:=FJ l p js (λx=>q x && !p j x) n2 (λi hi x hx=>by
   grind) (λa ha b hb x h1 h2=>gh a (bh _ ha) b (bh _ hb) x h1 h2)
  have:=M8 (p j) q (hq j aV) l
  grind
section
open Classical
variable{n m:Nat}{up:Nat->Nat}{bH:Nat->List Int}
noncomputable def cR (m:Nat) (up:Nat->Nat) (k:Nat):Nat:=(List.range m).countP λr=>decide (qG m up k r)
noncomputable def cT (m:Nat) (up:Nat->Nat) (bH:Nat->List Int) (tb:List bY) (k:Nat):Nat:=tb.countP λt=>decide (∃r,qG m up k r/\jw up bH r t)
def Yz(T:Tb n m up bH){k:Nat}(km:k<m):1+((gV m up k).map λj=>cR m up j).sum<=cR m up k:=by
 have kid:∀j∈gV m up k,0<j/\j<m/\up j=k:=λj hj=>(mY T).mp hj;have ne:∀j∈gV m up k,j≠k:=λj hj e=>by
  obtain⟨j0,jm,ju⟩:=kid j hj;have:=T.ups j j0 jm;omega
 have h:=FJ (List.range m) (λj r=>if j=k then decide (r=k)else decide (qG m up j r)) (k::gV m up k) (λr=>decide (qG m up k r)) (iW.mpr ⟨λz=>ne k z Z,Ia _ _ _⟩) (λj hj x hx=>by
  by_cases c:j=k
  ·rw[aB c,fj]at hx;rw[hx];exact bN (.self km)
  ·rw[aq c,fj]at hx;rcases bU.mp hj with e|hj
   ·grind
   ·obtain⟨j0,jm,ju⟩:=kid j hj;exact bN (qG.trans (.step j0 jm (by rw[ju];exact .self km)) hx)) (λa ha b hb x h1 h2=>by
  have nk:∀{j:Nat},j∈gV m up k->¬qG m up j k:=λ{j} hj z=>by
   obtain⟨j0,jm,ju⟩:=kid j hj;have:=T.ups j j0 jm;have:=z.le T;omega
  rcases bU.mp ha with ea|ha<;>rcases bU.mp hb with eb|hb
  ·rw[ea,eb]
  ·grind
  ·grind
  ·rw[aq (ne a ha),fj]at h1;rw[aq (ne b hb),fj]at h2;obtain⟨a0,am,au⟩:=kid a ha;obtain⟨b0,bm,bu⟩:=kid b hb;exact HY T a0 am b0 bm (au.trans bu.symm) h1 h2)
 rw[b7,wF]at h;have e1:(List.range m).countP (λr=>if k=k then decide (r=k)else decide (qG m up k r))=1:=by
  have:(λr=>if k=k then decide (r=k)else decide (qG m up k r))=λr=>decide (r=k):=funext λr=>aB rfl;rw[this];have h1:=List.nodup_range (n:=m);have h2:List.count k (List.range m)=1:=()
  rw[<-h2];unfold List.count;grind
 have e2:(gV m up k).map (λj=>(List.range m).countP λr=>if j=k then decide (r=k)else decide (qG m up j r))=(gV m up k).map λj=>cR m up j:=yc λj hj=>by
  unfold cR;congr 1;funext r;rw[aq (ne j hj)]
 rw[e1,e2]at h;exact h
def a1J(T:Tb n m up bH){k:Nat}(km:k<m)(tb:List bY):(v5 up bH tb k).length+((gV m up k).map λj=>cT m up bH tb j).sum<=cT m up bH tb k:=by
 have kid:∀j∈gV m up k,0<j/\j<m/\up j=k:=λj hj=>(mY T).mp hj;have ne:∀j∈gV m up k,j≠k:=λj hj e=>by
  obtain⟨j0,jm,ju⟩:=kid j hj;have:=T.ups j j0 jm;omega
 have h:=FJ tb (λj t=>if j=k then decide (jw up bH k t)else decide (∃r,qG m up j r/\jw up bH r t)) (k::gV m up k) (λt=>decide (∃r,qG m up k r/\jw up bH r t)) (iW.mpr ⟨λz=>ne k z Z,Ia _ _ _⟩) (λj hj x hx=>by
  by_cases c:j=k
  ·rw[aB c,fj]at hx;exact bN ⟨k,.self km,hx⟩
  ·rw[aq c,fj]at hx;obtain⟨r,br,hr⟩:=hx;rcases bU.mp hj with e|hj
   ·grind
   ·obtain⟨j0,jm,ju⟩:=kid j hj;exact bN ⟨r,qG.trans (.step j0 jm (by rw[ju];exact .self km)) br,hr⟩) (λa ha b hb x h1 h2=>by
  have nk:∀{j:Nat},j∈gV m up k->¬qG m up j k:=λ{j} hj z=>by
   obtain⟨j0,jm,ju⟩:=kid j hj;have:=T.ups j j0 jm;have:=z.le T;omega
  rcases bU.mp ha with ea|ha<;>rcases bU.mp hb with eb|hb
  ·rw[ea,eb]
  ·rw[aB ea,fj]at h1;rw[aq (ne b hb),fj]at h2;obtain⟨r,br,hr⟩:=h2;exact absurd (vZ T hr h1▸br) (nk hb)
  ·rw[aB eb,fj]at h2;rw[aq (ne a ha),fj]at h1;obtain⟨r,br,hr⟩:=h1;exact absurd (vZ T hr h2▸br) (nk ha)
  ·rw[aq (ne a ha),fj]at h1;rw[aq (ne b hb),fj]at h2;obtain⟨r,br,hr⟩:=h1;obtain⟨r',br',hr'⟩:=h2;have:=vZ T hr hr';subst this;obtain⟨a0,am,au⟩:=kid a ha;obtain⟨b0,bm,bu⟩:=kid b hb;exact HY T a0 am b0 bm (au.trans bu.symm) br br')
 rw[b7,wF]at h;have e1:tb.countP (λt=>if k=k then decide (jw up bH k t)else decide (∃r,qG m up k r/\jw up bH r t))=(v5 up bH tb k).length:=by
  unfold v5;grind
 have e2:(gV m up k).map (λj=>tb.countP λt=>if j=k then decide (jw up bH k t)else decide (∃r,qG m up j r/\jw up bH r t))=(gV m up k).map λj=>cT m up bH tb j:=yc λj hj=>by
  unfold cT;congr 1;funext t;rw[aq (ne j hj)]
 rw[e1,e2]at h;exact h
theorem YB{α:Type}(L:Nat->List α)(c d:Nat->Nat):∀js:List Nat,(∀j∈js,(L j).length<=14*c j+d j)->(js.flatMap L).length<=14*(js.map c).sum+(js.map d).sum
 | [],_=>dG _
 |j::js,h=>by
  have ih:=YB L c d js λi hi=>h i (bh _ hi)
  grind
def É(hW:∀k,(bH k).length<=4)(j k:Nat):(qt bH j k).length<=8:=by
 have f1:(vz (bH j) (bH k)).length<=4:=dF (Ed _ _) (hW j);have f2:(vz (bH k) (bH j)).length<=4:=dF (Ed _ _) (hW k);unfold qt;grind
end
def qH(early:Bool)(tb:List bY)(m:Nat)(up:Nat->Nat)(bH:Nat->List Int):Nat->Nat->List b8
 |0,_=>[]
 |f+1,k=>(((.leaf::(bH k).map .inn)++if early=true then(v5 up bH tb k).map λt=>.tie t.1 t.2 else [])++(gV m up k).flatMap λj=>qH early tb m up bH f j++(qt bH j k++[.join]))++if early=true then []else(v5 up bH tb k).map λt=>.tie t.1 t.2
section
variable{n m:Nat}{up:Nat->Nat}{bH:Nat->List Int}{ts:List bY}
theorem SX(T:Tb n m up bH)(hW:∀k,(bH k).length<=wd){tb:List bY}(tn:tb.Nodup)(sub:∀t∈tb,t∈ts)(early:Bool):∀f k,k<m->m<=k+f->WK n wd m up bH ts tb k (qH early tb m up bH f k)
 |0,k,km,mk=>absurd km ()
 |f+1,k,km,mk=>by
  intro P G B hG hB
  have ů:∀v∈bH k,v∉G:=λv hv=>hG v ⟨k,.self km,hv⟩
  obtain⟨i1,i2⟩:=WD (n:=n) (wd:=wd) (ts:=ts) (bH k) (P:=P) (b:=[]) (G:=G) (B:=B) (T.nd k) (T.lt k) (λv _ z=>absurd z fu) ů (by have:=hW k;show 0+_<=_;omega)
  have kid:∀j∈gV m up k,0<j/\j<m/\up j=k:=λj hj=>(mY T).mp hj
  have kb:∀j∈gV m up k,∀r,qG m up j r->qG m up k r:=λj hj r b=>by
   obtain⟨j0,jm,ju⟩:=kid j hj
   exact qG.trans (.step j0 jm (by rw[ju];exact .self km)) b
  have jk:∀j∈gV m up k,¬qG m up j k:=λj hj z=>by
   obtain⟨j0,jm,ju⟩:=kid j hj
   have l1:=z.le T
   have l2:=T.ups j j0 jm
   omega
  have ih:∀j∈gV m up k,WK n wd m up bH ts tb j (qH early tb m up bH f j):=λj hj=>by
   obtain⟨j0,jm,ju⟩:=kid j hj
   have:=T.ups j j0 jm
   exact SX T hW tn sub early f j jm ()
  have a1:uE n wd ts ⟨P,G,B⟩ (.leaf::(bH k).map .inn):=by
   refine⟨⟨trivial,?_⟩,i1⟩
   show(Kp.mk (P++[[]]) G B).top.length<=wd
   rw[sX]
   exact dG _
  have e1:Hg ⟨P,G,B⟩ (.leaf::(bH k).map .inn)=⟨P++[bH k],G,B⟩:=by
   show Hg ⟨P++[[]],G,B⟩ ((bH k).map .inn)=_
   rw[i2,List.nil_append]
  cases early with
  |false =>
   obtain⟨G',B',a,e,mG,mB⟩:=QH (ts:=ts) T hW (L:=qH false tb m up bH f) (gV m up k) (Ia _ _ _) kid ih (P:=P) (b:=bH k) (G:=G) (B:=B) (wC _) (λj hj v ⟨r,b,hr⟩=>hG v ⟨r,kb j hj r b,hr⟩) ů (λj hj t ht r b=>hB t ht r (kb j hj r b))
   obtain⟨B2,a2,e2,mG2,mB2⟩:=a4q (ts:=ts) T hW km tn sub (P:=P) (wC _) hB mG mB
   refine⟨bH k,G',B2,wC _,?_,?_,mG2,mB2⟩
   ·unfold qH
    rw[aq cY,aq cY,mH]
    refine qp (qp a1 (by rw[e1];exact a)) ?_
    rw[nD,e1,e]
    exact a2
   ·unfold qH
    rw[aq cY,aq cY,mH,nD,nD,e1,e,e2]
  |true =>
   have mo:∀t,t∈v5 up bH tb k↔t∈tb/\jw up bH k t:=λt=>by
    unfold v5
    rw[lH,fj]
   obtain⟨t1,t2⟩:=QG (n:=n) (wd:=wd) (ts:=ts) (v5 up bH tb k) (P:=P) (b:=bH k) (G:=G) (B:=B) (tn.sublist Ui) (λt ht=>by
    obtain⟨h0,h⟩:=(mo t).mp ht
    exact⟨sub t h0,λz=>hB t z k (.self km) h,h.1,h.2.1⟩) (hW k)
   obtain⟨G',B',a,e,mG,mB⟩:=QH (ts:=ts) T hW (L:=qH true tb m up bH f) (gV m up k) (Ia _ _ _) kid ih (P:=P) (b:=bH k) (G:=G) (B:=B++v5 up bH tb k) (wC _) (λj hj v ⟨r,b,hr⟩=>hG v ⟨r,kb j hj r b,hr⟩) ů (λj hj t ht r b hr=>by
    rcases cL.mp ht with z|z
    ·exact hB t z r (kb j hj r b) hr
    ·exact jk j hj (vZ T hr ((mo t).mp z).2▸b))
   refine⟨bH k,G',B',wC _,?_,?_,λv=>?_,λt=>?_⟩
   ·unfold qH
    rw[aB Z,aB Z,mH]
    refine qp (qp a1 (by rw[e1];exact t1)) ?_
    rw[nD,e1,t2]
    exact a
   ·unfold qH
    rw[aB Z,aB Z,mH,nD,nD,e1,t2,e]
   ·rw[mG]
    constructor
    ·rintro(z|⟨j,hj,⟨r,br,hr⟩,z⟩)
     ·exact .inl z
     ·exact .inr ⟨⟨r,kb j hj r br,hr⟩,z⟩
    ·rintro(z|⟨⟨r,br,hr⟩,z⟩)
     ·exact .inl z
     ·rcases br.kid T with c|⟨j,j0,jm,ju,bj⟩
      ·exact absurd (c▸hr) z
      ·exact .inr ⟨j,(mY T).mpr ⟨j0,jm,ju⟩,⟨r,bj,hr⟩,z⟩
   ·rw[mB,cL,mo]
    constructor
    ·rintro((z|⟨z0,z⟩)|⟨z0,j,hj,r,br,hr⟩)
     ·exact .inl z
     ·exact .inr ⟨z0,k,.self km,z⟩
     ·exact .inr ⟨z0,r,kb j hj r br,hr⟩
    ·rintro(z|⟨z0,r,br,hr⟩)
     ·exact .inl (.inl z)
     ·rcases br.kid T with c|⟨j,j0,jm,ju,bj⟩
      ·exact .inl (.inr ⟨z0,c▸hr⟩)
      ·exact .inr ⟨z0,j,(mY T).mpr ⟨j0,jm,ju⟩,r,bj,hr⟩
theorem M9(T:Tb n m up bH)(hW:∀k,(bH k).length<=4)(early:Bool)(tb:List bY):∀f k,k<m->(qH early tb m up bH f k).length+9<=14*cR m up k+cT m up bH tb k
 |0,k,km=>by
  have h:=Yz T km
  show 0+9<=_
  omega
 |f+1,k,km=>by
  have h1:=Yz T km
  have h2:=a1J T km tb
  have hb:=hW k
  have h3:=YB (λj=>qH early tb m up bH f j++(qt bH j k++[b8.join])) (λj=>cR m up j) (λj=>cT m up bH tb j) (gV m up k) λj hj=>by
   obtain⟨j0,jm,ju⟩:=(mY T).mp hj
   have ih:=M9 T hW early tb f j jm
   have:=É hW j k
   grind
  unfold qH
  grind
def Nb(T:Tb n m up bH)(hW:∀k,(bH k).length<=4)(m20:m<=20)(early:Bool){tb:List bY}(a1K:tb.length<=100){f k:Nat}(km:k<m):(qH early tb m up bH f k).length<=400:=by
 have h:=M9 T hW early tb f k km;have h1:cR m up k<=m:=by
  unfold cR;exact dF List.countP_le_length ()
 have h2:cT m up bH tb k<=tb.length:=List.countP_le_length;omega
def BV(early:Bool)(tb:List bY)(m:Nat)(up:Nat->Nat)(bH:Nat->List Int)(d:Nat):List b8:=qH early tb m up bH d 0++(bH 0).map .out
def Ê{d:Nat}(T:Tb n m up bH)(dw:n<=10)(hW:∀k,(bH k).length<=wd)(tn:ts.Nodup)(inb:∀t∈ts,∃k,t.1∈bH k/\t.2∈bH k)(cov:∀v:Int,0<=v->v<(n:Int)->∃k,v∈bH k)(md:m<=d)(early:Bool):Bp n ts (BV early ts m up bH d) (cD n ts (BV early ts m up bH d))=.ok/\∀b∈(cD n ts (BV early ts m up bH d)).aR,b.length<=wd:=by
 obtain⟨b,G',B',pm,a,e,mG,mB⟩:=SX (ts:=ts) T hW tn (λ_ h=>h) early d 0 T.pos () [] [] [] (λv _ z=>absurd z fu) (λt ht=>absurd ht fu);obtain⟨o1,b',d1,d2,o2⟩:=QF (n:=n) (wd:=wd) (ts:=ts) (bH 0) (P:=[]) (b:=b) (G:=G') (B:=B') (T.nd 0) (pm.nodup_iff.mpr (T.nd 0)) (λv hv=>pm.mem_iff.mpr hv) (λv hv z=>by
  grind) (by rw[pm.length_eq];exact hW 0)
 have eb:b'=[]:=TQ.mpr λv hv=>((d2 v).mp hv).2 (pm.mem_iff.mp ((d2 v).mp hv).1);have A:uE n wd ts ⟨[],[],[]⟩ (BV early ts m up bH d):=qp a ();have E:Hg ⟨[],[],[]⟩ (BV early ts m up bH d)=⟨[[]],G'++bH 0,B'⟩:=by
  unfold BV;rw[nD,e,o2,eb];rfl
 have qY:=a6s dw A E (λv v0 vn=>by
  obtain⟨k,hk⟩:=cov v v0 vn;by_cases c:v∈bH 0
  ·grind
  ·refine sI _ ((mG v).mpr (.inr ⟨⟨k,SN T k (T.in_ hk),hk⟩,c⟩))) (λt=>by
  rw[mB];constructor
  ·grind
  ·intro z;obtain⟨k,k1,k2⟩:=inb t z;obtain⟨r,rm,hr⟩:=a1G T k k1 k2;exact .inr ⟨z,r,SN T r rm,hr⟩)
 exact⟨qY,È dw A qY⟩
end
abbrev rng(n:Nat):List Int:=(List.range n).map λi=>((i:Nat):Int)
def YC{n:Nat}{v:Int}:v∈rng n↔0<=v/\v<(n:Int):=by
 rw[dY];constructor
 ·grind
 ·rintro⟨h0,h1⟩;exact⟨v.toNat,nQ.mpr (),()⟩
def Ë(n:Nat):(rng n).Nodup:=by
 unfold List.Nodup;rw[Ek];exact List.pairwise_lt_range.imp λh=>by omega
def rD{rs:List Ca}{r:Ca}{k:Nat}(h:k<rs.length):rowAt (rs++[r]) k=rowAt rs k:=by
 unfold rowAt;grind
def vA{rs:List Ca}{r:Ca}:rowAt (rs++[r]) rs.length=r:=by
 unfold rowAt;grind
def Cd(rs:List Ca)(k:Nat):Nat:=((rowAt rs k).1.getD 0).toNat
def fH(rs:List Ca)(k:Nat):List Int:=(rowAt rs k).2
def DK{rs:List Ca}{k:Nat}(h:rs.length<=k):rowAt rs k=(none,[]):=by
 unfold rowAt;grind
def iD(rs:List Ca)(r:Ca)(k:Nat):fH (rs++[r]) k=if k=rs.length then r.2 else fH rs k:=by
 unfold fH;by_cases c:k=rs.length
 ·rw[aB c,c,vA]
 ·rw[aq c];by_cases d:k<rs.length
  ·rw[rD d]
  ·rw[DK (),DK ()]
def DN(rs:List Ca)(r:Ca)(k:Nat):Cd (rs++[r]) k=if k=rs.length then(r.1.getD 0).toNat else Cd rs k:=by
 unfold Cd;by_cases c:k=rs.length
 ·rw[aB c,c,vA]
 ·rw[aq c];by_cases d:k<rs.length
  ·rw[rD d]
  ·rw[DK (),DK ()]
structure Rw(n most:Nat)(rs:List Ca)(us:List Int):Prop where
 T:Tb n rs.length (Cd rs) (fH rs)
 r0:(rowAt rs 0).1=none
 ru:∀k,0<k->k<rs.length->(rowAt rs k).1=some ((Cd rs k:Nat):Int)
 nd:us.Nodup
 lt:∀v∈us,0<=v/\v<(n:Int)
 dis:∀v∈us,∀k,v∉fH rs k
 cov:∀v:Int,0<=v->v<(n:Int)->v∈us\/∃k,v∈fH rs k
 few:∀k,(fH rs k).length<=most
def DP(us:List Int)(c:Nat):us.take (us.length-c)++us.drop (us.length-c)=us:=xZ _ _
def a7G{n most c:Nat}{zs:List Int}(pm:us.Perm (rng n))(cm:c<=most)(hz:zs.Perm (us.drop (us.length-c)).reverse):Rw n most [(none,zs)] (us.take (us.length-c)):=by
 have ndu:us.Nodup:=pm.nodup_iff.mpr (Ë n);have inn:∀v∈us,0<=v/\v<(n:Int):=λv hv=>YC.mp (pm.mem_iff.mp hv);have Zv:=ndu;rw[<-DP us c]at Zv;obtain⟨n1,n2,dj⟩:=wz.mp Zv;have mz:∀v,v∈zs↔v∈us.drop (us.length-c):=λv=>by grind
 have bg:∀k,fH [(none,zs)] k=if k=0 then zs else []:=λk=>by
  cases k with
  |zero=>rfl
  |succ k=>rfl
 have lz:zs.length<=most:=by
  rw[hz.length_eq,Eh,lG];omega
 refine⟨⟨Nat.zero_lt_one,λk h0 h1=>?_,λk=>?_,λk v hv=>?_,λk h0 h1=>?_,λk hk=>?_⟩,Z,λk h0 h1=>?_,n1,λv hv=>inn v (nH hv),λv hv k hk=>?_,λv v0 v1=>?_,λk=>?_⟩
 ·grind
 ·grind
 ·grind
 ·grind
 ·grind
 ·grind
 ·grind
 ·have:v∈us:=pm.mem_iff.mpr (YC.mpr ⟨v0,v1⟩);rw[<-DP us c]at this;rcases cL.mp this with h|h
  ·exact .inl h
  ·exact .inr ⟨0,(mz v).mpr h⟩
 grind
def a4r{n most c f:Nat}{rs:List Ca}{ks zs:List Int}(W:Rw n most rs us)(fl:f<rs.length)(sb:List.Sublist ks (fH rs f))(lc:ks.length+c<=most)(hz:zs.Perm (ks++(us.drop (us.length-c)).reverse)):Rw n most (rs++[(some (f:Int),zs)]) (us.take (us.length-c)):=by
 have Zv:=W.nd;rw[<-DP us c]at Zv;obtain⟨n1,n2,dj⟩:=wz.mp Zv;have mz:∀v,v∈zs↔v∈ks\/v∈us.drop (us.length-c):=λv=>by rw[hz.mem_iff,cL,List.mem_reverse]
 have lz:zs.length<=most:=by
  rw[hz.length_eq,cC,Eh,lG];omega
 have ll:(rs++[((some (f:Int),zs):Ca)]).length=rs.length+1:=by rw[cC,Ec]
 have ndz:zs.Nodup:=hz.nodup_iff.mpr (wz.mpr ⟨(W.T.nd f).sublist sb,(List.reverse_perm _).nodup_iff.mpr n2,λx hx y hy e=>by
  subst e;exact W.dis x (Ao (List.mem_reverse.mp hy)) f (sb.subset hx)⟩)
 have un:Cd (rs++[((some (f:Int),zs):Ca)]) rs.length=f:=by
  rw[DN,aB rfl];rfl
 refine⟨⟨(),λk h0 h1=>?_,λk=>?_,λk v hv=>?_,λk h0 h1 v hv=>?_,λk hk=>?_⟩,?_,λk h0 h1=>?_,n1,λv hv=>W.lt v (nH hv),λv hv k hk=>?_,λv v0 v1=>?_,λk=>?_⟩
 ·rw[ll]at h1;by_cases e:k=rs.length
  ·subst e;rw[un];exact fl
  ·rw[DN,aq e];exact W.T.ups k h0 ()
 ·rw[iD];split
  ·exact ndz
  ·exact W.T.nd k
 ·rw[iD]at hv;split at hv
  ·rcases(mz v).mp hv with h|h
   ·exact W.T.lt f v (sb.subset h)
   ·exact W.lt v (Ao h)
  ·exact W.T.lt k v hv
 ·rw[ll]at h1;by_cases e:k=rs.length
  ·subst e;rw[un];rw[iD,aB rfl]at hv;rcases(mz v).mp hv with h|h
   ·refine .inl ?_;rw[iD,aq ()];exact sb.subset h
   ·refine .inr λj hj=>?_;rw[iD,aq ()];exact W.dis v (Ao h) j
  ·have kl:k<rs.length:=()
   rw[iD,aq e]at hv;rw[DN,aq e];have ul:=W.T.ups k h0 kl;rcases W.T.fr k h0 kl v hv with h|h
   ·refine .inl ?_;rw[iD,aq ()];exact h
   ·refine .inr λj hj=>?_;rw[iD,aq ()];exact h j hj
 ·rw[ll]at hk;rw[iD,aq ()];exact W.T.no k ()
 ·rw[rD W.T.pos];exact W.r0
 ·rw[ll]at h1;by_cases e:k=rs.length
  ·subst e;rw[un,vA]
  ·rw[DN,aq e,rD ()];exact W.ru k h0 ()
 ·rw[iD]at hk;split at hk
  ·rcases(mz v).mp hk with h|h
   ·exact W.dis v (nH hv) f (sb.subset h)
   ·exact dj v hv v h rfl
  ·exact W.dis v (nH hv) k hk
 ·rcases W.cov v v0 v1 with h|⟨k,h⟩
  ·rw[<-DP us c]at h;rcases cL.mp h with h|h
   ·exact .inl h
   ·refine .inr ⟨rs.length,?_⟩;rw[iD,aB rfl];exact(mz v).mpr (.inr h)
  ·refine .inr ⟨k,?_⟩;have kl:=W.T.in_ h;rw[iD,aq ()];exact h
 ·rw[iD];split
  ·exact lz
  ·exact W.few k
def RwX(ex:List Addr)(H:Hp)(v:V)(r:Ca):Prop:=∃p b,v=.ref p/\H p=some (.tup [upV r.1,.ref b])/\H b=some (.lst (r.2.map V.int))/\b∉ex/\r.2.length<=1000
def RwX.same{ex:List Addr}{H H':Hp}{v:V}{r:Ca}(s:aJ H H')(h:RwX ex H v r):RwX ex H' v r:=by
 obtain⟨p,b,e,h1,h2,h3⟩:=h;exact⟨p,b,e,s _ _ h1,s _ _ h2,h3⟩
def RwX.chg{ex:List Addr}{H H':Hp}{l:Addr}{xs:List V}{o:HO}{v:V}{r:Ca}(hl:H l=some (.lst xs))(c:uP H l o H')(m:l∈ex)(h:RwX ex H v r):RwX ex H' v r:=by
 obtain⟨p,b,e,h1,h2,h3,h4⟩:=h;exact⟨p,b,e,(c.rest p λz=>by grind).trans h1,(c.rest b λz=>h3 (z▸m)).trans h2,h3,h4⟩
def RwX.l{ex:List Addr}{l:Addr}{H:Hp}{v:V}{r:Ca}(m:l∈ex)(h:RwX ex H v r):PN l H v r:=by
 obtain⟨p,b,e,h1,h2,h3,h4⟩:=h;exact⟨p,b,e,h1,h2,λz=>h3 (z▸m),h4⟩
def YD{ix:List (Option Nat)}{tt:TT}{te:TE}{H:Hp}{Q:VK}{pl:Addr}{c:Nat}{lo:Int}(h:H pl=some (.lst (us.map V.int)))(hc:c<=us.length)(lu:us.length<=900)
  (hs:∀(i:Nat) (H':Hp) (xs:List V) (y:V) (N:VK) (Z98:Hp->Prop),H' pl=some (.lst (xs++[y]))->(∀H2,uP H' pl (.lst xs) H2->N y H2)->g (.int (lo+i)) (rF ix σ) H' λσ2 H2=>tt σ2 H2 λb H3=>if b=true then te σ2 H3 N else Z98 H3)
  (hd:∀H1 p H2,uP H pl (.lst ((us.take (us.length-c)).map V.int)) H1->gZ H1 p (.lst ((us.drop (us.length-c)).reverse.map V.int)) H2->Q (.ref p) H2):nR ix g tt te σ H Q (Xb lo c):=by
 refine yu (λi ys H'=>ys=(us.drop (us.length-i)).reverse.map V.int/\uP H pl (.lst ((us.take (us.length-i)).map V.int)) H') ⟨?_,?_,λ_ _=>rfl⟩ (λi ys H' hi ⟨e,_⟩=>?_) (λi ys H' hi ⟨e,c1⟩=>?_) (λys H' ⟨e,c1⟩ p hp=>?_)
 ·rw[Bc,List.drop_length];rfl
 ·rw[Bc,iV];exact h
 ·rw[e,aM,Eh,lG];exact d7 (cO ())
 ·have jl:us.length-(i+1)<us.length:=()
  have e1:us.length-i=us.length-(i+1)+1:=()
  have et:us.take (us.length-i)=us.take (us.length-(i+1))++[us[us.length-(i+1)]]:=by rw[e1,Af jl]
  have ed:us.drop (us.length-(i+1))=us[us.length-(i+1)]::us.drop (us.length-i):=by rw[Ih jl,e1]
  have h1:=c1.here;rw[et,eO]at h1;refine hs i H' _ _ (λv H4=>ys++[v]=(us.drop (us.length-(i+1))).reverse.map V.int/\uP H pl (.lst ((us.take (us.length-(i+1))).map V.int)) H4) _ h1 λH2 c2=>⟨?_,c2.here,λb hb=>(c2.rest b hb).trans (c1.rest b hb)⟩;rw[e,ed,List.reverse_cons,eO];rfl
 ·subst e;exact hd H' p _ c1 (gZ.oM hp)
abbrev tV:Stmt:=top 40
def BW:bB ["_law_script","_law_k","_law_base"] Mx (aD tV):={}
inductive a7H(K:aH)(vs:List V)(H:Hp)(Q:VK)(u_3:XK):Prop
 |mk (a:Addr) (ns:List Int) (k:Int) (_:vs=[.ref a,.int k]) (_:Ü K H a ns) (_:ns.length<=63) (_:0<=k) (_:k<=1000) (_:∀z,Q (.int z) H)
inductive tO(H:Hp)(v:V)(s:b8):Prop
 |mk (p:_) (_:v=.ref p) (_:H p=some (.tup s.vs))
def tO.same{H H':Hp}{v:V}{s:b8}(e:aJ H H')(h:tO H v s):tO H' v s:=by
 obtain⟨p,rfl,h⟩:=h;exact⟨p,Z,e _ _ h⟩
def tO.v{K:aH}{H:Hp}{v:V}{s:b8}(h:tO H v s):vh K H v s:=by
 obtain⟨p,rfl,h⟩:=h;exact⟨p,Z,cH.of h⟩
def BX(B:Bl mg)(qw:Dn K mg "_law_at" tV Mx):aZ P w K mg base fV 1 qw.f qw.fd Mx (a7H K):=by
 exists qw.F.ok BW;obtain⟨a,ns,k,rfl,hS,h63,k0,k1,q⟩:=h;have hA:=hS.seq;refine⟨_,(aG (dH (aL FT (pv 1) (bG (cP (K:=K) Z) Z B.len () (J (pv 0) ao)))
   (aF (bA (aO (bF (K:=K) Z) (pv 0) (pv 1))))
   bK)
   (aG (bD 2 BW.nd aA)
   (kI (dH (aL Jj (bG (cP (K:=K) Z) Z B.len () (J (pv 0) ao)) aA)
   (aF (bD 2 BW.nd (bQ jL (aO (bF (K:=K) Z) (pv 0) (bQ jL (bQ fL (bQ wJ (pv 1) aA) aA) (bG (cP (K:=K) Z) Z B.len () (J (pv 0) ao)))) aA)))
   bK)
   (aF (bA (bQ jL (bQ wJ (bQ fL (bQ fL (pv 2) (bQ wJ aA (pv 1))) aA) (bQ fL (bQ fL (bQ wJ (pv 2) aA) (bQ wJ (pv 1) (pv 1))) aA)) aA)))))),?_⟩
 have hl:(ns.map V.int).length=ns.length:=aM _;refine⟨_,Z,_,Z,a,_,Z,.inl hA,_,_,Z,Z,_,Z,vd (λc=>?_) λc=>?_⟩
 ·have c':k<(((ns.map V.int).length:Nat):Int):=gn c;rw[hl]at c';exact⟨_,Z,_,Z,a,_,_,_,Z,Z,hA,Xo k0 c',q _⟩
 refine⟨λσ' H'=>∃b:Int,-(2^32)<b/\b<2^32/\σ'=[some (.ref a),some (.int k),some (.int b)]/\H'=H,?_,?_⟩
 ·refine⟨_,Z,a,_,Z,.inl hA,_,_,Z,Z,_,Z,?_⟩;refine vd (λc2=>?_) (λc2=>⟨107,(),(),Z,Z⟩);have c2':(0:Int)<(((ns.map V.int).length:Nat):Int):=gn c2;rw[hl]at c2';have m0:=sO (k*7+3) (show(ns.length:Int)≠0 by omega);have m1:=sJ (k*7+3) c2';refine⟨_,Z,_,Z,_,_,Z,Z,.inr ⟨(),()⟩,_,_,Z,Z,_,Z,a,_,Z,.inl hA,_,_,Z,Z,(by rw[hl];exact c2'),a,_,_,_,Z,Z,hA,(by rw[hl];exact Xo m0 m1),_,_,Z,Z,(show(0:Int)<_ by decide),?_⟩;have e0:=sO (ns.getD ((k*7+3)%(ns.length:Int)).toNat 0) (show(999853:Int)≠0 by decide);have e1:=sJ (ns.getD ((k*7+3)%(ns.length:Int)).toNat 0) (show(0:Int)<999853 by decide);exact⟨_,(),(),Z,Z⟩
 rintro σ' H' ⟨b,b0,b1,rfl,rfl⟩;refine⟨_,Z,_,Z,_,_,Z,Z,.inl ⟨(),()⟩,_,_,Z,Z,_,_,Z,Z,_,Z,_,_,Z,Z,.inr ⟨(),()⟩,_,Z,_,Z,_,_,Z,Z,.inl ⟨(),()⟩,_,_,Z,Z,_,_,Z,Z,_,_,Z,Z,.inl ⟨(),()⟩,_,_,Z,Z,(show(0:Int)<_ by decide),q _⟩
abbrev uU:Stmt:=top 41
def iw:bB ["_law_script","_law_n","_law_most","_law_keys","_law_left","_law_many","_law_rows_here","_law_k","_law_up","_law_bag","_law_fresh"] X6 (aD uU):={}
inductive Ű(K:aH)(vs:List V)(H:Hp)(Q:VK)(u_3:XK):Prop
 |mk (a:Addr) (ns:List Int) (n most:Nat) (_:vs=[.ref a,.int n,.int most]) (_:Ü K H a ns) (_:ns.length<=63) (_:n<=10) (_:1<=most) (_:most<=10) (_:∀l xs rs H',aJ H H'->H l=none->H' l=some (.lst xs)->Paired (PN l H') xs rs->Rw n most rs []->rs.length<=20->Q (.ref l) H')
inductive RowW(K:aH)(a l pl:Addr)(v3:Option V)(n most many:Nat)(H:Hp)(m:Nat)(σ:St)(H':Hp):Prop
 |mk (xs:List V) (rs:List Ca) (us:List Int) (v7 v8 v9 v10:Option V) (_:σ=[some (.ref a),some (.int n),some (.int most),v3,some (.ref pl),some (.int many),some (.ref l),v7,v8,v9,v10]) (_:aJ H H') (_:H' l=some (.lst xs)) (_:H' pl=some (.lst (us.map V.int))) (_:Paired (RwX [l,pl] H') xs rs) (_:Rw n most rs us) (_:m=(many-rs.length)+us.length) (_:rs.length<=many+(n-us.length)) (_:us.length<=n)
def Ì(xs:List V)(k:Nat):u9 xs none (some (k:Int))=xs.take k:=by
 unfold u9;have e1:HT.lK xs.length xs.length (some (k:Int))=min k xs.length:=HT.Pr _ _ k;have e2:HT.lK xs.length 0 none=0:=rfl;grind
def a1L{l:List Nat}{n:Nat}(h:l.Perm (List.range n)):(l.map λi=>((i:Nat):Int)).Perm (rng n):=h.map _
def orQ{a b:TT}{H:Hp}{Q:Bool->Hp->Prop}{c1 c2:Bool}(h1:∀Q:Bool->Hp->Prop,Q c1 H->a σ H Q)(h2:∀Q:Bool->Hp->Prop,Q c2 H->b σ H Q)(h:Q (c1||c2) H):tOr a b σ H Q:=by
 refine h1 _ ?_;cases c1 with
 |false=>exact cX (h2 _ h)
 |true=>exact gY h
def QJ(B:Bl mg)(qw:Dn K mg "_law_at" tV Mx)(dZ6:Dn K mg "_law_rows" uU X6):aZ P w K mg base fV 2 dZ6.f dZ6.fd X6 (Ű K):=by
 have S5:aZ P w K mg base fV 1 _ _ _ _:=BX B qw;exists dZ6.F.ok iw;obtain⟨a,ns,n,most,rfl,hS,h63,dw,m1,m10,q⟩:=h;refine⟨_,(aG (bD 3 iw.nd (bG (Qa (K:=K) Z) Z B.sorted () (J (kE X7 [none,some 0]  (by kernel_rfl) Z (jX Z B.range (J (pv 1) ao)) (λ_ _ _ _ _=>(aP 0 (show(X7:List Str).Nodup by decide))) (λ_ _ _ _ _=>gB) λ_ _ _ _ _=>(bf (J (bQ jL (aY S5 hr Z qw.m qw.F.kp qw.b .nil bW (J (pv 1) (J (bQ fL aA (pv 0)) ao))) aA) (J (pv 0) ao)))) ao)))
   (aG (bD 4 iw.nd (kE ["_law_key","_law_v"] [none,none]  (by kernel_rfl) Z (fM (K:=K) Z (pv 3)) (λ_ _ _ _ _=>(jN (K:=K) (n:=2) Z Z (cu (aP 0 (show(["_law_key","_law_v"]:List Str).Nodup by decide)) (cu (aP 1 (show(["_law_key","_law_v"]:List Str).Nodup by decide)) jz)))) (λ_ _ _ _ _=>gB) λ_ _ _ _ _=>(pv 1)))
   (aG (bD 5 iw.nd (bQ fL aA (bQ jL (aY S5 hr Z qw.m qw.F.kp qw.b .nil bW (J (pv 0) (J aA ao))) aA)))
   (aG (bD 6 iw.nd (cI (J (bf (J oY (J (kE ["_law_k","_law_left"] [none,some 4]  (by kernel_rfl) Z (jX Z B.range (J (bG (Mf Z) Z B.min () (J (bG (cP (K:=K) Z) Z B.len () (J (pv 4) ao)) (J (bQ fL aA (bQ jL (aY S5 hr Z qw.m qw.F.kp qw.b .nil bW (J (pv 0) (J aA ao))) (pv 2))) ao))) ao)) (λ_ _ _ _ _=>(aP 0 (show(["_law_k","_law_left"]:List Str).Nodup by decide))) (λ_ _ _ _ _=>gB) λ_ _ _ _ _=>(tD (K:=K) Z lE Ub Uc Hy (pv 1))) ao))) ao)))
   (aG (ú jJ (PW.pt (FQ (aL FT (bG (cP (K:=K) Z) Z B.len () (J (pv 6) ao)) (pv 5)) (Ew (aL Jj (bG (cP (K:=K) Z) Z B.len () (J (pv 4) ao)) aA))))
   (aG (bD 7 iw.nd (bG (cP (K:=K) Z) Z B.len () (J (pv 6) ao)))
   (aG (bD 8 iw.nd (bQ jL (aY S5 hr Z qw.m qw.F.kp qw.b .nil bW (J (pv 0) (J (bQ fL aA (pv 7)) ao))) (pv 7)))
   (aG (bD 9 iw.nd (jD (yw (K:=K) Z) (kE ["_law_v","_law_script","_law_k"] [none,some 0,some 7]  (by kernel_rfl) Z (fM (K:=K) Z (aO (aK (K:=K) Z) (aO (bF (K:=K) Z) (pv 6) (pv 8)) aA)) (λ_ _ _ _ _=>(aP 0 (show(["_law_v","_law_script","_law_k"]:List Str).Nodup by decide))) (λ_ _ _ _ _=>(wQ (aL Jj (bQ jL (aY S5 hr Z qw.m qw.F.kp qw.b .nil bW (J (pv 1) (J (bQ fL (bQ fL aA (bQ wJ aA (pv 2))) (pv 0)) ao))) aA) aA))) λ_ _ _ _ _=>(pv 0)) lV (lW (bQ Vd (pv 2) aA))))
   (aG (bD 10 iw.nd (bQ fL aA (bQ jL (aY S5 hr Z qw.m qw.F.kp qw.b .nil bW (J (pv 0) (J (bQ fL aA (pv 7)) ao))) (bQ Vd (pv 2) (bG (cP (K:=K) Z) Z B.len () (J (pv 9) ao))))))
   (aF (gW (nU (K:=K) Z lE PySem.F.slot_list_append PySem.F.type_list_append jO (pv 6) (J (bf (J (pv 8) (J (bQ pG (pv 9) (kE ["_law_j","_law_left"] [none,some 4]  (by kernel_rfl) Z (jX Z B.range (J (bG (Mf Z) Z B.min () (J (pv 10) (J (bG (cP (K:=K) Z) Z B.len () (J (pv 4) ao)) ao))) ao)) (λ_ _ _ _ _=>(aP 0 (show(["_law_j","_law_left"]:List Str).Nodup by decide))) (λ_ _ _ _ _=>gB) λ_ _ _ _ _=>(tD (K:=K) Z PySem.F.plainAttrs_list PySem.F.slot_list_pop PySem.F.type_list_pop Hy (pv 1)))) ao))) ao)))))))))
   (aF (bA (pv 6)))))))),?_⟩
 refine⟨_,Z,_,Z,(),(),?_⟩;rw[j5];refine yu (λi ys H'=>∃(ps:List Addr) (zs:List Int),ys=ps.map V.ref/\ps.length=i/\zs.length=i/\aJ H H'/\∀k p,ps[k]?=some p->H' p=some (.tup [.int (zs.getD k 0),.int (k:Int)])) ⟨[],[],Z,Z,Z,aJ.refl _,λk p h=>by cases h⟩ (λi ys H' hi ⟨ps,zs,e,l,_⟩=>?_) (λi ys H1 hi ⟨ps,zs,e,l,lz,s1,hp⟩=>?_) ?_
 ·rw[e,aM,l];exact d7 (cO ())
 ·refine⟨_,Z,_,Z,_,_,Z,Z,a,ns,_,Z,hS.same s1,h63,(),(),λz=>⟨_,_,Z,Z,(show(0:Int)<_ by decide),_,Z,(),λp2 H2 n2=>?_⟩⟩;obtain⟨z,nz⟩:∃z,gZ H1 p2 (.tup [.int z,.int (0+(i:Int))]) H2:=⟨_,n2⟩;refine⟨ps++[p2],zs++[z],by rw[e,eO];rfl,by rw[cC,l];rfl,by rw[cC,lz];rfl,s1.trans n2.same,λk p hk=>?_⟩;by_cases c:k<ps.length
  ·rw[Ai c]at hk;have:=n2.same _ _ (hp k p hk);rw[fK,Ai (),<-fK];exact this
  ·have k1:=(fY.mp hk).1;rw[cC]at k1;have ek:k=i:=by
    have:k<ps.length+1:=k1;omega
   subst ek;rw[Ah (),l,Er]at hk;cases hk;rw[fK,Ah (),lz,Er];have:=nz.here;rw[show(0+(k:Int))=(k:Int) by omega]at this;exact this
 rintro ys H1 ⟨ps,zs,rfl,l,lz,s1,hp⟩ pk hpk;have n2:=gZ.oM (H:=H1) (p:=pk) (o:=.lst (ps.map V.ref)) hpk;generalize cM H1 pk (.lst (ps.map V.ref))=H2 at n2 ⊢;have s2:aJ H H2:=s1.trans n2.same;refine⟨pk,ps.map V.ref,(List.range n).map λk=>[zs.getD k 0,(k:Int)],Z,bI.of n2.here,?_,λns h=>?_,by rw[aM];omega,λqq p3 H3 pq _ n3=>?_⟩
 ·have all:∀(m:Nat),m<=n->Paired (a3q K H2) ((ps.take m).map V.ref) ((List.range m).map λk=>[zs.getD k 0,(k:Int)]):=λm=>by
   induction m with
   |zero=>intro _;exact .nil
   |succ m ih =>
    intro hm;have hml:m<ps.length:=()
    rw[Af hml,eO,wA,eO];exact dh (ih ()) ⟨ps[m],Z,cH.of (n2.same _ _ (hp m _ (bL hml)))⟩
  have:=all n (aN _);rw[Il ()]at this;exact this
 ·obtain⟨k,_,rfl⟩:=dY.mp h;exact λz=>by cases z
 have pq':qq.Perm (List.range n):=by rw[aM,l]at pq;exact pq
 have lq:qq.length=n:=by rw[pq'.length_eq,qJ]
 refine⟨_,Z,p3,Z,⟨_,bI.of n3.here⟩,uN (K:=K) (a:=p3) (xs:=qq.map λi=>(ps.map V.ref).getD i V.non) (λi ys H'=>ys=uI (qq.take i)/\aJ H3 H') ⟨Z,aJ.refl _⟩ (λi ys H' hi ⟨e,s⟩=>⟨bI.of (s _ _ n3.here),?_⟩) (λi x ys H4 hx ⟨e,s4⟩=>?_) λys H4 ⟨e,s4⟩ p5 hp5=>?_⟩
 ·rw[e,aM,fZ];exact d7 (cO ())
 ·rw[gk]at hx;obtain⟨k,hk,rfl⟩:=oR.mp hx;have kn:k<n:=nQ.mp (pq'.mem_iff.mp (jf hk));have kl:k<ps.length:=()
  have ex:(ps.map V.ref).getD k V.non=V.ref ps[k]:=by rw[fK,gk,bL kl];rfl
  rw[ex];have ht:=(n2.same.trans (n3.same.trans s4)) _ _ (hp k _ (bL kl));refine⟨ps[k],_,Z,cH.of ht,Z,_,_,Z,_,_,Z,Z,_,Z,?_,s4⟩;obtain⟨hil,hik⟩:=fY.mp hk;rw[e,Af hil,hik];unfold uI;rw[eO];rfl
 subst e;rw[aM,iV];have n5:gZ H4 p5 (.lst (uI qq)) (cM H4 p5 (.lst (uI qq))):=gZ.oM hp5;generalize cM H4 p5 (.lst (uI qq))=H5 at n5;have s5:=s2.trans (n3.same.trans (s4.trans n5.same));obtain⟨us,eus⟩:∃us:List Int,us=qq.map λi=>((i:Nat):Int):=⟨_,Z⟩;have pu:us.Perm (rng n):=by rw[eus];exact a1L pq'
 have lu:us.length=n:=by rw[pu.length_eq,aM,qJ]
 have h5:H5 p5=some (.lst (us.map V.int)):=by
  rw[n5.here,eus];unfold uI;rw[mL];rfl
 have f5:H p5=none:=s2.free (n3.same.free (s4.free n5.fresh));refine⟨_,Z,a,ns,2,Z,hS.same s5,h63,(),(),λzm=>⟨_,_,Z,Z,(show(0:Int)<_ by decide),_,_,Z,Z,?_⟩⟩;have y0:=sO zm (show(4:Int)≠0 by decide);have y1:=sJ zm (show(0:Int)<4 by decide);obtain⟨many,em⟩:∃k:Nat,1+zm%4=(k:Int):=⟨(1+zm%4).toNat,()⟩;dsimp only;rw[em];refine⟨_,Z,p5,_,Z,.inl (bI.of h5),_,Z,a,ns,3,Z,hS.same s5,h63,(),(),λz3=>?_⟩;have w0:=sO z3 (show(most:Int)≠0 by omega);have w1:=sJ z3 (show(0:Int)<(most:Int) by omega);refine⟨_,Z,_,_,Z,Z,(show(0:Int)<(most:Int) by omega),_,_,Z,Z,_,_,Z,?_⟩;obtain⟨c,ec,c1,c2⟩:∃c:Nat,(if 1+z3%(most:Int)<(((us.map V.int).length:Nat):Int)then 1+z3%(most:Int)else(((us.map V.int).length:Nat):Int))=(c:Int)/\c<=most/\c<=us.length:=by
  rw[aM];split
  ·exact⟨(1+z3%(most:Int)).toNat,(),(),()⟩
  ·exact⟨us.length,Z,(),aN _⟩
 rw[ec];refine⟨_,Z,(),(),?_⟩;rw[j5];refine YD h5 c2 () (λi H' xs y N Z98 h q=>⟨_,Z,.inl ⟨Z,_,bI.of h⟩,p5,xs,y,Z,Z,h,q⟩) (λH9 p9 Z7 c9 dw=>?_);refine⟨(),λp11 Þ Ft=>⟨(),λpr Wo n12=>?_⟩⟩;have a7I:Wo p5=some (.lst ((us.take (us.length-c)).map V.int)):=n12.same _ _ (Ft.same _ _ (dw.same _ _ c9.here));have a6t:p5≠pr:=λz=>by have:=n12.fresh;rw[<-z,Ft.same _ _ (dw.same _ _ c9.here)]at this;cases this
 have s12:aJ H Wo:=(s5.chg f5 c9).trans (dw.same.trans (Ft.same.trans n12.same));have f8:H pr=none:=(s5.chg f5 c9).free (dw.same.free (Ft.same.free n12.fresh));have ne9:p9∉[pr,p5]:=λhm=>by
  rcases bU.mp hm with hm|hm
  ·have:=n12.fresh;rw[<-hm,Ft.same _ _ dw.here]at this;cases this
  ·have:=dw.fresh;rw[bM.mp hm,c9.here]at this;cases this
 have W0:=a7G (most:=most) (c:=c) pu c1 (wC _);have lt:(us.take (us.length-c)).length=us.length-c:=by rw[fZ];omega
 refine⟨RowW K a pr p5 (some (.ref p3)) n most many H,⟨_,[.ref p11],[(none,(us.drop (us.length-c)).reverse)],_,none,none,none,none,Z,s12,n12.here,a7I,.cons ⟨p11,p9,Z,n12.same _ _ Ft.here,n12.same _ _ (Ft.same _ _ dw.here),ne9,?_⟩ .nil,W0,Z,?_,?_⟩,?_⟩
 ·show((us.drop (us.length-c)).reverse).length<=1000;rw[Eh,lG];omega
 ·show 1<=_;omega
 ·rw[lt];omega
 rintro m σ H1 ⟨xs,rs,us,v7,v8,v9,v10,rfl,s1,hl,hpl,hpr,W,em',b1,b2⟩;have lx:xs.length=rs.length:=aQ hpr;have hS1:=hS.same s1;have r1:=W.T.pos;refine orQ (c1:=decide (((xs.length:Nat):Int)<(many:Int))) (c2:=decide ((((us.map V.int).length:Nat):Int)>0)) (λQ h=>⟨_,Z,pr,_,Z,.inl (bI.of hl),_,Z,_,_,Z,Z,_,Z,h⟩) (λQ h=>⟨_,Z,p5,_,Z,.inl (bI.of hpl),_,_,Z,Z,_,Z,h⟩) (vd (λc=>?_) λc=>?_)
 rotate_left
 ·have cd:¬((xs.length:Nat):Int)<(many:Int)/\¬(((us.map V.int).length:Nat):Int)>0:=by simpa using c
  rw[aM]at cd;have e0:us=[]:=List.eq_nil_of_length_eq_zero ();rw[e0]at W;exact⟨_,Z,q pr xs rs H1 s1 f8 hl (Paired.cB hpr λ_ _ h=>h.l aV) W ()⟩
 all_goals
  have hc:rs.length<many\/(many<=rs.length/\0<us.length):=by
   have cd:((xs.length:Nat):Int)<(many:Int)\/(((us.map V.int).length:Nat):Int)>0:=by
    rcases Bool.or_eq_true_iff.mp c with z|z
    ·exact .inl (gn z)
    ·exact .inr (gn z)
   rw[aM]at cd;omega
  refine⟨λσ' H'=>∃m',m'<m/\RowW K a pr p5 (some (.ref p3)) n most many H m' σ' H',λ_ _ h=>h,⟨_,Z,pr,_,Z,.inl (bI.of hl),?_⟩⟩;rw[lx];refine⟨_,Z,_,Z,_,_,Z,Z,a,ns,_,Z,hS1,h63,(),(),λz=>?_⟩;have u0:=sO z (show((rs.length:Nat):Int)≠0 by omega);have u1:=sJ z (show(0:Int)<((rs.length:Nat):Int) by omega);refine⟨_,Z,_,_,Z,Z,(show(0:Int)<((rs.length:Nat):Int) by omega),?_⟩;obtain⟨f,ef⟩:∃f:Nat,z%((rs.length:Nat):Int)=(f:Int):=⟨(z%((rs.length:Nat):Int)).toNat,()⟩;dsimp only;rw[ef];have fl:f<rs.length:=()
  obtain⟨v,hx,⟨pt,bb,rfl,hT,hbb,hbl,_⟩⟩:=cU hpr (vI fl);have lf:(rowAt rs f).2.length<=most:=W.few f;refine⟨_,Z,_,Z,pr,_,_,_,Z,Z,bI.of hl,cA hx,pt,_,_,_,Z,Z,cH.of hT,Z,bb,Z,⟨_,bI.of hbb⟩,uN (K:=K) (a:=bb) (xs:=(rowAt rs f).2.map V.int) (λi ys H'=>∃ks:List Int,ys=ks.map V.int/\List.Sublist ks ((rowAt rs f).2.take i)/\aJ H1 H') ⟨[],Z,List.nil_sublist _,aJ.refl _⟩ (λi ys H' hi ⟨ks,e,sb,s⟩=>⟨bI.of (s _ _ hbb),?_⟩) (λi x ys H2 hx ⟨ks,e,sb,s2⟩=>?_) λys H2 ⟨ks,e,sb,s2⟩ p3' hp3=>?_⟩
  ·have:=sb.length_le;rw[fZ]at this;rw[e,aM];exact d7 (cO ())
  ·rw[gk]at hx;obtain⟨u,hu,rfl⟩:=oR.mp hx;have et:(rowAt rs f).2.take (i+1)=(rowAt rs f).2.take i++[u]:=by rw[mK,hu];rfl
   have ub:=W.T.lt f u (jf hu);refine⟨_,Z,_,Z,_,_,Z,Z,.inl ⟨(),()⟩,_,_,Z,Z,_,Z,_,_,Z,Z,a,ns,_,Z,hS1.same s2,h63,(),(),λz4=>⟨_,_,Z,Z,(show(0:Int)<_ by decide),_,_,Z,Z,_,Z,vd (λc4=>⟨_,Z,ks++[u],by rw[e,eO];rfl,by rw[et];exact sb.append (List.Sublist.refl _),s2⟩) λc4=>⟨ks,e,by rw[et];exact sb.trans (List.sublist_append_left _ _),s2⟩⟩⟩
  subst e;rw[aM,iV]at sb;have n3:gZ H2 p3' (.lst (ks.map V.int)) (cM H2 p3' (.lst (ks.map V.int))):=gZ.oM hp3;generalize cM H2 p3' (.lst (ks.map V.int))=H3 at n3 ⊢;have w5:=s2.trans n3.same;have lk:=sb.length_le;have hl3:=w5 _ _ hl;refine⟨_,Z,_,_,Z,Z,_,Z,p3',_,Z,bI.of n3.here,λpb H4 n4=>?_⟩;have e1:(most:Int)-1=((most-1:Nat):Int):=()
  rw[e1,Ì,<-U6]at n4;have ß:=w5.trans n4.same;have hpb:=n4.here;have fpb:H1 pb=none:=w5.free n4.fresh;replace sb:=(Oh (most-1) ks).trans sb;have km:(ks.take (most-1)).length+1<=most:=by rw[fZ];omega
  generalize ks.take (most-1)=ks at hpb sb km;refine⟨_,Z,_,Z,_,_,Z,Z,a,ns,_,Z,hS1.same ß,h63,(),(),λz5=>?_⟩;have t0:=sO z5 (show(most:Int)-((ks.length:Nat):Int)≠0 by omega);have t1:=sJ z5 (show(0:Int)<(most:Int)-((ks.length:Nat):Int) by omega);refine⟨_,Z,_,Z,pb,_,Z,.inl (bI.of hpb),_,_,Z,Z,_,_,Z,Z,(by rw[aM];show(0:Int)<(most:Int)-((ks.length:Nat):Int);omega),_,_,Z,Z,?_⟩;rw[aM];dsimp only;obtain⟨fr,efr⟩:∃fr:Nat,1+z5%((most:Int)-((ks.length:Nat):Int))=(fr:Int):=⟨(1+z5%((most:Int)-((ks.length:Nat):Int))).toNat,()⟩;rw[efr];have frm:ks.length+fr<=most:=()
  have fr1:1<=fr:=()
  clear efr t0;have a4s:=ß _ _ hpl;have hl4:=ß _ _ hl;refine⟨_,Z,.inl ⟨Z,_,bI.of hl4⟩,_,Z,_,Z,_,Z,_,Z,p5,_,Z,.inl (bI.of a4s),_,_,Z,?_⟩;obtain⟨c,ec,c1,c2,c3⟩:∃c:Nat,(if(((us.map V.int).length:Nat):Int)<(fr:Int)then(((us.map V.int).length:Nat):Int)else(fr:Int))=(c:Int)/\c<=fr/\c<=us.length/\(1<=fr->0<us.length->1<=c):=by
   rw[aM];split
   ·exact⟨us.length,Z,(),aN _,λ_ h=>h⟩
   ·exact⟨fr,Z,aN _,(),λh _=>h⟩
  rw[ec];clear ec;refine⟨_,Z,(),(),?_⟩;rw[j5];refine YD a4s c2 () (λi H' xs y N Z98 h q=>⟨_,Z,.inl ⟨Z,_,bI.of h⟩,p5,xs,y,Z,Z,h,q⟩) (λH6 p7 H7 c6 n7=>?_);have nb5:pb≠p5:=λz=>by rw[z,hpl]at fpb;cases fpb
  have nl5:pr≠p5:=a6t.symm;have hb7:=n7.same _ _ ((c6.rest pb nb5).trans hpb);refine⟨pb,p7,_,_,Z,Z,hb7,n7.here,(by rw[aM,aM,Eh,lG];omega),λp8 H8 n8'=>?_⟩;rw[<-eO]at n8';have hl8:=n8'.same _ _ (n7.same _ _ ((c6.rest pr nl5).trans hl4));have hp8:=n8'.same _ _ (n7.same _ _ c6.here);refine⟨(),λp10 Z7 uJ=>?_⟩;have a4t:=uJ.same _ _ hl8;have a7J:=uJ.same _ _ hp8;refine⟨pr,_,_,Z,Z,a4t,(),λÞ c11=>?_⟩;have lks:=sb.length_le;have W2:=a4r (c:=c) W fl sb () (wC _);have lt2:(us.take (us.length-c)).length=us.length-c:=by rw[fZ];omega
  have s8':aJ H6 Z7:=n7.same.trans (n8'.same.trans uJ.same);have x8:p8∉[pr,p5]:=λhm=>by
   have f:=n8'.fresh;rcases bU.mp hm with hm|hm
   ·rw[hm,n7.same _ _ ((c6.rest pr nl5).trans hl4)]at f;cases f
   ·rw[bM.mp hm,n7.same _ _ c6.here]at f;cases f
  refine⟨_,?_,xs++[.ref p10],rs++[(some (f:Int),ks++(us.drop (us.length-c)).reverse)],us.take (us.length-c),_,_,_,_,Z,(((s1.trans ß).chg f5 c6).trans s8').chg f8 c11,c11.here,(c11.rest p5 a6t).trans a7J,?_,W2,Z,?_,?_⟩
  ·rw[em',cC,Ec,lt2];have:=c3;have:=fr1;omega
  ·refine dh (Paired.cB hpr λv t q=>(((q.same ß).chg a4s c6 (bh _ aV)).same s8').chg a4t c11 aV) (RwX.chg a4t c11 aV ⟨p10,p8,Z,uJ.here,uJ.same _ _ n8'.here,x8,?_⟩);show(ks++(us.drop (us.length-c)).reverse).length<=1000;rw[cC,Eh,lG];omega
  ·rw[cC,Ec,lt2];have:=c3;have:=fr1;omega
  ·rw[lt2];omega
def ű(s t:Int×Int):Prop:=s.1<t.1\/(s.1=t.1/\s.2<t.2)
structure Web(n:Int)(ts:List bY):Prop where
 ok:∀t∈ts,0<=t.1/\t.1<t.2/\t.2<n
 up:ts.Pairwise ű
def a7K [DecidableEq α] {l U:List α} (nd:l.Nodup) (h:∀x∈l,x∈U):l.length<=U.length:=by
 induction l generalizing U with
 |nil=>grind
 |cons a r ih =>
  obtain⟨n1,n2⟩:=iW.mp nd;have am:=h a aV;have:=ih (U:=U.erase a) n2 λx hx=>(List.mem_erase_of_ne λe=>n1 ()).mpr (h x (bh _ hx));grind
def a4u:List bY:=(List.range 10).flatMap λ(a:Nat)=>((List.range 10).filter λ(b:Nat)=>decide (a<b)).map λ(b:Nat)=>(((a:Nat):Int),((b:Nat):Int))
def ű.asymm{s t:Int×Int}(h:ű s t)(h':ű t s):False:=by
 unfold ű at h h';omega
def Web.nd{n:Int}{ts:List bY}(h:Web n ts):ts.Nodup:=h.up.imp λl e=>by
 subst e;exact l.asymm l
def Web.few{n:Nat}{ts:List bY}(h:Web n ts)(dw:n<=10):ts.length<=45:=by
 have:=a7K (U:=a4u) h.nd λt ht=>by
  have o:=h.ok t ht;unfold a4u;refine List.mem_flatMap.mpr ⟨t.1.toNat,nQ.mpr (),dY.mpr ⟨t.2.toNat,lH.mpr ⟨nQ.mpr (),bN ()⟩,?_⟩⟩;grind
 have e:a4u.length=45:=()
 omega
abbrev rO:Stmt:=top 42
def mq:bB ["_law_script","_law_rows_here","_law_n","_law_share","_law_found","_law_a","_law_b","_law_together"] X8 (aD rO):={}
def QK(rs:List Ca)(t:Int×Int):Prop:=∃k,t.1∈fH rs k/\t.2∈fH rs k
inductive Ų(K:aH)(vs:List V)(H:Hp)(Q:VK)(u_3:XK):Prop
 |mk (a l:Addr) (ns:List Int) (ys:List V) (rs:List Ca) (n:Nat) (_:vs=[.ref a,.ref l,.int n]) (_:Ü K H a ns) (_:ns.length<=63) (_:H l=some (.lst ys)) (_:Paired (PN l H) ys rs) (_:rs.length<=40) (_:n<=10) (_:∀r xs ts H',aJ H H'->H r=none->H' r=some (.lst xs)->Paired (tE H') xs ts->(∀t∈ts,0<=t.1/\t.1<t.2/\t.2<(n:Int))->ts.Nodup->(∀t∈ts,QK rs t)->ts.length<=45->Q (.ref r) H')
def Kw{lo:Int}{n:Nat}{tb:TS}{D:Ends}{H:Hp}(Pv:Nat->St->Hp->Prop)(h0:Pv 0 σ H)
  (hs:∀(D':Ends) i σ H,i<n->Pv i σ H->(∀σ2 H2,Pv (i+1) σ2 H2->D'.nx σ2 H2)->D'.rt=D.rt->g (.int (lo+i)) σ H λσ2 H2=>tb D' σ2 H2) (hd:∀σ H,Pv n σ H->D.nx σ H) :
  ∃W:Nat->Nat->St->Hp->Prop,(∃m,W 0 m σ H)/\∀i m σ H,W i m σ H->
   ((Xb lo n).stop i H/\D.nx σ H)\/((Xb lo n).go i H/\∃N:St->Hp->Prop,(∀σ' H',N σ' H'->∃m',m'<m/\W (i+1) m' σ' H')/\∀x H',(Xb lo n).Û i H x H'->g x σ H' λσ2 H2=>tb { D with nx:=N,ct:=N,bk:=D.nx} σ2 H2) :=
 vG Pv h0 (λi σ H hi p=>hs _ i σ H hi p (λ_ _ h=>h) Z) hd
def QL(B:Bl mg)(qw:Dn K mg "_law_at" tV Mx)(ų:Dn K mg "_law_ties" rO X8):aZ P w K mg base fV 2 ų.f ų.fd X8 (Ų K):=by
 have S5:aZ P w K mg base fV 1 _ _ _ _:=BX B qw;exists ų.F.ok mq;obtain⟨a,l,ns,ys,rs,n,rfl,hS,h63,hy,hpr,r40,hn,q⟩:=h;have hv:(A.deeper (PyProof.Rows.envOfC "_law_ties" (aD rO) s⁻¹ ų.f dD)).units+65<cLine:=by have:=hr.un;omega
 have ly:ys.length=rs.length:=aQ hpr;refine⟨_,(aG (bD 3 mq.nd (bQ fL (bQ jL (aY S5 hr Z qw.m qw.F.kp qw.b .nil bW (J (pv 0) (J aA ao))) aA) aA))
   (aG (bD 4 mq.nd (cI ao))
   (aG (kh jJ Z (jX Z B.range (J (pv 2) ao)) (aP 5 mq.nd)
   (aF (kh jJ Z (LR Z B.range (J (bQ fL (pv 5) aA) (J (pv 2) ao))) (aP 6 mq.nd)
   (aG (Cz (i:=7) ["_law_row","_law_a","_law_b"] [none,some 5,some 6] mq.nd Z Z (by kernel_rfl) Z (fM (K:=K) Z (pv 1)) (λ_ _ _ _ _=>(aP 0 (show(["_law_row","_law_a","_law_b"]:List Str).Nodup by decide))) (λ_ _ _ _ _=>(wQ (PW.pt (j9 (aL (uO (K:=K) Z hv) (pv 1) (aO (aK (K:=K) Z) (pv 0) aA) (by with_unfolding_all rfl)) (mZ (aL (uO (K:=K) Z hv) (pv 2) (aO (aK (K:=K) Z) (pv 0) aA) (by with_unfolding_all rfl))))))) (λ_ _ _ _ _=>(pv 0)) (by rfl))
   (aF (dH (PW.pt (j9 (aL Jj (bG (cP (K:=K) Z) Z B.len () (J (pv 7) ao)) aA) (mZ (aL FT (bQ jL (aY S5 hr Z qw.m qw.F.kp qw.b .nil bW (J (pv 0) (J (bQ fL (bQ fL aA (bQ wJ aA (pv 5))) (pv 6)) ao))) aA) (pv 3)))))
   (aF (gW (nU (K:=K) Z lE PySem.F.slot_list_append PySem.F.type_list_append jO (pv 4) (J (bf (J (pv 5) (J (pv 6) ao))) ao))))
   bK))))))
   (aF (bA (pv 4)))))),?_⟩
 refine⟨_,Z,a,ns,4,Z,hS,h63,(),(),λz0=>⟨_,_,Z,Z,(show(0:Int)<_ by decide),_,_,Z,Z,?_⟩⟩;obtain⟨sh,esh⟩:∃sh:Int,sh=z0%4+1:=⟨_,Z⟩;dsimp only;rw[<-esh];refine⟨(),λr H0 nw=>?_⟩;refine⟨_,Z,_,Z,(),(),?_⟩;rw[j5];refine Kw (n:=n) (λi σ H2=>∃(aa bb bo:Option V) (xs:List V) (ts:List bY),σ=[some (.ref a),some (.ref l),some (.int n),some (.int sh),some (.ref r),aa,bb,bo]/\aJ H H2/\H2 r=some (.lst xs)/\Paired (tE H2) xs ts/\ts.length<=10*i/\Web n ts/\(∀t∈ts,t.1<(i:Int))/\∀t∈ts,QK rs t)
  ⟨none,none,none,[],[],Z,nw.same,nw.here,.nil,dG _,⟨λt h=>absurd h fu,.nil⟩,λt h=>absurd h fu,λt h=>absurd h fu⟩ ?_ ?_
 ·rintro D1 i σ H2 hi ⟨aa,bb,bo,xs,ts,rfl,sm,hr2,hp,hz,hw,hlt,bi⟩ dn1 _;refine⟨_,Z,_,_,Z,Z,_,Z,_,_,Z,⟨(),(),(),()⟩,?_⟩;refine Kw (n:=_) (λj σ H3=>∃(bb bo:Option V) (xs:List V) (ts:List bY),σ=[some (.ref a),some (.ref l),some (.int n),some (.int sh),some (.ref r),some (.int (0+(i:Int))),bb,bo]/\aJ H H3/\H3 r=some (.lst xs)/\Paired (tE H3) xs ts/\ts.length<=10*i+j/\Web n ts/\(∀t∈ts,t.1<(i:Int)\/(t.1=(i:Int)/\t.2<(i:Int)+1+j))/\∀t∈ts,QK rs t)
   ⟨bb,bo,xs,ts,Z,sm,hr2,hp,(),hw,λt h=>.inl (hlt t h),bi⟩ ?_ ?_
  ·rintro D2 j σ H3 hj ⟨bb,bo,xs,ts,rfl,sm,hr3,hp,hz,hw,hlt,bi⟩ dn _;have jn:(j:Int)+(0+(i:Int)+1)<n:=()
   have hy3:=sm _ _ hy;generalize eav:(0+(i:Int))=av;generalize ebv:(av+1+(j:Int))=bv;refine⟨_,Z,l,Z,⟨_,bI.of hy3⟩,Ė (λk=>if(decide (av∈fH rs k)&&decide (bv∈fH rs k))=true then ys[k]? else none) (bI.of hy3) () (λk x H4 N hk s4 hN=>?_) λH4 p4 H5 s4 n4=>?_⟩
   ·have kl:k<rs.length:=by rw[<-ly];exact(fY.mp hk).1
    obtain⟨v,hx,⟨pp,b,rfl,Ŵ,hb,_⟩⟩:=cU hpr (vI kl);rw[hk]at hx;cases hx;have s04:=sm.trans s4;have hN':=hN H4 s4;rw[hk]at hN';refine⟨_,Z,_,Z,pp,_,_,_,Z,Z,cH.of (s04 _ _ Ŵ),Z,Bf (bI.of (s04 _ _ hb)) ⟨_,Z,vd (λc=>?_) λc=>?_⟩⟩
    ·refine⟨_,Z,_,Z,pp,_,_,_,Z,Z,cH.of (s04 _ _ Ŵ),Z,Bf (bI.of (s04 _ _ hb)) ⟨_,Z,vd (λd=>?_) λd=>?_⟩⟩
     ·rw[aB (by unfold fH;rw[c,d];rfl)]at hN';exact⟨_,Z,hN'⟩
     ·rw[aq (by unfold fH;rw[yg.mpr d];simp)]at hN';exact hN'
    ·refine cX ?_;rw[aq (by unfold fH;rw[yg.mpr c];simp)]at hN';exact hN'
   have s05:=sm.trans (s4.trans n4.same);have hr5:H5 r=some (.lst xs):=(s4.trans n4.same) _ _ hr3;have hp5:=Paired.cB hp λv t q=>tE.same (s4.trans n4.same) q;have lxs:xs.length=ts.length:=aQ hp;have no:=λbv=>dn [some (V.ref a),some (.ref l),some (.int n),some (.int sh),some (.ref r),some (.int av),bv,some (.ref p4)] H5 ⟨bv,some (.ref p4),xs,ts,by rw[eav],s05,hr5,hp5,(),hw,λt ht=>by have:=hlt t ht;omega,bi⟩;refine⟨_,Z,p4,_,Z,.inl (bI.of n4.here),_,_,Z,Z,_,Z,vd (λc=>?_) λc=>no _⟩;have c':=gn c;refine⟨_,Z,_,Z,_,_,Z,Z,.inl ⟨(),()⟩,_,_,Z,Z,_,Z,_,_,Z,Z,a,ns,_,Z,hS.same s05,h63,(),(),λz5=>⟨_,_,Z,Z,(show(0:Int)<_ by decide),_,Z,_,_,Z,Z,_,Z,vd (λd=>?_) λd=>no _⟩⟩;have hrow:QK rs (av,bv):=by
    have c3:0<((List.range ys.length).filterMap λk=>if(decide (av∈fH rs k)&&decide (bv∈fH rs k))=true then ys[k]? else none).length:=()
    obtain⟨x,hx⟩:=List.exists_mem_of_length_pos c3;obtain⟨k,_,e⟩:=Uk.mp hx;by_cases d2:(decide (av∈fH rs k)&&decide (bv∈fH rs k))=true
    ·rw[qK]at d2;exact⟨k,gn d2.1,gn d2.2⟩
    ·rw[aq d2]at e;cases e
   refine⟨_,Z,.inl ⟨Z,_,bI.of hr5⟩,_,Z,_,Z,(),λp6 H6 n6=>?_⟩;have h6:=n6.same _ _ hr5;refine⟨r,_,_,Z,Z,h6,(),λH7 c7=>?_⟩;refine dn _ _ ⟨some (.int bv),some (.ref p4),xs++[.ref p6],ts++[(av,bv)],by rw[eav];rfl,(s05.trans n6.same).chg nw.fresh c7,c7.here,?_,?_,⟨λt ht=>?_,?_⟩,λt ht=>?_,λt ht=>?_⟩
   ·exact dh (Paired.cB hp5 λv t q=>(tE.same n6.same q).chg h6 c7) (tE.chg h6 c7 ⟨p6,Z,n6.here⟩)
   ·rw[cC];show ts.length+1<=_;omega
   ·rcases cL.mp ht with ht|ht
    ·exact hw.ok t ht
    ·rw[bM.mp ht];exact⟨by show 0<=av;omega,by show av<bv;omega,by show bv<n;omega⟩
   ·refine Ue.mpr ⟨hw.up,Aj _ _,λt ht u hu=>?_⟩;rw[bM.mp hu];show t.1<av\/(t.1=av/\t.2<bv);have:=hlt t ht;omega
   ·rcases cL.mp ht with ht|ht
    ·have:=hlt t ht;omega
    ·rw[bM.mp ht];show av<(i:Int)\/(av=(i:Int)/\bv<(i:Int)+1+((j+1:Nat):Int));omega
   ·rcases cL.mp ht with ht|ht
    ·exact bi t ht
    ·rw[bM.mp ht];exact hrow
  ·rintro σ H3 ⟨bb,bo,xs,ts,rfl,sm,hr3,hp,hz,hw,hlt,bi⟩;exact dn1 _ _ ⟨_,bb,bo,xs,ts,Z,sm,hr3,hp,(),hw,λt ht=>by have:=hlt t ht;omega,bi⟩
 ·rintro σ H2 ⟨aa,bb,bo,xs,ts,rfl,sm,hr2,hp,hz,hw,hlt,bi⟩;have few:=hw.few hn;exact⟨_,Z,q r xs ts H2 sm nw.fresh hr2 hp (λt ht=>hw.ok t ht) hw.nd bi ()⟩
abbrev lR:Stmt:=top 43
def fU:bB ["_law_ties_here","_law_rows_here","_law_k","_law_early","_law_above","_law_bag","_law_mine","_law_steps","_law_j"] Dh (aD lR):={}
inductive DQ(K:aH)(d:Nat)(vs:List V)(H:Hp)(Q:VK)(u_3:XK):Prop
 |mk (r l:Addr) (tx ys:List V) (tb:List bY) (rs:List Ca) (n most k:Nat) (early:Bool) (_:vs=[.ref r,.ref l,.int (k:Int),.bl early]) (_:H r=some (.lst tx)) (_:Paired (tE H) tx tb) (_:tb.length<=100) (_:H l=some (.lst ys)) (_:Paired (PN l H) ys rs) (_:Rw n most rs []) (_:most<=4) (_:rs.length<=20) (_:n<=10) (_:k<rs.length) (_:rs.length<=k+d) (_:∀p xs H',aJ H H'->H p=none->H' p=some (.lst xs)->Paired (tO H') xs (qH early tb rs.length (Cd rs) (fH rs) d k)->Q (.ref p) H')
def vB(m:Nat)(up:Nat->Nat)(k i:Nat):List Nat:=(List.range i).filter λj=>decide (k<j)&&decide (up j=k)
def a4v(m:Nat)(up:Nat->Nat)(k:Nat):vB m up k (k+1)=[]:=by
 unfold vB;rw[List.filter_eq_nil_iff];grind
def ŵ{m:Nat}{up:Nat->Nat}{k i:Nat}(h:i<=m)(L:Nat->List b8):((vB m up k i).flatMap L).length<=((gV m up k).flatMap L).length:=by
 unfold vB gV;have e:List.range m=List.range i++(List.range (m-i)).map (i + ·):=by
  rw[<-List.range_add];congr 1;omega
 rw[e,Ip,Uj,cC];omega
def Nf{m:Nat}{up:Nat->Nat}{k i:Nat}(h:k<i):vB m up k (i+1)=vB m up k i++if up i=k then [i]else []:=by
 unfold vB;rw[wA,Ip];grind
def jP{β:Type}{R:α->β->Prop}{xs xs':List α}{ys ys':List β}(h:Paired R xs ys)(q:Paired R xs' ys'):Paired R (xs++xs') (ys++ys'):=by
 induction h with
 |nil=>exact q
 |cons a _ ih=>exact .cons a ih
def Ky{ta tb:TT}{H:Hp}{b1 b2:Bool}{Q:Bool->Hp->Prop}(h1:∀Q:Bool->Hp->Prop,Q b1 H->ta σ H Q)(h2:∀Q:Bool->Hp->Prop,Q b2 H->tb σ H Q)(h:Q (b1&&b2) H):a2H ta tb σ H Q:=by
 refine h1 _ ?_;grind
def Ib{a:Addr}{ix:List (Option Nat)}{tt:TT}{te:TE}{H:Hp}{Q:VK}(xs:List Int)(c:Int->Bool)(S:Int->b8)(hx:bI K H a (xs.map V.int))(l9:xs.length<=900)
  (hs:∀(v:Int) (H1:Hp) (N:VK) (Z98:Hp->Prop),v∈xs->aJ H H1->(c v=true->∀p H2,gZ H1 p (.tup (S v).vs) H2->N (.ref p) H2)->(c v=false->Z98 H1)->g (.int v) (rF ix σ) H1 λσ2 H2=>tt σ2 H2 λb H3=>if b=true then te σ2 H3 N else Z98 H3)
  (hd:∀H1 p ys H2,aJ H H1->gZ H1 p (.lst ys) H2->Paired (tO H2) ys ((xs.filter c).map S)->Q (.ref p) H2):nR ix g tt te σ H Q (θ K a):=by
 refine uN (K:=K) (a:=a) (xs:=xs.map V.int) (λi ys H'=>aJ H H'/\Paired (tO H') ys (((xs.take i).filter c).map S)) ⟨aJ.refl _,.nil⟩ (λi ys H' hi ⟨s,p⟩=>⟨s.seq hx,?_⟩) (λi x ys H' hi ⟨s,p⟩=>?_) (λys H' ⟨s,p⟩ q hq=>?_)
 ·rw[aQ p,aM];have:=Ed c (xs.take i);rw[fZ]at this;exact d7 (cO ())
 ·rw[gk]at hi;obtain⟨v,hv,rfl⟩:=oR.mp hi;have et:xs.take (i+1)=xs.take i++[v]:=by rw[mK,hv];rfl
  refine hs v H' _ _ (jf hv) s (λcv p2 H2 n2=>⟨s.trans n2.same,?_⟩) (λcv=>⟨s,?_⟩)
  ·rw[et,Ip,eO,Ot,cv];exact dh (Paired.cB p λ_ _ h=>h.same n2.same) ⟨p2,Z,n2.here⟩
  ·rw[et,Ip,eO,Ot,cv];simp only[Bool.false_eq_true,if_false,List.filter_nil,List.map_nil,List.append_nil];exact p
 ·have nq:gZ H' q (.lst ys) (cM H' q (.lst ys)):=gZ.oM hq;rw[aM,iV]at p;exact hd H' q ys _ s nq (Paired.cB p λ_ _ h=>h.same nq.same)
def Ŷ(Gs:Dn K mg "_law_laid" lR Dh):aZ P w K mg base fV 1 Gs.f Gs.fd Dh (DQ K 0):=by
 refine Gs.F.ok fU (len:=λvs H Q E h=>?_) (λdD A outer s H vs Q E hr h=>?_)
 ·obtain⟨r,l,tx,ys,tb,rs,n,most,k,early,_,_,_,_,_,_,_,_,_,_,h1,h2,_⟩:=h;omega
 ·obtain⟨r,l,tx,ys,tb,rs,n,most,k,early,_,_,_,_,_,_,_,_,_,_,h1,h2,_⟩:=h;omega
def ŷ(B:Bl mg)(Gs:Dn K mg "_law_laid" lR Dh)(d:Nat)(gZ5:aZ P w K mg base fV (d+1) Gs.f Gs.fd Dh (DQ K d)):aZ P w K mg base fV (d+2) Gs.f Gs.fd Dh (DQ K (d+1)):=by
 exists Gs.F.ok fU;obtain⟨r,l,tx,ys,tb,rs,n,most,k,early,rfl,hT,pT,a1K,hL,pL,W,m4,r20,dw,kl,dk,q⟩:=h;have hv:(A.deeper (PyProof.Rows.envOfC "_law_laid" (aD lR) s⁻¹ Gs.f dD)).units+65<cLine:=by have:=hr.un;omega
 have ly:=aQ pL;have ltx:=aQ pT;have T:=W.T;obtain⟨vk,hxk,⟨pk,bk,rfl,Ŵ,hbk,nbk,lbk⟩⟩:=cU pL (vI kl);have hW4:∀j,(fH rs j).length<=4:=λj=>dF (W.few j) m4;have b10:∀j,(fH rs j).length<=10:=λj=>dF (hW4 j) ();have full:=Nb T hW4 r20 early a1K (f:=d+1) kl;obtain⟨L,eL⟩:∃L:Nat->List b8,L=λj=>qH early tb rs.length (Cd rs) (fH rs) d j++(qt (fH rs) j k++[.join]):=⟨_,Z⟩;obtain⟨M0,eM⟩:∃M0:List b8,M0=(.leaf::(fH rs k).map .inn)++if early=true then(v5 (Cd rs) (fH rs) tb k).map λt=>.tie t.1 t.2 else []:=⟨_,Z⟩
 have eS:qH early tb rs.length (Cd rs) (fH rs) (d+1) k=(M0++(gV rs.length (Cd rs) k).flatMap L)++if early=true then []else(v5 (Cd rs) (fH rs) tb k).map λt=>.tie t.1 t.2:=by rw[eL,eM];rfl
 rw[eS]at q full;rw[cC,cC]at full;have a7U:(v5 (Cd rs) (fH rs) tb k).length<=100:=dF (Ed _ _) a1K;have lM:M0.length<=120:=by
  rw[eM,cC,jH,aM];have:=b10 k;cases early with
  |true=>rw[aB Z,aM];omega
  |false=>rw[aq cY];show _+0<=_;omega
 refine⟨_,(aG (bD 4 fU.nd (cI ao))
   (kI (dH (aL Jj (pv 2) aA)
   (aF (bD 4 fU.nd (aO (aK (K:=K) Z) (aO (bF (K:=K) Z) (pv 1) (aO (aK (K:=K) Z) (aO (bF (K:=K) Z) (pv 1) (pv 2)) aA)) aA)))
   bK)
   (aG (bD 5 fU.nd (aO (aK (K:=K) Z) (aO (bF (K:=K) Z) (pv 1) (pv 2)) aA))
   (aG (Cz (i:=6) ŀ [none,none,some 5,some 4] fU.nd Z Z (by kernel_rfl) Z (fM (K:=K) Z (pv 0)) (λ_ _ _ _ _=>(jN (K:=K) (n:=2) Z Z (cu (aP 0 (show(ŀ:List Str).Nodup by decide)) (cu (aP 1 (show(ŀ:List Str).Nodup by decide)) jz)))) (λ_ _ _ _ _=>(wQ (PW.pt (j9 (aL (uO (K:=K) Z hv) (pv 0) (pv 2) (by with_unfolding_all rfl)) (j9 (aL (uO (K:=K) Z hv) (pv 1) (pv 2) (by with_unfolding_all rfl)) (mZ (qL (PW.pt (j9 (aL (uO (K:=K) Z hv) (pv 0) (pv 3) (by with_unfolding_all rfl)) (mZ (aL (uO (K:=K) Z hv) (pv 1) (pv 3) (by with_unfolding_all rfl)))))))))))) (λ_ _ _ _ _=>(bf (J gA (J (pv 0) (J (pv 1) ao))))) (by rfl))
   (aG (bD 7 fU.nd (bQ pG (cI (J (bf (J gA ao)) ao)) (kE ["_law_v"] [none]  (by kernel_rfl) Z (fM (K:=K) Z (pv 5)) (λ_ _ _ _ _=>(aP 0 (show(["_law_v"]:List Str).Nodup by decide))) (λ_ _ _ _ _=>gB) λ_ _ _ _ _=>(bf (J gA (J (pv 0) ao))))))
   (kI (dH (eN (K:=K) Z (pv 3) λ_=>rfl)
   (aF (bD 7 fU.nd (bQ pG (pv 7) (pv 6))))
   bK)
   (aG (kh jJ Z (LR Z B.range (J (bQ fL (pv 2) aA) (J (bG (cP (K:=K) Z) Z B.len () (J (pv 1) ao)) ao))) (aP 8 fU.nd)
   (aF (dH (aL iR (aO (aK (K:=K) Z) (aO (bF (K:=K) Z) (pv 1) (pv 8)) aA) (pv 2))
   (aG (bD 7 fU.nd (bQ pG (bQ pG (pv 7) (aY gZ5 hr Z Gs.m Gs.F.kp Gs.b .nil bW (J (pv 0) (J (pv 1) (J (pv 8) (J (pv 3) ao)))))) (kE ["_law_v","_law_bag"] [none,some 5]  (by kernel_rfl) Z (fM (K:=K) Z (aO (aK (K:=K) Z) (aO (bF (K:=K) Z) (pv 1) (pv 8)) aA)) (λ_ _ _ _ _=>(aP 0 (show(["_law_v","_law_bag"]:List Str).Nodup by decide))) (λ_ _ _ _ _=>(wQ (aL (jM (K:=K) Z hv) (pv 0) (pv 1) (by with_unfolding_all rfl)))) λ_ _ _ _ _=>(bf (J gA (J (pv 0) ao))))))
   (aF (bD 7 fU.nd (bQ pG (bQ pG (pv 7) (kE ["_law_v","_law_rows_here","_law_j"] [none,some 1,some 8]  (by kernel_rfl) Z (fM (K:=K) Z (pv 5)) (λ_ _ _ _ _=>(aP 0 (show(["_law_v","_law_rows_here","_law_j"]:List Str).Nodup by decide))) (λ_ _ _ _ _=>(wQ (aL (jM (K:=K) Z hv) (pv 0) (aO (aK (K:=K) Z) (aO (bF (K:=K) Z) (pv 1) (pv 2)) aA) (by with_unfolding_all rfl)))) λ_ _ _ _ _=>(bf (J gA (J (pv 0) ao))))) (cI (J (bf (J gA ao)) ao))))))
   bK)))
   (aG (dH (eN (K:=K) Z (pv 3) λ_=>rfl)
   (aF (bA (pv 7)))
   bK)
   (aF (bA (bQ pG (pv 7) (pv 6)))))))))))),?_⟩
 refine⟨(),λpa H7 n7=>?_⟩;have s7:=n7.same;refine⟨λσ' H'=>∃(pA:Addr) (ab:List Int),σ'=[some (.ref r),some (.ref l),some (.int (k:Int)),some (.bl early),some (.ref pA),none,none,none,none]/\H'=H7/\H7 pA=some (.lst (ab.map V.int))/\∀t:Int×Int,(¬(t.1∈ab/\t.2∈ab))↔(k=0\/¬(t.1∈fH rs (Cd rs k)/\t.2∈fH rs (Cd rs k))),?_,?_⟩
 ·refine⟨_,Z,_,_,Z,Z,_,Z,?_⟩;by_cases k0:k=0
  ·rw[cZ ()];exact cX ⟨pa,[],Z,Z,n7.here,λt=>⟨λ_=>.inl k0,λ_ z=>absurd z.1 fu⟩⟩
  ·rw[bN ()];have ul:=T.ups k () kl;have a6u:=Ŵ;rw[W.ru k () kl]at a6u;obtain⟨vu,hxu,⟨pu,bu,rfl,hTu,hbu,nbu,lbu⟩⟩:=cU pL (vI (show Cd rs k<rs.length by omega));exact gY ⟨_,Z,_,Z,_,Z,l,_,_,_,Z,Z,bI.of (s7 _ _ hL),cA hxk,pk,_,_,_,Z,Z,cH.of (s7 _ _ a6u),Z,l,_,_,_,Z,Z,bI.of (s7 _ _ hL),cA hxu,pu,_,_,_,Z,Z,cH.of (s7 _ _ hTu),Z,⟨bu,_,Z,Z,s7 _ _ hbu,λt=>⟨λh=>.inr h,λh=>h.elim (λz=>absurd z k0) id⟩⟩⟩
 rintro σ' H8 ⟨pA,ab,rfl,rfl,hA,mA⟩;refine⟨_,Z,_,Z,l,_,_,_,Z,Z,bI.of (s7 _ _ hL),cA hxk,pk,_,_,_,Z,Z,cH.of (s7 _ _ Ŵ),Z,⟨_,Z,r,Z,⟨_,bI.of (s7 _ _ hT)⟩,uN (K:=K) (a:=r) (xs:=tx) (λi yo H'=>aJ H8 H'/\Paired (tO H') yo (((tb.take i).filter λt=>decide (jw (Cd rs) (fH rs) k t)).map λt=>.tie t.1 t.2)) ⟨aJ.refl _,.nil⟩ (λi yo H' hi ⟨s,p⟩=>⟨bI.of (s _ _ (s7 _ _ hT)),?_⟩) (λi x yo H9 hx ⟨s9',p9⟩=>?_) λyo H9 ⟨s9',p9⟩ pM hpM=>?_⟩⟩
 ·rw[aQ p,aM];have:=Ed (λt=>decide (jw (Cd rs) (fH rs) k t)) (tb.take i);rw[fZ]at this;exact d7 (cO ())
 ·obtain⟨t,ht,⟨px,rfl,hpx⟩⟩:=bw pT hx;have et:tb.take (i+1)=tb.take i++[t]:=by rw[mK,ht];rfl
  have s9:=s7.trans s9';refine⟨px,_,Z,cH.of (s9 _ _ hpx),Z,_,_,Z,_,_,Z,Z,?_⟩;have hb9:=s9 _ _ hbk;have hA9:=s9' _ _ hA;rw[et,Ip,eO,Ot];refine Ky (b1:=decide (t.1∈fH rs k)) (b2:=decide (t.2∈fH rs k) && !(decide (t.1∈ab)&&decide (t.2∈ab))) (λQ h=>⟨_,Z,_,Z,Bf (bI.of hb9) ⟨_,Z,h⟩⟩) (λQ h=>Ky (b1:=decide (t.2∈fH rs k)) (b2:=!(decide (t.1∈ab)&&decide (t.2∈ab))) (λQ h=>⟨_,Z,_,Z,Bf (bI.of hb9) ⟨_,Z,h⟩⟩) (λQ h=>Ky (b1:=decide (t.1∈ab)) (b2:=decide (t.2∈ab)) (Q:=λb H'=>Q (!b) H') (λQ h=>⟨_,Z,_,Z,Bf (bI.of hA9) ⟨_,Z,h⟩⟩) (λQ h=>⟨_,Z,_,Z,Bf (bI.of hA9) ⟨_,Z,h⟩⟩) h) h) ?_;have eh:(decide (t.1∈fH rs k)&&(decide (t.2∈fH rs k) && !(decide (t.1∈ab)&&decide (t.2∈ab))))=decide (jw (Cd rs) (fH rs) k t):=by
   rw[tX,qK,qK,fj,fj,fj];unfold jw;rw[<-mA t];by_cases c1:t.1∈ab<;>by_cases c2:t.2∈ab<;>simp[c1,c2]
  rw[eh];refine vd (λc=>?_) (λc=>?_)
  ·rw[aB c];refine⟨_,Z,_,Z,(),λp10 Z7 uJ=>⟨s9'.trans uJ.same,?_⟩⟩;exact dh (Paired.cB p9 λ_ _ h=>h.same uJ.same) ⟨p10,Z,uJ.here⟩
  ·rw[aq c];refine⟨s9',?_⟩;rw[List.filter_nil,List.map_nil,mH];exact p9
 rw[ltx,iV]at p9;have nM:gZ H9 pM (.lst yo) (cM H9 pM (.lst yo)):=gZ.oM hpM;generalize cM H9 pM (.lst yo)=Z7 at nM ⊢;have a4w:Paired (tO Z7) yo ((v5 (Cd rs) (fH rs) tb k).map λt=>.tie t.1 t.2):=Paired.cB p9 λ_ _ h=>h.same nM.same;have a7L:=aQ a4w;rw[aM]at a7L;have a6v:=s7.trans (s9'.trans nM.same);have a7V:=(s9'.trans nM.same) _ _ hA;refine⟨(),λp1 H1 n1=>⟨(),λp2 H2 n2=>?_⟩⟩;have s2:=a6v.trans (n1.same.trans n2.same);refine⟨_,Z,bk,Z,⟨_,bI.of (s2 _ _ hbk)⟩,?_⟩;refine Ib (fH rs k) (λ_=>true) b8.inn (bI.of (s2 _ _ hbk)) (by have:=b10 k;omega) (λv H3 N Z98 _ s3 hN hM=>?_) (λH3 p3 ys3 H4 s3 n4 p4=>?_)
 ·exact⟨_,Z,(),λp H5 n5=>hN Z p H5 n5⟩
 rw[List.filter_eq_self.mpr (λ_ _=>rfl)]at p4;have Ő:=s3.trans n4.same;have l4:=aQ p4;rw[aM]at l4;refine⟨p2,p3,_,_,Z,Z,Ő _ _ n2.here,n4.here,(by have:=b10 k;show 1+ys3.length<=1000;omega),λp5 H5 n5=>?_⟩;have a1M:aJ Z7 H5:=n1.same.trans (n2.same.trans (Ő.trans n5.same));have s5':=a6v.trans a1M;have f5':H p5=none:=(s2.trans Ő).free n5.fresh;have P5':Paired (tO H5) ([.ref p1]++ys3) (.leaf::(fH rs k).map b8.inn):=.cons ⟨p1,Z,n5.same _ _ (Ő _ _ (n2.same _ _ n1.here))⟩ (Paired.cB p4 λ_ _ h=>h.same n5.same);have hM5:=a1M _ _ nM.here;refine⟨λσ' H'=>∃(pS0:Addr) (xs:List V),σ'=[some (.ref r),some (.ref l),some (.int (k:Int)),some (.bl early),some (.ref pA),some (.ref bk),some (.ref pM),some (.ref pS0),none]/\aJ H5 H'/\H pS0=none/\H' pS0=some (.lst xs)/\Paired (tO H') xs M0,?_,?_⟩
 ·refine⟨_,Z,early,Z,?_⟩;cases early with
  |false =>
   refine cX ⟨p5,_,Z,aJ.refl _,f5',n5.here,?_⟩;rw[eM,aq cY,mH];exact P5'
  |true =>
   refine gY ⟨_,Z,_,Z,p5,pM,_,_,Z,Z,n5.here,hM5,(by have:=b10 k;rw[cC];show 1+ys3.length+_<=1000;omega),λp6 H6 n6=>⟨p6,_,Z,n6.same,s5'.free n6.fresh,n6.here,?_⟩⟩;rw[eM,aB rfl];exact jP (Paired.cB P5' λ_ _ h=>h.same n6.same) (Paired.cB a4w λ_ _ h=>h.same (a1M.trans n6.same))
 rintro σ' H6' ⟨pS0,xs0,rfl,s56,f5,hS0,P5⟩;have s5:=s5'.trans s56;have hL5:=s5 _ _ hL;have hMM:=s56 _ _ hM5;have a6w:Paired (tO H6') yo ((v5 (Cd rs) (fH rs) tb k).map λt=>.tie t.1 t.2):=Paired.cB a4w λ_ _ h=>h.same (a1M.trans s56);refine⟨_,Z,_,_,Z,Z,_,Z,l,_,Z,.inl (bI.of hL5),_,_,Z,⟨(),(),(),()⟩,?_⟩;refine vG (n:=_) (λi σ H'=>∃(jj:Option V) (pS:Addr) (xs:List V),σ=[some (.ref r),some (.ref l),some (.int (k:Int)),some (.bl early),some (.ref pA),some (.ref bk),some (.ref pM),some (.ref pS),jj]/\aJ H H'/\aJ H6' H'/\H pS=none/\H' pS=some (.lst xs)/\Paired (tO H') xs (M0++(vB rs.length (Cd rs) k (k+1+i)).flatMap L))
  ⟨none,pS0,_,Z,s5,aJ.refl _,f5,hS0,by rw[a4v,List.flatMap_nil,mH];exact P5⟩ ?_ ?_
 ·rintro i σ H6 hi ⟨jj,pS,xs,rfl,s6,s6m,fS,hS,pS'⟩;have jl:k+1+i<rs.length:=by rw[ly]at hi;omega
  obtain⟨j,ej⟩:∃j,j=k+1+i:=⟨_,Z⟩;have ejI:(k:Int)+1+(i:Int)=(j:Int):=()
  rw[ejI];rw[<-ej]at jl pS';have ej2:k+1+(i+1)=j+1:=()
  rw[ej2,Nf (show k<j by omega)];obtain⟨vj,hxj,⟨pj,bj,rfl,hTj,hbj,nbj,lbj⟩⟩:=cU pL (vI jl);rw[W.ru j () jl]at hTj;have pre:=ŵ (up:=Cd rs) (k:=k) (show j+1<=rs.length by omega) L;rw[Nf (show k<j by omega)]at pre;have lxs:=aQ pS';rw[cC]at lxs;refine⟨_,Z,_,Z,l,_,_,_,Z,Z,bI.of (s6 _ _ hL),cA hxj,pj,_,_,_,Z,Z,cH.of (s6 _ _ hTj),Z,_,Z,Z,_,Z,?_⟩;by_cases c:Cd rs j=k
  ·rw[aB c]at pre ⊢;rw[show decide (upV (some ((Cd rs j:Nat):Int))=V.int (k:Int))=true from bN (by rw[c];rfl)];refine gY ?_;have eLj:L j=qH early tb rs.length (Cd rs) (fH rs) d j++((vz (fH rs j) (fH rs k)).map .out++(vz (fH rs k) (fH rs j)).map .inn++[.join]):=by rw[eL];rfl
   rw[Uj,cC,List.flatMap_singleton]at pre;have lLj:=congrArg List.length eLj;rw[cC,cC,cC,aM,aM]at lLj;have lJ1:[b8.join].length=1:=rfl;refine⟨_,Z,_,Z,_,Z,_,Z,_,Z,r,l,tx,ys,tb,rs,n,most,j,early,Z,s6 _ _ hT,Paired.cB pT λ_ _ h=>tE.same s6 h,a1K,s6 _ _ hL,Paired.cB pL λ_ _ h=>PN.same s6 h,W,m4,r20,dw,jl,(),λpJ xJ H7 s7 fJ hJ pJ'=>?_⟩;have lJ:=aQ pJ';refine⟨pS,pJ,_,_,Z,Z,s7 _ _ hS,hJ,(),λp8 H8 n8=>?_⟩;have s68:=s7.trans n8.same;have s8:=s6.trans s68;refine⟨_,Z,_,Z,l,_,_,_,Z,Z,bI.of (s8 _ _ hL),cA hxj,pj,_,_,_,Z,Z,cH.of (s8 _ _ hTj),Z,bj,Z,⟨_,bI.of (s8 _ _ hbj)⟩,?_⟩;refine Ib (fH rs j) (λv=>!decide (v∈fH rs k)) b8.out (bI.of (s8 _ _ hbj)) (by have:=b10 j;omega) (λv H9 N Z98 _ s9 hN hM=>?_) (λH9 p9 y9 Z7 s9 uJ p10=>?_)
   ·refine⟨_,Z,_,Z,zB (bI.of ((s8.trans s9) _ _ hbk)) ⟨_,Z,vd (λe=>?_) λe=>hM (yg.mpr e)⟩⟩;exact⟨_,Z,(),λp H5 n5=>hN e p H5 n5⟩
   have l10:=aQ p10;rw[aM]at l10;have a7W:y9.length=(vz (fH rs j) (fH rs k)).length:=l10;have a4x:=s9.trans uJ.same;refine⟨p8,p9,_,_,Z,Z,a4x _ _ n8.here,uJ.here,by rw[cC];omega,λp11 Þ Ft=>?_⟩;have s11:=s8.trans (a4x.trans Ft.same);refine⟨_,Z,_,Z,bk,Z,⟨_,bI.of (s11 _ _ hbk)⟩,?_⟩;refine Ib (fH rs k) (λv=>!decide (v∈fH rs j)) b8.inn (bI.of (s11 _ _ hbk)) (by have:=b10 k;omega) (λv Wo N Z98 _ s12 hN hM=>?_) (λWo p12 y12 H13 s12 n13 p13=>?_)
   ·refine⟨_,Z,_,Z,_,Z,l,_,_,_,Z,Z,bI.of ((s11.trans s12) _ _ hL),cA hxj,pj,_,_,_,Z,Z,cH.of ((s11.trans s12) _ _ hTj),Z,zB (bI.of ((s11.trans s12) _ _ hbj)) ⟨_,Z,vd (λe=>?_) λe=>hM (yg.mpr e)⟩⟩;exact⟨_,Z,(),λp H5 n5=>hN e p H5 n5⟩
   have l13:=aQ p13;rw[aM]at l13;have a7X:y12.length=(vz (fH rs k) (fH rs j)).length:=l13;have Ÿ:=s12.trans n13.same;refine⟨p11,p12,_,_,Z,Z,Ÿ _ _ Ft.here,n13.here,by rw[cC,cC];omega,λp14 H14 n14=>?_⟩;refine⟨(),λp15 H15 n15=>⟨(),λp16 H16 n16=>?_⟩⟩;have Ź:=n15.same.trans n16.same;refine⟨p14,p16,_,_,Z,Z,Ź _ _ n14.here,n16.here,(by rw[cC,cC,cC];show _+1<=1000;omega),λp17 H17 n17=>?_⟩;have a2v:=n14.same.trans (Ź.trans n17.same);have Ng:=Ft.same.trans (Ÿ.trans a2v);have a4y:=a4x.trans Ng;have s17:=s8.trans a4y;have a6x:=n8.same.trans a4y;refine⟨_,p17,_,Z,s17,s6m.trans (s68.trans a4y),?_,n17.here,?_⟩
   ·exact(s11.trans (Ÿ.trans (n14.same.trans Ź))).free n17.fresh
   ·rw[Uj,List.flatMap_singleton,eLj,<-Av,<-Av,<-Av,<-Av];refine jP (jP (jP (jP (Paired.cB pS' λ_ _ h=>h.same (s7.trans a6x)) (Paired.cB pJ' λ_ _ h=>h.same a6x)) (Paired.cB p10 λ_ _ h=>h.same Ng)) (Paired.cB p13 λ_ _ h=>h.same a2v)) (.cons ⟨p15,Z,n17.same _ _ (n16.same _ _ n15.here)⟩ .nil)
  ·rw[aq c,mH];rw[show decide (upV (some ((Cd rs j:Nat):Int))=V.int (k:Int))=false from cZ (λz=>c (by have:=V.int.inj z;omega))];exact cX ⟨_,pS,xs,Z,s6,s6m,fS,hS,pS'⟩
 rintro σ H6 ⟨jj,pS,xs,rfl,s6,s6m,fS,hS,pS'⟩;have eK:vB rs.length (Cd rs) k (k+1+((ys.length:Int)-((k:Int)+1)).toNat)=gV rs.length (Cd rs) k:=by
  unfold vB gV;congr 2;omega
 rw[eK]at pS';refine⟨_,Z,early,Z,?_⟩;cases early with
 |true =>
  rw[aB Z,mH]at q;exact gY ⟨_,Z,q pS xs H6 s6 fS hS pS'⟩
 |false =>
  rw[aq cY]at q;have lxs:=aQ pS';rw[cC]at lxs;exact cX ⟨_,Z,_,Z,pS,pM,_,_,Z,Z,hS,s6m _ _ hMM,(),λp9 H9 n9=>q p9 _ H9 (s6.trans n9.same) (s6.free n9.fresh) n9.here (jP (Paired.cB pS' λ_ _ h=>h.same n9.same) (Paired.cB a6w λ_ _ h=>h.same (s6m.trans n9.same)))⟩
theorem DR(B:Bl mg)(Gs:Dn K mg "_law_laid" lR Dh):∀d:Nat,aZ P w K mg base fV (d+1) Gs.f Gs.fd Dh (DQ K d)
 |0=>Ŷ Gs
 |d+1=>ŷ B Gs d (DR B Gs d)
end K
namespace Srt
open PySem.W PySem.Calls PyProof.Rows PySem.MeetsSeq
abbrev lsO(z:Array Value)(n:Nat):Obj:={ cls:=.type "list",dict:=none,data:=.seq z n,slots:=#[]}
def a2w(z:Array Value)(x:Value)(eq:Nat->Bool)(A:Around)(h:Heap):Prop:=∀s':Shared,s'.heap=h->∀m (hm:m<z.size),SeqAt.EqAt A s' z[m] x (eq m)
def a4z{l:Addr}{z:Array Value}{n:Nat}{x:Value}{eq:Nat->Bool}{j:Nat}(hj:j<z.size)(hit:eq j=true)(hz:z.size<=sizeLine)(k:Nat) :
  ∀i:Nat,j-i=k->i<=j->(∀m (hm:m<z.size),i<=m->m<j->eq m=false)->Meets (Builtin.«list.remove.loop» ⟨[.ref l,x,rawInt i],[]⟩)
   (λA R s=>s.heap.get? l=some (lsO z n)/\a2w z x eq A.in1 s.heap/\R (.ok (.ret .none)) { s with heap:=s.heap.update l (Obj.mapSeq λxs=>xs.eraseIdxIfInBounds j)}):=by
 induction k with
 |zero =>
  intro i hk ij hn prog w A R s h;obtain⟨hp,g,d,tq,os⟩:=s;obtain⟨ol,he,h⟩:=h;obtain rfl:i=j:=()
  wp_walk using nP ol
  have hi:z[((i:Nat):Int).toNat]?=some z[i]:=by simp[hj]
  rw[hi];refine M (he _ Z i hj prog w _ _ ?_);rw[hit];have hz':(z.eraseIdxIfInBounds i).size<=sizeLine+1:=by
   have:=size_erased z i;omega
  wp_walk using (O1 ol Z (hz:=hz) (_hz':=hz')),nP ol
  simpa using h
 |succ k ih =>
  intro i hk ij hn prog w A R s h;obtain⟨hp,g,d,tq,os⟩:=s;obtain⟨ol,he,h⟩:=h;have lb:i<z.size:=()
  wp_walk using nP ol
  have hi:z[((i:Nat):Int).toNat]?=some z[i]:=by simp[lb]
  have ic:((i:Int)+1)=((i+1:Nat):Int):=by push_cast;rfl
  rw[hi];refine M (he _ Z i lb prog w _ _ ?_);rw[hn i lb (aN _) ()]
  wp_walk
  rw[ic];refine⟨oX plain_remove_loop _,mJ entry_remove_loop ?_⟩;rw[nF plain_remove_loop _];exact ih (i+1) () () (λm hm h1 h2=>hn m hm () h2) prog w A R _ ⟨ol,he,h⟩
def a4A{l:Addr}{z:Array Value}{n:Nat}{x:Value}{eq:Nat->Bool}{j:Nat}(hj:j<z.size)(hit:eq j=true)(hn:∀m (hm:m<z.size),m<j->eq m=false)(hz:z.size<=sizeLine) :
  Meets (Builtin.«list.remove» ⟨[.ref l,x],[]⟩) (λA R s=>s.heap.get? l=some (lsO z n)/\a2w z x eq A.in1 s.heap/\R (.ok (.ret .none)) { s with heap:=s.heap.update l (Obj.mapSeq λxs=>xs.eraseIdxIfInBounds j)}):=by
 intro prog w A R s h;obtain⟨hp,g,d,tq,os⟩:=s;obtain⟨ol,he,h⟩:=h
 wp_walk using nP ol
 refine⟨oX plain_remove_loop _,mJ entry_remove_loop ?_⟩;rw[nF plain_remove_loop _];exact a4z hj hit hz _ 0 Z (dG _) (λm hm _ h2=>hn m hm h2) prog w A R _ ⟨ol,he,h⟩
end Srt
namespace L2
open PyProof.Rows
section
variable{X:Cx}{K:aH}
def QS(K:aH):V->List V->Hp->VK->Prop:=λx vs H Q=>∃l xs y d ds j,x=.ref l/\vs=[y]/\H l=some (.lst xs)/\K7 K H y d/\wR K H xs ds/\SeqAt.shaped d=true/\(∀e∈ds,SeqAt.shaped e=true)/\
 j<xs.length/\PyData.eqv (ds.getD j .none) d=true/\(∀m<j,PyData.eqv (ds.getD m .none) d=false)/\∀H',uP H l (.lst (xs.eraseIdx j)) H'->Q .non H'
def S6{Y:List (Addr×Obj)}{σ:St}{H:Hp}{s:Shared}(I:bC X Y σ H s):∀{xs:List V}{us:List Value}{ds:List PyData},cN xs us->wR X.K H xs ds->ds.length=us.length/\∀i,i<us.length->∃as,Reads s.heap (us.getD i .none) (ds.getD i .none) as
 |_,_,_,.nil,.nil=>⟨Z,λi h=>absurd h (Ay _)⟩
 |_,_,_,.cons r t,.cons a b=>by
  obtain⟨e,q⟩:=S6 I t b
  refine⟨by rw[jH,jH,e],λi h=>?_⟩
  cases i with
  |zero=>exact a.reads I r
  |succ i =>
   have:=q i (by simpa using h)
   simpa using this
theorem Kz:∀{xs:List V}{us:List Value} (j:Nat),cN xs us->cN (xs.eraseIdx j) (us.eraseIdx j)
 |_,_,_,.nil=>.nil
 |_,_,0,.cons r t=>t
 |_,_,j+1,.cons r t=>.cons r (Kz j t)
def Í(hv:X.A.units+65<cLine):Vu X "list.remove" (QS X.K):=by
 intro Y s σ H x vs v us Q I rx rv h
 obtain⟨l,xs,y,d,ds,j,rfl,rfl,hH,hd,hds,sd,sds,hj,hit,hn,q⟩:=h
 cases rx
 obtain⟨u,rfl,ru⟩:=vals1 rv
 obtain⟨z,bV,n,r,ol,e⟩:=I.Y9 hH
 have hlen:=r.length
 obtain⟨as,ra⟩:=hd.reads I ru
 obtain⟨el,rs⟩:=S6 I r hds
 have hjz:j<bV.toArray.size:=by rw[gR];omega
 refine Je F.slot_list_remove ⟨_,e,Z⟩ F.entry_list_remove (F.args_list_remove_2 _ _) (Srt.a4A (z:=bV.toArray) (eq:=λm=>PyData.eqv (ds.getD m .none) d) hjz hit (λm _ hm=>hn m hm) (by rw[gR];omega)) ⟨e,λs' es m hm=>?_,?_⟩
 ·have hm':m<bV.length:=by simpa using hm
  obtain⟨bs,rb⟩:=rs m hm'
  have eg:bV.getD m .none=bV.toArray[m]:=by simp[hm']
  rw[eg]at rb
  have sm:SeqAt.shaped (ds.getD m .none)=true:=sds _ (by rw[fK,bL (by omega)];exact oV _)
  rw[<-es]at rb ra
  refine SeqAt.eqAt_reads _ _ _ _ _ _ _ _ rb ra (Al sm) (Al sd) (SeqAt.room_of_shaped sm ?_)
  exact hv
 ·refine⟨.non,_,I.a3d (its':=bV.eraseIdx j) hH e ?_ (Kz j r) ?_,Z,q _ uP.oM⟩
  ·simp[Array.eraseIdxIfInBounds]
   omega
  ·have:=List.length_eraseIdx_le xs j
   omega
def WL(e:X.K=K)(hv:X.A.units+65<cLine):Vu X "list.remove" (QS K):=by subst e;exact Í hv
end
end L2
namespace K
open L2 Lw Bg
namespace Go
section
variable{n:Nat}{ts:List bY}{ss:List b8}
structure a1N(n:Nat)(ts:List bY)(ss:List b8):Prop where
 dw:n<=10
 go:∀i,i<=ss.length->(aW n ts ss i).2=true
 sb:∀(k:Nat) (s:b8),ss[k]?=some s->StB n ts ss k s
 se:∀(k:Nat) (s:b8),ss[k]?=some s->StE n ts ss k s
 last:∀j∈(aW n ts ss ss.length).1.pile,gK n ts ss j=[]
 ties:∀t∈ts,b8.tie t.1 t.2∈ss
set_option tactic.hygienic true in
def a2x(dw:n<=10)(qY:Bp n ts ss (cD n ts ss)=.ok):a1N n ts ss:=by
 have go:=Ś dw qY;refine⟨dw,go,λk s h=>a1A (BP go dw h),λk s h=>BP go dw h,λj hj=>?_,λt ht=>?_⟩
 ·unfold Bp at qY;split at qY
  ·cases qY
  ·split at qY
   ·rename_i e;have:gK n ts ss j∈MT (cD n ts ss):=dY.mpr ⟨j,hj,Z⟩;rw[e]at this;exact bM.mp this
   ·cases qY
 ·unfold Bp at qY;split at qY
  ·cases qY
  ·split at qY
   ·split at qY
    ·cases qY
    ·split at qY
     ·cases qY
     ·rename_i e;have:=Ej.mp e t ht;simpa using this
   ·cases qY
end
end Go
namespace Up
def DW(s:b8){i:Nat}(hi:i<5):decide (V.str s.word=V.str (Gn i))=decide (s.tag=i):=by
 have h:=JN s.tag (Wf s) i hi;rw[JQ];by_cases c:s.tag=i
 ·rw[c,bN Z,bN rfl]
 ·rw[cZ c]at h ⊢;refine cZ λz=>?_;have e:=V.str.inj z;rw[e]at h;simp at h
def a4B(s:b8):decide (V.str s.word=V.str "leaf")=decide (s.tag=0):=DW s (i:=0) ()
def a7M(s:b8):decide (V.str s.word=V.str "in")=decide (s.tag=1):=DW s (i:=1) ()
def a6y(s:b8):decide (V.str s.word=V.str "tie")=decide (s.tag=2):=DW s (i:=2) ()
def a6z(s:b8):decide (V.str s.word=V.str "out")=decide (s.tag=3):=DW s (i:=3) ()
def a4C(s:b8):decide (V.str s.word=V.str "join")=decide (s.tag=4):=DW s (i:=4) ()
end Up
def WM{n:Nat}(dw:n<=10){b zs:List Int}{v:Int}(ab:b.Pairwise (· < ·))(hb:∀v∈b,0<=v/\v<(n:Int))(v0:0<=v)(vn:v<(n:Int))(nv:v∉b)(pz:zs.Perm (b++[v]))(sz:zs.Pairwise (· <= ·)):zs=gj b [v]:=by
 have nd:zs.Nodup:=pz.nodup_iff.mpr (wz.mpr ⟨Go.Ae ab,Aj _ _,λx hx y hy e=>nv (by rw[<-bM.mp hy,<-e];exact hx)⟩);have az:zs.Pairwise (· < ·):=(List.pairwise_and_iff.mpr ⟨sz,nd⟩).imp λh=>by omega
 refine Go.w6 az (Go.xg _) λx=>?_;rw[pz.mem_iff,cL];exact(Go.tR dw hb λy hy=>by rw[bM.mp hy];exact⟨v0,vn⟩).symm
def WN(F:List Int)(k:Nat):(F.map V.int).eraseIdx k=(F.eraseIdx k).map V.int:=by
 induction F generalizing k with
 |nil=>rfl
 |cons x r ih =>
  cases k with
  |zero=>rfl
  |succ k =>
   show V.int x::(r.map V.int).eraseIdx k=V.int x::(r.eraseIdx k).map V.int;rw[ih]
def a1O{K:aH}{H:Hp}{l:Addr}{T:List Int}{v:Int}{Q:VK}(hl:H l=some (.lst (T.map V.int)))(c:v∈T)(q:∀H',uP H l (.lst ((T.erase v).map V.int)) H'->Q .non H'):QS K (.ref l) [.int v] H Q:=by
 have jl:=Nx c;have e1:=List.erase_eq_eraseIdx_of_idxOf (l:=T) (a:=v) (i:=T.idxOf v) rfl;have eg:∀m,m<T.length->(T.map PyData.int).getD m .none=.int (T.getD m 0):=λm hm=>by
  rw[fK,gk,bL hm,fK,bL hm];rfl
 refine⟨l,_,_,.int v,T.map PyData.int,T.idxOf v,Z,Z,hl,.int v,wR.ints T,Z,λe he=>?_,by rw[aM];exact jl,?_,λm hm=>?_,λH' ch=>q H' ?_⟩
 ·obtain⟨z,_,rfl⟩:=dY.mp he;rfl
 ·rw[eg _ jl,fK,bL jl,Ux,List.getElem_idxOf jl,PyData.eqv];exact Ox v
 ·have ml:m<T.length:=()
  have:=List.not_of_lt_findIdx (p:=λx=>x==v) (xs:=T) (i:=m) hm;rw[eg _ ml,fK,bL ml,Ux,PyData.eqv];simpa using this
 ·rw[WN,<-e1]at ch;exact ch
abbrev uV:Stmt:=top 44
def gD:bB ["_law_steps","_law_pile","_law_tops_here","_law_aheads","_law_k","_law_ahead","_law_bag"] ["_law_steps"] (aD uV):={}
def WQ{B:List Int}{v:Int}(nd:B.Nodup):B.erase v=oK B [v]:=by
 rw[nd.erase_eq_filter];refine List.filter_congr λx _=>?_;by_cases c:x=v<;>simp[bne,c]
def NI(j:Nat):V:=.int (j:Int)
def ahF(fd:List Nat):V:=match fd.getLast? with
 |some j=>.int (j:Int)
 |none=>.non
def ubF(n:Nat)(ts:List bY)(ss:List b8)(fd:List Nat):List Int:=match fd.getLast? with
 |some j=>Go.gK n ts ss j
 |none=>[]
def TpL(L:List Addr)(H:Hp)(v:V)(b:List Int):Prop:=∃p,v=.ref p/\H p=some (.lst (b.map V.int))/\p∉L
def TpL.chg{L:List Addr}{H H':Hp}{v:V}{b:List Int}{a:Addr}{o:HO}(m:a∈L)(c:uP H a o H')(h:TpL L H v b):TpL L H' v b:=by
 obtain⟨p,e,h1,h2⟩:=h;exact⟨p,e,(c.rest p λz=>h2 (by rw[z];exact m)).trans h1,h2⟩
def a1P(H:Hp)(pS pp pt pa:Addr)(n:Nat)(ts:List bY)(ss:List b8)(i:Nat)(pl:List Nat)(b:List Int)(ah:V)(σ:St)(G:Hp):Prop:=∃(pb:Addr) (tx:List V),σ=[some (.ref pS),some (.ref pp),some (.ref pt),some (.ref pa),some (.int (i:Int)),some ah,some (.ref pb)]/\aJ H G/\G pp=some (.lst (pl.map NI))/\G pt=some (.lst tx)/\Paired (TpL [pp,pt,pa,pb] G) tx ((List.range i).map (Go.gK n ts ss))/\G pa=some (.lst ((List.range i).map λk=>ahF (Go.rN n ts ss k)))/\G pb=some (.lst (b.map V.int))/\H pb=none/\pb≠pp/\pb≠pt/\pb≠pa
def a6A(H:Hp)(pS pp pt pa:Addr)(n:Nat)(ts:List bY)(ss:List b8)(i:Nat)(σ:St)(G:Hp):Prop:=∃(tx:List V) (o4 o5 o6:Option V),σ=[some (.ref pS),some (.ref pp),some (.ref pt),some (.ref pa),o4,o5,o6]/\aJ H G/\G pp=some (.lst ((aW n ts ss i).1.pile.map NI))/\G pt=some (.lst tx)/\Paired (TpL [pp,pt,pa] G) tx ((List.range i).map (Go.gK n ts ss))/\G pa=some (.lst ((List.range i).map λk=>ahF (Go.rN n ts ss k)))
def ź:Sp:=λvs H Q _=>∃(pS:Addr) (xs:List V) (ss:List b8) (n:Nat) (ts:List bY),vs=[.ref pS]/\H pS=some (.lst xs)/\Paired (tO H) xs ss/\ss.length<=800/\Go.a1N n ts ss/\∀r pt pa tx H',aJ H H'->H' r=some (.lst [.ref pt,.ref pa])->H' pt=some (.lst tx)->Paired (TpL [] H') tx ((List.range ss.length).map (Go.gK n ts ss))->H' pa=some (.lst ((List.range ss.length).map λk=>ahF (Go.rN n ts ss k)))->Q (.ref r) H'
section
variable{P:Program}{w:World}{K:aH}{mg:Str->Option Value}{base:Heap}
abbrev DZ8(K:PySem.W.Frag)(mg:Str->Option Value):=Dn K mg "_law_tops" uV ["_law_steps"]
def QT(B:Bl mg)(Î:DZ8 K mg):aZ P w K mg base fV 1 Î.f Î.fd ["_law_steps"] ź:=by
 exists Î.F.ok gD;obtain⟨pS,xs,ss,n,ts,rfl,hS,qS,l8,R,q⟩:=h;have hv:(A.deeper (PyProof.Rows.envOfC "_law_tops" (aD uV) s⁻¹ Î.f dD)).units+65<cLine:=by have:=hr.un;omega
 refine⟨_,(aG (bD 1 gD.nd (cI ao))
   (aG (bD 2 gD.nd (cI ao))
   (aG (bD 3 gD.nd (cI ao))
   (aG (kh jJ Z (jX Z B.range (J (bG (cP (K:=K) Z) Z B.len () (J (pv 0) ao)) ao)) (aP 4 gD.nd)
   (aG (bD 5 gD.nd oY)
   (aG (bD 6 gD.nd (cI ao))
   (kI (dH (aL Ma (aO (aK (K:=K) Z) (aO (bF (K:=K) Z) (pv 0) (pv 4)) aA) gA)
   (aG (bD 5 gD.nd (tD (K:=K) Z lE Ub Uc Hy (pv 1)))
   (aF (bD 6 gD.nd (iC (um (K:=K) Z) Z B.list () (J (aO (bF (K:=K) Z) (pv 2) (pv 5)) ao)))))
   bK)
   (kI (dH (aL iR (aO (aK (K:=K) Z) (aO (bF (K:=K) Z) (pv 0) (pv 4)) aA) gA)
   (aF (gW (tD (K:=K) Z lE Ub Uc Hy (pv 1))))
   bK)
   (kI (dH (aL iR (aO (aK (K:=K) Z) (aO (bF (K:=K) Z) (pv 0) (pv 4)) aA) gA)
   (aF (bD 6 gD.nd (bG (Dd (K:=K) Z) Z B.sorted () (J (bQ pG (pv 6) (cI (J (aO (aK (K:=K) Z) (aO (bF (K:=K) Z) (pv 0) (pv 4)) aA) ao))) ao))))
   bK)
   (kI (dH (aL iR (aO (aK (K:=K) Z) (aO (bF (K:=K) Z) (pv 0) (pv 4)) aA) gA)
   (aF (gW (nU (K:=K) Z lE PySem.F.slot_list_remove PySem.F.type_list_remove (WL (K:=K) Z hv) (pv 6) (J (aO (aK (K:=K) Z) (aO (bF (K:=K) Z) (pv 0) (pv 4)) aA) ao))))
   bK)
   (aG (gW (nU (K:=K) Z lE PySem.F.slot_list_append PySem.F.type_list_append jO (pv 2) (J (pv 6) ao)))
   (aG (gW (nU (K:=K) Z lE PySem.F.slot_list_append PySem.F.type_list_append jO (pv 3) (J (pv 5) ao)))
   (aF (gW (nU (K:=K) Z lE PySem.F.slot_list_append PySem.F.type_list_append jO (pv 1) (J (pv 4) ao)))))))))))))
   (aF (bA (cI (J (pv 2) (J (pv 3) ao))))))))),?_⟩
 refine⟨(),λpp H1 n1=>⟨(),λpt H2 n2=>⟨(),λpa H3 n3=>?_⟩⟩⟩;have s3:=n1.same.trans (n2.same.trans n3.same);have fpp:H pp=none:=n1.fresh;have fpt:H pt=none:=n1.same.free n2.fresh;have fpa:H pa=none:=(n1.same.trans n2.same).free n3.fresh;have lx:=aQ qS;have tp:=Go.Sw R.dw R.sb;have tpp:pt≠pp:=λz=>by have:=n2.fresh;rw[z,n1.here]at this;cases this
 have app:pa≠pp:=λz=>by have:=n3.fresh;rw[z,n2.same _ _ n1.here]at this;cases this
 have apt:pa≠pt:=λz=>by have:=n3.fresh;rw[z,n2.here]at this;cases this
 refine⟨_,Z,pS,_,Z,.inl (bI.of (s3 _ _ hS)),_,Z,(),(),?_⟩;rw[j5];refine vG (n:=xs.length) (λi σ G=>a6A H pS pp pt pa n ts ss i σ G) ⟨[],_,_,_,Z,s3,n3.same _ _ (n2.same _ _ n1.here),n3.same _ _ n2.here,.nil,n3.here⟩ ?_ ?_
 ·rintro i σ G0 hi ⟨tx,o4,o5,o6,rfl,sG0,WR,a1Q,pT0,Ż⟩;rw[show(0:Int)+(i:Int)=(i:Int) by omega];have kl:i<ss.length:=()
  have hs:=bL kl;have SB:=R.sb i _ hs;have SE:=R.se i _ hs;obtain⟨vx,hvx,Wm,rfl,hst⟩:=cU qS hs;have split:=xZ (dX ss[i] (aW n ts ss i).1) (aW n ts ss i).1.pile;rw[<-SE.feed]at split;have pil:=SE.pile;have lpl:=(jA R.dw (R.go (i+1) ())).pl;have lp0:=(jA R.dw (R.go i ())).pl;rw[pil,cC,Ec]at lpl;generalize (aW n ts ss i).1.pile.take (dX ss[i] (aW n ts ss i).1)=vD at split pil lpl;generalize ss[i]=st at hs SB hst;rw[<-split]at WR;refine⟨(),λpb G1 m1=>?_⟩;have S7:pb≠pp:=λz=>by have:=m1.fresh;rw[z,WR]at this;cases this
  have TF:pb≠pt:=λz=>by have:=m1.fresh;rw[z,a1Q]at this;cases this
  have TJ:pb≠pa:=λz=>by have:=m1.fresh;rw[z,Ż]at this;cases this
  have sG1:=sG0.trans m1.same;have small:∀{b:List Int},(∃j,j<ss.length/\b=Go.gK n ts ss j)->b.length<=10:=λ⟨j,hj,e⟩=>by rw[e];exact a2u R.dw (Go.Ae (tp j hj).1) (tp j hj).2
  refine⟨λσ' G'=>a1P H pS pp pt pa n ts ss i (vD++(Go.rN n ts ss i).dropLast) (ubF n ts ss (Go.rN n ts ss i)) (ahF (Go.rN n ts ss i)) σ' G',?_,?_⟩
  ·refine⟨_,Z,_,Z,pS,_,_,_,Z,Z,bI.of (sG1 _ _ hS),cA hvx,Wm,st.vs,0,.str st.word,Z,Z,cH.of (sG1 _ _ hst),zL st,Z,_,Z,?_⟩;rw[Up.a4B];by_cases c0:st.tag=0
   ·rw[bN c0];have ef:Go.rN n ts ss i=[]:=by cases SB<;>first|assumption|cases c0
    rw[ef];rw[ef]at WR;refine cX ⟨pb,tx,Z,sG1,m1.same _ _ WR,m1.same _ _ a1Q,Paired.cB pT0 λ_ _ z=>?_,m1.same _ _ Ż,m1.here,sG0.free m1.fresh,S7,TF,TJ⟩;obtain⟨p,e,h1,h2⟩:=z;exact⟨p,e,m1.same _ _ h1,λz=>by
     rcases cL.mp (show p∈[pp,pt,pa]++[pb]from z)with z|z
     ·exact h2 z
     ·have:=m1.fresh;rw[<-bM.mp z,h1]at this;cases this⟩
   ·rw[cZ c0];obtain⟨f0,j,ef,lt⟩:∃f0 j,Go.rN n ts ss i=f0++[j]/\j<i:=by
     cases SB with
     |leaf=>exact absurd Z c0
     | @inn i' v ef lt=>exact⟨[],i',ef,lt⟩
     | @tie i' a b ef lt=>exact⟨[],i',ef,lt⟩
     | @out i' v ef lt=>exact⟨[],i',ef,lt⟩
     | @join i' j' ef lt lt'=>exact⟨[i'],j',ef,lt'⟩
    have e1:(Go.rN n ts ss i).dropLast=f0:=by rw[ef,Ef]
    have e2:ubF n ts ss (Go.rN n ts ss i)=Go.gK n ts ss j:=by unfold ubF;rw[ef,Oc]
    have e3:ahF (Go.rN n ts ss i)=NI j:=by unfold ahF;rw[ef,Oc];rfl
    rw[e1,e2,e3];rw[ef,<-Av,eO]at WR;have a6B:G1 pp=some (.lst ((vD++f0).map NI++[NI j])):=m1.same _ _ WR;have htj:((List.range i).map (Go.gK n ts ss))[j]?=some (Go.gK n ts ss j):=by rw[gk,Io lt];rfl
    obtain⟨vj,hvj,pj,rfl,hpj,npj⟩:=cU pT0 htj;refine gY ⟨_,Z,.inl ⟨Z,_,bI.of a6B⟩,pp,_,NI j,Z,Z,a6B,λG2 c2=>?_⟩;have a4D:G2 pt=some (.lst tx):=(c2.rest pt tpp).trans (m1.same _ _ a1Q);have a7N:G2 pj=some (.lst ((Go.gK n ts ss j).map V.int)):=(c2.rest pj λz=>npj (by rw[z];exact aV)).trans (m1.same _ _ hpj);refine⟨_,Z,_,Z,pt,_,_,_,Z,Z,bI.of a4D,cA hvj,pj,_,Z,.inl (bI.of a7N),λp3 G3 m3=>?_⟩;have s2:=sG1.chg fpp c2;have fp3:=s2.free m3.fresh;refine⟨p3,tx,Z,s2.trans m3.same,m3.same _ _ c2.here,m3.same _ _ a4D,Paired.cB pT0 λ_ _ z=>?_,m3.same _ _ ((c2.rest pa app).trans (m1.same _ _ Ż)),m3.here,fp3,?_,?_,?_⟩
    ·obtain⟨p,e,h1,h2⟩:=z;have h3:G2 p=_:=(c2.rest p λz=>h2 (by rw[z];exact aV)).trans (m1.same _ _ h1);exact⟨p,e,m3.same _ _ h3,λz=>by
      rcases cL.mp (show p∈[pp,pt,pa]++[p3]from z)with z|z
      ·exact h2 z
      ·have:=m3.fresh;rw[<-bM.mp z,h3]at this;cases this⟩
    ·intro z;have:=m3.fresh;rw[z,c2.here]at this;cases this
    ·intro z;have:=m3.fresh;rw[z,a4D]at this;cases this
    ·intro z;have:=m3.fresh;rw[z,(c2.rest pa app).trans (m1.same _ _ Ż)]at this;cases this
  clear WR a1Q pT0 Ż m1 sG1 S7 TF TJ;rintro σ1 G ⟨pb,tx,rfl,sG,Eb,hpt,pT,hpa,hb,fb,S7,TF,TJ⟩;refine⟨λσ' G'=>a1P H pS pp pt pa n ts ss i vD (ubF n ts ss (Go.rN n ts ss i)) (ahF (Go.rN n ts ss i)) σ' G',?_,?_⟩
  ·refine⟨_,Z,_,Z,pS,_,_,_,Z,Z,bI.of (sG _ _ hS),cA hvx,Wm,st.vs,0,.str st.word,Z,Z,cH.of (sG _ _ hst),zL st,Z,_,Z,?_⟩;rw[Up.a4C];by_cases c0:st.tag=4
   ·rw[bN c0];obtain⟨i',ed⟩:∃i',(Go.rN n ts ss i).dropLast=[i']:=by
     cases SB with
     | @join i' j' ef=>exact⟨i',by rw[ef];rfl⟩
     |_=>cases c0
    rw[ed,eO]at Eb;exact gY ⟨_,Z,.inl ⟨Z,_,bI.of Eb⟩,pp,_,NI i',Z,Z,Eb,λG2 c2=>⟨pb,tx,Z,sG.chg fpp c2,c2.here,(c2.rest pt tpp).trans hpt,Paired.cB pT λ_ _ z=>z.chg aV c2,(c2.rest pa app).trans hpa,(c2.rest pb S7).trans hb,fb,S7,TF,TJ⟩⟩
   ·rw[cZ c0];have ed:(Go.rN n ts ss i).dropLast=[]:=by
     cases SB with
     |join=>exact absurd Z c0
     |leaf ef=>rw[ef];rfl
     |inn ef=>rw[ef];rfl
     |tie ef=>rw[ef];rfl
     |out ef=>rw[ef];rfl
    rw[ed,mH]at Eb;exact cX ⟨pb,tx,Z,sG,Eb,hpt,pT,hpa,hb,fb,S7,TF,TJ⟩
  clear Eb hpt pT hpa hb sG S7 TF TJ fb;rintro σ1 G ⟨pb,tx,rfl,sG,Eb,hpt,pT,hpa,hb,fb,S7,TF,TJ⟩;have lub:(ubF n ts ss (Go.rN n ts ss i)).length<=10:=by
   unfold ubF;cases eg:(Go.rN n ts ss i).getLast? with
   |none=>exact dG _
   |some j=>exact small ⟨j,u5 (SE.lt j (List.mem_of_getLast? eg)) kl,Z⟩
  refine⟨λσ' G'=>a1P H pS pp pt pa n ts ss i vD (if st.tag=1 then Go.gK n ts ss i else ubF n ts ss (Go.rN n ts ss i)) (ahF (Go.rN n ts ss i)) σ' G',?_,?_⟩
  ·refine⟨_,Z,_,Z,pS,_,_,_,Z,Z,bI.of (sG _ _ hS),cA hvx,Wm,st.vs,0,.str st.word,Z,Z,cH.of (sG _ _ hst),zL st,Z,_,Z,?_⟩;rw[Up.a7M];by_cases c0:st.tag=1
   ·rw[bN c0,aB c0];obtain⟨v,i',rfl,eu,lt,v0,vn,nv,et⟩:∃v i',st=.inn v/\ubF n ts ss (Go.rN n ts ss i)=Go.gK n ts ss i'/\i'<i/\0<=v/\v<(n:Int)/\v∉Go.gK n ts ss i'/\Go.gK n ts ss i=gj (Go.gK n ts ss i') [v]:=by
     cases SB with
     | @inn i' v ef lt v0 vn nv et=>exact⟨v,i',Z,by rw[ef];rfl,lt,v0,vn,nv,et⟩
     |_=>cases c0
    rw[eu]at hb lub;refine gY ⟨_,Z,_,Z,_,Z,pS,_,_,_,Z,Z,bI.of (sG _ _ hS),cA hvx,Wm,_,1,.int v,Z,Z,cH.of (sG _ _ hst),Z,(),λp1 G1 m1=>?_⟩;refine⟨pb,p1,_,_,Z,Z,m1.same _ _ hb,m1.here,(by rw[aM];show _+1<=1000;omega),λp2 G2 m2=>?_⟩;refine⟨p2,(Go.gK n ts ss i')++[v],Z,bI.of (by rw[m2.here,eO];rfl),(by rw[cC];show _+1<64;omega),λp3 G3 zs m3 pz sz=>?_⟩;have ez:=WM R.dw (tp i' ()).1 (tp i' ()).2 v0 vn nv pz sz;rw[ez,<-et]at m3;have s3:=m1.same.trans (m2.same.trans m3.same);have s2:=m1.same.trans m2.same;have ne:∀{p:Addr}{o:HO},G p=some o->p3≠p:=λh z=>by have:=m3.fresh;rw[z,s2 _ _ h]at this;cases this
    refine⟨p3,tx,Z,sG.trans s3,s3 _ _ Eb,s3 _ _ hpt,Paired.cB pT λ_ _ z=>?_,s3 _ _ hpa,m3.here,(sG.trans s2).free m3.fresh,ne Eb,ne hpt,ne hpa⟩;obtain⟨p,e,h1,h2⟩:=z;refine⟨p,e,s3 _ _ h1,λz=>?_⟩;rcases cL.mp (show p∈[pp,pt,pa]++[p3]from z)with z|z
    ·exact h2 (sI [pb] z)
    ·exact ne h1 (bM.mp z).symm
   ·rw[cZ c0,aq c0];exact cX ⟨pb,tx,Z,sG,Eb,hpt,pT,hpa,hb,fb,S7,TF,TJ⟩
  clear Eb hpt pT hpa hb sG S7 TF TJ fb;rintro σ1 G ⟨pb,tx,rfl,sG,Eb,hpt,pT,hpa,hb,fb,S7,TF,TJ⟩;refine⟨λσ' G'=>a1P H pS pp pt pa n ts ss i vD (Go.gK n ts ss i) (ahF (Go.rN n ts ss i)) σ' G',?_,?_⟩
  ·refine⟨_,Z,_,Z,pS,_,_,_,Z,Z,bI.of (sG _ _ hS),cA hvx,Wm,st.vs,0,.str st.word,Z,Z,cH.of (sG _ _ hst),zL st,Z,_,Z,?_⟩;rw[Up.a6z];by_cases c0:st.tag=3
   ·rw[bN c0];obtain⟨v,i',rfl,eu,lt,mv,et⟩:∃v i',st=.out v/\ubF n ts ss (Go.rN n ts ss i)=Go.gK n ts ss i'/\i'<i/\v∈Go.gK n ts ss i'/\Go.gK n ts ss i=oK (Go.gK n ts ss i') [v]:=by
     cases SB with
     | @out i' v ef lt mv et=>exact⟨v,i',Z,by rw[ef];rfl,lt,mv,et⟩
     |_=>cases c0
    rw[aq (by show ¬3=1;decide),eu]at hb;refine gY ⟨_,Z,.inl ⟨Z,_,bI.of hb⟩,_,Z,_,Z,pS,_,_,_,Z,Z,bI.of (sG _ _ hS),cA hvx,Wm,_,1,.int v,Z,Z,cH.of (sG _ _ hst),Z,?_⟩;dsimp only[a0i];refine a1O hb mv λG2 c2=>?_;rw[WQ (Go.Ae (tp i' ()).1),<-et]at c2;exact⟨pb,tx,Z,sG.chg fb c2,(c2.rest pp S7.symm).trans Eb,(c2.rest pt TF.symm).trans hpt,Paired.cB pT λ_ _ z=>z.chg (bh _ (bh _ (bh _ aV))) c2,(c2.rest pa TJ.symm).trans hpa,c2.here,fb,S7,TF,TJ⟩
   ·rw[cZ c0];have eb:(if st.tag=1 then Go.gK n ts ss i else ubF n ts ss (Go.rN n ts ss i))=Go.gK n ts ss i:=by
     cases SB with
     |leaf ef et=>rw[ef,et];rfl
     |inn=>rfl
     |tie ef lt _ _ _ et=>rw[ef,et];rfl
     |out=>exact absurd Z c0
     |join ef lt lt' e1 et=>rw[ef,et,e1];rfl
    rw[eb]at hb;exact cX ⟨pb,tx,Z,sG,Eb,hpt,pT,hpa,hb,fb,S7,TF,TJ⟩
  clear Eb hpt pT hpa hb sG S7 TF TJ fb;rintro σ1 G ⟨pb,tx,rfl,sG,Eb,hpt,pT,hpa,hb,fb,S7,TF,TJ⟩;have lt0:tx.length=i:=by rw[aQ pT,aM,qJ]
  refine⟨_,Z,.inl ⟨Z,_,bI.of hpt⟩,_,Z,pt,_,_,Z,Z,hpt,(),λG1 c1=>?_⟩;refine⟨_,Z,.inl ⟨Z,_,bI.of ((c1.rest pa apt).trans hpa)⟩,_,Z,pa,_,_,Z,Z,(c1.rest pa apt).trans hpa,(by rw[aM,qJ];omega),λG2 c2=>?_⟩;refine⟨_,Z,.inl ⟨Z,_,bI.of ((c2.rest pp app.symm).trans ((c1.rest pp tpp.symm).trans Eb))⟩,_,Z,pp,_,_,Z,Z,(c2.rest pp app.symm).trans ((c1.rest pp tpp.symm).trans Eb),(by rw[aM];omega),λG3 c3=>?_⟩;refine⟨tx++[.ref pb],_,_,_,Z,((sG.chg fpt c1).chg fpa c2).chg fpp c3,?_,(c3.rest pt tpp).trans ((c2.rest pt apt.symm).trans c1.here),?_,?_⟩
  ·rw[c3.here,pil,eO];rfl
  ·rw[wA,eO];have go:∀{v b},TpL [pp,pt,pa] G v b->TpL [pp,pt,pa] G3 v b:=λz=>((z.chg (bh _ aV) c1).chg (bh _ (bh _ aV)) c2).chg aV c3;refine dh (Paired.cB pT λ_ _ z=>go ?_) (go ⟨pb,Z,hb,?_⟩)
   ·obtain⟨p,e,h1,h2⟩:=z;exact⟨p,e,h1,λz=>h2 (sI [pb] z)⟩
   ·intro z;rcases bU.mp z with z|z
    ·exact S7 z
    ·rcases bU.mp z with z|z
     ·exact TF z
     ·exact TJ (bM.mp z)
  ·rw[(c3.rest pa app).trans c2.here,wA,eO];rfl
 ·rintro σ G ⟨tx,o4,o5,o6,rfl,sG,Eb,hpt,pT,hpa⟩;rw[show xs.length=ss.length from lx]at pT hpa;refine⟨_,Z,_,Z,(),λr G2 m2=>?_⟩;exact q r pt pa tx G2 (sG.trans m2.same) m2.here (m2.same _ _ hpt) (Paired.cB pT λ_ _ z=>by
   obtain⟨p,e,h1,_⟩:=z;exact⟨p,e,m2.same _ _ h1,fu⟩) (m2.same _ _ hpa)
end
end K
namespace L2
open PyProof.Rows
section
variable{X:Cx}{K:aH}
inductive a4E(K:aH)(x:V)(y:V)(H:Hp)(Q:VK):Prop
 |mk (a b xs ys:_) (_:x=.ref a) (_:y=.ref b) (_:cH K H a xs) (_:cH K H b ys) (_:ys≠[]) (_:xs.length+ys.length<=1000) (_:∀p H',aJ H H'->cH K H' p (xs++ys)->Q (.ref p) H')
def ż(e:X.K=K):sS X (binaryOp .Add) (a4E K):=by
 subst e;intro Y s σ H x y v u Q I rx ry h;obtain⟨a,b,xs,ys,rfl,rfl,ha,hb,ny,hz,q⟩:=h;by_cases c:xs=[]
 ·cases rx;cases ry;obtain⟨bV,r1,p1,_⟩:=I.tuple ha;obtain⟨its2,r2,p2,_⟩:=I.tuple hb;obtain⟨⟨cls,dd,data,sl⟩,ho,hc,n,hd⟩:=id p1;obtain⟨⟨cls2,dd2,data2,sl2⟩,ho2,hc2,n2,hd2⟩:=id p2;simp only at hc hd hc2 hd2;subst hc hd hc2 hd2;exact O9 ⟨_,ho,Z⟩ ⟨_,ho2,Z⟩ Om O6 NZ NK (Ny _ _)
   (tuple_addW0 a b bV.toArray its2.toArray n n2 dd dd2 sl sl2 (by simp[r1.Cp.mpr c])) ⟨ho,ho2,⟨.ref b,H,I,Z,q b H (aJ.refl _) (by rw[c];exact hb)⟩⟩
 ·exact Ş Z Y s σ H _ _ v u Q I rx ry ⟨a,b,xs,ys,Z,Z,ha,hb,c,ny,hz,λp H' n=>q p H' n.same (cH.of n.here)⟩
end
end L2
namespace K
open L2 Lw Bg
variable{s:dU}{j i k m:Nat}{K:aH}{ws:List Int}{T:cG}{r:gC}
abbrev jZ:Stmt:=top 45
def qu:bB ["_law_found","_law_size","_law_state","_law_row","_law_one"] RT (aD jZ):={}
def a2y:PySem.W.kitOne K (.type "tuple") (.type "tuple")=some true:=by rfl
def a6C:PySem.W.kitOne K (.type "dict") (.type "dict")=some true:=by rfl
def WT:Sp:=λvs H Q _=>∃(t:Addr) (m:Nat) (O:List (List Key×V)) (T:cG),vs=[.ref t,.int m]/\H t=some (.dT O)/\xU H O T/\(∀x∈T,x.1.length=m)/\m<=10/\T.length<=900/\∀H',aJ H H'->Q (.bl true) H'
section
variable{P:Program}{w:World}{mg:Str->Option Value}{base:Heap}
def yQ(B:Bl mg)(S8:Dn K mg "_law_formed" jZ RT):aZ P w K mg base fV 1 S8.f S8.fd RT WT:=by
 exists S8.F.ok qu;obtain⟨t,m,O,T,rfl,ht,hT,hm,m10,lT,q⟩:=h;have hw1:(A.deeper (PyProof.Rows.envOfC "_law_formed" (aD jZ) s⁻¹ S8.f dD)).units+1<cLine:=by have:=hr.un;omega
 refine⟨_,(aG (dH (qL (eN (K:=K) Z (bG (jb (K:=K) Z) Z B.isinstance () (J (pv 0) (J (uM (v:=.ty "dict") (u:=.type "dict") Z B.dict () Z) ao))) λ_=>rfl))
   (aF (bA zW))
   bK)
   (aG (yE (kh jJ Z (vL (tD (K:=K) Z Ak Ij Ik vK (pv 0))) (jN (K:=K) (n:=2) Z Z (cu (aP 2 qu.nd) (cu (aP 3 qu.nd) jz)))
   (aG (dH (PW.pt (FQ (qL (eN (K:=K) Z (bG (jb (K:=K) Z) Z B.isinstance () (J (pv 2) (J (uM (v:=.ty "tuple") (u:=.type "tuple") Z B.tuple () Z) ao))) λ_=>rfl)) (FQ (aL Ma (bG (cP (K:=K) Z) Z B.len () (J (pv 2) ao)) (pv 1)) (FQ (qL (eN (K:=K) Z (bG (jb (K:=K) Z) Z B.isinstance () (J (pv 3) (J (uM (v:=.ty "tuple") (u:=.type "tuple") Z B.tuple () Z) ao))) λ_=>rfl)) (Ew (aL Ma (bG (cP (K:=K) Z) Z B.len () (J (pv 3) ao)) aA))))))
   (aF (bA zW))
   bK)
   (aF (kh jJ Z (CJ (K:=K) Z (bQ (ż (K:=K) Z) (pv 2) (pv 3))) (aP 4 qu.nd)
   (aF (dH (PW.pt (FQ (qL (eN (K:=K) Z (bG (jb (K:=K) Z) Z B.isinstance () (J (pv 4) (J (uM (v:=.ty "int") (u:=.type "int") Z B.int () Z) ao))) λ_=>rfl)) (Ew (eN (K:=K) Z (bG (jb (K:=K) Z) Z B.isinstance () (J (pv 4) (J (uM (v:=.ty "bool") (u:=.type "bool") Z B.bool () Z) ao))) λ_=>rfl))))
   (aF (bA zW))
   bK)))))))
   (aF (bA zW)))),?_⟩
 refine⟨_,Z,_,_,_,_,_,Z,Z,ug.dT ht,a6C,_,Z,cX ⟨_,Z,.inr (.inr (.inl ⟨Z,.inr ⟨_,ht⟩⟩)),t,O,Z,Z,ht,λpv H1 n1=>⟨pv,t,O,Z,n1.here,n1.same _ _ ht,λo as pk=>?_⟩⟩⟩;have h1t:=n1.same _ _ ht;have Wi:Nd H (cM H1 t (.jq o (.dT O))):=(Nd.of n1.same).trans (Nd.jq h1t);have Tw:cM H1 t (.jq o (.dT O)) t=some (.jq o (.dT O)):=cV;have Yk:∀c,c≠t->cM H1 t (.jq o (.dT O)) c=H1 c:=λc hc=>aU hc;generalize cM H1 t (.jq o (.dT O))=G0 at pk Wi Tw Yk ⊢;have lk:=aQ hT;have la:=aQ pk;refine wX (λi σ G=>(∃o2 o3 o4,σ=[some (.ref t),some (.int m),o2,o3,o4])/\aJ G0 G) ⟨⟨_,_,_,Z⟩,aJ.refl _⟩ (λi σ G _ h=>h.2 _ _ Tw) ?_ ?_
 ·rintro i a0 v0 σ G p G1 ha0 hv0 ⟨⟨o2,o3,o4,rfl⟩,sG⟩ nw;obtain⟨kv,hkv,hak⟩:=bw pk ha0;obtain⟨⟨st,row⟩,hsx,ek,p2,ep2,hrow⟩:=bw hT hkv;have ek:kv.1=qx st:=ek;have hv0':v0=kv.2:=by
   rw[gk,hkv]at hv0;exact(dO hv0).symm
  have ep2:kv.2=.ref p2:=ep2;rw[ep2]at hv0';subst hv0';rw[ek]at hak;have s1:=sG.trans nw.same;have hold:G1 a0=some (.tup (st.map V.int)):=s1 _ _ (uG.MF hak);have zZ:G1 p2=some (.tup [.int row.m,.int row.b]):=s1 _ _ (Wi.tups _ _ hrow);have ls:st.length=m:=hm _ (jf hsx);refine⟨p,_,Z,cH.of nw.here,Z,_,_,Z,_,_,Z,Z,⟨_,Z,_,_,_,_,_,Z,Z,ug.tup hold,a2y,_,Z,cX ⟨_,Z,a0,_,Z,.inr (cH.of hold),_,Z,Z,_,Z,?_⟩⟩⟩;rw[show(!decide (V.int (((st.map V.int).length:Nat):Int)=V.int (m:Int)))=false by rw[aM,ls];simp];refine cX ⟨_,Z,_,_,_,_,_,Z,Z,ug.tup zZ,a2y,_,Z,cX ⟨_,Z,p2,_,Z,.inr (cH.of zZ),Z,_,Z,cX ?_⟩⟩;have lst:([.int row.m,.int row.b]:List V)=[row.m,row.b].map V.int:=rfl;rw[lst]at zZ;refine⟨_,Z,_,Z,a0,p2,_,_,Z,Z,cH.of hold,cH.of zZ,(λz=>by cases z),(by rw[aM];show _+2<=1000;omega),λp3 G2 s2 h3=>?_⟩;rw[<-eO]at h3;refine⟨p3,Z,⟨_,h3⟩,?_⟩;refine a0d (xs:=(st++[row.m,row.b]).map V.int) (λi σ H'=>(∃o4,σ=[some (.ref t),some (.int m),some (.ref a0),some (.ref p2),o4])/\H'=G2) ⟨⟨_,Z⟩,Z⟩ (λi σ H' _ ⟨_,e⟩=>by rw[e];exact h3) ?_ ?_
  ·rintro i x σ H' hx ⟨⟨o3,rfl⟩,rfl⟩;rw[gk]at hx;obtain⟨z,_,rfl⟩:=oR.mp hx;exact⟨_,Z,_,_,_,_,_,Z,Z,ug.int _,Gb,_,Z,cX ⟨_,Z,_,_,_,_,_,Z,Z,ug.int _,CG,_,Z,cX ⟨⟨_,Z⟩,Z⟩⟩⟩
  ·rintro σ H' ⟨⟨o4,rfl⟩,rfl⟩;exact⟨⟨_,_,_,Z⟩,s1.trans s2⟩
 ·rintro σ G ⟨⟨o2,o3,o4,rfl⟩,sG⟩;refine⟨t,o,O,O,ht,sG _ _ Tw,q _ λc u e=>?_⟩;by_cases z:c=t
  ·rw[z]at e ⊢;rw[cV,<-e,ht]
  ·rw[aU z];refine sG c u ?_;rw[Yk c z];exact n1.same _ _ e
end
namespace D1
def rP(kd:Int)(s:dU)(i j:Nat):Option dU :=
 if kd=0/\dz s i=dz s j then none
 else if kd=1/\dz s i=1/\dz s j=1 then none
 else some (let m:=if kd=2/\dz s i=2/\dz s j=0 then s.set j 1 else s
  if kd=2/\dz s j=2/\dz s i=0 then m.set i 1 else m)
def YF{t:dU}(l:s.length=t.length)(h:∀k,k<s.length->dz s k=dz t k):s=t:=by
 refine Uv l λk h1 h2=>?_;have:=h k h1;unfold dz at this;rw[fK,fK,bL h1,bL h2]at this;exact this
def Ž{x:Int}(h:j<s.length):dz (s.set j x) k=if k=j then x else dz s k:=by
 unfold dz;rw[fK,fK,List.getElem?_set];by_cases c:j=k
 ·rw[aB c,aB c.symm,aB h];rfl
 ·rw[aq c,aq (λe=>c e.symm)]
def YG{a b:Nat}(h:k<s.length):dz (lD s a b) k=if k=a\/k=b then max (dz s k) 1 else dz s k:=by
 unfold lD;show((List.range s.length).map _).getD k 0=_;rw[fK,gk,Io h];rfl
def Yy{c:Int}(h:tG c m s)(hk:k<m):0<=dz s k/\dz s k<c:=by
 have:dz s k∈s:=by
  unfold dz;rw[fK,bL (by rw[h.1];exact hk)];exact oV _
 exact h.2 _ this
def a6D:rP 0 s i j=if dz s i=dz s j then none else some s:=by unfold rP;simp
def a6E:rP 1 s i j=if dz s i=1/\dz s j=1 then none else some s:=by unfold rP;simp
def a7O:rP 2 s i j=some (if dz s j=2/\dz s i=0 then(if dz s i=2/\dz s j=0 then s.set j 1 else s).set i 1 else if dz s i=2/\dz s j=0 then s.set j 1 else s):=by unfold rP;simp
def Ï:Option dU->List (dU×Int)
 |none=>[]
 |some s=>[(s,0)]
def a6F{c:Nat}{t:Int×Int}:(pqC c ws).tie s i j t=Ï (rP 0 s i j):=by
 rw[a6D];show(if dz s i≠dz s j then _ else _)=_;by_cases h:dz s i=dz s j
 ·rw[aq (λz=>z h),aB h];rfl
 ·rw[aB h,aq h];rfl
def a6G{t:Int×Int}(h:tG 2 m s)(hi:i<m)(hj:j<m):(pqA ws).tie s i j t=Ï (rP 1 s i j):=by
 have a:=Yy h hi;have b:=Yy h hj;rw[a6E];show(if dz s i+dz s j<2 then _ else _)=_;by_cases h:dz s i=1/\dz s j=1
 ·rw[aq (),aB h];rfl
 ·rw[aB (),aq h];rfl
def a6H{t:Int×Int}(h:tG 3 m s)(hi:i<m)(hj:j<m):(pqW ws).tie s i j t=Ï (rP 2 s i j):=by
 have il:i<s.length:=by rw[h.1];exact hi
 have jl:j<s.length:=by rw[h.1];exact hj
 rw[a7O];show(if(dz s i=0/\dz s j=2)\/(dz s i=2/\dz s j=0)then _ else _)=_;by_cases c1:dz s i=0/\dz s j=2
 ·rw[aB (.inl c1),aB ⟨c1.2,c1.1⟩,aq ()];show [(lD s i j,0)]=[(s.set i 1,0)];rw[YF (s:=lD s i j) (t:=s.set i 1) (by rw[OJ];unfold lD;rw[aM,qJ]) λk hk=>?_];have hk:k<s.length:=by unfold lD at hk;rwa [aM,qJ]at hk
  rw[YG hk,Ž il];by_cases ki:k=i
  ·subst ki;rw[aB (.inl Z),aB rfl];omega
  ·rw[aq ki];by_cases kj:k=j
   ·subst kj;rw[aB (.inr Z)];omega
   ·rw[aq ()]
 ·by_cases c2:dz s i=2/\dz s j=0
  ·rw[aB (.inr c2),aq (),aB c2];show [(lD s i j,0)]=[(s.set j 1,0)];rw[YF (s:=lD s i j) (t:=s.set j 1) (by rw[OJ];unfold lD;rw[aM,qJ]) λk hk=>?_];have hk:k<s.length:=by unfold lD at hk;rwa [aM,qJ]at hk
   rw[YG hk,Ž jl];by_cases kj:k=j
   ·subst kj;rw[aB (.inr Z),aB rfl];omega
   ·rw[aq kj];by_cases ki:k=i
    ·subst ki;rw[aB (.inl Z)];omega
    ·rw[aq ()]
  ·rw[aq (),aq (),aq c2];rfl
def à(r:gC):gC:=⟨r.m,r.b,[]⟩
def strip(T:cG):cG:=T.map λx=>(x.1,à x.2)
def putD(T:cG)(s:dU)(r:gC):cG:=match uH T s with
 |none=>rJ T s ⟨r.m+0,r.b,[]⟩
 |some o=>rJ T s ⟨r.m+o.m,if o.b<r.b then o.b else r.b,[]⟩
def xV(kd:Int)(i j:Nat):cG->cG->cG
 | [],T=>T
 |x::S,T=>xV kd i j S (match rP kd x.1 i j with|none=>T|some s=>putD T s x.2)
theorem KC{kd:Int}{i j:Nat}{x:dU×gC}:∀{S T:cG},xV kd i j (S++[x]) T=match rP kd x.1 i j with|none=>xV kd i j S T|some s=>putD (xV kd i j S T) s x.2
 | [],_=>rfl
 |_::S,_=>KC (S:=S)
def ž:(putD T s r).length<=T.length+1:=by
 unfold putD;split<;>exact ł _ _ _
theorem YH{kd:Int}{i j:Nat}:∀(S T:cG),(xV kd i j S T).length<=T.length+S.length
 | [],T=>aN _
 |x::S,T=>by
  refine dF (YH S _) ?_
  rw[jH]
  cases rP kd x.1 i j with
  |none=>show T.length+_<=_;omega
  |some s =>
   have:=ž (T:=T) (s:=s) (r:=x.2)
   show(putD T s x.2).length+_<=_
   omega
def Nh(T:cG)(s:dU):uH (strip T) s=(uH T s).map à:=by
 unfold uH strip
 induction T with
 |nil=>rfl
 |cons x T ih =>
  rw[b7];by_cases c:x.1=s
  ·rw[uX (by exact bN c),uX (by exact bN c)];rfl
  ·rw[qI (by exact λz=>c (gn z)),qI (by exact λz=>c (gn z))];exact ih
def Ni(T:cG)(s:dU)(r:gC):strip (rJ T s r)=rJ (strip T) s (à r):=by
 unfold strip rJ;rw[List.any_map];show List.map _ (if(T.any λx=>decide (x.1=s))=true then _ else _)=if(T.any λx=>decide (x.1=s))=true then _ else _
 by_cases c:(T.any λx=>decide (x.1=s))=true
 ·rw[aB c,aB c,mL,mL];refine yc λx _=>?_;show(((if x.1=s then(x.1,r)else x):dU×gC).1,à ((if x.1=s then(x.1,r)else x):dU×gC).2)=if x.1=s then(x.1,à r)else(x.1,à x.2)
  by_cases d:x.1=s
  ·rw[aB d,aB d]
  ·rw[aq d,aq d]
 ·rw[aq c,aq c,eO];rfl
def Α{bt:Int->Int->Bool}{src:List dU}(h:uH T s=none\/∀a b,bt a b=decide (a<b)):strip (mF bt T s ⟨r.m,r.b,src⟩)=putD (strip T) s r:=by
 unfold mF putD;rw[Nh];cases e:uH T s with
 |none=>rw[Ni];show rJ _ _ ⟨r.m,r.b,[]⟩=rJ _ _ ⟨r.m+0,r.b,[]⟩;rw[Int.add_zero]
 |some o =>
  rcases h with h|h
  ·rw[e]at h;cases h
  rw[Ni];show rJ _ _ ⟨o.m+r.m,(zY bt ⟨r.m,r.b,src⟩ o).b,[]⟩=rJ _ _ ⟨r.m+o.m,if o.b<r.b then o.b else r.b,[]⟩;have:(zY bt ⟨r.m,r.b,src⟩ o).b=if o.b<r.b then o.b else r.b:=by
   unfold zY;rw[h];by_cases c:r.b<o.b
   ·rw[aB (bN c),aq ()]
   ·rw[aq (by rw[cZ c];exact cY)];by_cases d:o.b<r.b
    ·rw[aB d]
    ·rw[aq d];show o.b=r.b;omega
  rw[this,Int.add_comm]
def Β{u:dU}(h:uH T u=none)(ne:u≠s):uH (rJ T s r) u=none:=by
 rw[<-h];unfold uH rJ;by_cases c:(T.any λx=>decide (x.1=s))=true
 ·rw[aB c];clear c h
  induction T with
  |nil=>rfl
  |cons x T ih =>
   rw[b7];by_cases d:x.1=s
   ·rw[aB d,qI (by exact λz=>ne ((gn z).symm.trans d)),qI (by exact λz=>ne ((gn z).symm.trans d))];exact ih
   ·rw[aq d];by_cases g:x.1=u
    ·rw[uX (by exact bN g),uX (by exact bN g)]
    ·rw[qI (by exact λz=>g (gn z)),qI (by exact λz=>g (gn z))];exact ih
 ·rw[aq c,Ur,qI (by exact λz=>ne (gn z).symm),List.find?_nil,Option.or_none]
theorem FN{κ:Type}{pq:PQ κ}{kd:Int}{a b:Int}{B:List Int}(hb:(∀s i j s',rP kd s i j=some s'->s'=s)\/∀a b,pq.bt a b=decide (a<b)) :
  ∀{S T:cG},(S.map (·.1)).Nodup->(∀x∈S,pq.tie x.1 (B.idxOf a) (B.idxOf b) (a,b)=Ï (rP kd x.1 (B.idxOf a) (B.idxOf b)))->(∀x∈S,uH T x.1=none\/∀a b,pq.bt a b=decide (a<b))->strip (nY pq (.tie a b) B S T)=xV kd (B.idxOf a) (B.idxOf b) (strip S) (strip T)
 | [],T,_,_,_=>rfl
 |x::S,T,nd,ht,hn=>by
  rw[b7,iW]at nd
  show strip (nY pq (.tie a b) B S (pQ pq.bt x.1 x.2 (pq.tie x.1 (B.idxOf a) (B.idxOf b) (a,b)) T))=xV kd _ _ (strip S) (match rP kd x.1 (B.idxOf a) (B.idxOf b)with|none=>strip T|some s=>putD (strip T) s (à x.2))
  rw[ht x aV]
  have ht':=λy hy=>ht y (bh _ hy)
  have hn':=λy hy=>hn y (bh _ hy)
  cases e:rP kd x.1 (B.idxOf a) (B.idxOf b)with
  |none=>exact FN hb nd.2 ht' hn'
  |some s =>
   show strip (nY pq (.tie a b) B S (mF pq.bt T s ⟨x.2.m,x.2.b+0,[x.1]⟩))=_
   rw[Int.add_zero]
   have h0:uH T s=none\/∀a b,pq.bt a b=decide (a<b):=by
    rcases hb with hb|hb
    ·rw[hb _ _ _ _ e];exact hn x aV
    ·exact .inr hb
   have e2:strip (mF pq.bt T s ⟨x.2.m,x.2.b,[x.1]⟩)=putD (strip T) s (à x.2):=Α (r:=à x.2) h0
   show _=xV kd _ _ (strip S) (putD (strip T) s (à x.2))
   rw[<-e2]
   refine FN hb nd.2 ht' λy hy=>?_
   rcases hb with hb|hb
   ·rcases hn' y hy with z|z
    ·refine .inl ?_
     have ne:y.1≠s:=λq=>nd.1 (dY.mpr ⟨y,hy,q.trans (hb _ _ _ _ e)⟩)
     unfold mF
     cases uH T s<;>exact Β z ne
    ·exact .inr z
   ·exact .inr hb
end D1
abbrev jF:Stmt:=top 46
def xM:bB ["_law_kind","_law_state","_law_at_here","_law_to","_law_marks"] Mz (aD jF):={}
abbrev j4:Stmt:=top 47
def iJ:bB ["_law_kind","_law_table","_law_at_here","_law_to","_law_due","_law_state","_law_row","_law_new","_law_best"] RV (aD j4):={}
def WW{a b:TT}{σ:St}{H:Hp}{Q:Bool->Hp->Prop}{c1 c2:Bool}(h1:∀Q:Bool->Hp->Prop,Q c1 H->a σ H Q)(h2:∀Q:Bool->Hp->Prop,Q c2 H->b σ H Q)(h:Q (c1&&c2) H):a2H a b σ H Q:=by
 refine h1 _ ?_;cases c1 with
 |false=>exact cX h
 |true=>exact gY (h2 _ h)
def dI{x y:Int}:decide (V.int x=V.int y)=decide (x=y):=decide_eq_decide.mpr ⟨V.int.inj,congrArg _⟩
def a1R:Sp:=λvs H Q _=>∃(kd:Int) (a:Addr) (s:dU) (i j:Nat),vs=[.int kd,.ref a,.int i,.int j]/\uG H a s/\i<s.length/\j<s.length/\s.length<=10/\(D1.rP kd s i j=none->Q .non H)/\∀s',D1.rP kd s i j=some s'->∀p H',aJ H H'->uG H' p s'->Q (.ref p) H'
section
variable{P:Program}{w:World}{mg:Str->Option Value}{base:Heap}
def Hh(B:Bl mg)(YJ:Dn K mg "_law_becomes" jF Mz):aZ P w K mg base fV 1 YJ.f YJ.fd Mz a1R:=by
 exists YJ.F.ok xM;obtain⟨kd,a,st,i,j,rfl,ha,hi,hj,l10,q0,q1⟩:=h;refine⟨_,(aG (dH (PW.pt (j9 (aL iR (pv 0) aA) (mZ (aL iR (aO (aK (K:=K) Z) (pv 1) (pv 2)) (aO (aK (K:=K) Z) (pv 1) (pv 3))))))
   (aF (bA oY))
   bK)
   (aG (dH (PW.pt (j9 (aL iR (pv 0) aA) (j9 (aL iR (aO (aK (K:=K) Z) (pv 1) (pv 2)) aA) (mZ (aL iR (aO (aK (K:=K) Z) (pv 1) (pv 3)) aA)))))
   (aF (bA oY))
   bK)
   (aG (bD 4 xM.nd (iC (um (K:=K) Z) Z B.list () (J (pv 1) ao)))
   (kI (dH (PW.pt (j9 (aL iR (pv 0) aA) (j9 (aL iR (aO (aK (K:=K) Z) (pv 1) (pv 2)) aA) (mZ (aL iR (aO (aK (K:=K) Z) (pv 1) (pv 3)) aA)))))
   (aF (wH aA (Ji (pv 4) (pv 3) Mr)))
   bK)
   (kI (dH (PW.pt (j9 (aL iR (pv 0) aA) (j9 (aL iR (aO (aK (K:=K) Z) (pv 1) (pv 3)) aA) (mZ (aL iR (aO (aK (K:=K) Z) (pv 1) (pv 2)) aA)))))
   (aF (wH aA (Ji (pv 4) (pv 2) Mr)))
   bK)
   (aF (bA (iC rz Z B.tuple () (J (pv 4) ao))))))))),?_⟩
 refine WW (λQ h=>⟨_,Z,Z,_,Z,h⟩) (λQ h=>⟨_,Z,_,Z,a,_,_,_,Z,Z,cH.of ha,Q6 hi,_,Z,_,Z,a,_,_,_,Z,Z,cH.of ha,Q6 hj,Z,_,Z,h⟩) (vd (λc=>?_) λc=>?_)
 ·simp only[dI,Bool.and_eq_true,decide_eq_true_iff]at c;exact q0 (aB c)
 dsimp only[ö,a2J,a4V];refine WW (λQ h=>⟨_,Z,Z,_,Z,h⟩) (λQ h=>WW (λQ h=>⟨_,Z,_,Z,a,_,_,_,Z,Z,cH.of ha,Q6 hi,Z,_,Z,h⟩) (λQ h=>⟨_,Z,_,Z,a,_,_,_,Z,Z,cH.of ha,Q6 hj,Z,_,Z,h⟩) h) (vd (λd=>?_) λd=>?_)
 ·simp only[dI,Bool.and_eq_true,decide_eq_true_iff]at c d;exact q0 (by unfold D1.rP;rw[aq c,aB d])
 simp only[dI,Bool.and_eq_true,decide_eq_true_iff]at c d;refine⟨_,Z,a,_,Z,.inr (cH.of ha),λpm H1 n1=>?_⟩;have hm:=n1.here;refine⟨λσ' G=>σ'=[some (.int kd),some (.ref a),some (.int i),some (.int j),some (.ref pm)]/\aJ H G/\G pm=some (.lst ((if kd=2/\dz st i=2/\dz st j=0 then st.set j 1 else st).map V.int)),?_,?_⟩
 ·refine WW (λQ h=>⟨_,Z,Z,_,Z,h⟩) (λQ h=>WW (λQ h=>⟨_,Z,_,Z,a,_,_,_,Z,Z,cH.of (n1.same _ _ ha),Q6 hi,Z,_,Z,h⟩) (λQ h=>⟨_,Z,_,Z,a,_,_,_,Z,Z,cH.of (n1.same _ _ ha),Q6 hj,Z,_,Z,h⟩) h) (vd (λe=>?_) λe=>?_)
  ·simp only[dI,Bool.and_eq_true,decide_eq_true_iff]at e;refine⟨_,Z,_,Z,pm,_,_,j,Z,Z,hm,Xq (by rw[aM];exact hj),λG cg=>⟨Z,n1.same.chg n1.fresh cg,?_⟩⟩;rw[aB e,cg.here,List.map_set]
  ·simp only[dI,Bool.and_eq_true,decide_eq_true_iff]at e;rw[aq e];exact⟨Z,n1.same,hm⟩
 rintro σ' G ⟨rfl,sG,hG⟩;generalize em:(if kd=2/\dz st i=2/\dz st j=0 then st.set j 1 else st)=m1 at hG;have lm:m1.length=st.length:=by rw[<-em];split;exact OJ;rfl
 refine⟨λσ' G=>σ'=[some (.int kd),some (.ref a),some (.int i),some (.int j),some (.ref pm)]/\aJ H G/\G pm=some (.lst ((if kd=2/\dz st j=2/\dz st i=0 then m1.set i 1 else m1).map V.int)),?_,?_⟩
 ·refine WW (λQ h=>⟨_,Z,Z,_,Z,h⟩) (λQ h=>WW (λQ h=>⟨_,Z,_,Z,a,_,_,_,Z,Z,cH.of (sG _ _ ha),Q6 hj,Z,_,Z,h⟩) (λQ h=>⟨_,Z,_,Z,a,_,_,_,Z,Z,cH.of (sG _ _ ha),Q6 hi,Z,_,Z,h⟩) h) (vd (λe=>?_) λe=>?_)
  ·simp only[dI,Bool.and_eq_true,decide_eq_true_iff]at e;refine⟨_,Z,_,Z,pm,_,_,i,Z,Z,hG,Xq (by rw[aM,lm];exact hi),λG cg=>⟨Z,sG.chg n1.fresh cg,?_⟩⟩;rw[aB e,cg.here,List.map_set]
  ·simp only[dI,Bool.and_eq_true,decide_eq_true_iff]at e;rw[aq e];exact⟨Z,sG,hG⟩
 rintro σ' G ⟨rfl,sG,hG⟩;refine⟨_,Z,pm,_,Z,.inl ⟨bI.of hG,λp2 hp2=>?_⟩⟩;have n2:=gZ.oM (H:=G) (p:=p2) (o:=.tup ((if kd=2/\dz st j=2/\dz st i=0 then m1.set i 1 else m1).map V.int)) hp2;refine q1 _ ?_ p2 _ (sG.trans n2.same) n2.here;unfold D1.rP;rw[aq c,aq d,em]
def a1S:Sp:=λvs H Q _=>∃(kd:Int) (t:Addr) (i j m:Nat) (O:List (List Key×V)) (T:cG),vs=[.int kd,.ref t,.int i,.int j]/\H t=some (.dT O)/\xU H O T/\(∀x∈T,x.1.length=m)/\i<m/\j<m/\m<=10/\T.length<=900/\∀d kd2 H',aJ H H'->H' d=some (.dT kd2)->xU H' kd2 (D1.xV kd i j T [])->Q (.ref d) H'
def KD(B:Bl mg)(YJ:Dn K mg "_law_becomes" jF Mz)(Ð:Dn K mg "_law_behind" j4 RV):aZ P w K mg base fV 2 Ð.f Ð.fd RV a1S:=by
 have gZ1:aZ P w K mg base fV 1 _ _ _ _:=Hh B YJ;exists Ð.F.ok iJ;obtain⟨kd,t,i,j,m,O,T,rfl,ht,hT,hm,hi,hj,m10,lT,q⟩:=h;have hw1:(A.deeper (PyProof.Rows.envOfC "_law_behind" (aD j4) s⁻¹ Ð.f dD)).units+1<cLine:=by have:=hr.un;omega
 refine⟨_,(aG (bD 4 iJ.nd Jx)
   (aG (yE (kh jJ Z (vL (tD (K:=K) Z Ak Ij Ik vK (pv 1))) (jN (K:=K) (n:=2) Z Z (cu (aP 5 iJ.nd) (cu (aP 6 iJ.nd) jz)))
   (aG (bD 7 iJ.nd (aY gZ1 hr Z YJ.m YJ.F.kp YJ.b .nil bW (J (pv 0) (J (pv 5) (J (pv 2) (J (pv 3) ao))))))
   (aF (dH (aL Xg (pv 7) oY)
   (aG (bD 8 iJ.nd (aO (aK (K:=K) Z) (pv 6) aA))
   (kI (dH (PW.pt (j9 (aL (ı hw1) (pv 7) (pv 4) (by with_unfolding_all rfl)) (mZ (aL FT (aO (aK (K:=K) Z) (Hx hw1 (pv 4) (pv 7) λ_ _=>rfl) aA) (pv 8)))))
   (aF (bD 8 iJ.nd (aO (aK (K:=K) Z) (Hx hw1 (pv 4) (pv 7) λ_ _=>rfl) aA)))
   bK)
   (aF (wH (bf (J (bQ fL (aO (aK (K:=K) Z) (pv 6) aA) (aO (aK (K:=K) Z) (nU (K:=K) Z Ak N8 PySem.F.type_dict_get (a0W hw1) (pv 4) (J (pv 7) (J (bf (J aA (J aA ao))) ao))) aA)) (J (pv 8) ao))) (Ji (pv 4) (pv 7) (Fi hw1))))))
   bK)))))
   (aF (bA (pv 4))))),?_⟩
 intro d hd;have n0:=gZ.oM (H:=H) (p:=d) (o:=.dT []) hd;generalize cM H d (.dT [])=H0 at n0 ⊢;have ht0:=n0.same _ _ ht;refine⟨_,Z,.inr (.inr (.inl ⟨Z,.inr ⟨_,ht0⟩⟩)),t,O,Z,Z,ht0,λpv H1 n1=>⟨pv,t,O,Z,n1.here,n1.same _ _ ht0,λo as pk=>?_⟩⟩;have h1t:=n1.same _ _ ht0;have hd1:H1 d=some (.dT []):=n1.same _ _ n0.here;have td:t≠d:=λz=>by rw[z,hd]at ht;cases ht
 have Wi:Nd H (cM H1 t (.jq o (.dT O))):=(Nd.of (n0.same.trans n1.same)).trans (Nd.jq h1t);have Tw:cM H1 t (.jq o (.dT O)) t=some (.jq o (.dT O)):=cV;have g0d:cM H1 t (.jq o (.dT O)) d=some (.dT []):=by rw[aU (Ne.symm td)];exact hd1
 have Yk:∀c,c≠t->cM H1 t (.jq o (.dT O)) c=H1 c:=λc hc=>aU hc;generalize cM H1 t (.jq o (.dT O))=G0 at pk Wi Tw g0d Yk ⊢;have lk:=aQ hT;have la:=aQ pk;refine wX (λi' σ G=>(∃o5 o6 o7 o8,σ=[some (.int kd),some (.ref t),some (.int i),some (.int j),some (.ref d),o5,o6,o7,o8])/\Sd d G0 G/\∃kt,G d=some (.dT kt)/\xU G kt (D1.xV kd i j (T.take i') [])) ⟨⟨_,_,_,_,Z⟩,.refl,[],g0d,.nil⟩ (λi' σ G _ h=>h.2.1 _ _ td Tw) ?_ ?_
 ·rintro i' a0 v0 σ G p G1 ha0 hv0 ⟨⟨o5,o6,o7,o8,rfl⟩,sG,kt,hkt,Wj⟩ nw;obtain⟨kv,hkv,hak⟩:=bw pk ha0;obtain⟨⟨st,row⟩,hsx,ek,p2,ep2,hrow⟩:=bw hT hkv;have ek:kv.1=qx st:=ek;have hv0':v0=kv.2:=by
   rw[gk,hkv]at hv0;exact(dO hv0).symm
  have ep2:kv.2=.ref p2:=ep2;rw[ep2]at hv0';subst hv0';rw[ek]at hak;have nG:Nd G0 G:=.sd sG g0d;have n1':aJ G G1:=nw.same;have nG1:Nd G0 G1:=nG.trans (.of n1');have hold:uG G1 a0 st:=uG.MF (nG1.tups _ _ hak);have zZ:G1 p2=some (.tup [.int row.m,.int row.b]):=nG1.tups _ _ (Wi.tups _ _ hrow);have ls:st.length=m:=hm _ (jf hsx);have hTi:T.take (i'+1)=T.take i'++[(st,row)]:=by rw[mK,hsx];rfl
  have lt9:(D1.xV kd i j (T.take i') []).length<=900:=dF (D1.YH _ _) (by rw[fZ];show 0+_<=_;omega);refine⟨p,_,Z,cH.of nw.here,Z,_,_,Z,_,_,Z,Z,⟨_,Z,_,Z,_,Z,_,Z,kd,a0,st,i,j,Z,hold,(),(),(),λen=>?_,λs' es pn G2 s2 hpn=>?_⟩⟩
  ·refine⟨_,Z,Z,_,Z,cX ⟨⟨_,_,_,_,Z⟩,sG.trans (.of n1'),kt,n1' _ _ hkt,?_⟩⟩;rw[hTi,D1.KC,show D1.rP kd st i j=none from en];exact Paired.cB Wj λ_ _ z=>⟨z.1,z.2.keep (.of n1')⟩
  have s12:=n1'.trans s2;have KH:G2 d=some (.dT kt):=s12 _ _ hkt;have Δ:=s2 _ _ zZ;have hT2:xU G2 kt (D1.xV kd i j (T.take i') []):=Paired.cB Wj λ_ _ z=>⟨z.1,z.2.keep (.of s12)⟩;have lkt:=aQ hT2;refine⟨_,Z,Z,_,Z,gY ⟨_,Z,p2,_,_,.int row.b,Z,Z,cH.of Δ,Z,?_⟩⟩;have fin:∀(m0 bs:Int) (G4:Hp) (p4:Addr),(D1.putD (D1.xV kd i j (T.take i') []) s' row=rJ (D1.xV kd i j (T.take i') []) s' ⟨row.m+m0,bs,[]⟩)->aJ G2 G4->G4 p4=some (.tup [.int (row.m+m0),.int bs])->∀G5,uP G4 d (.dT (putK kt (qx s') (.ref p4))) G5->Sd d G0 G5/\∃kt,G5 d=some (.dT kt)/\xU G5 kt (D1.xV kd i j (T.take (i'+1)) []):=λm0 bs G4 p4 ep s4 h4 G5 c5=>by
   have hd4:=s4 _ _ KH;have ts:qz G4 G5:=λc' ys hc=>by
    rw[c5.rest c' (λz=>by rw[z,hd4]at hc;cases hc)];exact hc
   refine⟨(sG.trans (.of (s12.trans s4))).trans (.Ł c5),_,c5.here,?_⟩;rw[hTi,D1.KC,show D1.rP kd st i j=some s' from es];show xU G5 _ (D1.putD _ s' row);rw[ep];exact Yc (Paired.cB hT2 λ_ _ z=>⟨z.1,z.2.keep ((qz.of s4).trans ts)⟩) ⟨p4,Z,ts _ _ h4⟩
  rcases HB s' hT2 with⟨e1,e2⟩|⟨v0,r0,e1,e2,pr,rfl,hr0⟩
  ·refine⟨λσ' G'=>σ'=[some (.int kd),some (.ref t),some (.int i),some (.int j),some (.ref d),some (.ref a0),some (.ref p2),some (.ref pn),some (.int row.b)]/\G'=G2,?_,?_⟩
   ·exact⟨_,Z,_,Z,pn,d,qx s',kt,Z,Z,hpn.key,KH,_,Z,by rw[e1];exact cX (cX ⟨Z,Z⟩)⟩
   rintro σ' G' ⟨rfl,rfl⟩;refine⟨_,Z,p2,_,_,.int row.m,Z,Z,cH.of Δ,Z,_,Z,.inr (.inr (.inl ⟨Z,.inr ⟨_,KH⟩⟩)),_,Z,(),λp3 G3 n3=>?_⟩;refine⟨d,pn,qx s',kt,.ref p3,Z,Z,(hpn.keep (.of n3.same)).key,n3.same _ _ KH,?_⟩;rw[e1];refine⟨p3,_,_,.int 0,Z,Z,cH.of n3.here,Z,_,_,Z,Z,_,Z,(),λp4 G4 n4=>?_⟩;have s4:=n3.same.trans n4.same;refine⟨_,Z,_,Z,d,pn,qx s',kt,Z,Z,(hpn.keep (.of s4)).key,s4 _ _ KH,(),λG5 c5=>?_⟩;exact⟨⟨_,_,_,_,Z⟩,fin 0 row.b G4 p4 (by unfold D1.putD;rw[e2]) s4 n4.here G5 c5⟩
  ·refine⟨λσ' G'=>σ'=[some (.int kd),some (.ref t),some (.int i),some (.int j),some (.ref d),some (.ref a0),some (.ref p2),some (.ref pn),some (.int (if r0.b<row.b then r0.b else row.b))]/\G'=G2,?_,?_⟩
   ·refine⟨_,Z,_,Z,pn,d,qx s',kt,Z,Z,hpn.key,KH,_,Z,?_⟩;rw[e1];refine gY ⟨_,Z,_,Z,d,.ref pr,Z,by rw[<-e1];exact Jw.t KH hpn.key,pr,_,_,.int r0.b,Z,Z,cH.of hr0,Z,_,Z,_,_,Z,Z,_,Z,vd (λc=>?_) λc=>?_⟩
    ·have c:=gn c;refine⟨_,Z,_,Z,d,.ref pr,Z,by rw[<-e1];exact Jw.t KH hpn.key,pr,_,_,.int r0.b,Z,Z,cH.of hr0,Z,?_⟩;exact⟨by rw[aB c];rfl,Z⟩
    ·have c:=λz=>c (bN z);exact⟨by rw[aq c];rfl,Z⟩
   rintro σ' G' ⟨rfl,rfl⟩;refine⟨_,Z,p2,_,_,.int row.m,Z,Z,cH.of Δ,Z,_,Z,.inr (.inr (.inl ⟨Z,.inr ⟨_,KH⟩⟩)),_,Z,(),λp3 G3 n3=>?_⟩;refine⟨d,pn,qx s',kt,.ref p3,Z,Z,(hpn.keep (.of n3.same)).key,n3.same _ _ KH,?_⟩;rw[e1];refine⟨pr,_,_,.int r0.m,Z,Z,cH.of (n3.same _ _ hr0),Z,_,_,Z,Z,_,Z,(),λp4 G4 n4=>?_⟩;have s4:=n3.same.trans n4.same;refine⟨_,Z,_,Z,d,pn,qx s',kt,Z,Z,(hpn.keep (.of s4)).key,s4 _ _ KH,(),λG5 c5=>?_⟩;exact⟨⟨_,_,_,_,Z⟩,fin r0.m _ G4 p4 (by unfold D1.putD;rw[e2]) s4 n4.here G5 c5⟩
 ·rintro σ G ⟨⟨o5,o6,o7,o8,rfl⟩,sG,kt,hkt,Wj⟩;refine⟨t,o,O,O,ht0,sG _ _ td Tw,?_⟩;rw[la.trans lk,iV]at Wj;have tu:qz G (cM G t (.dT O)):=λc ys hc=>by
   rw[aU (λz=>by rw[z,sG _ _ td Tw]at hc;cases hc)];exact hc
  refine⟨_,Z,q d kt _ (λc u e=>?_) (by rw[aU (Ne.symm td)];exact hkt) (Paired.cB Wj λ_ _ z=>⟨z.1,z.2.keep tu⟩)⟩;by_cases z:c=t
  ·rw[z]at e ⊢;rw[cV,<-e,ht]
  ·rw[aU z];refine sG c u (λw=>by rw[w,hd]at e;cases e) ?_;rw[Yk c z];exact(n0.same.trans n1.same) _ _ e
end
end K
namespace De
open PyProof.Rows
variable{a b:Addr}
section
variable{prog:Program}{w:World}{A:Around}{E:Value->Shared->Prop}{s:Shared}{κ:Type} [DecidableEq κ] {knd:HeapKind prog w κ}
def KJ{nm:String}{xa xb:List (κ×Addr×Value)}{Q:Bool->Shared->Prop}(ha:(a==sysModules)=false)(hb:(b==sysModules)=false)(hu:knd.room A)
  (da:s.heap.DictOfH knd a xa) (db:s.heap.DictOfH knd b xb) (len:xa.length=xb.length) (hits:∀x∈xa,∃q,atKey xb x.1=some q/\SeqAt.EqAt A s x.2.2 q.2 true) (h:Q true s) :
  wpAny (model prog w) A (Builtin.Dict.samePairs nm a b) Q E s:=by
 obtain⟨oa,es,ep,hoa,_,hda,hea,hia,hna⟩:=da;obtain⟨ob,fs,ep',hob,_,hdb,heb,hib,hnb⟩:=db;have la:=O3 hea;have lb:=O3 heb;unfold Builtin.Dict.samePairs Builtin.Dict.showsAll;rw[aq (by simp[ha]),aq (by simp[hb])];refine M (aj (M (aj (M (nO hoa hda ?_)))));dsimp only;refine M (nO hob hdb ?_);rw[aq (by simp;omega)];refine M (wB hoa hda (M ?_));rw[â];simp only[Std.Legacy.Range.size,Nat.sub_zero,Nat.add_sub_cancel,Nat.div_one];refine Ov _ (λrest q s'=>s'=s/\q=(none,⟨⟩)/\∃i,rest=List.range' i (es.size-i)/\i<=es.size) _ ?_ ?_ _ _ ⟨Z,Z,0,by simp,dG _⟩
 ·rintro x rest q s' ⟨rfl,rfl,i,hr,hi⟩;have lt:i<es.size:=by
   by_cases c:i<es.size
   ·exact c
   ·rw[show es.size-i=0 by omega]at hr;simp at hr
  obtain⟨rfl,hrest⟩:x=i/\rest=List.range' (i+1) (es.size-(i+1)):=by
   rw[show es.size-i=(es.size-(i+1))+1 by omega,List.range'_succ]at hr;exact⟨(En hr).1,(En hr).2⟩
  have lx:x<xa.length:=()
  have ex:xa[x]?=some xa[x]:=bL lx;have ee:es[x]?=some (entryOfKey knd xa[x]):=by rw[entry_at hea x,ex];rfl
  obtain⟨q,hq,he⟩:=hits xa[x] (oV lx);refine M (nO hoa hda ?_);rw[ee];show wpAny _ _ (holding [Value.ref xa[x].2.1,xa[x].2.2] _ >>= _) _ _ _;refine M (fB (M (wpAny_dictFind_heap hu (hia _ (oV lx)) hob hdb heb hib hnb ?_ ?_)))
  ·intro no;rw[atKey_none_of_get no]at hq;cases hq
  ·intro j p hj;have ep2:p=q:=dO ((atKey_of_get hnb hj).symm.trans hq);subst ep2;refine M (nO hob hdb ?_);have ef:fs[j]?=some (entryOfKey knd (xa[x].1,p)):=by rw[entry_at heb j,hj];rfl
   rw[ef];refine fB (he prog w _ _ ?_);show wpAny _ _ (if(!true)=true then _ else _) _ _ _;rw[aq ()];refine M (wB hoa hda ?_);rw[aq (by simp)];exact aj ⟨Z,Z,x+1,hrest,lt⟩
 ·rintro q s' ⟨rfl,rfl,i,hr,hi⟩;exact aj h
def eq_true{xa xb:List (κ×Addr×Value)}{Q:Value->Shared->Prop}(ha:(a==sysModules)=false)(hb:(b==sysModules)=false)(hr:knd.room A.in1)
  (da:s.heap.DictOfH knd a xa) (db:s.heap.DictOfH knd b xb) (hu:A.units<cLine) (len:xa.length=xb.length) (hits:∀x∈xa,∃q,atKey xb x.1=some q/\SeqAt.EqAt A.in1 s x.2.2 q.2 true) (h:Q (.bool true) s) :
  wpAny (model prog w) A (compareOp .Eq (.ref a) (.ref b)) Q E s:=by
 refine TV (op:=.Eq) da.typeIs db.typeIs PySem.F.slot_dict_eq (gq PySem.F.slot_dict_eq da.typeIs PySem.F.entry_dict_eq (M ?_) (PySem.F.args_dict_eq_2 _ _)) hu;unfold Builtin.Dict.dictSlotArgs;refine M (Am da.typeIs (aj (M (tW (T:="dict") db.typeIs PySem.F.sub_dict_dict ?_))));simp only[if_false,Bool.not_true,Bool.false_eq_true];refine M (aj (M (aj (M (KJ ha hb hr da db len hits ?_)))));exact aj ⟨_,Z,(λz=>by cases z),h⟩
def Ε{xa xb:List (κ×Addr×Value)}{Q:Value->Shared->Prop}(ha:(a==sysModules)=false)(hb:(b==sysModules)=false)(hr:knd.room A.in1)
  (da:s.heap.DictOfH knd a xa) (db:s.heap.DictOfH knd b xb) (hu:A.units<cLine) (len:xa.length=xb.length) (hits:∀x∈xa,∃q,atKey xb x.1=some q/\SeqAt.EqAt A.in1 s x.2.2 q.2 true) (h:Q (.bool false) s) :
  wpAny (model prog w) A (compareOp .NotEq (.ref a) (.ref b)) Q E s:=by
 refine TV (op:=.NotEq) da.typeIs db.typeIs PySem.F.slot_dict_ne (gq PySem.F.slot_dict_ne da.typeIs PySem.F.entry_dict_ne (M ?_) (PySem.F.args_dict_ne_2 _ _)) hu;unfold Builtin.Dict.dictSlotArgs;refine M (Am da.typeIs (aj (M (tW (T:="dict") db.typeIs PySem.F.sub_dict_dict ?_))));simp only[if_false,Bool.not_true,Bool.false_eq_true];refine M (aj (M (aj (M (KJ ha hb hr da db len hits ?_)))));exact aj ⟨_,Z,(λz=>by cases z),h⟩
end
end De
namespace L2
open PyProof.Rows Bg
section
variable{X:Cx}{K:aH}
structure S9(K:aH)(H:Hp)(ka kb:List (List Key×V)):Prop where
 len:ka.length=kb.length
 hit:∀p∈ka,∃v d,iI kb p.1=some v/\K7 K H p.2 d/\K7 K H v d/\SeqAt.shaped d=true
def a6I(K:aH)(neg:Bool):R2:=λx y H Q=>∃a b ka kb,x=.ref a/\y=.ref b/\H a=some (.dT ka)/\H b=some (.dT kb)/\S9 K H ka kb/\Q (.bl (!neg)) H
def KN{Y:List (Addr×Obj)}{σ:St}{H:Hp}{s:Shared}{ka kb:List (List Key×V)}{xa xb:List (List Key×Addr×Value)}(I:bC X Y σ H s)(hu:X.A.units+66<cLine)(ra:KT H ka xa)(rb:KT H kb xb)(S:S9 X.K H ka kb) :
  ∀x∈xa,∃q,atKey xb x.1=some q/\SeqAt.EqAt X.A.in1 s x.2.2 q.2 true:=by
 intro x hx;obtain⟨j,hj,rfl⟩:=oU hx;obtain⟨p,hp,ep,_,rp⟩:=cU ra (bL hj);obtain⟨v,d,hv,d1,d2,sd⟩:=S.hit p (jf hp);have rv:=rb.val p.1;rw[hv]at rv;obtain⟨u,hu2,ru⟩:=tB.some_of rv;rw[<-ep];cases c:atKey xb p.1 with
 |none=>rw[c]at hu2;cases hu2
 |some q =>
  rw[c]at hu2;cases hu2;obtain⟨as,r1⟩:=d1.reads I rp;obtain⟨bs,r2⟩:=d2.reads I ru;have:=PySem.W.keq_at (A:=X.A) r1 r2 sd sd (by rw[Oz];omega);rw[ę sd]at this;exact⟨q,Z,this⟩
def a4F(hu:X.A.units+66<cLine):sS X (compareOp .NotEq) (a6I X.K true):=by
 intro Y s σ H x y v u Q I rx ry h;obtain⟨a,b,ka,kb,rfl,rfl,ea,eb,S,q⟩:=h;obtain rfl:v=Value.ref a:=rx;obtain rfl:u=Value.ref b:=ry;obtain⟨za,sa,xa,ra,da⟩:=yC I.hok ea;obtain⟨zb,sb,xb,rb,db⟩:=yC I.hok eb;have l1:=aQ ra;have l2:=aQ rb;have l3:=S.len;exact De.Ε sa sb (ye ()) da db () () (KN I hu ra rb S) ⟨.bl false,H,I,Z,q⟩
def YK(e:X.K=K)(hu:X.A.units+66<cLine):sS X (compareOp .NotEq) (a6I K true):=by subst e;exact a4F hu
end
end L2
namespace K
open L2 Lw Bg
variable{K:aH}
abbrev rQ:Stmt:=top 48
def mD:bB ["_law_kind","_law_told","_law_steps","_law_tops_here","_law_aheads","_law_k","_law_bag","_law_due"] Yb (aD rQ):={}
namespace D1
def a1T{T:cG}(nd:(T.map (·.1)).Nodup){x:dU×gC}(h:x∈T):uH T x.1=some x.2:=by
 unfold uH
 induction T with
 |nil=>cases h
 |cons y T ih =>
  rw[b7,iW]at nd;rcases bU.mp h with e|h
  ·rw[e,uX (by exact bN Z)];rfl
  ·rw[qI (by exact λz=>nd.1 (dY.mpr ⟨x,h,(gn z).symm⟩))];exact ih nd.2 h
end D1
def Tc{H:Hp}{ka kb:List (List Key×V)}{A B:cG}(ha:xU H ka A)(hb:xU H kb B)(e:D1.strip A=B)(nd:(A.map (·.1)).Nodup):S9 K H ka kb where
 len:=by
  rw[aQ ha,aQ hb,<-e]
  unfold D1.strip
  rw[aM]
 hit:=λp hp=>by
  obtain⟨j,hj,rfl⟩:=oU hp
  obtain⟨x,hx,ek,q,eq,hq⟩:=bw ha (bL hj)
  have g:=D1.Nh A x.1
  rw[D1.a1T nd (jf hx),e]at g
  have ek:ka[j].1=qx x.1:=ek
  have eq:ka[j].2=.ref q:=eq
  rcases HB x.1 hb with⟨_,e2⟩|⟨v,r,e1,e2,q',rfl,hq'⟩
  ·rw[e2]at g;cases g
  ·rw[e2]at g
   have g:r=D1.à x.2:=dO g
   rw[g]at hq'
   exact⟨_,.tuple [.int x.2.m,.int x.2.b],by rw[ek];exact e1,by rw[eq];exact .tup (cH.of hq) (.cons (.int _) (.cons (.int _) .nil)),.tup (cH.of hq') (.cons (.int _) (.cons (.int _) .nil)),Z⟩
def KQ{H:Hp}{O:List (List Key×V)}{T:cG}(h:xU H O T):xU H O (D1.strip T):=by
 induction h with
 |nil=>exact .nil
 |cons a _ ih=>exact .cons a ih
def a6J:PySem.W.kitOne K (.type "list") (.type "list")=some true:=by rfl
def Ζ:Sp:=λvs H Q _=>∃(kd:Int) (pT pS:Addr) (xs yt:List V) (ss:List b8) (Ts:List cG) (n:Nat) (ts:List bY),vs=[.int kd,.ref pT,.ref pS]/\H pS=some (.lst xs)/\Paired (tO H) xs ss/\ss.length<=800/\H pT=some (.lst yt)/\Paired (Ke H) yt Ts/\Ts.length=ss.length/\Go.a1N n ts ss/\(∀k,k<ss.length->(∀x∈Ts.getD k [],x.1.length=(Go.gK n ts ss k).length)/\(Ts.getD k []).length<=900/\((Ts.getD k []).map (·.1)).Nodup)/\
 (∀(k i:Nat) (a b:Int),ss[k]?=some (.tie a b)->Go.rN n ts ss k=[i]->D1.strip (Ts.getD k [])=D1.xV kd ((Go.gK n ts ss k).idxOf a) ((Go.gK n ts ss k).idxOf b) (D1.strip (Ts.getD i [])) [])/\∀H',aJ H H'->Q (.bl true) H'
section
variable{P:Program}{w:World}{mg:Str->Option Value}{base:Heap}
def QV(B:Bl mg)(Î:DZ8 K mg)(S8:Dn K mg "_law_formed" jZ RT)(YJ:Dn K mg "_law_becomes" jF Mz)(Ð:Dn K mg "_law_behind" j4 RV)(Η:Dn K mg "_law_fits" rQ Yb):aZ P w K mg base fV 3 Η.f Η.fd Yb Ζ:=by
 have gZ8:aZ P w K mg base fV 2 _ _ _ _:=(QT B Î).mono ();have gZ4:aZ P w K mg base fV 2 _ _ _ _:=(yQ B S8).mono ();have gZ2:aZ P w K mg base fV 2 _ _ _ _:=KD B YJ Ð;exists Η.F.ok mD;obtain⟨kd,pT,pS,xs,yt,ss,Ts,n,ts,rfl,hS,qS,l8,hT,qT,lT,R,ok,due,q⟩:=h;have hu:(A.deeper (PyProof.Rows.envOfC "_law_fits" (aD rQ) s⁻¹ Η.f dD)).units+66<cLine:=by have:=hr.un;omega
 refine⟨_,(aG (wH (aY gZ8 hr Z Î.m Î.F.kp Î.b .nil bW (J (pv 2) ao)) (į (K:=K) (n:=2) Z Z (cu (aP 3 mD.nd) (cu (aP 4 mD.nd) jz))))
   (aG (dH (PW.pt (FQ (qL (eN (K:=K) Z (bG (jb (K:=K) Z) Z B.isinstance () (J (pv 1) (J (uM (v:=.ty "list") (u:=.type "list") Z B.list () Z) ao))) λ_=>rfl)) (Ew (aL Ma (bG (cP (K:=K) Z) Z B.len () (J (pv 1) ao)) (bG (cP (K:=K) Z) Z B.len () (J (pv 2) ao))))))
   (aF (bA zW))
   bK)
   (aG (kh jJ Z (jX Z B.range (J (bG (cP (K:=K) Z) Z B.len () (J (pv 2) ao)) ao)) (aP 5 mD.nd)
   (aG (dH (qL (eN (K:=K) Z (aY gZ4 hr Z S8.m S8.F.kp S8.b .nil bW (J (aO (bF (K:=K) Z) (pv 1) (pv 5)) (J (bG (cP (K:=K) Z) Z B.len () (J (aO (bF (K:=K) Z) (pv 3) (pv 5)) ao)) ao))) λ_=>rfl))
   (aF (bA zW))
   bK)
   (aF (dH (aL iR (aO (aK (K:=K) Z) (aO (bF (K:=K) Z) (pv 2) (pv 5)) aA) gA)
   (aG (bD 6 mD.nd (aO (bF (K:=K) Z) (pv 3) (pv 5)))
   (aG (bD 7 mD.nd (aY gZ2 hr Z Ð.m Ð.F.kp Ð.b .nil bW (J (pv 0) (J (aO (bF (K:=K) Z) (pv 1) (aO (bF (K:=K) Z) (pv 4) (pv 5))) (J (nU (K:=K) Z lE NQ NT zK (pv 6) (J (aO (aK (K:=K) Z) (aO (bF (K:=K) Z) (pv 2) (pv 5)) aA) ao)) (J (nU (K:=K) Z lE NQ NT zK (pv 6) (J (aO (aK (K:=K) Z) (aO (bF (K:=K) Z) (pv 2) (pv 5)) aA) ao)) ao))))))
   (aF (dH (aL (YK (K:=K) Z hu) (aO (bF (K:=K) Z) (pv 1) (pv 5)) (pv 7))
   (aF (bA zW))
   bK))))
   bK))))
   (aF (bA zW))))),?_⟩
 have lx:=aQ qS;have lyt:yt.length=ss.length:=(aQ qT).trans lT;refine⟨_,Z,pS,xs,ss,n,ts,Z,hS,qS,l8,R,λr pt pa tx G sG hr hpt pTx hpa=>⟨r,[.ref pt,.ref pa],Z,bI.of hr,Z,_,_,Z,_,_,Z,Z,⟨_,Z,_,_,_,_,_,Z,Z,ug.lst (sG _ _ hT),a6J,_,Z,cX ⟨_,Z,pT,_,Z,.inl (bI.of (sG _ _ hT)),_,Z,pS,_,Z,.inl (bI.of (sG _ _ hS)),Z,_,Z,?_⟩⟩⟩⟩;rw[show(!decide (V.int ((yt.length:Nat):Int)=V.int ((xs.length:Nat):Int)))=false by rw[lyt,lx];simp];refine cX ⟨_,Z,pS,_,Z,.inl (bI.of (sG _ _ hS)),_,Z,(),(),?_⟩;rw[j5];have tp:=Go.Sw R.dw R.sb;refine vG (n:=xs.length) (λi σ G'=>(∃o5 o6 o7,σ=[some (.int kd),some (.ref pT),some (.ref pS),some (.ref pt),some (.ref pa),o5,o6,o7])/\aJ G G') ⟨⟨_,_,_,Z⟩,aJ.refl _⟩ ?_ ?_
 ·rintro k σ G1 hk ⟨⟨o5,o6,o7,rfl⟩,s1⟩;rw[show(0:Int)+(k:Int)=(k:Int) by omega];have kl:k<ss.length:=()
  have hs:=bL kl;obtain⟨vx,hvx,Wm,rfl,hst⟩:=cU qS hs;have SB:=R.sb k _ hs;generalize ss[k]=st at hs SB hst;have tabs:∀j,j<ss.length->∃p O,yt[j]?=some (.ref p)/\H p=some (.dT O)/\xU H O (Ts.getD j []):=λj hj=>by
   have hTj:Ts[j]?=some (Ts.getD j []):=by rw[fK,bL ()];rfl
   obtain⟨v,hv,p,O,rfl,h1,h2⟩:=cU qT hTj;exact⟨p,O,hv,h1,h2⟩
  obtain⟨p,O,hyk,hpk,hWk⟩:=tabs k kl;have s01:=sG.trans s1;have htk:((List.range ss.length).map (Go.gK n ts ss))[k]?=some (Go.gK n ts ss k):=by rw[gk,Io kl];rfl
  obtain⟨vb,hvb,pb,rfl,hpb,_⟩:=cU pTx htk;obtain⟨ok1,ok2,ok3⟩:=ok k kl;have b10:=a2u R.dw (Go.Ae (tp k kl).1) (tp k kl).2;refine⟨_,Z,_,Z,pT,_,_,_,Z,Z,bI.of (s01 _ _ hT),cA hyk,_,Z,_,Z,pt,_,_,_,Z,Z,bI.of (s1 _ _ hpt),cA hvb,pb,_,Z,.inl (bI.of (s1 _ _ hpb)),?_⟩;rw[aM];refine⟨p,_,O,Ts.getD k [],Z,s01 _ _ hpk,Paired.cB hWk λ_ _ z=>⟨z.1,z.2.keep (.of s01)⟩,ok1,b10,ok2,λG2 s2=>⟨_,Z,cX ?_⟩⟩;have s12:=s1.trans s2;have s02:=sG.trans s12;refine⟨_,Z,_,Z,pS,_,_,_,Z,Z,bI.of (s02 _ _ hS),cA hvx,Wm,st.vs,0,.str st.word,Z,Z,cH.of (s02 _ _ hst),zL st,Z,_,Z,?_⟩;rw[Up.a6y];by_cases c0:st.tag=2
  ·rw[bN c0];refine gY ?_;obtain⟨a,b,i',rfl,ef,lt,ma,mb,et⟩:∃a b i',st=.tie a b/\Go.rN n ts ss k=[i']/\i'<k/\a∈Go.gK n ts ss k/\b∈Go.gK n ts ss k/\Go.gK n ts ss k=Go.gK n ts ss i':=by
    cases SB with
    | @tie i' a b ef lt _ ma mb et=>exact⟨a,b,i',Z,ef,lt,by rw[et];exact ma,by rw[et];exact mb,et⟩
    |_=>cases c0
   obtain⟨p2,kv2,hy2,hp2,hW2⟩:=tabs i' ();obtain⟨oi1,oi2,oi3⟩:=ok i' ();have hai:((List.range ss.length).map λk=>ahF (Go.rN n ts ss k))[k]?=some (NI i'):=by rw[gk,Io kl,Option.map_some,ef];rfl
   refine⟨_,Z,_,Z,pt,_,_,_,Z,Z,bI.of (s12 _ _ hpt),cA hvb,?_⟩;have a1U:=s12 _ _ hpb;have hS2:=s02 _ _ hS;have ia:=yF ma;have ib:=yF mb;have l10:(Go.gK n ts ss k).length<=1000:=()
   have ls:(D1.strip (Ts.getD i' [])).length<=900:=by unfold D1.strip;rw[aM];exact oi2
   refine⟨_,Z,_,Z,_,Z,_,Z,pa,_,_,_,Z,Z,bI.of (s12 _ _ hpa),cA hai,pT,_,_,_,Z,Z,bI.of (s02 _ _ hT),cA hy2,_,Z,.inl ⟨Z,_,bI.of a1U⟩,_,Z,_,Z,pS,_,_,_,Z,Z,bI.of hS2,cA hvx,Wm,_,1,.int a,Z,Z,cH.of (s02 _ _ hst),Z,pb,_,a,_,Z,Z,a1U,ia.1,ia.2,l10,_,Z,.inl ⟨Z,_,bI.of a1U⟩,_,Z,_,Z,pS,_,_,_,Z,Z,bI.of hS2,cA hvx,Wm,_,2,.int b,Z,Z,cH.of (s02 _ _ hst),Z,pb,_,b,_,Z,Z,a1U,ib.1,ib.2,l10,⟨kd,p2,_,_,_,kv2,D1.strip (Ts.getD i' []),Z,s02 _ _ hp2,KQ (Paired.cB hW2 λ_ _ z=>⟨z.1,z.2.keep (.of s02)⟩),λx hx=>?_,wY ma,wY mb,b10,ls,λd kd2 G3 s3 hd hWd=>?_⟩⟩
   ·obtain⟨y,hy,rfl⟩:=dY.mp hx;rw[et];exact oi1 y hy
   have s03:=s02.trans s3;rw[<-due k i' a b hs ef]at hWd;exact⟨_,Z,_,Z,pT,_,_,_,Z,Z,bI.of (s03 _ _ hT),cA hyk,_,Z,p,d,O,kd2,Z,Z,s03 _ _ hpk,hd,Tc (Paired.cB hWk λ_ _ z=>⟨z.1,z.2.keep (.of s03)⟩) hWd Z ok3,_,Z,cX ⟨⟨_,_,_,Z⟩,s12.trans s3⟩⟩
  ·rw[cZ c0];exact cX ⟨⟨_,_,_,Z⟩,s12⟩
 ·rintro σ G1 ⟨⟨o5,o6,o7,rfl⟩,s1⟩;exact q _ (sG.trans s1)
end
end K
namespace De
open PyProof.Rows
section
variable{prog:Program}{w:World}{A:Around}{E:Value->Shared->Prop}{s:Shared}{κ:Type} [DecidableEq κ] {knd:KeyKind prog w κ}
def Td{id:String}{d:Addr}{o:Obj}{es ep}{xs:List (List κ×Addr×Value)}{Q:Array DictEntry->Shared->Prop}(ho:s.heap.get? d=some o)(hd:o.data=.dict es ep)(he:es.toList=xs.map (entryOfKey (tupleKind knd)))
  (his:∀x∈xs,(tupleKind knd).is s.heap x.1 x.2.1) (hh:(xs.map λx=>tupleKeyHash knd x.1).Nodup) (h:Q es s):wpAny (model prog w) A (Builtin.Dict.entriesForEmpty id d) Q E s:=by
 unfold Builtin.Dict.entriesForEmpty;refine M (nO ho hd (M ?_));rw[<-Og];refine Ov _ (λrest _ s'=>s'=s/\∀e∈rest,∃x∈xs,e=entryOfKey (tupleKind knd) x) _ ?_ ?_ _ _ ⟨Z,λe hm=>?_⟩
 ·rintro e rest b s' ⟨rfl,hp⟩;obtain⟨x,hx,ex⟩:=hp e aV;have gh:¬(es.filter (·.hash==e.hash)).size>1:=by
   have e1:(es.filter (·.hash==e.hash)).size=((xs.map (entryOfKey (tupleKind knd))).filter (·.hash==e.hash)).length:=by
    rw[<-he,<-Array.toList_filter,uY]
   rw[e1,ex];have e2:((xs.map (entryOfKey (tupleKind knd))).filter (·.hash==(entryOfKey (tupleKind knd) x).hash)).length=(xs.map λy=>tupleKeyHash knd y.1).count (tupleKeyHash knd x.1):=by
    rw[List.filter_map,aM,List.count,List.countP_map,List.countP_eq_length_filter];rfl
   rw[e2];have:=List.nodup_iff_count.mp hh (tupleKeyHash knd x.1);omega
  subst ex;show wpAny _ _ (Builtin.Dict.quietEq (.ref x.2.1) >>= _) _ _ _;refine M ?_;show wpAny _ _ (specialOf (.ref x.2.1) "__eq__" >>= _) _ _ _;have ty:=IsTupleKey.typeIs (his x hx);refine M (Az ty PySem.F.slot_tuple_eq.lookup (aj ?_));rw[aB (by rfl),aq gh];exact aj ⟨Z,λe hm=>hp e (bh _ hm)⟩
 ·rintro b s' ⟨rfl,_⟩;exact aj h
 ·rw[he]at hm;obtain⟨x,hx,rfl⟩:=dY.mp hm;exact⟨x,hx,Z⟩
def Ñ{nm:String}{d o:Addr}{xs:List (List κ×Addr×Value)}{Q:Unit->Shared->Prop}(hdo:d≠o)(hoS:(o==sysModules)=false)(hd:s.heap.DictOfH (tupleKind knd) d [])(ho:s.heap.DictOfH (tupleKind knd) o xs)
  (hh:(xs.map λx=>tupleKeyHash knd x.1).Nodup) (hQ:∀h',h'.DictOfH (tupleKind knd) d xs->Heap.SameBut d s.heap h'->Q ⟨⟩ { s with heap:=h'}) (hsz:xs.length<=sizeLine):wpAny (model prog w) A (Builtin.Dict.mergeDict nm d o) Q E s:=by
 obtain⟨od,esd,epd,hod,hcd,hdd,hed,hkd,hnd⟩:=id hd;obtain⟨oo,eso,epo,hoo,hco,hdo',heo,hko,hno⟩:=id ho;have d0:esd = #[]:=by
  have:esd.toList=[]:=hed;simpa using this
 unfold Builtin.Dict.mergeDict;rw[aq (by simpa using hdo)];unfold Builtin.Dict.showsAll;rw[aq (by rw[hoS];exact cY)];refine M (aj (M (nO hoo hdo' ?_)));have hlen:eso.size=xs.length:=O3 heo;cases xs with
 |nil =>
  have o0:eso = #[]:=by
   have:eso.toList=[]:=heo;simpa using this
  subst o0;dsimp only;rw[aq (by simp)];refine M (wB hoo hdo' (M (nO hoo hdo' (M ?_))));rw[â];simp only[Std.Legacy.Range.size,Nat.sub_zero,Nat.add_sub_cancel,Nat.div_one];exact Ov _ (λrest _ s'=>rest=[]/\s'=s) _ (λx rest b s' h=>by cases h.1) (λb s' h=>by rw[h.2];exact aj (hQ _ hd (Ol _ _))) _ _ ⟨Z,Z⟩
 |cons x r =>
  have few:(decide (eso.size<=8)&&eso.all λe=>(keyPart e.key).isSome)=false:=by
   have:(eso.all λe=>(keyPart e.key).isSome)=false:=by
    rw[<-Array.all_toList,heo];rfl
   rw[this,Bool.and_false]
  dsimp only;rw[aB (by rw[few];rfl)];refine M (nO hod hdd ?_);rw[aB (by rw[d0];rfl)];refine M (Td hoo hdo' heo hko hh ?_);rw[aB (by
   have:eso.isEmpty=false:=by rw[Array.isEmpty_eq_false_iff];intro z;rw[z]at hlen;cases hlen
   rw[this];rfl)]
  have sb:=nJ s.heap d (Obj.mapDictKeys λ_=>eso);refine M (wpAny_updateDictKeysTo hod hdd (aj (hQ _ ⟨_,_,epd+1,xX _ hod (Obj.isFreed_of_dict (Ob hdd _)),hcd.mapDictKeys _,Ob hdd _,heo,λy hy=>(tupleKind knd).keeps (hko y hy) hod hdd (nJ ..),hno⟩ (nJ ..))) ())
def LC{o:Addr}{xs:List (List κ×Addr×Value)}{Q:Value->Shared->Prop}(hoS:(o==sysModules)=false)(ho:s.heap.DictOfH (tupleKind knd) o xs)(hh:(xs.map λx=>tupleKeyHash knd x.1).Nodup)(hsz:xs.length<=sizeLine)
  (h:∀h',h'.DictOfH (tupleKind knd) s⁻¹ xs->Heap.SameBut s⁻¹ (s.heap.push { cls:=.type "dict",data:=.dict #[]}) h'->Q (.ref s⁻¹) { s with heap:=h'}) :
  wpAny (model prog w) A (call (.type "dict") [.ref o]) Q E s:=by
 refine callType_codes (Q₁:=λobj s₁=>obj=.ref s⁻¹/\s₁={ s with heap:=s.heap.push { cls:=.type "dict",data:=.dict #[]}}) PySem.F.kt_called_dict (ë _) PySem.F.entry_dict_init (kt_code_dict_new _ ⟨rfl,rfl⟩) ?_;rintro obj s₁ ⟨rfl,rfl⟩;obtain⟨oo,eso,epo,hoo,hco,hdo',heo,hko,hno⟩:=id ho;have hnew:(s.heap.push { cls:=.type "dict",data:=.dict #[]}).DictOfH (tupleKind knd) s⁻¹ []:=Heap.DictOfH.new s.heap;have a6K:=bx { cls:=.type "dict",data:=.dict #[]} hoo;have ho':(s.heap.push { cls:=.type "dict",data:=.dict #[]}).DictOfH (tupleKind knd) o xs:=⟨oo,eso,epo,a6K,hco,hdo',heo,λy hy=>by
  obtain⟨oy,bV,n,h1,h2⟩:=hko y hy;exact⟨oy,bV,n,bx _ h1,h2⟩,hno⟩
 have tyn:Shared.TypeIs { s with heap:=s.heap.push { cls:=.type "dict",data:=.dict #[]}} (.ref s⁻¹) "dict" :=⟨_,bT _ rfl,rfl⟩;have tyo:Shared.TypeIs { s with heap:=s.heap.push { cls:=.type "dict",data:=.dict #[]}} (.ref o) "dict" :=⟨_,a6K,hco.1⟩;have hdo:s⁻¹≠o:=λe=>absurd (aX hoo) (by rw[e];exact wD _);refine⟨tyn,ò _ _,?_⟩;unfold Builtin.«dict.__init__»;refine M ?_;unfold Builtin.Dict.selfAndRest;refine M (Am tyn ?_);show wpAny _ _ (pure (s⁻¹,[Value.ref o])) _ _ _;refine aj ?_;show wpAny _ _ (Builtin.Dict.updateFrom "dict.__init__" s⁻¹ (.ref o) [] .none) _ _ _;unfold Builtin.Dict.updateFrom;refine M (uZ tyo ?_);rw[aq ()];refine M ?_;unfold Builtin.Dict.merge;refine M ?_;unfold Builtin.Dict.readDirectly;refine M (tW tyo isSubtype_dict_dict ?_);simp only[Bool.not_true,Bool.false_eq_true,if_false];refine M (Az tyo PySem.F.slot_dict_iter.lookup (aj ?_));simp only[beq_self_eq_true,if_true];refine M (aj (Ñ hdo hoS hnew ho' hh (λh' hd' hs'=>?_) hsz));show wpAny _ _ (Builtin.Dict.addKeywords s⁻¹ [] >>= _) _ _ _;exact M (aj (aj ⟨Z,h h' hd' hs'⟩))
end
end De
namespace L2
open PyProof.Rows
def Nj(w:World)(k:List Key):Int:=reduceHash (Builtin.Tuple.tupleHashOf (k.map (a4N w)))
inductive a4G(xs:List V)(H:Hp)(Q:VK):Prop
 |mk (a:Addr) (O:List (List Key×V)) (_:xs=[.ref a]) (_:H a=some (.dT O)) (_:∀w,(O.map λkv=>Nj w kv.1).Nodup) (_:∀p H',gZ H p (.dT O) H'->Q (.ref p) H')
def WX{X:Cx}:jG X (.type "dict") a4G:=by
 intro Y s σ H xs us Q I r h;obtain⟨a,O,rfl,ea,hh,q⟩:=h;obtain⟨u,rfl,ru⟩:=vals1 r;obtain rfl:u=Value.ref a:=ru;obtain⟨za,sa,xa,ra,da⟩:=yC I.hok ea;have la:=aQ ra;have ek:(xa.map λx=>tupleKeyHash (dN X.prog X.w) x.1)=O.map λkv=>Nj X.w kv.1:=by
  clear da la ea hh q za
  induction ra with
  |nil=>rfl
  |cons a _ ih=>rw[b7,b7,ih,a.1];rfl
 refine De.LC (knd:=dN X.prog X.w) sa da (by rw[ek];exact hh _) () λh' dd sb=>?_;have lt:s⁻¹<=s⁻¹:=aN _;have hf:H s⁻¹=none:=I.hok.fresh lt;have hs:(s⁻¹==sysModules)=false:=wj.mpr (Ne.symm (bZ (jC I.big lt)));refine⟨.ref s⁻¹,_,I.laid (t':=s.toks) (o:=.dT O) (λc o e=>?_) lt (Ĵ () hs (ra.keeps λc zs ec=>?_) dd),Z,q _ _ (gZ.oM hf)⟩
 ·rw[sb.2 c (bZ (aX e))];exact bx _ e
 ·rw[aU (dR ec hf)];exact ec
end L2
namespace K
open L2 Lw Bg
variable{m:Nat}{P:Program}{w:World}{K:aH}{mg:Str->Option Value}{base:Heap}{c:Int}
namespace D1
def Θ{κ:Type} [DecidableEq κ] {pq:PQ κ}{kd:Int}{n:Nat}{ts:List bY}{ss:List b8} (R:Go.a1N n ts ss) (tk:∀j,j<ss.length->Ad pq (Go.gK n ts ss j).length ((Go.zV pq n ts ss ss.length).getD j []))
  (hb:(∀s i j s',rP kd s i j=some s'->s'=s)\/∀a b,pq.bt a b=decide (a<b)) (ht:∀{m:Nat}{s:dU}{i j:Nat}{t:Int×Int},pq.Ok m s->i<m->j<m->pq.tie s i j t=Ï (rP kd s i j)) {k i:Nat}{a b:Int} (hs:ss[k]?=some (.tie a b)) (ef:Go.rN n ts ss k=[i]) :
  strip ((Go.zV pq n ts ss ss.length).getD k [])=xV kd ((Go.gK n ts ss k).idxOf a) ((Go.gK n ts ss k).idxOf b) (strip ((Go.zV pq n ts ss ss.length).getD i [])) []:=by
 have kl:=(fY.mp hs).1;have tp:=Go.Sw R.dw R.sb;obtain⟨lt,ma,mb,et⟩:i<k/\a∈Go.gK n ts ss i/\b∈Go.gK n ts ss i/\Go.gK n ts ss k=Go.gK n ts ss i:=by
  have SB:=R.sb k _ hs;cases SB with
  |tie ef' lt _ ma mb et =>
   rw[ef]at ef';cases ef';exact⟨lt,ma,mb,et⟩
 have ei:(Go.zV pq n ts ss k).getD i []=(Go.zV pq n ts ss ss.length).getD i []:=(Go.Qz pq lt).trans (Go.Qz pq (u5 lt kl)).symm;have ti:=tk i (u5 lt kl);rw[Go.Qz pq kl,Go.Qy,getD_at hs,ef];show strip (nY pq (.tie a b) (gj (Go.gK n ts ss k) (Go.gK n ts ss i)) ((Go.zV pq n ts ss k).getD i []) [])=_;rw[et,(Go.zN R.dw (tp i ()).1 (tp i ()).2 λv hv=>hv).1,ei];exact FN hb ti.nd (λx hx=>ht (ti.ok x hx) (wY ma) (wY mb)) λ_ _=>.inl rfl
end D1
namespace D1
def QX:Nat->List dU
 |0=>[[]]
 |m+1=>(QX m).flatMap λs=>[0::s,1::s,2::s,3::s]
def hS(s:dU):Int:=reduceHash (Builtin.Tuple.tupleHashOf (s.map hashInt))
def h_0:((QX 0).map hS).Nodup:=by decide
def h_1:((QX 1).map hS).Nodup:=by decide
def h_2:((QX 2).map hS).Nodup:=by decide
def h_3:((QX 3).map hS).Nodup:=by decide
def h_4:((QX 4).map hS).Nodup:=by decide
def a6L(h:m<=4):((QX m).map hS).Nodup:=by
 rcases(show m=0\/m=1\/m=2\/m=3\/m=4 by omega)with e|e|e|e|e<;>subst e
 ·exact h_0
 ·exact h_1
 ·exact h_2
 ·exact h_3
 ·exact h_4
def a1V(c4:c<=4){s:dU}(h:tG c m s):s∈QX m:=by
 induction s generalizing m with
 |nil =>
  obtain rfl:0=m:=h.1;exact T5 _
 |cons x s ih =>
  obtain⟨h1,h2⟩:=h;subst h1;refine List.mem_flatMap.mpr ⟨s,ih ⟨Z,λy hy=>h2 y (bh _ hy)⟩,?_⟩;have:=h2 x aV;rcases(show x=0\/x=1\/x=2\/x=3 by omega)with e|e|e|e<;>subst e<;>simp
def a1W{α β:Type}{f:α->β}{l:List α}(nd:(l.map f).Nodup){a b:α}(ha:a∈l)(hb:b∈l)(e:f a=f b):a=b:=by
 induction l with
 |nil=>cases ha
 |cons x l ih =>
  rw[b7,iW]at nd;rcases bU.mp ha with ea|ha'
  ·rcases bU.mp hb with eb|hb'
   ·rw[ea,eb]
   ·exact absurd (dY.mpr ⟨b,hb',by rw[<-e,ea]⟩) nd.1
  ·rcases bU.mp hb with eb|hb'
   ·exact absurd (dY.mpr ⟨a,ha',by rw[e,eb]⟩) nd.1
   ·exact ih nd.2 ha' hb'
def hash_eq(w:World)(s:dU):Nj w (qx s)=hS s:=by
 unfold Nj hS qx;rw[mL];rfl
def a1X(c4:c<=4)(m4:m<=4){H:Hp}{O:List (List Key×V)}{T:cG}(h:xU H O T)(nd:(T.map (·.1)).Nodup)(ok:∀x∈T,tG c m x.1)(w:World):(O.map λkv=>Nj w kv.1).Nodup:=by
 have e:(O.map λkv=>Nj w kv.1)=(T.map (·.1)).map hS:=by
  clear nd ok
  induction h with
  |nil=>rfl
  |cons a _ ih=>rw[b7,b7,b7,ih,a.1,hash_eq]
 rw[e];have mm:∀s∈T.map (·.1),s∈QX m:=λs hs=>by
  obtain⟨x,hx,rfl⟩:=dY.mp hs;exact a1V c4 (ok x hx)
 exact Go.Ww nd λa ha b hb e=>a1W (a6L m4) (mm a ha) (mm b hb) e
end D1
def QAt(K:aH)(CC CA CW:Addr)(kd:Int)(c n:Nat)(ts:List bY)(ws:List Int)(H:Hp)(d:Addr):Prop:=(kd=0->Fz K CC [("many",.int c)] n ts ws H d)/\(kd=1->Fz K CA [] n ts ws H d)/\(kd=2->Fz K CW [] n ts ws H d)
def vC(kd:Int)(c:Nat)(ws:List Int)(n:Nat)(ts:List bY)(ss:List b8):List cG:=if kd=0 then Go.zV (pqC c ws) n ts ss ss.length else if kd=1 then Go.zV (pqA ws) n ts ss ss.length else Go.zV (pqW ws) n ts ss ss.length
structure a2z(kd:Int)(n:Nat)(ts:List bY)(ss:List b8)(Ts:List cG):Prop where
 len:Ts.length=ss.length
 ok:∀k,k<ss.length->((Ts.getD k []).map (·.1)).Nodup/\∀x∈Ts.getD k [],tG 4 (Go.gK n ts ss k).length x.1
 tie:∀(k i:Nat) (a b:Int),ss[k]?=some (.tie a b)->Go.rN n ts ss k=[i]->D1.strip (Ts.getD k [])=D1.xV kd ((Go.gK n ts ss k).idxOf a) ((Go.gK n ts ss k).idxOf b) (D1.strip (Ts.getD i [])) []
def a1Y(K:aH)(CC CA CW:Addr):Sp:=λvs H Q _=>∃(kd:Int) (c:Nat) (pL d:Addr) (xs:List V) (ss:List b8) (n:Nat) (ts:List bY) (ws:List Int),vs=[.ref pL,.ref d]/\0<=kd/\kd<=2/\c<=4/\QAt K CC CA CW kd c n ts ws H d/\ws.length=n/\n<=10/\(∀t∈ts,t.1≠t.2)/\bI K H pL xs/\Paired (vh K H) xs ss/\ss.length<=800/\Bp n ts ss (cD n ts ss)=.ok/\(∀b∈(cD n ts ss).aR,b.length<=4)/\
 ∀pT yt H',a2z kd n ts ss (vC kd c ws n ts ss)->aJ H H'->H' pT=some (.lst yt)->Paired (Ke H') yt (vC kd c ws n ts ss)->Q (.ref pT) H'
def aZ.exs{α:Type}{CX:Q0}{k:Nat}{f:Addr}{fd:FuncData}{ps:List Str}{sp:α->Sp}(F:∀a,aZ P w K mg base CX k f fd ps (sp a)):aZ P w K mg base CX k f fd ps (λvs H Q E=>∃a,sp a vs H Q E) :=
 ⟨λvs H Q E ⟨a,h⟩=>(F a).len vs H Q E h,λA outer s H args us vs Q E hr he hb hv ⟨a,hs⟩=>(F a).run A outer s H args us vs Q E hr he hb hv hs⟩
def aZ.sub{CX:Q0}{k:Nat}{f:Addr}{fd:FuncData}{ps:List Str}{sp sp':Sp}(F:aZ P w K mg base CX k f fd ps sp)(m:∀vs H Q E,sp' vs H Q E->sp vs H Q E):aZ P w K mg base CX k f fd ps sp' :=
 ⟨λvs H Q E h=>F.len vs H Q E (m vs H Q E h),λA outer s H args us vs Q E hr he hb hv hs=>F.run A outer s H args us vs Q E hr he hb hv (m vs H Q E hs)⟩
structure Drw where
 n:Nat
 ts:List bY
 ws:List Int
 lw:ws.length=n
 c:Nat
 c4:c<=4
section
variable{n:Nat}{ts:List bY}{ss:List b8}
def WY{κ:Type} [DecidableEq κ] (Qn:HD P w K mg base κ) (pk:Dz Qn.pq) {kd:Int}{Ts:List cG} (en:Qn.n=n) (et:Qn.ts=ts) (eT:Ts=Go.zV Qn.pq n ts ss ss.length) (hPl:∀k:Nat,k<Qn.n->Qn.Pl k) (hTi:∀t∈Qn.ts,Qn.Ti t) (ne:∀t∈ts,t.1≠t.2) (dw:n<=10) (l8:ss.length<=800) (qY:Bp n ts ss (cD n ts ss)=.ok) (b4:∀b∈(cD n ts ss).aR,b.length<=4)
  (k4:∀{m s},Qn.pq.Ok m s->tG 4 m s) (hb:(∀s i j s',D1.rP kd s i j=some s'->s'=s)\/∀a b,Qn.pq.bt a b=decide (a<b)) (ht:∀{m:Nat}{s:dU}{i j:Nat}{t:Int×Int},Qn.pq.Ok m s->i<m->j<m->Qn.pq.tie s i j t=D1.Ï (D1.rP kd s i j)):a2z kd n ts ss Ts:=by
 subst en et eT;have R:=Go.a2x dw qY;have ga:=(Go.Wv Qn pk hPl hTi ne dw l8 qY b4 ss.length (aN _)).ok;exact⟨nA _ _ _ _ _,λk kl=>⟨(ga k kl).nd,λx hx=>k4 ((ga k kl).ok x hx)⟩,λk i a b hs ef=>D1.Θ R ga hb ht hs ef⟩
end
def W3{d:Int}(h:c<=d){s:dU}(o:tG c m s):tG d m s:=⟨o.1,λx hx=>⟨(o.2 x hx).1,Int.lt_of_lt_of_le (o.2 x hx).2 h⟩⟩
def Ò(B:Bl mg)(Bz:mg "zip" = none)(bO:vX K mg)(cJ:Dt K mg)(dB:Du K mg)(U:Used w K mg)(Ct:Ř mg)(jU:Fq K mg)(jy:Dn K mg "is_below" fP uq)(oN:Dn K mg "joint" pX jT)(mQ:Dn K mg "less" sU jT)(HN:Dn K mg "bag_behind" fQ Dg)(vU:Dn K mg "run" Gq mW)(uK:Dn K mg "fault_behind" eY Gj)(xR:Dn K mg "run_whole" lN mW)(xT:ś K mg)(zT:Dn K mg "run_narrow" mj mW)(vQ:Dn K mg "states_behind" fX Gi)(qO:Dn K mg "note" vg Df)(xO:Dn K mg "fill_along" jQ JF)(wZ:Dn K mg "fill_joined" iB JG)(yG:Dn K mg "going_up" oh JH)(yO:a1p K mg)(uL:Dn K mg "tables" yN Mw)(jV:Dn K mg "with_number" eZ xr)(jW:Dn K mg "without_number" cW xu):aZ P w K mg base fV 12 uL.f uL.fd Mw (a1Y K bO.C cJ.C dB.C):=by
 have QC:=λx:Drw=>(Fy (P:=P) (base:=base) B Bz Ct U (a4m B bO x.c4 x.n x.ts x.ws x.lw jV jW) jU jy oN mQ HN vU uK xR xT zT vQ qO xO wZ yG yO uL);have QA:=λx:Drw=>(Fy (P:=P) (base:=base) B Bz Ct U (a4n B cJ x.n x.ts x.ws x.lw jV jW) jU jy oN mQ HN vU uK xR xT zT vQ qO xO wZ yG yO uL);have QW:=λx:Drw=>(Fy (P:=P) (base:=base) B Bz Ct U (a4o B Bz dB x.n x.ts x.ws x.lw jV jW) jU jy oN mQ HN vU uK xR xT zT vQ qO xO wZ yG yO uL);have G:=aZ.either (aZ.exs QC) (aZ.either (aZ.exs QA) (aZ.exs QW));refine _root_.K.aZ.sub G λvs H Q E h=>?_;obtain⟨kd,c,pL,d,xs,ss,n,ts,ws,rfl,k0,k2,c4,qa,lw,dw,ne,hL,pL',l8,qY,b4,q⟩:=h;rcases(show kd=0\/kd=1\/kd=2 by omega)with e|e|e
 ·have eT:vC kd c ws n ts ss=Go.zV (pqC c ws) n ts ss ss.length:=by unfold vC;rw[aB e]
  have Fc:=WY (P:=P) (w:=w) (base:=base) (kd:=kd) (a4m B bO c4 n ts ws lw jV jW) (Go.okC c4 ws) Z Z eT (λk h=>h) (λ_ _=>trivial) ne dw l8 qY b4 (λ{m s} h=>W3 (c:=(c:Int)) () h) (.inl λs i j s' z=>by
   rw[e,D1.a6D]at z;split at z
   ·cases z
   ·exact(dO z).symm) (λ{m s i j t} _ _ _=>by rw[e];exact D1.a6F)
  have g:=Go.Rq (P:=P) (w:=w) (base:=base) (a4m B bO c4 n ts ws lw jV jW) (Go.okC c4 ws) (λk h=>h) (λ_ _=>trivial) ne dw l8 qY b4;exact .inl ⟨⟨n,ts,ws,lw,c,c4⟩,d,pL,xs,ss,Z,qa.1 e,dw,hL,pL',l8,qY,b4,g.1,g.2,λpT yt H' s hT qT=>q pT yt H' Fc s hT (by rw[eT];exact qT)⟩
 ·have eT:vC kd c ws n ts ss=Go.zV (pqA ws) n ts ss ss.length:=by unfold vC;rw[aq (),aB e]
  have Fc:=WY (P:=P) (w:=w) (base:=base) (kd:=kd) (a4n B cJ n ts ws lw jV jW) (Go.okA ws) Z Z eT (λk h=>h) (λ_ _=>trivial) ne dw l8 qY b4 (λ{m s} h=>W3 (c:=2) () h) (.inl λs i j s' z=>by
   rw[e,D1.a6E]at z;split at z
   ·cases z
   ·exact(dO z).symm) (λ{m s i j t} h hi hj=>by rw[e];exact D1.a6G h hi hj)
  have g:=Go.Rq (P:=P) (w:=w) (base:=base) (a4n B cJ n ts ws lw jV jW) (Go.okA ws) (λk h=>h) (λ_ _=>trivial) ne dw l8 qY b4;exact .inr (.inl ⟨⟨n,ts,ws,lw,0,()⟩,d,pL,xs,ss,Z,qa.2.1 e,dw,hL,pL',l8,qY,b4,g.1,g.2,λpT yt H' s hT qT=>q pT yt H' Fc s hT (by rw[eT];exact qT)⟩)
 ·have eT:vC kd c ws n ts ss=Go.zV (pqW ws) n ts ss ss.length:=by unfold vC;rw[aq (),aq ()]
  have Fc:=WY (P:=P) (w:=w) (base:=base) (kd:=kd) (a4o B Bz dB n ts ws lw jV jW) (Go.okW ws) Z Z eT (λk h=>h) (λ_ _=>trivial) ne dw l8 qY b4 (λ{m s} h=>W3 (c:=3) () h) (.inr λa b=>rfl) (λ{m s i j t} h hi hj=>by rw[e];exact D1.a6H h hi hj);have g:=Go.Rq (P:=P) (w:=w) (base:=base) (a4o B Bz dB n ts ws lw jV jW) (Go.okW ws) (λk h=>h) (λ_ _=>trivial) ne dw l8 qY b4;exact .inr (.inr ⟨⟨n,ts,ws,lw,0,()⟩,d,pL,xs,ss,Z,qa.2.2 e,dw,hL,pL',l8,qY,b4,g.1,g.2,λpT yt H' s hT qT=>q pT yt H' Fc s hT (by rw[eT];exact qT)⟩)
end K
namespace De
open PyProof.Rows
open AutoSeq1 (wpAny_loadPart')
open MeetsSeq MeetsSeq2 MeetsSeq3 SeqRoads2
def Ι(prog:Program)(w:World)(A:Around)(s:Shared)(y x:Value):Prop:=∀(E:Value->Shared->Prop) (Q:Bool->Shared->Prop),Q true s->wpAny (model prog w) A (eqBool y x) Q E s
section
variable{prog:Program}{w:World}
def a1Z(l b:Addr)(xs ys:Array Value)(n n2:Nat)(dd dd2:Option Addr)(sl sl2:Array (Option Value))(hz:xs.size=ys.size)(k:Nat) :
  ∀i:Nat,xs.size-i=k->MeetsIn prog w (Builtin.«list.__eq__.loop» ⟨[.ref l,.ref b,rawInt i,rawInt 2],[]⟩)
   (λA R s=>s.heap.get? l=some { cls:=.type "list",dict:=dd,data:=.seq xs n,slots:=sl}/\s.heap.get? b=some { cls:=.type "list",dict:=dd2,data:=.seq ys n2,slots:=sl2}/\
    (∀j (h1:j<xs.size) (h2:j<ys.size),Ι prog w A.in1 s xs[j] ys[j])/\R (.ok (.ret (.bool true))) s):=by
 induction k with
 |zero =>
  intro i hk A R s h;obtain⟨hp,g,d,tk,os⟩:=s;obtain⟨gl,gb,he,h⟩:=h
  wp_walk using nP gl,nP gb
  have i1:xs[((i:Nat):Int).toNat]?=none:=by simp;omega
  have i2:ys[((i:Nat):Int).toNat]?=none:=by simp;omega
  rw[i1,i2]
  wp_walk using nP gl,nP gb
  show R (.ok (.ret (.bool (xs.size==ys.size)))) _;rw[hz];simpa using h
 |succ k ih =>
  intro i hk A R s h;obtain⟨hp,g,d,tk,os⟩:=s;obtain⟨gl,gb,he,h⟩:=h
  wp_walk using nP gl,nP gb
  have lt:i<xs.size:=()
  have lt2:i<ys.size:=()
  have i1:xs[((i:Nat):Int).toNat]?=some xs[i]:=by simp[lt]
  have i2:ys[((i:Nat):Int).toNat]?=some ys[i]:=by simp[lt2]
  rw[i1,i2];refine M (he i lt lt2 _ _ ?_)
  wp_walk
  rw[show((i:Int)+1)=((i+1:Nat):Int) by push_cast;rfl];exact⟨oX plain_eq_loop _,mJ entry_eq_loop (by
   rw[nF plain_eq_loop _];exact ih (i+1) () A R _ ⟨gl,gb,he,h⟩)⟩
def a2a(l b:Addr)(xs ys:Array Value)(n n2:Nat)(dd dd2:Option Addr)(sl sl2:Array (Option Value))(hz:xs.size=ys.size) :
  MeetsIn prog w (Builtin.«list.__eq__» ⟨[.ref l,.ref b],[]⟩)
   (λA R s=>s.heap.get? l=some { cls:=.type "list",dict:=dd,data:=.seq xs n,slots:=sl}/\s.heap.get? b=some { cls:=.type "list",dict:=dd2,data:=.seq ys n2,slots:=sl2}/\
    (∀j (h1:j<xs.size) (h2:j<ys.size),Ι prog w A.in1 s xs[j] ys[j])/\R (.ok (.ret (.bool true))) s):=by
 intro A R s h;obtain⟨hp,g,d,tk,os⟩:=s;obtain⟨gl,gb,he,h⟩:=h;have f3:=AutoSeq1.sub_list_list;have hne:¬(xs.size != ys.size)=true:=by simp[hz]
 wp_walk using nP gl,nP gb
 exact⟨oX plain_eq_loop _,mJ entry_eq_loop (by
  rw[nF plain_eq_loop _];exact a1Z l b xs ys n n2 dd dd2 sl sl2 hz _ 0 Z A R _ ⟨gl,gb,he,h⟩)⟩
end
section
variable{prog:Program}{w:World}{A:Around}{E:Value->Shared->Prop}{s:Shared}
def Κ{l b:Addr}{xs ys:Array Value}{Q:Value->Shared->Prop}(gl:s.heap.IsList l xs)(gb:s.heap.IsList b ys)(hz:xs.size=ys.size)(hu:A.units<cLine)
  (he:∀j (h1:j<xs.size) (h2:j<ys.size),Ι prog w A.in1 s xs[j] ys[j]) (h:Q (.bool true) s):wpAny (model prog w) A (compareOp .Eq (.ref l) (.ref b)) Q E s:=by
 obtain⟨⟨cls,dd,data,sl⟩,ho,hc,n,hd⟩:=id gl;obtain⟨⟨cls2,dd2,data2,sl2⟩,ho2,hc2,n2,hd2⟩:=id gb;simp only at hc hd hc2 hd2;subst hc hd hc2 hd2;exact TV (op:=.Eq) ⟨_,ho,Z⟩ ⟨_,ho2,Z⟩ F.slot_list_eq (Pb F.slot_list_eq ⟨_,ho,Z⟩ F.entry_list_eq (F.args_list_eq_2 _ _) (a2a l b xs ys n n2 dd dd2 sl sl2 hz)
  ⟨ho,ho2,he,show Value.bool true≠Value.notImplemented/\Q (.bool true) s from⟨(λz=>by cases z),h⟩⟩) hu
def Ó(v:Value):Ι prog w A s v v:=λE Q h=>SeqAt.EqAt.same v prog w E Q h
def Ô{a b:Addr}(h:a≠b->∀(E:Value->Shared->Prop) (Q:Value->Shared->Prop),Q (.bool true) s->wpAny (model prog w) A (compareOp .Eq (.ref a) (.ref b)) Q E s):Ι prog w A s (.ref a) (.ref b):=by
 by_cases c:a=b
 ·subst c;exact Ó _
 ·intro E Q hq;unfold eqBool;refine fB ?_;refine wpAny_ite_split (λhab=>absurd (by have:=eq_of_beq hab;injection this) c) (λ_=>?_);exact M (h c E _ (Ar hq))
end
end De
namespace L2
open PyProof.Rows Bg
section
variable{X:Cx}{K:aH}
def Λ(K:aH)(H:Hp)(u v:V):Prop:=∃p q ka kb,u=.ref p/\v=.ref q/\H p=some (.dT ka)/\H q=some (.dT kb)/\S9 K H ka kb
def a2A(K:aH):R2:=λx y H Q=>∃a b xs ys,x=.ref a/\y=.ref b/\bI K H a xs/\bI K H b ys/\Paired (Λ K H) xs ys/\Q (.bl true) H
def a2b(hu:X.A.units+68<cLine):sS X (compareOp .Eq) (a2A X.K):=by
 intro Y s σ H x y v u Q I rx ry h;obtain⟨a,b,xs,ys,rfl,rfl,ea,eb,P,q⟩:=h;obtain rfl:v=Value.ref a:=rx;obtain rfl:u=Value.ref b:=ry;obtain⟨ia,ra,pa,za⟩:=I.list ea;obtain⟨ib,rb,pb,zb⟩:=I.list eb;have l1:=ra.length;have l2:=rb.length;have l3:=aQ P;refine De.Κ pa.isList pb.isList (by simp;omega) () (λj h1 h2=>?_) ⟨.bl true,H,I,Z,q⟩;have j1:j<xs.length:=by simp at h1;omega
 have hx:xs[j]?=some xs[j]:=bL j1;obtain⟨y',hy,p,q',ka,kb,e1,e2,hp,hq,S⟩:=bw P hx;obtain⟨u1,hu1,r1⟩:=ra.get hx;obtain⟨u2,hu2,r2⟩:=rb.get hy;have w1:ia.toArray[j]=u1:=by
  have:ia[j]?=some (ia[j]'(by simpa using h1)):=bL _;rw[this]at hu1;simpa using dO hu1
 have w2:ib.toArray[j]=u2:=by
  have:ib[j]?=some (ib[j]'(by simpa using h2)):=bL _;rw[this]at hu2;simpa using dO hu2
 rw[w1,w2];rw[e1]at r1;rw[e2]at r2;obtain rfl:u1=Value.ref p:=r1;obtain rfl:u2=Value.ref q':=r2;refine De.Ô λ_ E Q hQ=>?_;have I':=I.in1;obtain⟨_,sa,xa,ra,da⟩:=yC I'.hok hp;obtain⟨_,sb,xb,rb,db⟩:=yC I'.hok hq;have m1:=aQ ra;have m2:=aQ rb;have m3:=S.len;have hu':X.in1.A.units+66<cLine:=by show X.A.in1.units+66<cLine;rw[Oz];omega
 exact De.eq_true (prog:=X.prog) (w:=X.w) (A:=X.A.in1) sa sb (ye (by rw[Oz];omega)) da db (by rw[Oz];omega) () (KN I' hu' ra rb S) hQ
def Tf(e:X.K=K)(hu:X.A.units+68<cLine):sS X (compareOp .Eq) (a2A K):=by subst e;exact a2b hu
end
end L2
namespace L2
open PyProof.Rows
variable{es es1:List Expr}{pos:Pos}
structure Tg(X:Cx)(es:List Expr)(t:TA):Prop where
 h:PA X es t
def Tj{k:Nat}{env:Env}:starEach (.Tuple es1 k pos::es) env=(false,eval (.Tuple es1 k pos) env)::starEach es env:=by rfl
def Tn{env:Env}:starEach (.List es1 pos::es) env=(false,eval (.List es1 pos) env)::starEach es env:=by rfl
section
variable{X:Cx}
def iQ:Tg X [] a0i:=⟨ao⟩
def gF{i:Int}{j:Nat}{t:TA}(hr:Tg X es t):Tg X (.Constant (.int i) j pos::es) (Ck (tC (.int i)) t):=⟨J aA hr.h⟩
def zP{x:Str}{j:Nat}{t:TA}(hr:Tg X es t):Tg X (.Constant (.str x) j pos::es) (Ck (tC (.str x)) t):=⟨J gA hr.h⟩
def uW{k:Nat}{t1 t:TA}(h:Tg X es1 t1)(hr:Tg X es t):Tg X (.Tuple es1 k pos::es) (Ck (Rk t1) t):=⟨J (bf h.h) hr.h Tj⟩
def YL{t1 t:TA}(h:Tg X es1 t1)(hr:Tg X es t):Tg X (.List es1 pos::es) (Ck (a2k t1) t):=⟨J (cI h.h) hr.h Tn⟩
end
end L2
namespace L2
open PyProof.Rows
variable{pos:Pos}{RL:List (TE×TE)}{keys:List (Option Expr)}{values es1:List Expr}{ks:List Keyword}
def putL(O:List (List Key×V))(L:List (List Key×Addr×V)):List (List Key×V):=L.foldl (λacc x=>putK acc x.1 x.2.2) O
section
variable{X:Cx}{Y:List (Addr×Obj)}{σ:St}
theorem Nk{A:Around}{E:Value->Shared->Prop}{Q:PUnit->Shared->Prop}{d:Addr}(hu:A.units<cLine):∀(L:List (List Key×Addr×V)) {ws:List (Value×Value)}{O:List (List Key×V)}{s:Shared}{H:Hp},VV (L.map λx=>(V.ref x.2.1,x.2.2)) ws->bC X Y σ H s->H d=some (.dT O)->
  (∀x∈L,H x.2.1=some (.tup (x.1.map kV)))->O.length+L.length<sizeLine->(∀s' H',uP H d (.dT (putL O L)) H'->bC X Y σ H' s'->Q PUnit.unit s')->wpAny (model X.prog X.w) A (storeAll d ws) Q E s
 | [],ws,O,s,H,r,I,hd,hk,hz,q=>by
  cases r
  exact aj (q s H ⟨hd,λ_ _=>rfl⟩ I)
 |x::L,ws,O,s,H,r,I,hd,hk,hz,q=>by
  cases r with
  | @cons _ u _ us a t =>
  obtain⟨u1,u2⟩:=u
  obtain⟨r1,r2⟩:=a
  obtain rfl:u1=Value.ref x.2.1:=r1
  have eb:=hk x aV
  obtain⟨z,hds,xs,rel,dd⟩:=yC I.hok hd
  have lr:=aQ rel
  rw[jH]at hz
  have hl:(putK O x.1 x.2.2).length<=sizeLine:=by have:=uR O x.1 x.2.2;omega
  show wpAny _ _ (forIn ((Value.ref x.2.1,u2)::us) _ _) _ _ _
  rw[List.forIn_cons]
  refine M (M (wpAny_dictSet_heap (hsz:=by omega) (knd:=tupleKind (dN X.prog X.w)) hu (Bj I.hok eb) dd λh' dd' hs=>?_))
  refine aj ?_
  obtain⟨w,es,ep,hq,h2,h3,h4,_,h5⟩:=dd'
  have I2:bC X Y σ (cM H d (.dT (putK O x.1 x.2.2))) { s with heap:=h',toks:=s.toks+(tupleKind (dN X.prog X.w)).draws x.1}:=Hw I (by rw[hd];exact mO) hs ⟨w,hq⟩ ⟨hl,hds,_,(rel.put x.1 eb r2).keeps λc ys ec=>by
   rw[aU (W7 ec hd (λz=>nomatch z))]
   exact ec,w,es,ep,hq,h2,h3,h4,h5⟩
  refine Nk hu L t I2 cV (λy hy=>?_) (by have:=uR O x.1 x.2.2;omega) λs' H' c I'=>q s' H' ⟨c.here,λb n=>(c.rest b n).trans (aU n)⟩ I'
  have hy':=hk y (bh _ hy)
  rw[aU (W7 hy' hd (λz=>nomatch z))]
  exact hy'
def W4(RL:List (TE×TE)):TE:=λσ H Q=>∀p H1,gZ H p (.dT []) H1->V3 RL σ H1 λps H2=>H2 p=some (.dT [])/\∃L:List (List Key×Addr×V),ps=L.map (λx=>(V.ref x.2.1,x.2.2))/\(∀x∈L,H2 x.2.1=some (.tup (x.1.map kV)))/\L.length<=15/\∀H3,uP H2 p (.dT (putL [] L)) H3->Q (.ref p) H3
def Μ(hu:X.A.units+1<cLine)(h:PPs X pos keys values RL)(hall:keys.all (·.isSome)=true)(hl:keys.length=values.length)(h0:keys≠[])
  (h15:keys.length<=15):PE X (.Dict keys values pos) (W4 RL):=by
 intro Y s σ H Q I q;have hn:=I.hok.fresh (aN s⁻¹);have I1:=I.laid (a:=s⁻¹) (o:=.dT []) (h':=s.heap.push { cls:=.type "dict",data:=.dict #[]}) (t':=s.toks) (λ_ _ q=>bx _ q) (aN _) (RK s.heap I.big);refine wpAny_Dict_any hall hl h0 h15 (jx (h Y _ σ _ _ I1 (q _ _ (gZ.oM hn))) λws s2 ⟨ps,H2,I2,rel,e,L,ep,hk,l15,q2⟩=>?_);subst ep;exact Nk () L rel I2 e hk (by rw[jg];show 0+_<_;omega) λs' H' c I'=>⟨.ref s⁻¹,H',I',Z,q2 H' c⟩
structure PPw(X:Cx)(pos:Pos)(keys:List (Option Expr))(values:List Expr)(RL:List (TE×TE)):Prop where
 h:PPs X pos keys values RL
def a2c:PPw X pos [] [] []:=⟨a0Q⟩
def KR{p1 p2:Pos}{k1 k2:Nat}{es2:List Expr}{ks:List (Option Expr)}{vs:List Expr}{t1 t2:TA}(h:Tg X es1 t1)(h':Tg X es2 t2)(hr:PPw X pos ks vs RL) :
  PPw X pos (some (.Tuple es1 k1 p1)::ks) (.Tuple es2 k2 p2::vs) ((Rk t1,Rk t2)::RL):=⟨Į (bf h.h) (bf h'.h) hr.h⟩
def Õ(hu:X.A.units+1<cLine)(h:PPw X pos keys values RL)(hall:keys.all (·.isSome)=true:=by rfl)(hl:keys.length=values.length:=by rfl)(h0:keys≠[]:=by simp)
  (h15:keys.length<=15:=by decide):PE X (.Dict keys values pos) (W4 RL):=Μ hu h.h hall hl h0 h15
structure PEk(X:Cx)(e:Expr)(t:TE):Prop where
 h:PE X e t
def Ö{f:Expr}{as es:List Expr}{env:Env}:starEach (.Call f as ks pos::es) env=(false,eval (.Call f as ks pos) env)::starEach es env:=by rfl
def Ν{f:Expr}{as es:List Expr}{te:TE}{t:TA}(h:PEk X (.Call f as ks pos) te)(hr:Tg X es t):Tg X (.Call f as ks pos::es) (Ck te t):=⟨J h.h hr.h Ö⟩
def Ø{CX:Q0}{k:Nat}{f:Addr}{fd:FuncData}{ps:List Str}{sp:Sp}{Ea:List V}{ds:List Value}{E:XK}{x:Str}{p p1 p2:Pos}{es2:List Expr}{f2:Expr}{t:TA}(F:aZ X.prog X.w X.K X.mg X.base CX k f fd ps sp)(hr:rE k X.A)(hg:Gl X x)(hm:X.mg x=some (.ref f))(hk:PySem.W.keepIn X.K (.ref f)=true)(hb:Binds X.K fd ps ds)(hd:cN Ea ds)(hx:wM CX X E)
  (ha:Tg X [.List es1 p1,.Call f2 es2 ks p2] t) (hdb:(x==("__debug__" : Str))=false:=by decide):PE X (.Call (.Name x p) [.List es1 p1,.Call f2 es2 ks p2] [] pos) (ă sp Ea E t) :=
 aY F hr hg hm hk hb hd hx ha.h hdb Tn (by rfl)
def Ξ{CX:Q0}{C:Addr}{k:Nat}{f:Addr}{fd:FuncData}{ps:List Str}{sp:Sp}{Ea:List V}{ds:List Value}{E:XK}{x:Str}{p p1:Pos}{k1:Nat}{t:TA}(Z98:Mk X.K C f)(F:aZ X.prog X.w X.K X.mg X.base CX k f fd ps sp)(hr:rE (k+1) X.A)(hg:Gl X x)(hm:X.mg x=some (.ref C))(hb:Binds X.K fd ps ds)(hd:cN Ea ds)(hx:wM CX X E)
  (ha:Tg X [.Tuple es1 k1 p1] t) (hdb:(x==("__debug__" : Str))=false:=by decide):PE X (.Call (.Name x p) [.Tuple es1 k1 p1] [] pos) (a2i C sp Ea E t) :=
 Ho Z98 F hr hg hm hb hd hx ha.h hdb Tj (by rfl)
def a4H{r:R2}{a:Expr}{ta:TE}{p1:Pos}(ho:sS X (compareOp .NotEq) r)(ha:PE X a ta)(hu:X.A.units+1<cLine)(h:PPw X p1 keys values RL)(hall:keys.all (·.isSome)=true:=by rfl)(hl:keys.length=values.length:=by rfl)(h0:keys≠[]:=by simp)
  (h15:keys.length<=15:=by decide):PT X (.Compare a [.NotEq] [.Dict keys values p1] pos) (a2h (tOp r ta (W4 RL))):=aL ho ha (Õ hu h hall hl h0 h15) (Ve _)
end
end L2
namespace K
open L2 Lw Bg
variable{X:Cx}{K:aH}{H:Hp}
structure PSw(X:Cx)(s:Stmt)(t:TS):Prop where
 h:PS X s t
structure Ù(X:Cx)(ss:List Stmt)(t:TS):Prop where
 h:Ra X ss t
def Ο:Ù X [] ö:=⟨bK⟩
def gQ{s:Stmt}{ss:List Stmt}{t:TS}{ts:TS}(h:PSw X s t)(hs:Ù X ss ts):Ù X (s::ss) (a2J t ts):=⟨aG h.h hs.h⟩
def KY{s:Stmt}{ss:List Stmt}{t:TS}{ts:TS}(h:PSw X s t)(hs:Ù X ss ts):Ù X (s::ss) (a5v t ts):=⟨kI h.h hs.h⟩
abbrev Nm:Stmt:=top 49
def mU:bB ["_law_script","_law_n","_law_most","_law_rows_here","_law_web","_law_steps","_law_weights","_law_kind","_law_question","_law_told","_law_kept","_law_small"] ["_law_script"] (aD Nm):={}
def W5{ka kb:List (List Key×V)}{A:cG}(ha:xU H ka A)(len:ka.length=kb.length)(hit:∀x∈A,∃v,iI kb (qx x.1)=some v/\Ŝ H v x.2):S9 K H ka kb where
 len:=len
 hit:=λp hp=>by
  obtain⟨j,hj,rfl⟩:=oU hp
  obtain⟨x,hx,ek,q,eq,hq⟩:=bw ha (bL hj)
  obtain⟨v,hv,q',rfl,hq'⟩:=hit x (jf hx)
  have ek:ka[j].1=qx x.1:=ek
  have eq:ka[j].2=.ref q:=eq
  exact⟨_,.tuple [.int x.2.m,.int x.2.b],by rw[ek];exact hv,by rw[eq];exact .tup (cH.of hq) (.cons (.int _) (.cons (.int _) .nil)),.tup (cH.of hq') (.cons (.int _) (.cons (.int _) .nil)),Z⟩
def Ú(H:Hp)(u v:V):Prop:=∃p p' O,u=.ref p/\v=.ref p'/\H p=some (.dT O)/\H p'=some (.dT O)
def Ú.same{H':Hp}{u v:V}(s:aJ H H')(h:Ú H u v):Ú H' u v:=by
 obtain⟨p,p',O,e,e',h,h'⟩:=h;exact⟨p,p',O,e,e',s _ _ h,s _ _ h'⟩
def Ρ{Ts:List cG}{xs ys zs:List V}(nd:∀T∈Ts,(T.map (·.1)).Nodup)(h1:Paired (Ke H) xs Ts)(h2:Paired (Ke H) ys Ts)(h3:Paired (Ú H) ys zs):Paired (Λ K H) xs zs:=by
 induction h1 generalizing ys zs with
 |nil=>cases h2;cases h3;exact .nil
 |cons a _ ih =>
  cases h2 with
  |cons b t2 =>
  cases h3 with
  |cons c t3 =>
  refine .cons ?_ (ih (λT hT=>nd T (bh _ hT)) t2 t3);obtain⟨p,ka,rfl,hp,wa⟩:=a;obtain⟨q,kb,rfl,hq,wb⟩:=b;obtain⟨q',r,kc,e2,rfl,hq',hr⟩:=c;cases e2;rw[hq]at hq';cases hq';exact⟨p,r,ka,kb,Z,Z,hp,hr,Tc wa (KQ wb) Z (nd _ aV)⟩
def Ie{G G0 G':Hp}{d:Addr}(s:aJ G G0)(f:G d=none)(h:Sd d G0 G'):aJ G G':=λc o e=>h c o (λz=>by rw[z,f]at e;cases e) (s c o e)
def xj:List b8:=[.leaf,.inn 1,.inn 0,.tie 0 1,.out 0,.out 1]
def Τ:Bp 2 [(0,1)] xj (cD 2 [(0,1)] xj)=.ok:=by kernel_rfl
def Υ:∀b∈(cD 2 [(0,1)] xj).aR,b.length<=4:=by decide
def a2d:D1.strip ((vC 1 0 [1,1] 2 [(0,1)] xj).getD 3 [])=[([0,0],⟨1,0,[]⟩),([1,0],⟨1,0,[]⟩),([0,1],⟨1,0,[]⟩)]:=by kernel_rfl
def QAt.keep{K:aH}{CC CA CW:Addr}{kd:Int}{c n:Nat}{ts:List bY}{ws:List Int}{H H':Hp}{d:Addr}(s:aJ H H')(h:QAt K CC CA CW kd c n ts ws H d):QAt K CC CA CW kd c n ts ws H' d:=⟨λe=>(h.1 e).keep (.of s),λe=>(h.2.1 e).keep (.of s),λe=>(h.2.2 e).keep (.of s)⟩
def tp4{n:Nat}{ts:List bY}{ss:List b8}(b4:∀b∈(cD n ts ss).aR,b.length<=4)(k:Nat):(Go.gK n ts ss k).length<=4:=by
 show((cD n ts ss).aR.getD k []).length<=4;rw[fK];by_cases c:k<(cD n ts ss).aR.length
 ·rw[bL c];exact b4 _ (oV c)
 ·rw[List.getElem?_eq_none ()];exact dG _
section
variable{P:Program}{w:World}{mg:Str->Option Value}{base:Heap}
def a4I(B:Bl mg)(Bz:mg "zip" = none)(cF:qX K mg)(bO:vX K mg)(cJ:Dt K mg)(dB:Du K mg)(U:Used w K mg)(Ct:Ř mg)(jU:Fq K mg)(jy:Dn K mg "is_below" fP uq)(oN:Dn K mg "joint" pX jT)(mQ:Dn K mg "less" sU jT)(HN:Dn K mg "bag_behind" fQ Dg)(vU:Dn K mg "run" Gq mW)(uK:Dn K mg "fault_behind" eY Gj)(xR:Dn K mg "run_whole" lN mW)(xT:ś K mg)(zT:Dn K mg "run_narrow" mj mW)(vQ:Dn K mg "states_behind" fX Gi)(qO:Dn K mg "note" vg Df)(xO:Dn K mg "fill_along" jQ JF)(wZ:Dn K mg "fill_joined" iB JG)(yG:Dn K mg "going_up" oh JH)(yO:a1p K mg)(uL:Dn K mg "tables" yN Mw)(tM:Dn K mg "weights_of" jR Gm)(jV:Dn K mg "with_number" eZ xr)(jW:Dn K mg "without_number" cW xu)(qw:Dn K mg "_law_at" tV Mx)(dZ6:Dn K mg "_law_rows" uU X6)(ų:Dn K mg "_law_ties" rO X8)(Gs:Dn K mg "_law_laid" lR Dh)(Î:DZ8 K mg)(S8:Dn K mg "_law_formed" jZ RT)(YJ:Dn K mg "_law_becomes" jF Mz)(Ð:Dn K mg "_law_behind" j4 RV)(Η:Dn K mg "_law_fits" rQ Yb)(QZ:Dn K mg "law" Nm ["_law_script"]):aZ P w K mg base fV 24 QZ.f QZ.fd ["_law_script"] (a2l K):=by
 have S5:aZ P w K mg base fV 23 _ _ _ _:=(BX B qw).mono ();have gZ6:aZ P w K mg base fV 23 _ _ _ _:=(QJ B qw dZ6).mono ();have gZ7:aZ P w K mg base fV 23 _ _ _ _:=(QL B qw ų).mono ();have gZ5:aZ P w K mg base fV 23 _ _ _ _:=(DR B Gs 20).mono ();have gZ4:aZ P w K mg base fV 23 _ _ _ _:=(yQ B S8).mono ();have gZ3:aZ P w K mg base fV 23 _ _ _ _:=(QV B Î S8 YJ Ð Η).mono ();have BZ:aZ P w K mg base fV 22 _ _ _ _:=(Hf B Ct cF bO jU jy tM).mono ();have wg:aZ P w K mg base fV 22 _ _ _ _:=(Lx B Ct cF cJ jU jy tM).mono ();have FP:aZ P w K mg base fV 22 _ _ _ _:=(Ly B Ct cF dB jU jy tM).mono ();have a4J:aZ P w K mg base fV 23 _ _ _ _:=(Ò B Bz bO cJ dB U Ct jU jy oN mQ HN vU uK xR xT zT vQ qO xO wZ yG yO uL jV jW).mono ();exists QZ.F.ok mU;obtain⟨a,ns,rfl,hS,h63,q⟩:=h;have hu:(A.deeper (PyProof.Rows.envOfC "law" (aD Nm) s⁻¹ QZ.f dD)).units+68<cLine:=by have:=hr.un;omega
 have hu6:(A.deeper (PyProof.Rows.envOfC "law" (aD Nm) s⁻¹ QZ.f dD)).units+66<cLine:=()
 have hw1:(A.deeper (PyProof.Rows.envOfC "law" (aD Nm) s⁻¹ QZ.f dD)).units+1<cLine:=()
 refine⟨_,(Ù.h (gQ ⟨(bD 1 mU.nd (bQ jL (aY S5 hr Z qw.m qw.F.kp qw.b .nil bW (J (pv 0) (J aA ao))) aA))⟩
   (gQ ⟨(bD 2 mU.nd (bQ fL aA (bQ jL (aY S5 hr Z qw.m qw.F.kp qw.b .nil bW (J (pv 0) (J aA ao))) aA)))⟩
   (KY ⟨(dH (aL iR (bQ jL (bQ a0f (aY S5 hr Z qw.m qw.F.kp qw.b .nil bW (J (pv 0) (J aA ao))) aA) aA) aA)
   (aG (bD 1 mU.nd aA)
   (aF (bD 2 mU.nd (bQ fL aA (bQ jL (pv 2) aA)))))
   bK)⟩
   (gQ ⟨(bD 3 mU.nd (aY gZ6 hr Z dZ6.m dZ6.F.kp dZ6.b .nil bW (J (pv 0) (J (pv 1) (J (pv 2) ao)))))⟩
   (gQ ⟨(bD 4 mU.nd (bf (J (pv 1) (J (aY gZ7 hr Z ų.m ų.F.kp ų.b .nil bW (J (pv 0) (J (pv 3) (J (pv 1) ao)))) ao))))⟩
   (gQ ⟨(bD 5 mU.nd (bQ pG (aY gZ5 hr Z Gs.m Gs.F.kp Gs.b .nil bW (J (aO (aK (K:=K) Z) (pv 4) aA) (J (pv 3) (J aA (J (wK iR (bQ jL (aY S5 hr Z qw.m qw.F.kp qw.b .nil bW (J (pv 0) (J aA ao))) aA) aA) ao))))) (kE ["_law_v"] [none]  (by kernel_rfl) Z (fM (K:=K) Z (aO (aK (K:=K) Z) (aO (bF (K:=K) Z) (pv 3) aA) aA)) (λ_ _ _ _ _=>(aP 0 (show(["_law_v"]:List Str).Nodup by decide))) (λ_ _ _ _ _=>gB) λ_ _ _ _ _=>(bf (J gA (J (pv 0) ao))))))⟩
   (gQ ⟨(Cz (i:=6) X7 [none,some 0] mU.nd Z Z (by kernel_rfl) Z (jX Z B.range (J (pv 1) ao)) (λ_ _ _ _ _=>(aP 0 (show(X7:List Str).Nodup by decide))) (λ_ _ _ _ _=>gB) (λ_ _ _ _ _=>(bQ jL (aY S5 hr Z qw.m qw.F.kp qw.b .nil bW (J (pv 1) (J (bQ fL aA (pv 0)) ao))) (bQ a2T aA aA))) (by rfl))⟩
   (gQ ⟨(bD 7 mU.nd (bQ jL (aY S5 hr Z qw.m qw.F.kp qw.b .nil bW (J (pv 0) (J aA ao))) aA))⟩
   (gQ ⟨(bD 8 mU.nd (Ho dB.ř FP hr Z dB.m dB.bJ.b .nil bW (J (pv 4) (J (pv 6) ao))))⟩
   (KY ⟨(dH (aL iR (pv 7) aA)
   (aF (bD 8 mU.nd (Ho bO.ř BZ hr Z bO.m bO.bJ.b .nil bW (J (pv 4) (J (bQ fL aA (bQ jL (aY S5 hr Z qw.m qw.F.kp qw.b .nil bW (J (pv 0) (J aA ao))) aA)) (J (pv 6) ao))))))
   bK)⟩
   (KY ⟨(dH (aL iR (pv 7) aA)
   (aF (bD 8 mU.nd (Ho cJ.ř wg hr Z cJ.m cJ.bJ.b .nil bW (J (pv 4) (J (pv 6) ao)))))
   bK)⟩
   (gQ ⟨(bD 9 mU.nd (aY a4J hr Z uL.m uL.F.kp uL.b .nil bW (J (iC (um (K:=K) Z) Z B.list () (J (pv 5) ao)) (J (pv 8) ao))))⟩
   (gQ ⟨(dH (qL (eN (K:=K) Z (aY gZ3 hr Z Η.m Η.F.kp Η.b .nil bW (J (pv 7) (J (pv 9) (J (pv 5) ao)))) λ_=>rfl))
   (aF (bA zW))
   bK)⟩
   (gQ ⟨(Cz (i:=10) ["_law_table"] [none] mU.nd Z Z (by kernel_rfl) Z (fM (K:=K) Z (pv 9)) (λ_ _ _ _ _=>(aP 0 (show(["_law_table"]:List Str).Nodup by decide))) (λ_ _ _ _ _=>gB) (λ_ _ _ _ _=>(iC WX Z B.dict () (J (pv 0) ao))) (by rfl))⟩
   (gQ ⟨(bD 11 mU.nd (Ø a4J hr Z uL.m uL.F.kp uL.b .nil bW (YL (uW (zP iQ) (uW (zP (gF iQ)) (uW (zP (gF iQ)) (uW (zP (gF (gF iQ))) (uW (zP (gF iQ)) (uW (zP (gF iQ)) iQ)))))) (Ν ⟨(Ξ cJ.ř wg hr Z cJ.m cJ.bJ.b1 ZF bW (uW (gF (YL (uW (gF (gF iQ)) iQ) iQ)) iQ))⟩ iQ))))⟩
   (gQ ⟨(dH (PW.pt (FQ (qL (eN (K:=K) Z (aY gZ4 hr Z S8.m S8.F.kp S8.b .nil bW (J (aO (bF (K:=K) Z) (pv 11) aA) (J aA ao))) λ_=>rfl)) (Ew (a4H (YK (K:=K) Z hu6) (aO (bF (K:=K) Z) (pv 11) aA) hw1 (KR (gF (gF iQ)) (gF (gF iQ)) (KR (gF (gF iQ)) (gF (gF iQ)) (KR (gF (gF iQ)) (gF (gF iQ)) a2c)))))))
   (aF (bA zW))
   bK)⟩
   (gQ ⟨(bA (Va (wK (Tf (K:=K) Z hu) (pv 9) (pv 10)) (U9 (wK (Tf (K:=K) Z hu) (aY a4J hr Z uL.m uL.F.kp uL.b .nil bW (J (pv 5) (J (pv 8) ao))) (pv 10)))))⟩
   Ο)))))))))))))))))),?_⟩
 refine⟨_,Z,a,ns,0,Z,hS,h63,(),(),λz0=>⟨_,_,Z,Z,(show(0:Int)<_ by decide),?_⟩⟩;refine⟨_,Z,a,ns,1,Z,hS,h63,(),(),λz1=>⟨_,_,Z,Z,(show(0:Int)<_ by decide),_,_,Z,Z,?_⟩⟩;have u0:=sO z0 (show(7:Int)≠0 by decide);have u1:=sJ z0 (show(0:Int)<7 by decide);have w0:=sO z1 (show(3:Int)≠0 by decide);have w1:=sJ z1 (show(0:Int)<3 by decide);refine⟨λσ' H'=>∃(n most:Nat),σ'=[some (.ref a),some (.int (n:Int)),some (.int (most:Int)),none,none,none,none,none,none,none,none,none]/\H'=H/\n<=10/\2<=most/\most<=4,?_,?_⟩
 ·obtain⟨n0,e0⟩:∃n0:Nat,z0%7=(n0:Int):=⟨(z0%7).toNat,()⟩;obtain⟨m0,e1⟩:∃m0:Nat,2+z1%3=(m0:Int):=⟨(2+z1%3).toNat,()⟩;have v0:=sO (2+z1%3) (show(2:Int)≠0 by decide);have v1:=sJ (2+z1%3) (show(0:Int)<2 by decide);obtain⟨mm,em⟩:∃mm:Nat,2+(2+z1%3)%2=(mm:Int):=⟨(2+(2+z1%3)%2).toNat,()⟩;refine⟨_,Z,a,ns,0,Z,hS,h63,(),(),λz2=>⟨_,_,Z,Z,⟨(),()⟩,_,_,Z,Z,(show(0:Int)<_ by decide),Z,_,Z,vd (λc=>?_) λc=>?_⟩⟩
  ·exact⟨_,Z,_,_,Z,Z,(show(0:Int)<_ by decide),_,_,Z,Z,10,mm,by rw[<-em];rfl,Z,(),(),()⟩
  ·exact⟨n0,m0,by rw[<-e0,<-e1];rfl,Z,(),(),()⟩
 rintro σ1 H1 ⟨n,most,rfl,rfl,dw,m2,m4⟩;refine⟨_,Z,_,Z,_,Z,a,ns,n,most,Z,hS,h63,dw,(),(),λl ys rs H2 s2 fl hl pl R r20=>?_⟩;refine⟨_,Z,_,Z,_,Z,_,Z,a,l,ns,ys,rs,n,Z,hS.same s2,h63,hl,pl,(),dw,λr tx ts H4 s4 fr hr4 pt tbd nd bi l45=>?_⟩;refine⟨(),λpg H5 n5=>?_⟩;have s25:=s4.trans n5.same;have s05:=s2.trans s25;have hr5:=n5.same _ _ hr4;have pt5:=Paired.cB pt λ_ _ h=>tE.same n5.same h;have T:=R.T;have hl5:=s25 _ _ hl;have pl5:=Paired.cB pl λ_ _ h=>PN.same s25 h;have hg5:=n5.here;refine⟨_,Z,pg,_,1,.ref r,Z,Z,cH.of hg5,Z,_,Z,_,Z,a,ns,7,Z,hS.same s05,h63,(),(),λz7=>⟨_,_,Z,Z,(show(0:Int)<_ by decide),Z,?_⟩⟩;obtain⟨early,eea⟩:∃early:Bool,decide (V.int (z7%2)=V.int 1)=early:=⟨_,Z⟩;dsimp only;rw[eea];refine⟨r,l,tx,ys,ts,rs,n,most,0,early,Z,hr5,pt5,(),hl5,pl5,R,m4,r20,dw,T.pos,(),λp4 x4 H7 s7 f4 h4 q4=>?_⟩;obtain⟨v0,hx0,⟨pk,bk,rfl,Ŵ,hbk,nbk,lbk⟩⟩:=cU pl5 (vI T.pos);refine⟨_,Z,l,_,_,_,Z,Z,bI.of (s7 _ _ hl5),cA (j:=0) hx0,pk,_,_,_,Z,Z,cH.of (s7 _ _ Ŵ),Z,bk,Z,⟨_,bI.of (s7 _ _ hbk)⟩,?_⟩;have hW4:∀j,(fH rs j).length<=4:=λj=>dF (R.few j) m4;have b10:(fH rs 0).length<=4:=hW4 0;refine Ib (fH rs 0) (λ_=>true) b8.out (bI.of (s7 _ _ hbk)) () (λv H8 N Z98 _ s8 hN hM=>⟨_,Z,(),λp H9 n9=>hN Z p H9 n9⟩) (λH8 p5 x5 H9 s8 n9 q9=>?_);rw[List.filter_eq_self.mpr (λ_ _=>rfl)]at q9;have s79:=s8.trans n9.same;have l4:=aQ q4;have l9:=aQ q9;rw[aM]at l9;have ll:=Nb T hW4 r20 early (show ts.length<=100 by omega) (f:=20) T.pos;refine⟨p4,p5,_,_,Z,Z,s79 _ _ h4,n9.here,(),λpW Z7 nW=>?_⟩;have a6M:=s7.trans (s79.trans nW.same);obtain⟨ss,ess⟩:∃ss,ss=BV early ts rs.length (Cd rs) (fH rs) 20:=⟨_,Z⟩;have qW:Paired (tO Z7) (x4++x5) ss:=by
  rw[ess];exact jP (Paired.cB q4 λ_ _ h=>tO.same (s79.trans nW.same) h) (Paired.cB q9 λ_ _ h=>tO.same nW.same h)
 have lss:ss.length<=800:=by
  rw[<-aQ qW,cC];omega
 obtain⟨qY,b4⟩:=Ê (n:=n) (wd:=4) (ts:=ts) T dw hW4 nd (λt ht=>bi t ht) (λv v0 vn=>(R.cov v v0 vn).resolve_left fu) (show rs.length<=20 from r20) early;rw[<-ess]at qY b4;have RP:=Go.a2x dw qY;have a7P:=s05.trans a6M;have xl:=aQ qW;refine⟨_,Z,_,Z,(),(),?_⟩;rw[j5];refine yu (λi zs H'=>H'=Z7/\∃ws:List Int,zs=ws.map V.int/\ws.length=i/\∀x∈ws,0<=x/\x<10^30) ⟨Z,[],Z,Z,λx h=>absurd h fu⟩ (λi zs H' hi ⟨e,ws,e1,l1,_⟩=>?_) (λi zs H' hi ⟨e,ws,e1,l1,b1⟩=>?_) ?_
 ·rw[e1,aM,l1];exact d7 (cO ())
 ·subst e;refine⟨_,Z,_,Z,_,_,Z,Z,a,ns,_,Z,hS.same a7P,h63,(),(),λz=>⟨_,_,Z,Z,⟨(),(),()⟩,_,_,Z,Z,(show(0:Int)<10^30 by decide),Z,ws++[z%10^30],?_,?_,λx hx=>?_⟩⟩
  ·rw[e1,eO];rfl
  ·rw[cC,l1];rfl
  ·rcases cL.mp hx with h|h
   ·exact b1 x h
   ·rw[bM.mp h];exact⟨sO z (),sJ z ()⟩
 rintro zs a6N ⟨rfl,ws,rfl,lw,wb⟩ pw hpw;have Ft:=gZ.oM (H:=a6N) (p:=pw) (o:=.lst (ws.map V.int)) hpw;generalize cM a6N pw (.lst (ws.map V.int))=Þ at Ft ⊢;have wok:À n (some ws)=true:=by
  unfold À;rw[qK,fj,IK];refine⟨lw,λx hx=>?_⟩;have:=wb x hx;rw[qK,fj,fj];exact⟨this.1,this.2⟩
 have a2e:=a6M.trans Ft.same;have a4K:=s05.trans a2e;have web:∀{G:Hp},aJ Þ G->cH K G pg [.int n,.ref r]/\G r=some (.lst tx)/\Paired (tE G) tx ts/\WtV K G (.ref pw) (some ws):=λ{G} s=>⟨cH.of ((a2e.trans s) _ _ hg5),(a2e.trans s) _ _ hr5,Paired.cB pt5 λ_ _ h=>tE.same (a2e.trans s) h,pw,Z,bI.of (s _ _ Ft.here)⟩;refine⟨_,Z,a,ns,5,Z,hS.same a4K,h63,(),(),λz5=>⟨_,_,Z,Z,(show(0:Int)<_ by decide),?_⟩⟩;have k0:=sO z5 (show(3:Int)≠0 by decide);have k1:=sJ z5 (show(0:Int)<3 by decide);obtain⟨kd,ekd⟩:∃kd:Int,z5%3=kd:=⟨_,Z⟩;dsimp only;rw[ekd];rw[ekd]at k0 k1;refine⟨_,Z,_,Z,λd2 dx2 f2 fx2 ne2=>?_⟩;have s2':aJ Þ (cM (cM Þ dx2 (.own d2)) d2 (.ins dB.C dx2 [])):=(mV fx2 _).trans (mV (by rw[aU (Ne.symm ne2)];exact f2) _);have hd2:cM (cM Þ dx2 (.own d2)) d2 (.ins dB.C dx2 []) d2=some (.ins dB.C dx2 []):=cV;generalize cM (cM Þ dx2 (.own d2)) d2 (.ins dB.C dx2 [])=G2 at s2' hd2 ⊢;obtain⟨w1,w2,w3,w4⟩:=web s2';refine⟨d2,dx2,pg,r,n,tx,ts,.ref pw,some ws,Z,hd2,w1,w2,w3,(),(),w4,λws' e=>by cases e;omega,wok,λWo sd2 at2=>⟨Z,?_⟩⟩;have s12:=Ie s2' f2 sd2;refine⟨λσ' G=>∃(d c:Nat),σ'=[some (.ref a),some (.int (n:Int)),some (.int (most:Int)),some (.ref l),some (.ref pg),some (.ref pW),some (.ref pw),some (.int kd),some (.ref d),none,none,none]/\aJ Þ G/\c<=4/\(kd=0->Fz K bO.C [("many",.int c)] n ts ws G d)/\(kd≠0->Fz K dB.C [] n ts ws G d),?_,?_⟩
 ·refine⟨_,Z,Z,_,Z,vd (λe=>?_) λe=>?_⟩
  ·have e':kd=0:=V.int.inj (gn e);refine⟨_,Z,_,Z,a,ns,6,Z,hS.same (a4K.trans s12),h63,(),(),λz6=>⟨_,_,Z,Z,(show(0:Int)<_ by decide),_,_,Z,Z,_,Z,λd0 dx0 f0 fx0 ne0=>?_⟩⟩;have y0:=sO z6 (show(4:Int)≠0 by decide);have y1:=sJ z6 (show(0:Int)<4 by decide);obtain⟨c,ec⟩:∃c:Nat,1+z6%4=(c:Int):=⟨(1+z6%4).toNat,()⟩;dsimp only;rw[ec];have s0:aJ Wo (cM (cM Wo dx0 (.own d0)) d0 (.ins bO.C dx0 [])):=(mV fx0 _).trans (mV (by rw[aU (Ne.symm ne0)];exact f0) _);have hd0:cM (cM Wo dx0 (.own d0)) d0 (.ins bO.C dx0 []) d0=some (.ins bO.C dx0 []):=cV;generalize cM (cM Wo dx0 (.own d0)) d0 (.ins bO.C dx0 [])=G0 at s0 hd0 ⊢;obtain⟨w1,w2,w3,w4⟩:=web (s12.trans s0);refine⟨d0,dx0,pg,r,n,c,tx,ts,.ref pw,some ws,Z,(),hd0,w1,w2,w3,(),(),w4,λws' e=>by cases e;omega,wok,λH13 sd0 at0=>⟨Z,?_⟩⟩;exact⟨d0,c,Z,s12.trans (Ie s0 f0 sd0),(),λ_=>at0,λz=>absurd e' z⟩
  ·have e':¬kd=0:=λz=>e (bN (congrArg V.int z));exact⟨d2,0,Z,s12,(),λz=>absurd z e',λ_=>at2⟩
 rintro σ3 H13 ⟨d3,c,rfl,w5,c4,at3,at4⟩;refine⟨λσ' G=>∃d:Addr,σ'=[some (.ref a),some (.int (n:Int)),some (.int (most:Int)),some (.ref l),some (.ref pg),some (.ref pW),some (.ref pw),some (.int kd),some (.ref d),none,none,none]/\aJ Þ G/\QAt K bO.C cJ.C dB.C kd c n ts ws G d,?_,?_⟩
 ·refine⟨_,Z,Z,_,Z,vd (λe=>?_) λe=>?_⟩
  ·have e':kd=1:=V.int.inj (gn e);refine⟨_,Z,_,Z,λd1 dx1 f1 fx1 ne1=>?_⟩;have s1:aJ H13 (cM (cM H13 dx1 (.own d1)) d1 (.ins cJ.C dx1 [])):=(mV fx1 _).trans (mV (by rw[aU (Ne.symm ne1)];exact f1) _);have hd1:cM (cM H13 dx1 (.own d1)) d1 (.ins cJ.C dx1 []) d1=some (.ins cJ.C dx1 []):=cV;generalize cM (cM H13 dx1 (.own d1)) d1 (.ins cJ.C dx1 [])=G1 at s1 hd1 ⊢;obtain⟨w1,w2,w3,w4⟩:=web (w5.trans s1);refine⟨d1,dx1,pg,r,n,tx,ts,.ref pw,some ws,Z,hd1,w1,w2,w3,(),(),w4,λws' e=>by cases e;omega,wok,λH14 sd1 at1=>⟨Z,?_⟩⟩;exact⟨d1,Z,w5.trans (Ie s1 f1 sd1),λz=>by omega,λ_=>at1,λz=>by omega⟩
  ·have e':¬kd=1:=λz=>e (bN (congrArg V.int z));exact⟨d3,Z,w5,at3,λz=>absurd z e',λz=>at4 ()⟩
 rintro σ4 H14 ⟨d,rfl,ß,qa⟩;have a7Y:=a4K.trans ß;have Χ:=Ft.same.trans ß;have ne:∀t∈ts,t.1≠t.2:=λt ht=>by have:=tbd t ht;omega
 refine⟨_,Z,pW,_,Z,.inl (bI.of (Χ _ _ nW.here)),λpC H16 n16=>⟨_,Z,?_⟩⟩;refine⟨kd,c,pC,d,x4++x5,ss,n,ts,ws,Z,k0,(),c4,qa.keep n16.same,lw,dw,ne,bI.of n16.here,Paired.cB qW λ_ _ h=>tO.v (tO.same (Χ.trans n16.same) h),lss,qY,b4,λpT yt H17 Fc s17 hT qT=>?_⟩;have Ng:=Χ.trans (n16.same.trans s17);have lyt:yt.length=ss.length:=(aQ qT).trans Fc.len;have fok:∀k,k<ss.length->(∀x∈(vC kd c ws n ts ss).getD k [],x.1.length=(Go.gK n ts ss k).length)/\((vC kd c ws n ts ss).getD k []).length<=900/\(((vC kd c ws n ts ss).getD k []).map (·.1)).Nodup:=λk kl=>by
  obtain⟨f1,f2⟩:=Fc.ok k kl;have:=Go.HW (c:=4) () (tp4 b4 k) f1 λs hs=>by
   obtain⟨x,hx,rfl⟩:=dY.mp hs;exact f2 x hx
  rw[aM]at this;exact⟨λx hx=>(f2 x hx).1,this,f1⟩
 refine⟨_,Z,_,Z,_,Z,kd,pT,pW,x4++x5,yt,ss,vC kd c ws n ts ss,n,ts,Z,Ng _ _ nW.here,Paired.cB qW λ_ _ h=>tO.same Ng h,lss,hT,qT,Fc.len,RP,fok,Fc.tie,λH18 s18=>⟨_,Z,cX ?_⟩⟩;have a4L:=s18 _ _ hT;have a4M:Paired (Ke H18) yt (vC kd c ws n ts ss):=Paired.cB qT λ_ _ h=>h.keep s18;refine⟨_,Z,pT,Z,⟨_,bI.of a4L⟩,uN (K:=K) (a:=pT) (xs:=yt) (λi ys G=>aJ H18 G/\Paired (Ú G) (yt.take i) ys) ⟨aJ.refl _,.nil⟩ (λi ys G hi ⟨sG,p⟩=>⟨bI.of (sG _ _ a4L),?_⟩) (λi x ys G hx ⟨sG,p⟩=>?_) λys G ⟨sG,p⟩ pk hpk=>?_⟩
 ·rw[<-aQ p,fZ];exact d7 (cO ())
 ·obtain⟨Tk,Ŵ,p0,O,rfl,h0,hW⟩:=bw a4M hx;have il:=(fY.mp hx).1;obtain⟨f1,f2⟩:=Fc.ok i ();have eTk:(vC kd c ws n ts ss).getD i []=Tk:=by rw[fK,Ŵ];rfl
  rw[eTk]at f1 f2;refine⟨_,Z,p0,O,Z,sG _ _ h0,λw=>D1.a1X (c:=4) () (tp4 b4 i) hW f1 f2 w,λp' G' n'=>⟨sG.trans n'.same,?_⟩⟩;rw[mK,hx];exact dh (Paired.cB p λ_ _ h=>h.same n'.same) ⟨p0,p',O,Z,Z,n'.same _ _ (sG _ _ h0),n'.here⟩
 have nk:=gZ.oM (H:=G) (p:=pk) (o:=.lst ys) hpk;generalize cM G pk (.lst ys)=H19 at nk ⊢;rw[show yt.take yt.length=yt from iV]at p;have Tp:=sG.trans nk.same;have pK:Paired (Ú H19) yt ys:=Paired.cB p λ_ _ h=>h.same nk.same;refine⟨(),λa1 G1 m1=>⟨(),λa2 G2 m2=>⟨(),λa3 G3 m3=>⟨(),λa4 G4 m4'=>⟨(),λa5 G5 m5=>⟨(),λa6 G6 m6=>⟨(),λa7 G7 m7=>⟨(),λa8 G8 m8=>⟨(),λa9 G9 m9=>⟨(),λb1 F1 m10=>?_⟩⟩⟩⟩⟩⟩⟩⟩⟩⟩;have sF:=m1.same.trans (m2.same.trans (m3.same.trans (m4'.same.trans (m5.same.trans (m6.same.trans (m7.same.trans (m8.same.trans (m9.same.trans m10.same))))))));have e9:F1 a9=some (.lst [.ref a8]):=m10.same _ _ m9.here;have e8:F1 a8=some (.tup [.int 0,.int 1]):=m10.same _ _ (m9.same _ _ m8.here);have k7:=m8.same.trans (m9.same.trans m10.same);have e7:F1 a7=some (.lst [.ref a1,.ref a2,.ref a3,.ref a4,.ref a5,.ref a6]):=k7 _ _ m7.here;have k6:=m7.same.trans k7;have k5:=m6.same.trans k6;have k4:=m5.same.trans k5;have k3:=m4'.same.trans k4;have k2':=m3.same.trans k3;have k1':=m2.same.trans k2';intro d5 dx5 f5 fx5 ne5;have s5:aJ F1 (cM (cM F1 dx5 (.own d5)) d5 (.ins cJ.C dx5 [])):=(mV fx5 _).trans (mV (by rw[aU (Ne.symm ne5)];exact f5) _);have hd5:cM (cM F1 dx5 (.own d5)) d5 (.ins cJ.C dx5 []) d5=some (.ins cJ.C dx5 []):=cV;generalize cM (cM F1 dx5 (.own d5)) d5 (.ins cJ.C dx5 [])=F2 at s5 hd5 ⊢;refine⟨d5,dx5,b1,a9,2,[.ref a8],[(0,1)],.non,none,Z,hd5,cH.of (s5 _ _ m10.here),s5 _ _ e9,.cons ⟨a8,Z,s5 _ _ e8⟩ .nil,(),(),Z,(λws e=>by cases e),Z,λH20 sd5 at5=>⟨Z,?_⟩⟩;have s20:=Ie s5 f5 sd5;have st:∀{p:Addr}{vs:List V},F1 p=some (.tup vs)->cH K H20 p vs:=λh=>cH.of (s20 _ _ h);refine⟨1,0,a7,d5,[.ref a1,.ref a2,.ref a3,.ref a4,.ref a5,.ref a6],xj,2,[(0,1)],[1,1],Z,(),(),(),⟨(λe=>by cases e),λ_=>at5,λe=>by cases e⟩,Z,(),(λt ht=>by rw[bM.mp ht];decide),bI.of (s20 _ _ e7),.cons ⟨a1,Z,st (k1' _ _ m1.here)⟩ (.cons ⟨a2,Z,st (k2' _ _ m2.here)⟩ (.cons ⟨a3,Z,st (k3 _ _ m3.here)⟩ (.cons ⟨a4,Z,st (k4 _ _ m4'.here)⟩ (.cons ⟨a5,Z,st (k5 _ _ m5.here)⟩ (.cons ⟨a6,Z,st (k6 _ _ m6.here)⟩ .nil))))),(),Τ,Υ,λpT2 yt2 H21 Fc2 s21 hT2 qT2=>?_⟩;have a6O:=sF.trans (s20.trans s21);have l2:(vC 1 0 [1,1] 2 [(0,1)] xj).length=6:=Fc2.len;have hT3:(vC 1 0 [1,1] 2 [(0,1)] xj)[3]?=some ((vC 1 0 [1,1] 2 [(0,1)] xj).getD 3 []):=by rw[fK,bL ()];rfl
 obtain⟨v3,hv3,q3,kv3,rfl,hq3,hW3⟩:=cU qT2 hT3;have sm3:=a2d;generalize (vC 1 0 [1,1] 2 [(0,1)] xj).getD 3 []=T3 at hW3 sm3;have in3:∀x∈T3,x.2.m=1/\x.2.b=0/\(x.1=[0,0]\/x.1=[1,0]\/x.1=[0,1]):=λx hx=>by
  have:(x.1,D1.à x.2)∈D1.strip T3:=dY.mpr ⟨x,hx,Z⟩;rw[sm3]at this;rcases bU.mp this with e|this
  ·exact⟨congrArg (λz=>z.2.m) e,congrArg (λz=>z.2.b) e,.inl (congrArg Prod.fst e)⟩
  ·rcases bU.mp this with e|this
   ·exact⟨congrArg (λz=>z.2.m) e,congrArg (λz=>z.2.b) e,.inr (.inl (congrArg Prod.fst e))⟩
   ·have e:=bM.mp this;exact⟨congrArg (λz=>z.2.m) e,congrArg (λz=>z.2.b) e,.inr (.inr (congrArg Prod.fst e))⟩
 have l3:T3.length=3:=by
  have:=congrArg List.length sm3;unfold D1.strip at this;rw[aM]at this;exact this
 refine⟨_,Z,pT2,_,3,.ref q3,Z,Z,bI.of hT2,cA (j:=3) hv3,q3,2,kv3,T3,Z,hq3,hW3,(λx hx=>by rcases(in3 x hx).2.2 with e|e|e<;>rw[e]<;>rfl),(),(),λH22 s22=>⟨_,Z,cX ?_⟩⟩;refine⟨_,Z,pT2,_,3,.ref q3,Z,Z,bI.of (s22 _ _ hT2),cA (j:=3) hv3,λp6 I0 n6=>?_⟩;refine⟨(),λc1 I1 i1=>⟨(),λd1 J1 j1=>⟨(),λc2 I2 i2=>⟨(),λd2' J2 j2=>⟨(),λc3 I3 i3=>⟨(),λd3' J3 j3=>?_⟩⟩⟩⟩⟩⟩;have r5:=j3.same;have r4:=i3.same.trans r5;have r3:=j2.same.trans r4;have r2:=i2.same.trans r3;have r1:=j1.same.trans r2;have r0:=i1.same.trans r1;refine⟨r0 _ _ n6.here,[(qx [0,0],c1,.ref d1),(qx [0,1],c2,.ref d2'),(qx [1,0],c3,.ref d3')],Z,λx hx=>?_,(by show 3<=15;decide),λI9 cg=>?_⟩
 ·rcases bU.mp hx with e|hx
  ·rw[e];exact r1 _ _ i1.here
  ·rcases bU.mp hx with e|hx
   ·rw[e];exact r3 _ _ i2.here
   ·rw[bM.mp hx];exact r5 _ _ i3.here
 have fI0:H22 p6=none:=n6.fresh;have Ω:aJ H22 I9:=(n6.same.trans r0).chg fI0 cg;have gP:∀{q:Addr}{u:HO},J3 q=some u->u≠.dT []->I9 q=some u:=λh n=>by
  rw[cg.rest _ (λz=>by rw[z,r0 _ _ n6.here]at h;exact n (dO h).symm)];exact h
 refine⟨q3,p6,kv3,_,Z,Z,(s22.trans Ω) _ _ hq3,cg.here,W5 (Paired.cB hW3 λ_ _ z=>⟨z.1,z.2.keep (.of (s22.trans Ω))⟩) (by rw[aQ hW3,l3];rfl) (λx hx=>?_),_,Z,cX ?_⟩
 ·obtain⟨b1',b2',e⟩:=in3 x hx;rcases e with e|e|e<;>rw[e]
  ·exact⟨.ref d1,Z,d1,Z,by rw[b1',b2'];exact gP (r2 _ _ j1.here) λz=>by cases z⟩
  ·exact⟨.ref d3',Z,d3',Z,by rw[b1',b2'];exact gP j3.here λz=>by cases z⟩
  ·exact⟨.ref d2',Z,d2',Z,by rw[b1',b2'];exact gP (r4 _ _ j2.here) λz=>by cases z⟩
 have sK:=(a6O.trans s22).trans Ω;have Ŵ:=(Tp.trans sK) _ _ a4L;have hKk:=sK _ _ nk.here;have nds:∀T∈vC kd c ws n ts ss,(T.map (·.1)).Nodup:=λT hT=>by
  obtain⟨k,hk,rfl⟩:=oU hT;have:=(Fc.ok k (by rw[<-Fc.len];exact hk)).1;rw[fK,bL hk]at this;exact this
 have pE:∀{G':Hp}{yt':List V},aJ I9 G'->Paired (Ke G') yt' (vC kd c ws n ts ss)->Paired (Λ K G') yt' ys:=λ{G' yt'} sg qy =>
  Ρ nds qy (Paired.cB a4M λ_ _ h=>h.keep ((Tp.trans sK).trans sg)) (Paired.cB pK λ_ _ h=>h.same (sK.trans sg))
 refine⟨_,Z,_,Z,pT,pk,yt,ys,Z,Z,bI.of Ŵ,bI.of hKk,pE (aJ.refl _) (Paired.cB a4M λ_ _ h=>h.keep (Tp.trans sK)),⟨_,Z,gY ?_⟩⟩;have sW:=((Ng.trans s18).trans Tp).trans sK;exact⟨_,Z,_,Z,kd,c,pW,d,x4++x5,ss,n,ts,ws,Z,k0,(),c4,qa.keep ((n16.same.trans s17).trans ((s18.trans Tp).trans sK)),lw,dw,ne,bI.of (sW _ _ nW.here),Paired.cB qW λ_ _ h=>tO.v (tO.same sW h),lss,qY,b4,λpT' yt' H30 _ s30 hT' qT'=>⟨_,Z,pT',pk,yt',ys,Z,Z,bI.of hT',bI.of (s30 _ _ hKk),pE s30 qT',q _⟩⟩
end
end K
open PySem.W PyProof.Rows
local macro_rules | `(tactic| ac_rfl) => `(tactic| (dsimp only[L2.KOf];first|(refine' L2.Jy KX G ?a ?l ?c ?k rfl (λ_ _ _ _ _ _ _=>rfl);case a|l|c|k=>k_is)|(refine' L2.uo KX G ?a ?l ?c ?k rfl (λ_ _ _ _ _ _ _ _=>rfl);case a|l|c|k=>k_is)|(refine' L2.Qj KX G ?a ?l ?c ?k rfl (λ_ _ _ _ _ _ _ _ _=>rfl);case a|l|c|k=>k_is)|(refine' L2.wV KX G ?a ?l ?c ?k rfl (λ_ _ _ _ _ _ _ _ _ _=>rfl);case a|l|c|k=>k_is)|(refine' L2.a3I KX G ?a ?l ?c ?k rfl (λ_ _ _ _ _ _ _ _ _ _ _=>rfl);case a|l|c|k=>k_is)))
local macro_rules | `(tactic| ac_nf) => `(tactic| (rcases us with _|⟨_,_|⟨_,_|⟨_,_|⟨_,_|⟨_,_|_⟩⟩⟩⟩⟩<;>first|(cases hl;done)|rfl|exact⟨_,rfl,rfl⟩))
inductive PySem.W.Fast:Prop|tw10391286409971893389|tw16849216483063202340|tw1123095304051187730|tw14179492570035656250|tw438310242844227593|tw15755146307458368805|tw2478253825391774149|tw16515919682558466179|tw8372514275638946312|tw9972869842564084831|tw15845710998530113730|tw1909829180463290997|tw5506386892398298071|tw13957991760474900453|tw16468716583392464072|tw5178203399200000090|tw2399452141387743097|tw14246384519448231453|tw5545407679841462313|tw7523267176801206429|tw10075501582974860608|tw15623667361061335926|tw15575064827186913564|tw11794824168762988601|tw1394263137482125338|tw16609319226743620961|tw13133090537398407623|tw13075667031055497980|tw13495122179920450866|tw15702319402029453562|tw5414924121463914730|tw4225385324376844046|tw14646993487944576345|tw8383874559113540766|tw798672663674587814|tw7703726659971184237|tw2098973132979970426|tw3778596777820432858|tw17633776009339950932|tw4862951928600373102|tw17777031600097277920|tw1014189267992292897|tw60790157321823265|tw8738630223534002299|tw453885411298077722|tw14634706806669325733|tw16912522627315406334|tw4854021703392536511|tw15423936680891168303|tw6085276468721558764|tw5728834218125670927|tw7153839194772014523|tw17515126745832905184|tw3398423751496352626|tw8162516889241029593|tw7004145439321638501|tw4271563518420582516|tw2661892189595019350|tw6517521796774578180|tw2378120226776486139|tw15766121998961333367|tw11835660609242939300|tw5759842294506641478|tw1467819448798298132|tw9201196211282242055|tw8097856762419865991|tw2144108884897750639|tw9484521380416414756|tw12126623413444663869|tw1162179828638037790|tw8088376988941376041|tw16592341373563191217|tw10966072236722078991|tw6699442340621162598|tw6425788103494258998|tw2023514745464717920|tw12869469965516225184|tw12874098437801916216|tw8430075856494825752|tw13022331611994781965|tw1194719002126164187|tw3285618075037337913|tw4651048545201019216|tw2908465580325414158|tw7998506750382051263|tw14194884627058070709|tw3941267666204800352|tw11512772666093786820|tw12291752927980923321|tw18164204943567322104|tw6900064869072832597|tw14911341407107289587|tw17615766503956158427|tw18411405023527817472|tw2831244652156589598|tw4389940499562426707|tw9049848652864781794|tw14420133459583571414|tw9425486585875810652|tw15818857215465777307|tw17011862304718710903|tw13086448078715094311|tw8091197305420666217|tw15310586818758627900|tw6195435113298123863|tw1302532275476137280|tw1433492699507864921|tw15059674315411477064|tw9925075406137746746|tw15836444110819479493|tw7965327851964489428|tw17086680994314216508|tw1313738212708232997|tw17729874989902712741|tw11807752498727158289|tw9530141238082245323|tw21439773534693933|tw15648353373347633560|tw18105564425388272284|tw17186479206831012912|tw1452088291023188402|tw17957582462869669895|tw5108188966991874023|tw11844090394121010545|tw7707415084233672064|tw12688442797933514447|tw17955757119276516730|tw10407351481977409301|tw17593736473799206225|tw17932292316822507817|tw15012988079923294814|tw2593698061721216467|tw3618571321610179769|tw16055675388854455778|tw6318328142330905585|tw15832070058920909616|tw5740971583704695249|tw6574752653840644095
set_option maxRecDepth 100000 in
set_option maxHeartbeats 0 in
theorem PySem.Challenge.cw_bagwood_k61_ties_brought_holds : PySem.Challenge.rw_bagwood_k61_ties_brought.Holds := by
 w_on;o_law;k_head;(case hw=>w_witness2)
 k_fill
 refine L2.ċ (l:=PySem.Challenge.rw_bagwood_k61_ties_brought) (n:=63) (k:=24) (x:="_law_script") (CX:=L2.fV) (sp:=Lw.a2l) rfl (by decide) rfl ⟨rfl,by decide,by decide⟩ (λw h Z99=>PySem.W.kIn_of Z99) ?F ?S ?C
 case F =>
  intro w mg fa h KX G hmg
  have B:L2.Bl mg:=by
   refine' L2.a5y KX G ?z1 ?z2 ?z3 ?z4 ?z5 ?z6 ?z7 ?z8 ?z9 ?z10 ?z11 ?z12 ?z13 ?z14 ?z15 ?z16 ?z17
   all_goals k_is
  have Bz:mg "zip" = none:=by
   refine' PySem.W.mg_none_of KX G ?z
   k_is
  obtain⟨jU⟩:Nonempty (L2.Dn (L2.KOf KX) mg "is_whole" K.Bm ["thing"]):=by ac_rfl
  obtain⟨jy⟩:Nonempty (L2.Dn (L2.KOf KX) mg "is_below" K.fP ["n","thing"]):=by ac_rfl
  obtain⟨oN⟩:Nonempty (L2.Dn (L2.KOf KX) mg "joint" K.pX ["one","other"]):=by ac_rfl
  obtain⟨mQ⟩:Nonempty (L2.Dn (L2.KOf KX) mg "less" K.sU ["one","other"]):=by ac_rfl
  obtain⟨HN⟩:Nonempty (L2.Dn (L2.KOf KX) mg "bag_behind" K.fQ ["graph","done","step","used"]):=by ac_rfl
  obtain⟨vU⟩:Nonempty (L2.Dn (L2.KOf KX) mg "run" K.Gq ["graph","steps"]):=by ac_rfl
  obtain⟨uK⟩:Nonempty (L2.Dn (L2.KOf KX) mg "fault_behind" K.eY ["graph","steps","tops","pile"]):=by ac_rfl
  obtain⟨xR⟩:Nonempty (L2.Dn (L2.KOf KX) mg "run_whole" K.lN ["graph","steps"]):=by ac_rfl
  obtain⟨xT⟩:Nonempty (L2.Dn (L2.KOf KX) mg "refuse_wide" K.vp ["bags"]):=by ac_rfl
  obtain⟨zT⟩:Nonempty (L2.Dn (L2.KOf KX) mg "run_narrow" K.mj ["graph","steps"]):=by ac_rfl
  obtain⟨vQ⟩:Nonempty (L2.Dn (L2.KOf KX) mg "states_behind" K.fX ["question","old","step","bag"]):=by ac_rfl
  obtain⟨qO⟩:Nonempty (L2.Dn (L2.KOf KX) mg "note" K.vg ["question","table","state","row"]):=by ac_rfl
  obtain⟨xO⟩:Nonempty (L2.Dn (L2.KOf KX) mg "fill_along" K.jQ ["question","table","source","step","bag"]):=by ac_rfl
  obtain⟨wZ⟩:Nonempty (L2.Dn (L2.KOf KX) mg "fill_joined" K.iB ["question","table","source","another"]):=by ac_rfl
  obtain⟨yG⟩:Nonempty (L2.Dn (L2.KOf KX) mg "going_up" K.oh ["steps","question","tops","feeds"]):=by ac_rfl
  obtain⟨yO⟩:Nonempty (L2.Dn (L2.KOf KX) mg "without_sources" K.lC ["table"]):=by ac_rfl
  obtain⟨uL⟩:Nonempty (L2.Dn (L2.KOf KX) mg "tables" K.yN ["steps","question"]):=by ac_rfl
  obtain⟨tM⟩:Nonempty (L2.Dn (L2.KOf KX) mg "weights_of" K.jR ["many","weights"]):=by ac_rfl
  obtain⟨jV⟩:Nonempty (L2.Dn (L2.KOf KX) mg "with_number" K.eZ ["state","spot","number"]):=by ac_rfl
  obtain⟨jW⟩:Nonempty (L2.Dn (L2.KOf KX) mg "without_number" K.cW ["state","spot"]):=by ac_rfl
  obtain⟨qw⟩:Nonempty (L2.Dn (L2.KOf KX) mg "_law_at" K.tV ["_law_script","_law_k"]):=by ac_rfl
  obtain⟨dZ6⟩:Nonempty (L2.Dn (L2.KOf KX) mg "_law_rows" K.uU ["_law_script","_law_n","_law_most"]):=by ac_rfl
  obtain⟨ų⟩:Nonempty (L2.Dn (L2.KOf KX) mg "_law_ties" K.rO ["_law_script","_law_rows_here","_law_n"]):=by ac_rfl
  obtain⟨Gs⟩:Nonempty (L2.Dn (L2.KOf KX) mg "_law_laid" K.lR ["_law_ties_here","_law_rows_here","_law_k","_law_early"]):=by ac_rfl
  obtain⟨Î⟩:Nonempty (L2.Dn (L2.KOf KX) mg "_law_tops" K.uV ["_law_steps"]):=by ac_rfl
  obtain⟨S8⟩:Nonempty (L2.Dn (L2.KOf KX) mg "_law_formed" K.jZ ["_law_found","_law_size"]):=by ac_rfl
  obtain⟨YJ⟩:Nonempty (L2.Dn (L2.KOf KX) mg "_law_becomes" K.jF ["_law_kind","_law_state","_law_at_here","_law_to"]):=by ac_rfl
  obtain⟨Ð⟩:Nonempty (L2.Dn (L2.KOf KX) mg "_law_behind" K.j4 ["_law_kind","_law_table","_law_at_here","_law_to"]):=by ac_rfl
  obtain⟨Η⟩:Nonempty (L2.Dn (L2.KOf KX) mg "_law_fits" K.rQ ["_law_kind","_law_told","_law_steps"]):=by ac_rfl
  obtain⟨QZ⟩:Nonempty (L2.Dn (L2.KOf KX) mg "law" K.Nm ["_law_script"]):=by ac_rfl
  obtain⟨U⟩:Nonempty (L2.Used w (L2.KOf KX) mg):=by
   dsimp only[L2.KOf]
   refine' L2.a0R KX G ?a ?l ?c
   (case a=>k_is);(case l=>k_is);(case c=>exact⟨_,_,_,_,_,_,_,_,_,_,rfl⟩)
  obtain⟨cF⟩:Nonempty (K.qX (L2.KOf KX) mg):=by dsimp only[L2.KOf];refine'⟨{C:=_,cl:=⟨?pg,?hd,?po,?sa⟩,m:=PySem.W.mg_of KX G ?a,bJ:=L2.pN (st:=K.mR) (ps:=["self","graph","leaf","whole"]) ?iK ?iM ?oE ?oF ?lU (λ_ _ _ _ _ _ us hl=>by ac_nf),uT:=⟨?ga,⟨.type "type",?Tq,?Tr⟩,?lU⟩,ř:=⟨?mk,?iK,?iM,?kc⟩}⟩;case a|pg|hd|po|sa|mk|kc|iK|iM|oE|oF|lU|ga|Tr|Tq=>k_is
  obtain⟨bO⟩:Nonempty (K.vX (L2.KOf KX) mg):=by dsimp only[L2.KOf];refine'⟨{C:=_,cl:=⟨?pg,?hd,?po,?sa⟩,m:=PySem.W.mg_of KX G ?a,fG:=?fG,ig:=?ig,fO:=?fO,Ka:=?Ka,fD:=?fD,bJ:=L2.V9 (st:=K.ou) (ps:=["self","graph","many","weights"]) ?iK ?iM ?oE ?oF ?lU ?uF (λ_ _ _ _ _ _ us hl=>by ac_nf) (λ_ _ _ _ _ _ us hl=>by ac_nf),eE:=L2.pN (st:=K.fC) (ps:=["self","one","other"]) ?rR ?rT ?rU ?rW ?rY (λ_ _ _ _ _ _ us hl=>by ac_nf),jc:=L2.pN (st:=K.gM) (ps:=["self","state"]) ?yR ?yS ?yU ?yV ?yW (λ_ _ _ _ _ _ us hl=>by ac_nf),jd:=L2.pN (st:=K.gO) (ps:=["self","one","other"]) ?yX ?yZ ?zc ?zf ?zj (λ_ _ _ _ _ _ us hl=>by ac_nf),je:=L2.pN (st:=K.lZ) (ps:=["self","state","spot","v"]) ?zp ?zq ?zu ?zx ?zy (λ_ _ _ _ _ _ us hl=>by ac_nf),qj:=L2.pN (st:=K.pY) (ps:=["self","state","one","other","tie"]) ?KZ ?K1 ?K3 ?K4 ?K5 (λ_ _ _ _ _ _ us hl=>by ac_nf),eG:=L2.pN (st:=K.jB) (ps:=["self","state","spot","v"]) ?rZ ?su ?sy ?sE ?sH (λ_ _ _ _ _ _ us hl=>by ac_nf),ř:=⟨?mk,?iK,?iM,?kc⟩}⟩;(case a|pg|hd|po|sa|mk|kc|iK|iM|oE|oF|lU|uF|rR|rT|rU|rW|rY|yR|yS|yU|yV|yW|yX|yZ|zc|zf|zj|zp|zq|zu|zx|zy|KZ|K1|K3|K4|K5|rZ|su|sy|sE|sH=>k_is);case fG|ig|fO|Ka|fD=>unfold L2.eX;k_is
  obtain⟨cJ⟩:Nonempty (K.Dt (L2.KOf KX) mg):=by dsimp only[L2.KOf];refine'⟨{C:=_,cl:=⟨?pg,?hd,?po,?sa⟩,m:=PySem.W.mg_of KX G ?a,fG:=?fG,ig:=?ig,fO:=?fO,fD:=?fD,bJ:=L2.V9 (st:=K.qR) (ps:=["self","graph","weights"]) ?iK ?iM ?oE ?oF ?lU ?uF (λ_ _ _ _ _ _ us hl=>by ac_nf) (λ_ _ _ _ _ _ us hl=>by ac_nf),eE:=L2.pN (st:=K.kW) (ps:=["self","one","other"]) ?rR ?rT ?rU ?rW ?rY (λ_ _ _ _ _ _ us hl=>by ac_nf),jc:=L2.pN (st:=K.gM) (ps:=["self","state"]) ?yR ?yS ?yU ?yV ?yW (λ_ _ _ _ _ _ us hl=>by ac_nf),jd:=L2.pN (st:=K.gO) (ps:=["self","one","other"]) ?yX ?yZ ?zc ?zf ?zj (λ_ _ _ _ _ _ us hl=>by ac_nf),je:=L2.pN (st:=K.pZ) (ps:=["self","state","spot","v"]) ?zp ?zq ?zu ?zx ?zy (λ_ _ _ _ _ _ us hl=>by ac_nf),qj:=L2.pN (st:=K.tH) (ps:=["self","state","one","other","tie"]) ?KZ ?K1 ?K3 ?K4 ?K5 (λ_ _ _ _ _ _ us hl=>by ac_nf),eG:=L2.pN (st:=K.kY) (ps:=["self","state","spot","v"]) ?rZ ?su ?sy ?sE ?sH (λ_ _ _ _ _ _ us hl=>by ac_nf),ř:=⟨?mk,?iK,?iM,?kc⟩}⟩;(case a|pg|hd|po|sa|mk|kc|iK|iM|oE|oF|lU|uF|rR|rT|rU|rW|rY|yR|yS|yU|yV|yW|yX|yZ|zc|zf|zj|zp|zq|zu|zx|zy|KZ|K1|K3|K4|K5|rZ|su|sy|sE|sH=>k_is);case fG|ig|fO|fD=>unfold L2.eX;k_is
  obtain⟨dB⟩:Nonempty (K.Du (L2.KOf KX) mg):=by dsimp only[L2.KOf];refine'⟨{C:=_,cl:=⟨?pg,?hd,?po,?sa⟩,m:=PySem.W.mg_of KX G ?a,fG:=?fG,ig:=?ig,fO:=?fO,fD:=?fD,bJ:=L2.V9 (st:=K.qU) (ps:=["self","graph","weights"]) ?iK ?iM ?oE ?oF ?lU ?uF (λ_ _ _ _ _ _ us hl=>by ac_nf) (λ_ _ _ _ _ _ us hl=>by ac_nf),eE:=L2.pN (st:=K.fC) (ps:=["self","one","other"]) ?rR ?rT ?rU ?rW ?rY (λ_ _ _ _ _ _ us hl=>by ac_nf),jc:=L2.pN (st:=K.qd) (ps:=["self","state"]) ?yR ?yS ?yU ?yV ?yW (λ_ _ _ _ _ _ us hl=>by ac_nf),jd:=L2.pN (st:=K.qe) (ps:=["self","one","other"]) ?yX ?yZ ?zc ?zf ?zj (λ_ _ _ _ _ _ us hl=>by ac_nf),je:=L2.pN (st:=K.qg) (ps:=["self","state","spot","v"]) ?zp ?zq ?zu ?zx ?zy (λ_ _ _ _ _ _ us hl=>by ac_nf),qj:=L2.pN (st:=K.qi) (ps:=["self","state","one","other","tie"]) ?KZ ?K1 ?K3 ?K4 ?K5 (λ_ _ _ _ _ _ us hl=>by ac_nf),eG:=L2.pN (st:=K.kZ) (ps:=["self","state","spot","v"]) ?rZ ?su ?sy ?sE ?sH (λ_ _ _ _ _ _ us hl=>by ac_nf),ř:=⟨?mk,?iK,?iM,?kc⟩}⟩;(case a|pg|hd|po|sa|mk|kc|iK|iM|oE|oF|lU|uF|rR|rT|rU|rW|rY|yR|yS|yU|yV|yW|yX|yZ|zc|zf|zj|zp|zq|zu|zx|zy|KZ|K1|K3|K4|K5|rZ|su|sy|sE|sH=>k_is);case fG|ig|fO|fD=>unfold L2.eX;k_is
  obtain⟨Ct⟩:Nonempty (K.Ř mg):=by
   refine' K.a4e KX G ?Hi ?K6 ?LK
   case Hi|K6|LK=>k_is
  exact L2.a3n hmg QZ λbase=>K.a4I B Bz cF bO cJ dB U Ct jU jy oN mQ HN vU uK xR xT zT vQ qO xO wZ yG yO uL tM jV jW qw dZ6 ų Gs Î S8 YJ Ð Η QZ
 case S=>exact λK H a ns hl hO hS=>⟨a,ns,rfl,Lw.Ü.of hO hS,hl,λ_=>rfl⟩
 case C=>exact λ_ _ _ _ z=>z
