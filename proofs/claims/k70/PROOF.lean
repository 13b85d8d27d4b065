import PyProof.Rows.All
import Wide.All
import OpenK.AllK
import Wide.FinOn
import PySem.Challenge.RW_bagwood_k70_links_in_and_out
set_option Elab.async false
set_option linter.all false
set_option compiler.extract_closed false
set_option genSizeOf false
set_option tactic.hygienic false
set_option maxRecDepth 100000
local macro_rules | `(tactic| omega) => `(tactic| first | lia | omega (config := {}))
set_option maxHeartbeats 16000000
local macro_rules | `(tactic| decide) => `(tactic| decide +kernel)
local macro_rules | `(()) => `(by first|decide|omega|exact Nat.le_of_ble_eq_true rfl|grind)
local macro_rules | `($x⁻¹) => `(($x).heap.objs.size)
set_option hygiene false
local macro_rules|`(tactic|let $d:letDecl)=>`(tactic|have $d:letDecl)
local macro_rules|`(tactic|let $p:term:=$v)=>do{let q←p.raw.rewriteBottomUpM fun|`(⟨$x,*⟩)=>(do{let y:=x.getElems.map fun z=>⟨z.1⟩;`(rcasesPat|⟨$[$y],*⟩)})|`($x:ident)=>`(rcasesPat|$x:ident)|`(_)=>`(rcasesPat|_)|x=>pure x;`(tactic|obtain $(⟨q⟩):rcasesPat:=$v)}
local macro_rules|`(tactic|show $x)=>`(tactic|refine $x)
local macro_rules|`(tactic|lk)=>`(tactic|dsimp only)
local macro_rules|`($x•$y)=>`({ $x with heap:=$y })
local macro_rules|`($x^^^$y)=>`(($x).heap.get? $y)
local macro_rules|`(⇑$x)=>`(some (.ref $x))
local macro_rules|`(↥$x)=>`(some (.lst $x))
local macro_rules|`(~~~$x)=>`(some (.tup $x))
local macro_rules|`(∎)=>`(wpAny (model prog w) A)
local macro_rules|`(⋯)=>`(bG P w K mg base gh)
local macro_rules|`(∅)=>`(Value->Shared->Prop)
open PySem.W (instObj lookIn findIn isFn emptyDict keepIn kitOne fnOf codeIn nsIn)
noncomputable section
def Q_(_:0=0:=by first|rfl|decide):=0
local macro_rules|`(@&$x)=>`(autoParam $x Q_._auto_1)
def Q0_(_:0=0:=by intro _;rfl):=0
def Q1_(_:0=0:=by first|exact Or.inl rfl|exact Or.inr Z):=0
def Q2_(_:0=0:=by first|exact .inl rfl|exact .inr rfl|assumption):=0
def Z{α:Sort _}{a:α}:a=a:=rfl
def M:=@PySem.wpAny_bind
def ao:=@PySem.wpAny_pure
def aJ:=@List.length_map
def bO:=@List.getElem?_eq_getElem
def aZ:=@List.mem_cons_self
def bM:=@PySem.Heap.get?_push_of_some
def bH:=@List.mem_cons_of_mem
def bK:=@List.length_append
def bQ:=@List.mem_singleton
def aK:=@Nat.le_refl
def bh:=@decide_eq_true
def aU:=@PySem.Paired.length
def cB:=@PySem.Heap.get?_push_size
def dY:=@List.getElem?_eq_some_iff
def bw:=@PySem.Heap.lt_size
def aA:=@if_neg
def aD:=@if_pos
def cL:=@Bool.false_ne_true
def cV:=@List.getElem?_map
def cG:=@decide_eq_false
def bT:=@List.mem_cons
def dB:=@of_decide_eq_true
def cM:=@List.mem_append
def cA:=@List.map_cons
def cW:=@List.map_append
def eE:=@decide_eq_true_iff
def b7:=@Nat.ne_of_lt
def dN:=@List.length_take
def gR:=@PySem.F.plainAttrs_list
def gq:=@List.mem_append_right
def cC:=@Nat.le_trans
def dO:=@Option.some.inj
def fj:=@List.not_mem_nil
def gU:=@List.mem_of_getElem?
def fX:=@Bool.and_eq_true
def gw:=@List.length_drop
def eG:=@PySem.wpAny_holding
def gV:=@List.size_toArray
def gG:=@PySem.wpAny_call_entry
def gH:=@List.all_eq_true
def gJ:=@List.take_length
def j4:=@Option.map_eq_some_iff
def je:=@Nat.lt_of_lt_of_le
def dG:=@Nat.zero_le
def jf:=@Int.toNat_natCast
def gA:=@List.mem_range
def iM:=@List.length_cons
def j5:=@PySem.Around.under_plainId
def j6:=@List.mem_of_mem_take
def fC:=@Nat.le_of_lt
def fD:=@List.mem_map
def iI:=@PySem.PassesOwn.never
def nD:=@PySem.wpAny_callSpecial?_slot
def iQ:=@List.nodup_cons
def jg:=@List.mem_filter
def j7:=@PySem.W.mg_none_of
def j8:=@PySem.wpAny_setField_rec
def jT:=@PySem.wpAny_newObj_type
def iR:=@List.take_succ
def jB:=@List.append_nil
def jU:=@PySem.codeAny_builtin
def rK:=@PySem.F.plainAttrs_dict
def gK:=@PySem.sizeLine_eq
def gM:=@PySem.wpAny_field
def iU:=@Nat.ne_of_gt
def qz:=@List.mem_append_left
def yK:=@List.take_succ_eq_append_getElem
def qC:=@beq_eq_false_iff_ne
def qD:=@List.getElem_of_mem
def qF:=@PySem.Heap.SameBut.update
def wJ:=@PyProof.Rows.callWith_type1
def wK:=@List.getElem?_append_right
def tY:=@List.take_append_drop
def vq:=@List.mem_singleton_self
def iJ:=@PySem.wpAny_mono
def oJ:=@List.getElem_mem
def vy:=@List.find?_cons_of_pos
def vz:=@List.find?_cons_of_neg
def lU:=@PySem.plainId_quiet
def tZ:=@Array.length_toList
def wL:=@List.pairwise_singleton
def rM:=@List.append_assoc
def rN:=@PySem.wpAny_dictEntries
def yL:=@List.getElem?_append_left
def yM:=@List.drop_eq_getElem_cons
def yN:=@Array.getElem?_eq_getElem
def uc:=@List.pairwise_cons
def lV:=@List.map_map
def ud:=@Int.emod_lt_of_pos
def oK:=@PySem.Heap.size_push
def vA:=@List.map_congr_left
def wM:=@List.filterMap_append
def uf:=@List.nodup_append
def vB:=@PySem.wpAny_Call_Name_kw
def qG:=@PySem.wpAny_seqItems
def rO:=@Bool.eq_iff_iff
def rP:=@PySem.W.kia_one
def oM:=@List.any_cons
def yO:=@PySem.SeqAt.canLay_of_shaped
def yP:=@List.take_of_length_le
def j9:=@PySem.wpAny_rule
def vC:=@PySem.wpAny_pyIter_list
def vD:=@List.length_range
def jG:=@PySem.wpAny_ite
def yQ:=@List.length_filter_le
def ug:=@Int.emod_nonneg
def lW:=@True.intro
def vG:=@PySem.wpAny_isInstance
def Cu:=@PySem.F.slot_dict_items
def Cv:=@PySem.F.type_dict_items
def yR:=@List.mem_of_mem_drop
def Gz:=@List.perm_ext_iff_of_nodup
def wN:=@List.pairwise_map
def Mi:=@PySem.F.slot_tuple_iterator_next
def yS:=@List.length_reverse
def Mj:=@PyProof.Rows.slot_tuple_getitem
def Cw:=@List.length_singleton
def Cy:=@PySem.Heap.get?_update_self
def Cz:=@PySem.wpAny_notOrdered_dict
def CG:=@PySem.F.slot_dict_get
def wO:=@Nat.lt_succ_self
def wQ:=@PySem.F.plain_any_loop
def yU:=@PySem.tupleKind_room_in1
def Ml:=@PySem.wpAny_typeNameOfWhole_itemiter
def yV:=@List.filter_append
def rQ:=@PySem.wpAny_typeOf
def rR:=@Nat.lt_trans
def GC:=@PySem.SetTable.toList_insertAt
def uh:=@PySem.wpAny_attempt
def vH:=@List.nodup_nil
def Mp:=@PySem.wpAny_typeNameOfWhole_keyiter
def Mq:=@PySem.F.slot_dict_itemiterator_next
def CJ:=@List.dropLast_concat
def wR:=@List.range_succ
def wU:=@Nat.not_lt_zero
def Mr:=@PySem.F.slot_dict_keyiterator_next
def wV:=@PySem.wpAny_dictEpoch
def wW:=@PySem.F.slot_zip_next
def Ms:=@PySem.F.slot_dict_setdefault
def CK:=@PySem.mem_of_lookup
def GD:=@List.drop_of_length_le
def um:=@Nat.lt_or_ge
def Mt:=@List.idxOf_lt_length_of_mem
def GF:=@PySem.wpAny_nextOf_list_item
def vI:=@List.sum_cons
def CN:=@List.find?_eq_none
def GJ:=@Array.getElem?_toList
def yW:=@PySem.wpAny_passesOwn
def yX:=@PySem.wpAny_loadPart'
def CP:=@PySem.wpAny_truthy_bool
def GK:=@List.Pairwise.filter
def CQ:=@PySem.typeIs_bool
def Mu:=@PySem.F.args_tuple_add_2
def Mv:=@List.filterMap_cons_some
def Mw:=@PySem.F.entry_tuple_add
def Mx:=@List.length_eq_zero_iff
def CT:=@decide_eq_decide
def Mz:=@PySem.F.slot_list_index
def MF:=@PySem.F.type_list_index
def MJ:=@List.filter_cons_of_pos
def T7:=@List.eq_nil_iff_forall_not_mem
def yZ:=@List.Perm.refl
def vJ:=@Nat.le_succ
def MK:=@PySem.F.slot_tuple_add
def wX:=@Nat.sub_zero
def MN:=@Array.getElem?_eq_none
def zc:=@Nat.lt_irrefl
def ê:=@PySem.wpAny_callSpecialIfBoundUnlessNone?_slot
def MP:=@PySem.F.slot_list_pop
def MT:=@PySem.F.type_list_pop
def GP:=@List.take_sublist
def GQ:=@Nat.lt_succ_of_lt
def GR:=@PySem.wpAny_storeSet_of
def GX:=@Bool.eq_false_iff
def T8:=@Array.perm_iff_toList_perm
def CV:=@PySem.wpAny_fieldsOf
def M4:=@List.getLast?_concat
def GZ:=@Nat.le_add_right
def zf:=@Nat.sub_self
def T9:=@List.pairwise_iff_getElem
def M5:=@PySem.Heap.get?_update_ne
def Ua:=@List.length_filterMap_le
def CW:=@List.drop_one
def Hf:=@PySem.wpAny_specialOf
def Hg:=@Option.map_some
def M6:=@PySem.wpAny_pyIter_tuple
def M7:=@PySem.W.callWith_K
def M8:=@List.filterMap_map
def M9:=@Nat.lt_of_le_of_lt
def ë:=@PySem.F.args_tuple_iterator_next_1
def zj:=@PySem.wpAny_letGo
def Ub:=@PyProof.Rows.F.plain_set_update_loop
def Uc:=@PySem.F.args_dict_get_3
def ì:=@PySem.F.entry_tuple_iterator_next
def Ud:=@PySem.wpAny_pyNext_list_item
def CZ:=@PySem.codeAny_mono
def Ue:=@PySem.Calls.callWith_builtin
def Ug:=@PySem.Heap.get?_update_other
def Nb:=@PySem.wpAny_pyIter_enum
def Nf:=@PySem.Heap.get?_push_ne
def Uh:=@Nat.lt_of_succ_lt_succ
def Ng:=@List.idxOf_append
def Hh:=@PySem.isSubtype_stop
def Nh:=@PySem.wpAny_pyIter_slot
def Ni:=@PySem.F.args_zip_next_1
def Ui:=@PySem.F.entry_dict_get
def Uj:=@PySem.wpAny_isOneOf_itemiter
def í:=@PySem.F.args_dict_itemiterator_next_1
def Uk:=@List.cons_lt_cons_iff
def Ul:=@List.mem_iff_getElem?
def Um:=@List.getElem?_toArray
def Uo:=@PySem.F.type_dict_get
def Nj:=@PySem.noFill_tuple_add
def zp:=@PySem.call_meets
def Nk:=@PySem.F.plain_all_loop
def Nm:=@PySem.F.entry_any_loop
def Np:=@List.countP_cons
def Nq:=@beq_self_eq_true
def Nr:=@List.filter_cons
def Nt:=@PySem.wpAny_askSetting
def Nu:=@PySem.F.entry_zip_next
def Nv:=@PySem.F.slot_bool_hash
def î:=@PySem.F.args_dict_setdefault_3
def ï:=@PySem.F.entry_dict_itemiterator_next
def Hi:=@Bool.true_and
def Hj:=@List.map_take
def Uq:=@List.length_dropLast
def Ur:=@List.mem_erase_of_ne
def Us:=@List.pairwise_append
def ð:=@PySem.F.entry_dict_keyiterator_next
def ò:=@PySem.F.entry_dict_setdefault
def ó:=@List.exists_mem_of_length_pos
def Ut:=@List.idxOf_cons_self
def Nx:=@PySem.wpAny_execs_nil
def Ny:=@PySem.wpAny_updateSeq
def Nz:=@Bool.or_eq_true
def ô:=@PySem.F.type_dict_setdefault
def Uu:=@List.filterMap_cons
def Uv:=@PySem.W.plainGet_of
def Uw:=@List.filter_sublist
def Ux:=@List.flatMap_append
def Uy:=@List.getElem?_range
def Hl:=@PySem.call_meetsIn
def Ho:=@List.any_map
def õ:=@PySem.Calls.Name_function_global
def Uz:=@List.mem_filterMap
def UG:=@PySem.call_function_tree
def ö:=@PySem.wpAny_letOwnedTupleGo_enum
def NK:=@PySem.wpAny_newTuple
def UJ:=@of_decide_eq_false
def UL:=@Array.forIn_toList
def NP:=@PySem.entryFor_alias
def UW:=@PySem.wpAny_dictSet_heap
def ø:=@PySem.F.kt_typeCall_dict_1
def NQ:=@List.take_zero
def U0:=@List.map_singleton
def U4:=@List.sum_singleton
def ù:=@PySem.Calls.call_function_entry
def ú:=@Classical.byContradiction
def û:=@List.getLastD_eq_getLast?
def U5:=@List.reverse_cons
def U6:=@PySem.Heap.SameBut.refl
def Hq:=@PySem.wpAny_of_eq
def NT:=@PySem.wpAny_standAt
def ý:=@Option.isSome_iff_exists
def NZ:=@PySem.seq_tuple_add
def þ:=@PySem.wpAny_comprehension_free
def N5:=@PySem.W.mg_of
def N6:=@PySem.wpAny_handled
def N7:=@List.map_drop
def ÿ:=@PySem.F.args_dict_init_2
def N8:=@PySem.wpAny_onRaise
def Oa:=@List.cons.inj
def Ā:=@List.find?_range_eq_some
def U7:=@PySem.wpAny_execs_cons
def U8:=@Nat.min_le_right
def U9:=@PySem.Heap.size_update
def Va:=@List.nodup_range
def Vb:=@PySem.wpAny_pyIter_zip
def Vc:=@PySem.Heap.IsList.push
def Vd:=@List.any_eq_true
def Ve:=@Option.getD_some
def Hs:=@beq_iff_eq
def Ob:=@Nat.le_of_eq
def Oc:=@PySem.concat_meets
def Od:=@List.all_map
def Vf:=@List.of_mem_zip
def Vg:=@PyProof.Rows.get?_update_seq
def Vh:=@PySem.am_miss_of_fast
def Vi:=@PySem.size_of_entries
def Vj:=@List.idxOf_cons
def Vk:=@PySem.isSubtype_type
def Oe:=@PySem.wpAny_throw
def Vl:=@List.drop_zero
def Vm:=@List.all_cons
def Vn:=@PyProof.Rows.listUpdate_at
def Vo:=@PySem.wpAny_newList
def Og:=@PyProof.Rows.size_push'
open PySem PySem.Spec
abbrev ae:=List Int
abbrev ag:=List Str
abbrev aw:=List Value
abbrev ay:=List Nat
abbrev aE:=List (Addr×Obj)
abbrev aI:=List Addr
abbrev a9:=List (List Int)
abbrev ba:=List Expr
abbrev aH:=PySem.W.Frag
abbrev bV:=Int×Int
abbrev ar:=List bV
def gB{α:Type}{l:List α}{i:Nat}{a:α}:l.getD i a=l[i]?.getD a:=List.getD_eq_getElem?_getD ..
namespace L2
open PyProof.Rows
abbrev Key:=Sum Int Str
noncomputable def Kg:Key->Value->Bool
 |.inl k,v=>Value.isInt k v
 |.inr x,v=>Value.isStrOf x v
noncomputable def a7U(w:World):Key->Int
 |.inl k=>hashInt k
 |.inr x=>hashStr w x
def iY:∀{k:Key}{v:Value},Kg k v=true->(∃i t,k=Sum.inl i/\v=Value.int i t)\/(∃x t,k=Sum.inr x/\v=Value.str x t)
 |.inl i,v,h=>by
  let⟨t,e⟩:=Value.isInt_shape (k:=i) (v:=v) h
  show .inl ⟨i,t,Z,e⟩
 |.inr x,v,h=>by
  let⟨t,e⟩:=Value.isStrOf_shape (x:=x) (v:=v) h
  show .inr ⟨x,t,Z,e⟩
def YZ(i:Int)(t:Tok):Kg (.inl i) (.int i t)=true:=by simp[Kg,Value.isInt]
def Y0(x:Str)(t:Tok):Kg (.inr x) (.str x t)=true:=by simp[Kg,Value.isStrOf]
def a3m(a b:Int):decide ((Sum.inl a:Key)=Sum.inl b)=(a==b):=by
 by_cases e:a=b
 ·subst e;simp
 ·let h:¬(Sum.inl a:Key)=Sum.inl b:=λq=>e (Sum.inl.inj q);rw[cG h];show(qC.mpr e).symm
def a3n(a b:Str):decide ((Sum.inr a:Key)=Sum.inr b)=decide (a=b):=by
 by_cases e:a=b
 ·subst e;simp
 ·let h:¬(Sum.inr a:Key)=Sum.inr b:=λq=>e (Sum.inr.inj q);rw[cG h,cG e]
def a3o(a:Int)(b:Str):decide ((Sum.inl a:Key)=Sum.inr b)=false:=cG (λq=>nomatch q)
def a3p(a:Str)(b:Int):decide ((Sum.inr a:Key)=Sum.inl b)=false:=cG (λq=>nomatch q)
def eX(prog:Program)(w:World):PySem.KeyKind prog w Key where
 is:=Kg
 hash:=a7U w
 inj:=λv a b ha hb=>by
  rcases iY ha with⟨i,t,rfl,rfl⟩|⟨x,t,rfl,rfl⟩
  ·rcases iY hb with⟨j,u,rfl,e⟩|⟨y,u,rfl,e⟩
   ·injection e with e1 _;rw[e1]
   ·show nomatch e
  ·rcases iY hb with⟨j,u,rfl,e⟩|⟨y,u,rfl,e⟩
   ·show nomatch e
   ·injection e with e1 _;rw[e1]
 byValue:=λk v h=>by
  rcases iY h with⟨i,t,rfl,rfl⟩|⟨x,t,rfl,rfl⟩<;>rfl
 pyHash:=λhv h=>by
  rcases iY hv with⟨i,t,rfl,rfl⟩|⟨x,t,rfl,rfl⟩
  ·show wpAny_pyHash_int h
  ·show wpAny_pyHash_str h
 eqBool:=λhu hv h=>by
  rcases iY hu with⟨i,t,rfl,rfl⟩|⟨x,t,rfl,rfl⟩
  ·rcases iY hv with⟨j,u,rfl,rfl⟩|⟨y,u,rfl,rfl⟩
   ·rw[a3m]at h;show wpAny_eqBool_int h
   ·rw[a3o]at h;show SeqAt.EqAt.int_str i t y u _ _ _ _ h
  ·rcases iY hv with⟨j,u,rfl,rfl⟩|⟨y,u,rfl,rfl⟩
   ·rw[a3p]at h;show SeqAt.EqAt.str_int x t j u _ _ _ _ h
   ·rw[a3n]at h;show wpAny_eqBool_str h
 «strs» := λk x t v h=>by
  rcases iY h with⟨i,u,rfl,e⟩|⟨y,u,rfl,e⟩
  ·show nomatch e
  ·injection e with e1 _
   subst e1
   cases v<;>rfl
def Qs(prog:Program)(w:World)(i:Int)(t:Tok):(eX prog w).is (.inl i) (.int i t)=true:=YZ i t
def gC(prog:Program)(w:World)(x:Str)(t:Tok):(eX prog w).is (.inr x) (.str x t)=true:=Y0 x t
inductive V where
 |non|bl (b:Bool)|int (i:Int)|str (x:Str)|Xq (b:Array UInt8)|flt (b:UInt64)|ref (a:Addr)|ty (n:String)
 deriving DecidableEq
abbrev af:=List V
abbrev aS:=List Key
abbrev aT:=List (List Key×V)
abbrev be:=List (Str×V)
variable{pos p:Pos}{K:aH}{A:Around}{h h' base:Heap}{e tg c:Expr}{es:ba}{k t' n:Nat}{Z98:Model}{op:CmpOp}{ch fp:aI}{N:ag}{body:List Stmt}{mA mg:Str->Option Value}{pl:Sem Bool}{kw:List (Str×Value)}
noncomputable def cZ:V->Value->Prop
 |.non,u=>u=Value.none
 |.bl b,u=>u=Value.bool b
 |.int i,u=>∃t,u=Value.int i t
 |.str x,u=>∃t,u=Value.str x t
 |.Xq b,u=>∃t,u=Value.bytes b t
 |.flt b,u=>∃t,u=Value.float b t
 |.ref a,u=>u=Value.ref a
 |.ty n,u=>u=Value.type n
abbrev cN:af->aw->Prop:=Paired cZ
def cN.length{xs:af}{us:aw}(r:cN xs us):xs.length=us.length:=aU r
theorem cN.get:∀{xs:af}{us:aw}{i:Nat}{x:V},cN xs us->xs[i]?=some x->∃u,us[i]?=some u/\cZ x u
 |_,_,_,_,.nil,e=>by simp at e
 |_,_,0,_,.cons r _,e=>by simp at e;subst e;show⟨_,Z,r⟩
 |_,_,i+1,x,.cons _ t,e=>by
  let⟨u,h1,h2⟩:=cN.get (i:=i) (x:=x) t (by simpa using e)
  show⟨u,by simpa using h1,h2⟩
def cN.append{xs ys:af}{us ws:aw}(h:cN xs us)(s:cN ys ws):cN (xs++ys) (us++ws):=by
 induction h with
 |nil=>show s
 |cons r _ ih=>show .cons r ih
theorem cN.take:∀{xs:af}{us:aw} (n:Nat),cN xs us->cN (xs.take n) (us.take n)
 |_,_,0,_=>.nil
 |_,_,_+1,.nil=>.nil
 |_,_,n+1,.cons r t=>.cons r (cN.take n t)
theorem cN.drop:∀{xs:af}{us:aw} (n:Nat),cN xs us->cN (xs.drop n) (us.drop n)
 |_,_,0,r=>r
 |_,_,_+1,.nil=>.nil
 |_,_,n+1,.cons _ t=>cN.drop n t
def oN:Option V->Option Value->Prop
 |some v,some u=>cZ v u
 |none,none=>True
 |_,_=>False
def KV{κ:Type}:List (κ×V)->List (κ×Value)->Prop:=Paired λ(p:κ×V) (q:κ×Value)=>p.1=q.1/\cZ p.2 q.2
noncomputable def kV:Key->V
 |.inl i=>.int i
 |.inr x=>.str x
inductive HO where
 |lst (xs:af)
 |tup (xs:af)
 |dK (J:List (Key×V))|dT (J:List (aS×V))
 |set (S:Int->Bool) (n:Nat)
 |ins (C dx:Addr) (fs:be)
 |own (x:Addr)
 |xd (fs:be)
 |met (f x:Addr)
 |rng (lo hi:Int)
 |iw (o:Obj) (u:HO)
 |tbl (ps:Array Value)
 |ext (φ:Heap->Prop)
abbrev Hp:=Addr->Option HO
noncomputable def cX(H:Hp)(a:Addr)(o:HO):Hp:=λb=>if b=a then some o else H b
def dw{H:Hp}{a:Addr}{o:HO}:cX H a o a=some o:=by unfold cX;rw[aD rfl]
def aQ{H:Hp}{a b:Addr}{o:HO}(h:b≠a):cX H a o b=H b:=by unfold cX;rw[aA h]
def Xr{H:Hp}{a b:Addr}{o u:HO}(h:H a=some o)(h':H b=some u)(d:o≠u):a≠b:=by
 intro e;subst e;rw[h]at h';show d (dO h')
def dR{H:Hp}{a b:Addr}{o:HO}(h:H a=some o)(h':H b=none):a≠b:=by
 intro e;subst e;rw[h]at h';cases h'
section
variable(P:Program)(w:World)
def fB(H:Hp)(h:Heap)(a:Addr):HO->Prop
 |.lst xs=>xs.length<=sizeLine/\∃(bY:aw) (n:Nat),cN xs bY/\h.get? a=some { cls:=.type "list",data:=.seq bY.toArray n}
 |.tup xs=>xs.length<=sizeLine/\∃bY:aw,cN xs bY/\IsTup h a bY.toArray
 |.dK J=>J.length<=sizeLine/\(a==sysModules)=false/\∃vs,KV J vs/\h.DictOf (eX P w) a vs
 |.dT J=>J.length<=sizeLine/\(a==sysModules)=false/\∃xs:List (aS×Addr×Value),
   Paired (λ(p:aS×V) (q:aS×Addr×Value)=>p.1=q.1/\H q.2.1= ~~~(p.1.map kV)/\cZ p.2 q.2.2) J xs/\
   ∃o es ep,h.get? a=some o/\o.ExactDict/\o.data=.dict es ep/\es.toList=xs.map (entryOfKey (tupleKind (eX P w)))/\(xs.map (·.1)).Nodup
 |.set S n=>h.SetOf (intKind P w) a S n
 |.ins C dx fs=>H dx=some (.own a)/\fs.length<=1000/\dx≠a/\h.get? a=some (instObj C dx)/\
   ∃mA,h.Ns1 dx mA/\(∀f,oN (fs.lookup f) (mA f))/\PySem.Within mA (fs.map (·.1))
 |.own _=>∃o,h.get? a=some o
 |.xd fs=>∃mA,h.Ns1 a mA/\∀f,oN (fs.lookup f) (mA f)
 |.rng lo hi=>∃t u v,h.get? a=some { cls:=.type "range",data:=.fields #[.int lo t,.int hi u,.int 1 v]}
 |.iw o u=>h.get? a=some o/\fB H h a u
 |.tbl ps=>h.get? a=some { cls:=.none,data:=.fields ps}
 |.met f x=>h.get? a=some (PySem.W.methodObj (.ref f) (.ref x))
 |.ext φ=>φ h/\(∃o,h.get? a=some o)/\∀h1 h2:Heap,φ h1->(∀o,h1.get? a=some o->h2.get? a=some o)->φ h2
def xW(H:Hp)(h:Heap):Prop:=∀a o,H a=some o->fB P w H h a o
end
section
variable{P:Program}{w:World}{H H':Hp}{a:Addr}{o:HO}
def fB.lt(x:fB P w H h a o):a<h.objs.size:=by
 cases o with
 |lst xs=>let⟨_,_,_,_,e⟩:=x;show bw e
 |tup xs=>let⟨_,_,_,p⟩:=x;show p.lt
 |dK J=>let⟨_,_,_,_,o,_,_,e,_⟩:=x;show bw e
 |dT J=>let⟨_,_,_,_,o,_,_,e,_⟩:=x;show bw e
 |set S n=>let⟨o,_,_,_,e,_⟩:=x;show bw e
 |ins C dx fs=>let⟨_,_,_,e,_⟩:=x;show bw e
 |own y=>let⟨_,e⟩:=x;show bw e
 |xd fs=>let⟨_,⟨_,_,_,e,_⟩,_⟩:=x;show bw e
 |rng lo hi=>let⟨_,_,_,e⟩:=x;show bw e
 |iw ob u=>let⟨e,_⟩:=x;show bw e
 |tbl ps=>show bw (show h.get? a=some _ from x)
 |met f y=>show bw (show h.get? a=some _ from x)
 |ext φ=>let⟨_,⟨_,e⟩,_⟩:=x;show bw e
def Paired.cD{α β:Type}{F G:α->β->Prop}{l₁:List α}{l₂:List β}(h:Paired F l₁ l₂)(f:∀a b,F a b->G a b):Paired G l₁ l₂:=by
 induction h with
 |nil=>show .nil
 |cons r _ ih=>show .cons (f _ _ r) ih
def fB.stay(x:fB P w H h a o)(k:∀b u,(b=a\/H b=some (.own a))->h.get? b=some u->h'.get? b=some u)
  (ho:∀b,H b=some (.own a)->H' b=some (.own a)) (ht:∀b xs,H b= ~~~xs->H' b= ~~~xs):fB P w H' h' a o:=by
 induction o with
 |lst xs=>let⟨z,bY,n,r,e⟩:=x;show⟨z,bY,n,r,k _ _ (.inl Z) e⟩
 |tup xs=>let⟨z,bY,r,ob,e,c⟩:=x;show⟨z,bY,r,ob,k _ _ (.inl Z) e,c⟩
 |dK J=>let⟨z,y,vs,r,ob,es,ep,e,c⟩:=x;show⟨z,y,vs,r,ob,es,ep,k _ _ (.inl Z) e,c⟩
 |dT J =>
  let⟨z,y,xs,r,ob,es,ep,e,c⟩:=x;show⟨z,y,xs,Paired.cD r λp q z=>⟨z.1,ht _ _ z.2.1,z.2.2⟩,ob,es,ep,k _ _ (.inl Z) e,c⟩
 |set S n=>let⟨ob,es,ep,t,e,c⟩:=x;show⟨ob,es,ep,t,k _ _ (.inl Z) e,c⟩
 |ins C dx fs =>
  let⟨d,z,ne,e,mA,⟨od,es,ep,e2,c⟩,r⟩:=x;show⟨ho _ d,z,ne,k _ _ (.inl Z) e,mA,⟨od,es,ep,k _ _ (.inr d) e2,c⟩,r⟩
 |own y=>let⟨ob,e⟩:=x;show⟨ob,k _ _ (.inl Z) e⟩
 |xd fs=>let⟨mA,⟨od,es,ep,e,c⟩,r⟩:=x;show⟨mA,⟨od,es,ep,k _ _ (.inl Z) e,c⟩,r⟩
 |rng lo hi=>let⟨t,u,v,e⟩:=x;show⟨t,u,v,k _ _ (.inl Z) e⟩
 |iw ob u ih=>let⟨e,q⟩:=x;show⟨k _ _ (.inl Z) e,ih q⟩
 |tbl ps =>
  let e:h.get? a=some { cls:=.none,data:=.fields ps}:=x;show h'.get? a=some { cls:=.none,data:=.fields ps};show k a _ (.inl Z) e
 |met f y =>
  let e:h.get? a=some (PySem.W.methodObj (.ref f) (.ref y)):=x;show h'.get? a=some (PySem.W.methodObj (.ref f) (.ref y));show k a _ (.inl Z) e
 |ext φ=>let⟨p,⟨o,e⟩,st⟩:=x;show⟨st _ _ p λo q=>k _ _ (.inl Z) q,⟨o,k _ _ (.inl Z) e⟩,st⟩
def xW.lt(x:xW P w H h)(e:H a=some o):a<h.objs.size:=(x a o e).lt
def xW.fresh(x:xW P w H h)(e:h.objs.size<=a):H a=none:=by
 cases q:H a with
 |none=>rfl
 |some u=>show absurd (je (x.lt q) e) (zc _)
def xW.kept(x:xW P w H h)(k:∀b u,h.get? b=some u->h'.get? b=some u):xW P w H h':=λa o e =>
 (x a o e).stay (λb u _ q=>k b u q) (λ_ q=>q) λ_ _ q=>q
def xW.laid(x:xW P w H h)(k:∀b u,h.get? b=some u->h'.get? b=some u)(hp:h.objs.size<=a)(new:fB P w (cX H a o) h' a o):xW P w (cX H a o) h':=λb u e=>by
 let hn:=x.fresh hp;by_cases hb:b=a
 ·subst hb;rw[dw]at e;cases e;show new
 ·rw[aQ hb]at e;show(x b u e).stay (λc v _ q=>k c v q) (λc q=>by rw[aQ (dR q hn)];show q) λc xs q=>by rw[aQ (dR q hn)];show q
end
def Rd(H:Hp)(a:Addr)(u:HO):Prop:=H a=some u\/∃o,H a=some (.iw o u)
def Rd.ok{P:Program}{w:World}{H:Hp}{a:Addr}{u:HO}(r:Rd H a u)(x:xW P w H h):fB P w H h a u:=by
 rcases r with r|⟨o,r⟩
 ·show x a u r
 ·let⟨_,q⟩:=x a _ r;show q
noncomputable def Mut:Option HO->Prop
 |↥_=>True
 |some (.dK _)=>True
 |some (.dT _)=>True
 |some (.set _ _)=>True
 |some (.ins _ _ _)=>True
 |some (.ext _)=>True
 |_=>False
section
variable{P:Program}{w:World}{H:Hp}{x e:Addr}{o':HO}
def xW.write(ok:xW P w H h)(mu:Mut (H x))(he:e=x\/H e=some (.own x))(k:∀b u,b≠e->h.get? b=some u->h'.get? b=some u)(heo:∃u,h'.get? e=some u)
  (new:fB P w (cX H x o') h' x o'):xW P w (cX H x o') h':=λb u q=>by
 let a5E:∀c y,H c=some (.own y)->c≠x:=λc y r z=>by subst z;rw[r]at mu;show mu
 let a3q:∀c xs,H c= ~~~xs->c≠x:=λc xs r z=>by subst z;rw[r]at mu;show mu
 by_cases hb:b=x
 ·subst hb;rw[dw]at q;cases q;show new
 ·rw[aQ hb]at q;by_cases hbe:b=e
  ·let q':H b=some (.own x):=by
    rcases he with z|z
    ·show absurd (hbe.trans z) hb
    ·rw[hbe];show z
   rw[q]at q';cases q';let⟨v,hv⟩:=heo;show⟨v,by rw[hbe];show hv⟩
  ·show(ok b u q).stay (λc v hc r=>k c v ?_ r) (λc r=>by rw[aQ (a5E c b r)];show r) λc xs r=>by rw[aQ (a3q c xs r)];show r
   rcases hc with rfl|hc
   ·show hbe
   ·rintro rfl;rcases he with z|z
    ·show a5E c b hc z
    ·rw[hc]at z;cases z;show hb rfl
end
structure Un(fs ex:aI)(H H':Hp)(h h':Heap):Prop where
 keep:∀b o,h.get? b=some o->H b=none->b∉fs->b∉ex->h'.get? b=some o
 slot:∀b o,h.get? b=some o->H b=none->b∈fs->b∉ex->∃sl,h'.get? b=some { o with slots:=sl}
 free:∀b o,h.get? b=some o->H b=none->b∉ex->H' b=none
 there:∀b o,h.get? b=some o->b∉ex->∃o',h'.get? b=some o'
 tups:∀b xs,H b= ~~~xs->H' b= ~~~xs
 Hu:∀b o u,H b=some (.iw o u)->H' b=some (.iw o u)
 Oh:∀b ps,H b=some (.tbl ps)->∃more,H' b=some (.tbl (ps++more))
section
variable{fs fs' ex ex':aI}{H H1 H2:Hp}{h1 h2:Heap}{a x e:Addr}{o:HO}
def Un.any(u:Un fs ex H H1 h h1){b:Addr}{ob:Obj}(q:h.get? b=some ob)(n:H b=none)(hx:b∉ex):∃sl,h1.get? b=some { ob with slots:=sl}:=by
 by_cases hb:b∈fs
 ·show u.slot b ob q n hb hx
 ·show⟨ob.slots,u.keep b ob q n hb hx⟩
def Un.kept(k:∀b u,h.get? b=some u->h'.get? b=some u):Un fs ex H H h h' :=
 ⟨λb ob q _ _ _=>k b ob q,λb ob q _ _ _=>⟨ob.slots,k b ob q⟩,λ_ _ _ n _=>n,λb ob q _=>⟨ob,k b ob q⟩,λ_ _ q=>q,λ_ _ _ q=>q,λ_ ps q=>⟨#[],by rw[q];simp⟩⟩
def Un.refl:Un fs ex H H h h:=Un.kept λ_ _ q=>q
def Un.laid(k:∀b u,h.get? b=some u->h'.get? b=some u)(hp:h.objs.size<=a)(hn:H a=none):Un fs ex H (cX H a o) h h' where
 keep:=λb u q _ _ _=>k b u q
 slot:=λb u q _ _ _=>⟨u.slots,k b u q⟩
 free:=λb u q n _=>by rw[aQ (b7 (je (bw q) hp))];show n
 there:=λb u q _=>⟨u,k b u q⟩
 tups:=λb xs q=>by rw[aQ (dR q hn)];show q
 Hu:=λb u xs q=>by rw[aQ (dR q hn)];show q
 Oh:=λb ps q=>⟨#[],by rw[aQ (dR q hn),q];simp⟩
def Un.write(mu:Mut (H x))(he:e=x\/H e=some (.own x))(k:∀b u,b≠e->h.get? b=some u->h'.get? b=some u)(heo:∃u,h'.get? e=some u):Un fs ex H (cX H x o) h h':=by
 let hx:∀b,H b=none->b≠x:=λb n z=>by subst z;rw[n]at mu;show mu
 let hb:∀b,H b=none->b≠e:=λb n z=>by
  subst z;rcases he with r|r
  ·show hx b n r
  ·rw[n]at r;cases r
 let hm:∀b u,H b=some u->¬Mut (some u)->b≠x:=λb u q nm z=>by subst z;rw[q]at mu;show nm mu
 show⟨λb u q n _ _=>k b u (hb b n) q,λb u q n _ _=>⟨u.slots,k b u (hb b n) q⟩,λb u q n _=>by rw[aQ (hx b n)];show n,λb u q _=>?_,
  λb xs q=>by rw[aQ (hm b _ q λz=>z)];show q,λb u xs q=>by rw[aQ (hm b _ q λz=>z)];show q,λb ps q=>⟨#[],by rw[aQ (hm b _ q λz=>z),q];simp⟩⟩
 by_cases hbe:b=e
 ·subst hbe;show heo
 ·show⟨u,k b u hbe q⟩
end
noncomputable def trk(h:Heap)(H:Hp):aI:=(List.range h.objs.size).filter λa=>(H a).isSome
def Oi(h:Heap)(H:Hp):Heap:=PySem.W.hideAll h (trk h H)
def Y4(h:Heap)(H:Hp):(Oi h H).objs.size=h.objs.size:=PySem.W.hideAll_size _ _
def ā{H:Hp}{b:Addr}{o:Obj}(e:h.get? b=some o)(n:H b=none):(Oi h H).get? b=some o :=
 PySem.W.hideAll_get _ e λhm=>by
  let q:(H b).isSome=true:=(jg.mp hm).2;rw[n]at q;simp at q
def a0s{H:Hp}{b:Addr}{o:Obj}(e:(Oi h H).get? b=some o):h.get? b=some o/\H b=none:=by
 let e':h.get? b=some o:=PySem.W.of_hideAll (trk h H) e;show⟨e',?_⟩;cases q:H b with
 |none=>rfl
 |some x =>
  let hm:b∈trk h H:=jg.mpr ⟨gA.mpr (bw e'),by simp[q]⟩;let z:(Oi h H).get? b=none:=PySem.W.hideAll_none (trk h H) hm;rw[z]at e;cases e
structure Mod(K:aH)(mg:Str->Option Value)(base:Heap):Prop where
 kin:K.In base
 glob:base.Ns mainGlobals mg
 blt:∃mb,base.Ns builtinsNs mb/\∀x:Str,x≠ "__name__" ->mb x=bootBuiltins x
 nolimit:base.NoLimit
set_option genInjectivity false in
structure Cx where
 prog:Program
 w:World
 K:aH
 mg:Str->Option Value
 base:Heap
 A:Around
 N:ag
 s₀:Shared
 H₀:Hp
 env:Env
 outer:List Env
 stack:List Env
 ex:aI
 fn:Str->Bool
 calm:Bool
 pn:aE
 xe:∅
noncomputable def frs(l:List Env):aI:=l.filterMap (·.frame)
abbrev Cx.fs(X:Cx):aI:=frs X.outer
def Vis(sc:Scope)(x:Str):Prop:=sc.names.lookup x=some .local\/sc.names.lookup x=some .cell\/sc.names.lookup x=some .free
def Loc(sc:Scope)(x:Str):Prop:=sc.names.lookup x=some .local\/sc.names.lookup x=some .cell
def Look(env:Env)(h:Heap)(m:Str->Option Value)(x:Str)(u:Value):Prop :=
 (env.kindOf x=some .local/\m x=some u)\/((env.kindOf x=some .cell\/env.kindOf x=some .free)/\∃c,env.cells.lookup x=some c/\h.IsCell c (some u))
structure Cx.Ok(X:Cx):Prop where
 mod:Mod X.K X.mg X.base
 kind:X.env.scope.kind=.function
 glob:X.env.globals=mainGlobals
 blt:X.env.builtins=builtinsNs
 above:X.s₀.heap.objs.size<=X.env.locals
 inj:∀x y c,X.env.cells.lookup x=some c->X.env.cells.lookup y=some c->x=y
 has:∀x,(X.env.kindOf x=some .cell\/X.env.kindOf x=some .free)->∃c,X.env.cells.lookup x=some c
 cab:∀x c,X.fn x=true->X.env.cells.lookup x=some c->X.s₀.heap.objs.size<=c
 hd:X.calm=true->X.A.handled=none
 frames:X.A.frames=some X.stack
 stk:X.stack=X.outer\/(X.stack=X.env::X.outer/\X.env.frame=some X.env.locals)
 exf:∀b∈X.ex,b≠X.env.locals/\∀x c,X.env.cells.lookup x=some c->c≠b
 bs:∀b o,X.base.get? b=some o->X.s₀.heap.get? b=some o/\X.H₀ b=none
 bsz:X.base.objs.size<=X.s₀.heap.objs.size
 Vp:∀b o,X.base.get? b=some o->b∉X.ex
 Y5:∀b∈X.ex,b∉X.fs
 zY:X.s₀.heap.FunFrames X.base X.outer
 frf:∀b∈X.fs,X.H₀ b=none
structure bF(X:Cx)(Y:aE)(σ:List (Option V))(H:Hp)(s:Shared):Prop where
 ok:X.Ok
 os:s.os=X.s₀.os
 bare:AllBare s.gens
 base:Un X.fs X.ex X.H₀ H X.s₀.heap s.heap
 loc:∃m,s.heap.Ns X.env.locals m/\∀(i:Nat) (x:Str) (v:V),X.N[i]?=some x->σ[i]?=some (some v)->Vis X.env.scope x->∃u,cZ v u/\Look X.env s.heap m x u
 cell:∀x c,X.env.cells.lookup x=some c->∃v,s.heap.IsCell c v
 free:H X.env.locals=none
 rT:∀x c,X.env.cells.lookup x=some c->H c=none
 pin:∀p∈X.pn++Y,s^^^p.1=some p.2/\H p.1=none/\p.1≠X.env.locals/\p.1∉X.fs/\∀v,p.2.data≠.cell v
 hok:xW X.prog X.w H s.heap
 len:σ.length=X.N.length
section
variable{X:Cx}{Y:aE}{σ:List (Option V)}{H H':Hp}{s:Shared}
def Cx.Ok.a7V(ok:X.Ok){b:Addr}{o:Obj}(e:X.base.get? b=some o):b∉X.fs:=λhb=>by
 let:=(ok.zY.mem hb).1;rw[e]at this;cases this
def bF.bs(I:bF X Y σ H s):∀b o,X.base.get? b=some o->s^^^b=some o/\H b=none:=λb o e =>
 ⟨I.base.keep b o (I.ok.bs b o e).1 (I.ok.bs b o e).2 (I.ok.a7V e) (I.ok.Vp b o e),I.base.free b o (I.ok.bs b o e).1 (I.ok.bs b o e).2 (I.ok.Vp b o e)⟩
def bF.bk(I:bF X Y σ H s):∀b o,X.base.get? b=some o->s^^^b=some o:=λb o e=>(I.bs b o e).1
def bF.mod(I:bF X Y σ H s):Mod X.K X.mg X.base:=I.ok.mod
def bF.Cq(I:bF X Y σ H s):X.K.In s.heap:=I.ok.mod.kin.keeps I.bk
def bF.lt(I:bF X Y σ H s):X.env.locals<s⁻¹:=let⟨_,hn,_⟩:=I.loc;hn.lt
def bF.sz(I:bF X Y σ H s):X.s₀.heap.objs.size<=s⁻¹:=cC I.ok.above (fC I.lt)
def bF.a5F(I:bF X Y σ H s){a:Addr}(h:s⁻¹<=a):a∉X.fs:=λhb=>by
 let⟨_,o,ho,_⟩:=I.ok.zY.mem hb;show absurd (je (bw ho) (cC I.sz h)) (zc _)
def bF.cne(I:bF X Y σ H s):∀x c,X.env.cells.lookup x=some c->c≠X.env.locals:=λx c e z=>by
 let⟨v,o,ho,hd⟩:=I.cell x c e;let⟨m,⟨o',es,ep,ho',hd',_⟩,_⟩:=I.loc;rw[z,ho']at ho;cases ho;rw[hd']at hd;cases hd
def bF.zY(I:bF X Y σ H s):s.heap.FunFrames X.base X.outer:=by
 let all:∀(l:List Env),(∀b∈frs l,b∈X.fs)->X.s₀.heap.FunFrames X.base l->s.heap.FunFrames X.base l:=by
  intro l
  induction l with
  |nil=>intro _ _;trivial
  |cons env r ih =>
   intro hs hl;let⟨hk,⟨L,o,hf,hn,ho,hd⟩,hr⟩:=hl;let hL:L∈X.fs:=hs L (by unfold frs;rw[Uu,hf];show aZ);let⟨sl,e⟩:=I.base.slot L o ho (I.ok.frf L hL) hL λz=>I.ok.Y5 L z hL;show⟨hk,⟨L,_,hf,hn,e,hd⟩,ih (λb hb=>hs b (by unfold frs;rw[Uu,hf];show bH _ hb)) hr⟩
 show all X.outer (λ_ hb=>hb) I.ok.zY
def bF.stack(I:bF X Y σ H s):s.heap.FunFrames X.base X.stack:=by
 rcases I.ok.stk with e|⟨e,hf⟩
 ·rw[e];show I.zY
 ·rw[e];let⟨m,hn,_⟩:=I.loc;show .cons (by rw[I.ok.kind];decide) hf hn ?_ I.zY;show Heap.get?_none_of_le (cC I.ok.bsz I.ok.above)
def bF.Dc(I:bF X Y σ H s):∀b∈frs X.stack,b∈X.env.locals::X.fs:=λb hb=>by
 rcases I.ok.stk with e|⟨e,hf⟩
 ·rw[e]at hb;show bH _ hb
 ·rw[e]at hb;unfold frs at hb;rw[Uu,hf]at hb;show hb
def bF.Xu(I:bF X Y σ H s):∀b∈frs X.stack,H b=none:=λb hb=>by
 rcases bT.mp (I.Dc b hb)with e|hb
 ·rw[e];show I.free
 ·let⟨_,o,ho,_⟩:=I.ok.zY.mem hb;show I.base.free b o ho (I.ok.frf b hb) λz=>I.ok.Y5 b z hb
def bF.step{g':Array GenState}{d':Drawn}(I:bF X Y σ H s)
  (hch:∀b∈ch,(b∈X.ex\/X.s₀.heap.objs.size<=b)/\b≠X.env.locals/\(∀x c,X.env.cells.lookup x=some c->c≠b)/\∀p∈X.pn++Y,p.1≠b)
  (keep:∀b o,b≠X.env.locals->b∉X.fs->b∉ch->s^^^b=some o->H b=none->h'.get? b=some o)
  (slot:∀b o,b≠X.env.locals->b∈X.fs->b∉ch->s^^^b=some o->H b=none->∃sl,h'.get? b=some { o with slots:=sl}) (free:∀b o,b∉ch->s^^^b=some o->H b=none->H' b=none)
  (there:∀b o,b∉ch->s^^^b=some o->∃o',h'.get? b=some o')
  (tups:∀b xs,H b= ~~~xs->H' b= ~~~xs) (Hu:∀b o u,H b=some (.iw o u)->H' b=some (.iw o u)) (Oh:∀b ps,H b=some (.tbl ps)->∃more,H' b=some (.tbl (ps++more)))
  (ns:∀m,s.heap.Ns X.env.locals m->h'.Ns X.env.locals m) (hok:xW X.prog X.w H' h') (hg:AllBare g') :
  bF X Y σ H' { s with heap:=h',gens:=g',drawn:=d',toks:=t'}:=by
 let neL:∀b o,X.s₀.heap.get? b=some o->b≠X.env.locals:=λb o e=>b7 (je (bw e) I.ok.above);let neC:∀b o,X.s₀.heap.get? b=some o->b∉X.ex->b∉ch:=λb o e hx hb=>by
  rcases(hch b hb).1 with z|z
  ·show hx z
  ·show absurd (je (bw e) z) (zc _)
 let cellK:∀x c,X.env.cells.lookup x=some c->∀v,s.heap.IsCell c v->h'.IsCell c v:=λx c e v ⟨o,ho,hd⟩=>by
  let nch:c∉ch:=λz=>(hch c z).2.2.1 x c e rfl;by_cases hc:c∈X.fs
  ·let⟨sl,q⟩:=slot c o (I.cne x c e) hc nch ho (I.rT x c e);show⟨_,q,hd⟩
  ·show⟨o,keep c o (I.cne x c e) hc nch ho (I.rT x c e),hd⟩
 show⟨I.ok,I.os,hg,⟨λb o e n hb hx=>?_,λb o e n hb hx=>?_,λb o e n hx=>?_,λb o e hx=>?_,λb xs e=>tups b xs (I.base.tups b xs e),λb o xs e=>Hu b o xs (I.base.Hu b o xs e),λb ps e=>?_⟩,?_,λx c e=>?_,?_,λx c e=>?_,λp hp=>?_,hok,I.len⟩
 ·show keep b o (neL b o e) hb (neC b o e hx) (I.base.keep b o e n hb hx) (I.base.free b o e n hx)
 ·let⟨sl,e1⟩:=I.base.slot b o e n hb hx;let⟨sl',e2⟩:=slot b _ (neL b o e) hb (neC b o e hx) e1 (I.base.free b o e n hx);show⟨sl',e2⟩
 ·let⟨o',e1⟩:=I.base.there b o e hx;show free b o' (neC b o e hx) e1 (I.base.free b o e n hx)
 ·let⟨o',e1⟩:=I.base.there b o e hx;show there b o' (neC b o e hx) e1
 ·let⟨m1,e1⟩:=I.base.Oh b ps e;let⟨m2,e2⟩:=Oh b _ e1;show⟨m1++m2,by rw[e2,Array.append_assoc]⟩
 ·let⟨m,hn,hl⟩:=I.loc;show⟨m,ns m hn,λi x v e1 e2 e3=>?_⟩;let⟨u,r,l⟩:=hl i x v e1 e2 e3;show⟨u,r,?_⟩;rcases l with l|⟨k,c,e,z⟩
  ·show .inl l
  ·show .inr ⟨k,c,e,cellK x c e _ z⟩
 ·let⟨v,z⟩:=I.cell x c e;show⟨v,cellK x c e v z⟩
 ·let⟨m,⟨o,_,_,ho,_⟩,_⟩:=I.loc;show free _ o (λz=>(hch _ z).2.1 Z) ho I.free
 ·let⟨v,o,ho,hd⟩:=I.cell x c e;show free c o (λz=>(hch c z).2.2.1 x c e Z) ho (I.rT x c e)
 ·let⟨e,n,ne,nf,d⟩:=I.pin p hp;let nch:p.1∉ch:=λz=>(hch p.1 z).2.2.2 p hp rfl;show⟨keep p.1 p.2 ne nf nch e n,free p.1 p.2 nch e n,ne,nf,d⟩
def bF.un(I:bF X Y σ H s)(u:Un X.fs [] H H' s.heap h')(hok:xW X.prog X.w H' h'):bF X Y σ H' { s with heap:=h',toks:=t'}:=by
 let⟨m,⟨o,es,ep,ho,r⟩,_⟩:=id I.loc;let⟨sl,hL⟩:=u.any ho I.free (by simp);show I.step (g':=s.gens) (d':=s.drawn) (ch:=[]) (λ_ z=>nomatch z) (λb o _ hb _ e n=>u.keep b o e n hb (by simp)) (λb o _ hb _ e n=>u.slot b o e n hb (by simp)) (λb o _ e n=>u.free b o e n (by simp)) (λb o _ e=>u.there b o e (by simp)) u.tups u.Hu u.Oh (λm' hm=>by
  let⟨o',es',ep',ho',r'⟩:=hm;rw[ho]at ho';cases ho';show⟨_,es',ep',hL,r'⟩) hok I.bare
def bF.call{g':Array GenState}{d':Drawn}(I:bF X Y σ H s)(u:Un (frs X.stack) ch H H' s.heap h')(hok:xW X.prog X.w H' h')(hg:AllBare g')
  (hch:∀b∈ch,(b∈X.ex\/X.s₀.heap.objs.size<=b)/\b≠X.env.locals/\(∀x c,X.env.cells.lookup x=some c->c≠b)/\∀p∈X.pn++Y,p.1≠b) :
  bF X Y σ H' { s with heap:=h',gens:=g',drawn:=d',toks:=t'}:=by
 let⟨m,⟨o,es,ep,ho,r⟩,_⟩:=id I.loc;let⟨sl,hL⟩:=u.any ho I.free λz=>(hch _ z).2.1 rfl;show I.step (ch:=ch) hch (λb o hL hb hc e n=>u.keep b o e n (λz=>(bT.mp (I.Dc b z)).elim hL hb) hc) (λb o _ _ hc e n=>u.any e n hc) (λb o hc e n=>u.free b o e n hc) (λb o hc e=>u.there b o e hc) u.tups u.Hu u.Oh (λm' hm=>by
  let⟨o',es',ep',ho',r'⟩:=hm;rw[ho]at ho';cases ho';show⟨_,es',ep',hL,r'⟩) hok hg
def bF.turned{it:Addr}(I:bF X Y σ H s)(k:∀b o,b≠it->s^^^b=some o->h'.get? b=some o)(hn:H it=none)(hL:it≠X.env.locals)
  (h1:it∈X.ex\/X.s₀.heap.objs.size<=it) (h2:∀x c,X.env.cells.lookup x=some c->c≠it) (h3:∀p∈X.pn++Y,p.1≠it):bF X Y σ H { s with heap:=h',toks:=t'}:=by
 let nit:∀b u,H b=some u->b≠it:=λb u e z=>by rw[z,hn]at e;cases e
 show I.step (g':=s.gens) (d':=s.drawn) (ch:=[it]) (λb hb=>?_) (λb o _ _ hc e _=>k b o (λz=>hc (by simp[z])) e) (λb o _ _ hc e _=>⟨o.slots,k b o (λz=>hc (by simp[z])) e⟩) (λ_ _ _ _ n=>n)
  (λb o hc e=>⟨o,k b o (λz=>hc (by simp[z])) e⟩) (λ_ _ e=>e) (λ_ _ _ e=>e) (λb ps e=>⟨#[],by rw[e];simp⟩) (λm hm=>?_) (λb u e=>?_) I.bare
 ·let e:b=it:=by simpa using hb
  subst e;show⟨h1,hL,h2,h3⟩
 ·let⟨o,es,ep,ho,r⟩:=hm;show⟨o,es,ep,k _ o (Ne.symm hL) ho,r⟩
 ·show(I.hok b u e).stay (λc v hc q=>k c v ?_ q) (λ_ q=>q) λ_ _ q=>q;rcases hc with z|z
  ·rw[z];show nit b u e
  ·show nit c _ z
def bF.tok(I:bF X Y σ H s)(t:Nat):bF X Y σ H { s with toks:=t}:=I.un (h':=s.heap) (t':=t) Un.refl I.hok
def bF.kept{t':Nat}(I:bF X Y σ H s)(k:∀b u,s^^^b=some u->h'.get? b=some u):bF X Y σ H { s with heap:=h',toks:=t'}:=I.un (Un.kept k) (I.hok.kept k)
def bF.laid{a:Addr}{o:HO}{t':Nat}(I:bF X Y σ H s)(k:∀b u,s^^^b=some u->h'.get? b=some u)(hp:s⁻¹<=a)(new:fB X.prog X.w (cX H a o) h' a o) :
  bF X Y σ (cX H a o) { s with heap:=h',toks:=t'}:=I.un (Un.laid k hp (I.hok.fresh hp)) (I.hok.laid k hp new)
def bF.write{x e:Addr}{o:HO}{t':Nat}(I:bF X Y σ H s)(mu:Mut (H x))(he:e=x\/H e=some (.own x))(k:∀b u,b≠e->s^^^b=some u->h'.get? b=some u)(heo:∃u,h'.get? e=some u)
  (new:fB X.prog X.w (cX H x o) h' x o):bF X Y σ (cX H x o) { s with heap:=h',toks:=t'}:=I.un (Un.write mu he k heo) (I.hok.write mu he k heo new)
def bF.Gb{a2H:aE}(I:bF X Y σ H s)(h:∀p∈a2H,s^^^p.1=some p.2/\H p.1=none/\p.1≠X.env.locals/\p.1∉X.fs/\∀v,p.2.data≠.cell v):bF X a2H σ H s :=
 ⟨I.ok,I.os,I.bare,I.base,I.loc,I.cell,I.free,I.rT,λp hp=>(cM.mp hp).elim (λz=>I.pin p (qz _ z)) (h p),I.hok,I.len⟩
def Qt(hN:N.Nodup){i j:Nat}{x:Str}(a:N[i]?=some x)(b:N[j]?=some x):i=j:=by
 let⟨h1,e1⟩:=dY.mp a;let⟨h2,e2⟩:=dY.mp b;show(List.getElem_inj hN).mp (e1.trans e2.symm)
def Kh{E:∅}{i:Nat}{x:Str}{v:V}{u:Value}{Q:Unit->Shared->Prop}(I:bF X Y σ H s)(hN:X.N.Nodup)(hi:X.N[i]?=some x)(hx:Loc X.env.scope x)(r:cZ v u)
  (h:∀s',bF X Y (σ.set i (some v)) H s'->(∃a,Heap.SameBut a s.heap s'.heap/\(a=X.env.locals\/X.env.cells.lookup x=some a))->Q ⟨⟩ s') (hf:autoParam (X.fn x=true\/X.env.scope.names.lookup x=some .local) Q2_._auto_1):wpAny Z98 A (storeName X.env x u) Q E s:=by
 let⟨m,hn,hl⟩:=id I.loc;let hcls:(X.env.scope.kind==.class||(X.env.scope.kind==.module&&X.env.locals != X.env.globals))=false:=by rw[I.ok.kind];rfl
 let a5G:i<σ.length:=by rw[I.len];show(dY.mp hi).1
 let cne:=I.cne;let tracked:∀{a:Addr}{h':Heap},(∃o,s^^^a=some o/\H a=none)->Heap.SameBut a s.heap h'->xW X.prog X.w H h':=λ{a h'} ha hs b ob e=>by
  let⟨_,_,hfree⟩:=ha;show(I.hok b ob e).stay (λc w' hc q=>(hs.2 c ?_).trans q) (λ_ q=>q) λ_ _ q=>q;rintro rfl;rcases hc with rfl|hc
  ·rw[hfree]at e;cases e
  ·rw[hfree]at hc;cases hc
 rcases hx with hk|hk
 ·show wpAny_storeName_local hk hn (λh' hn' hs=>?_) hcls;let⟨oL,_,_,hoL,_⟩:=id hn;show h _ ⟨I.ok,I.os,I.bare,⟨λb o e n hb hx=>?_,λb o e n hb hx=>?_,I.base.free,λb o e hx=>?_,I.base.tups,I.base.Hu,I.base.Oh⟩,⟨_,hn',λj y v' e1 e2 e3=>?_⟩,λy c e=>?_,I.free,I.rT,λp hp=>?_,tracked ⟨oL,hoL,I.free⟩ hs,by simpa using I.len⟩ ⟨_,hs,.inl Z⟩
  ·show(hs.2 b (b7 (je (bw e) I.ok.above))).trans (I.base.keep b o e n hb hx)
  ·let⟨sl,e1⟩:=I.base.slot b o e n hb hx;show⟨sl,(hs.2 b (b7 (je (bw e) I.ok.above))).trans e1⟩
  ·let⟨o',e1⟩:=I.base.there b o e hx;show⟨o',(hs.2 b (b7 (je (bw e) I.ok.above))).trans e1⟩
  ·by_cases hj:j=i
   ·subst hj;rw[hi]at e1;cases e1;rw[List.getElem?_set_self a5G]at e2;cases e2;show⟨u,r,.inl ⟨hk,by simp⟩⟩
   ·rw[List.getElem?_set_ne (Ne.symm hj)]at e2;let⟨u',r',q⟩:=hl j y v' e1 e2 e3;show⟨u',r',?_⟩;rcases q with⟨k,e⟩|⟨k,c,e,z⟩
    ·show .inl ⟨k,?_⟩;let:y≠x:=λe=>hj (Qt hN e1 (e▸hi));simp[this,e]
    ·show .inr ⟨k,c,e,z.sameBut hs (cne y c e)⟩
  ·let⟨w',z⟩:=I.cell y c e;show⟨w',z.sameBut hs (cne y c e)⟩
  ·let⟨e,n,ne,nf,d⟩:=I.pin p hp;show⟨(hs.2 p.1 ne).trans e,n,ne,nf,d⟩
 ·let hfn:X.fn x=true:=by
   rcases hf with z|z
   ·show z
   ·rw[z]at hk;cases hk
  let⟨c,hc⟩:=I.ok.has x (.inl hk);let⟨w',z⟩:=I.cell x c hc;show wpAny_storeName_cell I.ok.kind hk hc z (λh' hc' hs=>?_);let⟨oc,hoc,a7W⟩:=id z;show h (s•h') ⟨I.ok,I.os,I.bare,⟨λb o e n hb hx=>?_,λb o e n hb hx=>?_,I.base.free,λb o e hx=>?_,I.base.tups,I.base.Hu,I.base.Oh⟩,⟨m,hn.sameBut hs (Ne.symm (cne x c hc)),λj y v' e1 e2 e3=>?_⟩,λy c' e=>?_,I.free,I.rT,λp hp=>?_,tracked ⟨oc,hoc,I.rT x c hc⟩ hs,by simpa using I.len⟩ ⟨c,hs,.inr hc⟩
  ·show(hs.2 b (b7 (je (bw e) (I.ok.cab x c hfn hc)))).trans (I.base.keep b o e n hb hx)
  ·let⟨sl,e1⟩:=I.base.slot b o e n hb hx;show⟨sl,(hs.2 b (b7 (je (bw e) (I.ok.cab x c hfn hc)))).trans e1⟩
  ·let⟨o',e1⟩:=I.base.there b o e hx;show⟨o',(hs.2 b (b7 (je (bw e) (I.ok.cab x c hfn hc)))).trans e1⟩
  ·by_cases hj:j=i
   ·subst hj;rw[hi]at e1;cases e1;rw[List.getElem?_set_self a5G]at e2;cases e2;show⟨u,r,.inr ⟨.inl hk,c,hc,hc'⟩⟩
   ·rw[List.getElem?_set_ne (Ne.symm hj)]at e2;let⟨u',r',q⟩:=hl j y v' e1 e2 e3;show⟨u',r',?_⟩;rcases q with q|⟨k,c',e,z'⟩
    ·show .inl q
    ·show .inr ⟨k,c',e,z'.sameBut hs ?_⟩;rintro rfl;show hj (Qt hN e1 (I.ok.inj _ _ _ e hc▸hi))
  ·by_cases hcc:c'=c
   ·subst hcc;show⟨_,hc'⟩
   ·let⟨w2,z2⟩:=I.cell y c' e;show⟨w2,z2.sameBut hs hcc⟩
  ·let⟨e,n,ne,nf,d⟩:=I.pin p hp;show⟨(hs.2 p.1 ?_).trans e,n,ne,nf,d⟩;intro q;rw[q,hoc]at e;let q':oc=p.2:=dO e;show d w' (by rw[<-q'];show a7W)
def Qu{E:∅}{i:Nat}{x:Str}{v:V}{u:Value}{Q:Unit->Shared->Prop}(I:bF X Y σ H s)(hN:X.N.Nodup)(hi:X.N[i]?=some x)(hx:Loc X.env.scope x)(r:cZ v u)
  (h:∀s',bF X Y (σ.set i (some v)) H s'->Q ⟨⟩ s') (hf:autoParam (X.fn x=true\/X.env.scope.names.lookup x=some .local) Q2_._auto_1):wpAny Z98 A (storeName X.env x u) Q E s :=
 Kh I hN hi hx r (λs' I' _=>h s' I') hf
def bF.call'{s':Shared}(I:bF X Y σ H s)(ho:s'.os=s.os)(u:Un (frs X.stack) ch H H' s.heap s'.heap)(hok:xW X.prog X.w H' s'.heap)(hg:AllBare s'.gens)
  (hch:∀b∈ch,(b∈X.ex\/X.s₀.heap.objs.size<=b)/\b≠X.env.locals/\(∀x c,X.env.cells.lookup x=some c->c≠b)/\∀p∈X.pn++Y,p.1≠b):bF X Y σ H' s':=by
 let⟨h',g',d',t',o'⟩:=s';let e:o'=s.os:=ho;subst e;show I.call (g':=g') (t':=t') (d':=d') u hok hg hch
end
abbrev XK:=Value->Option Addr->Hp->Prop
abbrev St:=List (Option V)
abbrev VK:=V->Hp->Prop
abbrev TE:=St->Hp->VK->Prop
variable{ta te:TE}
abbrev TT:=St->Hp->(Bool->Hp->Prop)->Prop
abbrev TA:=St->Hp->(af->Hp->Prop)->Prop
structure Ends where
 nx:St->Hp->Prop
 rt:VK
 bk:St->Hp->Prop:=λ_ _=>False
 ct:St->Hp->Prop:=λ_ _=>False
variable{D:Ends}
abbrev TS:=Ends->St->Hp->Prop
variable{tb:TS}
inductive EP(X:Cx)(Y:aE)(σ:St)(Q:VK)(u:Value)(s':Shared):Prop
 |mk (v H':_) (_:bF X Y σ H' s') (_:cZ v u) (_:Q v H')
def TP(X:Cx)(Y:aE)(σ:St)(Q:Bool->Hp->Prop)(b:Bool)(s':Shared):Prop:=∃H',bF X Y σ H' s'/\Q b H'
inductive AP(X:Cx)(Y:aE)(σ:St)(Q:af->Hp->Prop)(us:aw)(s':Shared):Prop
 |mk (vs H':_) (_:bF X Y σ H' s') (_:cN vs us) (_:Q vs H')
def SP(X:Cx)(Y:aE)(D:Ends)(f:Flow)(s':Shared):Prop :=
 match f with
 |.next=>∃σ' H',bF X Y σ' H' s'/\D.nx σ' H'
 |.brk=>∃σ' H',bF X Y σ' H' s'/\D.bk σ' H'
 |.cont=>∃σ' H',bF X Y σ' H' s'/\D.ct σ' H'
 |.ret u=>∃v σ' H',bF X Y σ' H' s'/\cZ v u/\D.rt v H'
def PE(X:Cx)(e:Expr)(t:TE):Prop :=
 ∀(Y:aE) (s:Shared) (σ:St) (H:Hp) (Q:VK),bF X Y σ H s->t σ H Q->wpAny (model X.prog X.w) X.A (eval e X.env) (EP X Y σ Q) X.xe s
def PT(X:Cx)(e:Expr)(t:TT):Prop :=
 ∀(Y:aE) (s:Shared) (σ:St) (H:Hp) (Q:Bool->Hp->Prop),bF X Y σ H s->t σ H Q->wpAny (model X.prog X.w) X.A (isTrue e X.env (eval e X.env)) (TP X Y σ Q) X.xe s
def PW(X:Cx)(e:Expr)(t:TT):Prop :=
 ∀(whole:Sem Value) (Y:aE) (s:Shared) (σ:St) (H:Hp) (Q:Bool->Hp->Prop),bF X Y σ H s->t σ H Q->wpAny (model X.prog X.w) X.A (isTrue e X.env whole) (TP X Y σ Q) X.xe s
def PW.pt{X:Cx}{t:TT}(h:PW X e t):PT X e t:=h _
def PA(X:Cx)(es:ba)(t:TA):Prop :=
 ∀(pos:Pos) (Y:aE) (s:Shared) (σ:St) (H:Hp) (Q:af->Hp->Prop),bF X Y σ H s->t σ H Q->wpAny (model X.prog X.w) X.A (spliced (backTo pos (starEach es X.env))) (AP X Y σ Q) X.xe s
def PS(X:Cx)(st:Stmt)(t:TS):Prop :=
 ∀(Y:aE) (s:Shared) (σ:St) (H:Hp) (D:Ends),bF X Y σ H s->t D σ H->wpAny (model X.prog X.w) X.A (exec st X.env) (SP X Y D) X.xe s
def Qv(X:Cx)(st:List Stmt)(t:TS):Prop :=
 ∀(Y:aE) (s:Shared) (σ:St) (H:Hp) (D:Ends),bF X Y σ H s->t D σ H->wpAny (model X.prog X.w) X.A (execs st X.env) (SP X Y D) X.xe s
def jr{α:Type}{t:Sem α}{Q Q':α->Shared->Prop}{E:∅}{s:Shared}(h:wpAny Z98 A t Q E s)(hQ:∀a s,Q a s->Q' a s):wpAny Z98 A t Q' E s:=iJ h hQ λ_ _ x=>x
section
variable{X:Cx}
inductive EA{α:Type}(P Q:α->Prop):Prop
 |mk (v:α) (p:P v) (q:Q v)
inductive EC{α:Type}(P R Q:α->Prop):Prop
 |mk (v:α) (p:P v) (r:R v) (q:Q v)
inductive Vq(i:Nat)(σ:St)(H:Hp)(Q:VK):Prop
 |mk (v:_) (_:σ[i]?=some (some v)) (_:Q v H)
noncomputable def tC(v:V):TE:=λ_ H Q=>Q v H
def a3r{i:Nat}{x:Str}(hN:X.N[i]?=some x)(hv:Vis X.env.scope x)(hd:@&((x==("__debug__" : Str))=false))(hcd:@&((x==("__classdict__" : Str))=false)):PE X (.Name x pos) (Vq i):=by
 intro Y s σ H Q I h;let⟨v,e,h⟩:=h;let⟨m,hn,hl⟩:=I.loc;let⟨u,r,l⟩:=hl i x v hN e hv;let fin:EP X Y σ Q u s:=⟨v,H,I,r,h⟩;rcases l with⟨hk,hm⟩|⟨hk,c,hc,hcell⟩
 ·show wpAny_Name (wpAny_loadName_local I.ok.kind hk hn hm fin) hd
 ·rcases hk with hk|hk
  ·show wpAny_Name (wpAny_loadName_cell I.ok.kind hk hc hcell fin) hd
  ·show wpAny_Name (wpAny_loadName_free I.ok.kind hk hc hcell fin hcd) hd
def aq{i j pos}:PE X (.Constant (.int i) j pos) (tC (.int i)):=λ_ _ _ H _ I h=>wpAny_Constant_int ⟨.int i,H,I.tok _,⟨_,Z⟩,h⟩
def wg{b j pos}:PE X (.Constant (.bool b) j pos) (tC (.bl b)):=λ_ _ _ H _ I h=>Constant_bool ⟨.bl b,H,I,Z,h⟩
def rU{j pos}:PE X (.Constant .none j pos) (tC .non):=λ_ _ _ H _ I h=>Constant_none ⟨.non,H,I,Z,h⟩
def fY{x j pos}:PE X (.Constant (.str x) j pos) (tC (.str x)):=λ_ _ _ H _ I h=>Calls.Constant_str ⟨.str x,H,I.tok _,⟨_,Z⟩,h⟩
def Gl(X:Cx)(x:Str):Prop:=X.env.kindOf x=some .globalImplicit
def zZ{E:∅}{Y:aE}{s:Shared}{σ:St}{H:Hp}{x:Str}{u:Value}{Q:∅}(I:bF X Y σ H s)(hg:Gl X x)(hm:X.mg x=some u)(h:Q u s)
  (hd:@&((x==("__debug__" : Str))=false)):wpAny (model X.prog X.w) X.A (eval (.Name x pos) X.env) Q E s :=
 õ I.ok.kind hg (Calls.loadGlobal_global (by rw[I.ok.glob];show I.mod.glob.keeps I.bk) hm h) hd
def uo{E:∅}{Y:aE}{s:Shared}{σ:St}{H:Hp}{x:Str}{u:Value}{Q:∅}(I:bF X Y σ H s)(hg:Gl X x)(hm:X.mg x=none)(hv:bootBuiltins x=some u)(h:Q u s)
  (hn:@&(x≠ "__name__")) (hd:@&((x==("__debug__" : Str))=false)):wpAny (model X.prog X.w) X.A (eval (.Name x pos) X.env) Q E s:=by
 let⟨mb,h1,h2⟩:=I.mod.blt;show õ I.ok.kind hg (Calls.loadGlobal_builtin (by rw[I.ok.glob];show I.mod.glob.keeps I.bk) hm (by rw[I.ok.blt];show h1.keeps I.bk) ((h2 x hn).trans hv) h) hd
def Xv{x:Str}{v:V}{u:Value}(hg:Gl X x)(hm:X.mg x=some u)(r:cZ v u)(hd:@&((x==("__debug__" : Str))=false)):PE X (.Name x pos) (tC v) :=
 λ_ _ _ H _ I h=>zZ I hg hm ⟨v,H,I,r,h⟩ hd
def tD{x:Str}{v:V}{u:Value}(hg:Gl X x)(hm:X.mg x=none)(hv:bootBuiltins x=some u)(r:cZ v u)(hn:@&(x≠ "__name__"))(hd:@&((x==("__debug__" : Str))=false)):PE X (.Name x pos) (tC v) :=
 λ_ _ _ H _ I h=>uo I hg hm hv ⟨v,H,I,r,h⟩ hn hd
variable{a b:Expr}{tb:TE}
variable{tA tB':TT}{rest:ba}
noncomputable def a0t(t u:TT):TT:=λσ H Q=>t σ H λc H1=>if c=true then u σ H1 Q else Q false H1
noncomputable def tOr(t u:TT):TT:=λσ H Q=>t σ H λc H1=>if c=true then Q true H1 else u σ H1 Q
noncomputable def a7X(t:TT):TT:=λσ H Q=>t σ H λc H1=>Q (!c) H1
def mJ(ha:PT X a tA):PW X (.BoolOp .And [a] pos) tA:=by
 intro wh Y s σ H Q I h;show isTrue_and (jr (ha Y s σ H Q I h) λc s1 e=>?_);cases c with
 |true=>show isTrue_and_nil e
 |false=>show e
def zq(ha:PT X a tA):PW X (.BoolOp .Or [a] pos) tA:=by
 intro wh Y s σ H Q I h;show isTrue_or (jr (ha Y s σ H Q I h) λc s1 e=>?_);cases c with
 |false=>show isTrue_or_nil e
 |true=>show e
def lX(ha:PT X a tA)(hb:PW X (.BoolOp .And (b::rest) pos) tB'):PW X (.BoolOp .And (a::b::rest) pos) (a0t tA tB'):=by
 intro wh Y s σ H Q I h;show isTrue_and (jr (ha Y s σ H _ I h) λc s1 ⟨H1,I1,q1⟩=>?_);cases c with
 |true=>show hb wh Y s1 σ H1 Q I1 q1
 |false=>show⟨H1,I1,q1⟩
def Aa(ha:PT X a tA)(hb:PW X (.BoolOp .Or (b::rest) pos) tB'):PW X (.BoolOp .Or (a::b::rest) pos) (tOr tA tB'):=by
 intro wh Y s σ H Q I h;show isTrue_or (jr (ha Y s σ H _ I h) λc s1 ⟨H1,I1,q1⟩=>?_);cases c with
 |true=>show⟨H1,I1,q1⟩
 |false=>show hb wh Y s1 σ H1 Q I1 q1
def mR(ha:PT X a tA):PT X (.UnaryOp .Not a pos) (a7X tA):=by
 intro Y s σ H Q I h;show isTrue_not (ha Y s σ H (λc H1=>Q (!c) H1) I h)
noncomputable def a5H(ta tb:TE):TE:=λσ H Q=>ta σ H λx H1=>EA (λc=>x=.bl c) λc=>if c=true then tb σ H1 Q else Q (.bl false) H1
noncomputable def a5I(ta:TE):TE:=λσ H Q=>ta σ H λx H1=>EA (λc=>x=.bl c) λc=>Q (.bl (!c)) H1
def Ă{op}{t:TE}(h:PE X a t):PE X (.BoolOp op [a] pos) t:=λY s σ H Q I hw=>BoolOp_one (h Y s σ H Q I hw)
def ă(ha:PE X a ta)(hb:PE X (.BoolOp .And (b::rest) pos) tb):PE X (.BoolOp .And (a::b::rest) pos) (a5H ta tb):=by
 intro Y s σ H Q I h;show BoolOp_and (jr (ha Y s σ H _ I h) λv s1 ⟨x,H1,I1,r1,q1⟩=>?_);let⟨c,rfl,q1⟩:=q1;cases r1;show CP ?_;cases c with
 |true=>show hb Y s1 σ H1 Q I1 q1
 |false=>show⟨.bl false,H1,I1,Z,q1⟩
def a3s(ha:PE X a ta):PE X (.UnaryOp .Not a pos) (a5I ta):=by
 intro Y s σ H Q I h;show UnaryOp_ (jr (ha Y s σ H _ I h) λv s1 ⟨x,H1,I1,r1,q1⟩=>?_);let⟨c,rfl,q1⟩:=q1;cases r1;show not_of (CP ⟨.bl (!c),H1,I1,Z,q1⟩)
noncomputable def tIf(t:TT)(ta tb:TE):TE:=λσ H Q=>t σ H λc H1=>if c=true then ta σ H1 Q else tb σ H1 Q
def qe(hc:PT X c tA)(ha:PE X a ta)(hb:PE X b tb):PE X (.IfExp c a b pos) (tIf tA ta tb):=by
 intro Y s σ H Q I h;show wpAny_IfExp (jr (hc Y s σ H _ I h) λd s1 ⟨H1,I1,q1⟩=>?_);cases d with
 |true=>show ha Y s1 σ H1 Q I1 q1
 |false=>show hb Y s1 σ H1 Q I1 q1
end
def bB(K:aH)(H:Hp)(a:Addr)(xs:af):Prop :=
 Rd H a (.lst xs)\/
  ∃(o:Obj) (bY:Array Value) (n:Nat),K.lookup a=some o/\o.cls=.type "list" /\o.dict=none/\o.data=.seq bY n/\bY.size<=sizeLine/\cN xs bY.toList
def cO(K:aH)(H:Hp)(a:Addr)(xs:af):Prop :=
 Rd H a (.tup xs)\/
  ∃(o:Obj) (bY:Array Value) (n:Nat),K.lookup a=some o/\o.cls=.type "tuple" /\o.data=.seq bY n/\bY.size<=sizeLine/\cN xs bY.toList
noncomputable def a7Y:Value->Option V
 |.none=>some .non
 |.bool b=>some (.bl b)
 |.int i _=>some (.int i)
 |.str x _=>some (.str x)
 |.bytes b _=>some (.Xq b)
 |.float b _=>some (.flt b)
 |.ref a=>⇑a
 |.type n=>some (.ty n)
 |_=>none
def cZ.abs{x:V}{u:Value}(r:cZ x u):a7Y u=some x:=by
 cases x with
 |non=>cases r;rfl
 |bl _=>cases r;rfl
 |int _=>let⟨t,rfl⟩:=r;rfl
 |str _=>let⟨t,rfl⟩:=r;rfl
 |Xq _=>let⟨t,rfl⟩:=r;rfl
 |flt _=>let⟨t,rfl⟩:=r;rfl
 |ref _=>cases r;rfl
 |ty _=>cases r;rfl
def cZ.inj{x y:V}{u:Value}(r:cZ x u)(q:cZ y u):x=y:=dO (r.abs.symm.trans q.abs)
def cN.inj{xs ys:af}{us:aw}(h:cN xs us)(g:cN ys us):xs=ys:=by
 induction h generalizing ys with
 |nil=>cases g;rfl
 |cons r _ ih =>
  cases g with
  |cons q t=>rw[r.inj q,ih t]
section
variable{X:Cx}{Y:aE}{σ:St}{H:Hp}{s:Shared}{a:Addr}{xs ys:af}
def bB.of(h:H a=↥xs):bB K H a xs:=.inl (.inl h)
def cO.of(h:H a= ~~~xs):cO K H a xs:=.inl (.inl h)
def bF.list(I:bF X Y σ H s)(h:bB X.K H a xs):∃bY:aw,cN xs bY/\PlainL s.heap a bY.toArray/\xs.length<=sizeLine:=by
 rcases h with h|⟨o,bY,n,hk,hc,hd,hs,hz,r⟩
 ·let⟨z,bY,n,r,e⟩:=h.ok I.hok;show⟨bY,r,⟨_,n,e,Z,Z,Z⟩,z⟩
 ·show⟨bY.toList,r,⟨o,n,I.Cq a o hk,hc,hd,by simpa using hs⟩,?_⟩;let e:=r.length;simp only[Array.length_toList]at e;omega
def bF.tuple(I:bF X Y σ H s)(h:cO X.K H a xs):∃bY:aw,cN xs bY/\IsTup s.heap a bY.toArray/\xs.length<=sizeLine:=by
 rcases h with h|⟨o,bY,n,hk,hc,hs,hz,r⟩
 ·let⟨z,bY,r,p⟩:=h.ok I.hok;show⟨bY,r,p,z⟩
 ·show⟨bY.toList,r,⟨o,I.Cq a o hk,hc,n,by simpa using hs⟩,?_⟩;let e:=r.length;simp only[Array.length_toList]at e;omega
def bF.wY(I:bF X Y σ H s)(h:bB X.K H a xs)(h':bB X.K H a ys):xs=ys:=by
 let⟨bY,r,⟨o,n,e,_,_,d⟩,_⟩:=I.list h;let⟨its',r',⟨o',n',e',_,_,d'⟩,_⟩:=I.list h';rw[e]at e';cases e';rw[d]at d';injection d' with d1 _
 let:bY=its':=by simpa using congrArg Array.toList d1
 subst this;show r.inj r'
def bF.Kl(I:bF X Y σ H s)(h:cO X.K H a xs)(h':cO X.K H a ys):xs=ys:=by
 let⟨bY,r,⟨o,e,_,n,d⟩,_⟩:=I.tuple h;let⟨its',r',⟨o',e',_,n',d'⟩,_⟩:=I.tuple h';rw[e]at e';cases e';rw[d]at d';injection d' with d1 _
 let:bY=its':=by simpa using congrArg Array.toList d1
 subst this;show r.inj r'
end
abbrev Cx.wish(X:Cx)(E:∅):Cx:={ X with xe:=E}
abbrev Cx.nox(X:Cx):Cx:=X.wish λ_ _=>False
def Cx.Ok.wish{X:Cx}(ok:X.Ok)(E:∅):(X.wish E).Ok :=
 ⟨ok.mod,ok.kind,ok.glob,ok.blt,ok.above,ok.inj,ok.has,ok.cab,ok.hd,ok.frames,ok.stk,ok.exf,ok.bs,ok.bsz,ok.Vp,ok.Y5,ok.zY,ok.frf⟩
def Cx.Ok.rW{X:Cx}{E:∅}(ok:(X.wish E).Ok):X.Ok :=
 ⟨ok.mod,ok.kind,ok.glob,ok.blt,ok.above,ok.inj,ok.has,ok.cab,ok.hd,ok.frames,ok.stk,ok.exf,ok.bs,ok.bsz,ok.Vp,ok.Y5,ok.zY,ok.frf⟩
section
variable{X:Cx}{Y:aE}{σ:St}{H:Hp}{s:Shared}{E:∅}
def bF.wish(I:bF X Y σ H s)(E:∅):bF (X.wish E) Y σ H s:=⟨I.ok.wish E,I.os,I.bare,I.base,I.loc,I.cell,I.free,I.rT,I.pin,I.hok,I.len⟩
def bF.rW(I:bF (X.wish E) Y σ H s):bF X Y σ H s:=⟨I.ok.rW,I.os,I.bare,I.base,I.loc,I.cell,I.free,I.rT,I.pin,I.hok,I.len⟩
def SP.rW{D:Ends}{f:Flow}{s':Shared}(h:SP (X.wish E) Y D f s'):SP X Y D f s':=by
 cases f with
 |next=>let⟨σ',H',I,q⟩:=h;show⟨σ',H',I.rW,q⟩
 |brk=>let⟨σ',H',I,q⟩:=h;show⟨σ',H',I.rW,q⟩
 |cont=>let⟨σ',H',I,q⟩:=h;show⟨σ',H',I.rW,q⟩
 |ret u=>let⟨v,σ',H',I,r,q⟩:=h;show⟨v,σ',H',I.rW,r,q⟩
def Qv.nox{st:List Stmt}{t:TS}(h:Qv X.nox st t):Qv X st t:=λY s σ H D I hw =>
 iJ (h Y s σ H D (I.wish _) hw) (λ_ _ q=>q.rW) λ_ _ z=>False.elim z
end
section
variable{X:Cx}{st:Stmt}{rest:List Stmt}{t u:TS}
noncomputable def Qw:TS:=λD σ H=>D.nx σ H
noncomputable def a0u(t u:TS):TS:=λD σ H=>t { D with nx:=u D} σ H
def bx:Qv X [] Qw:=λ_ _ σ H _ I h=>Nx ⟨σ,H,I,h⟩
def aB(h1:PS X st t)(h2:Qv X rest u):Qv X (st::rest) (a0u t u):=by
 intro Y s σ H D I h;show U7 (jr (h1 Y s σ H { D with nx:=u D} I h) λf s1 q=>?_);cases f with
 |next =>
  let⟨σ',H',I',q⟩:=q;show h2 Y s1 σ' H' D I' q
 |ret v=>show q
 |brk=>show q
 |cont=>show q
def aF(h1:PS X st t):Qv X [st] t:=by
 intro Y s σ H D I h;show U7 (jr (h1 Y s σ H D I h) λf s1 q=>?_);cases f with
 |next=>show Nx q
 |ret v=>show q
 |brk=>show q
 |cont=>show q
noncomputable def a3t:TS:=λD σ H=>D.bk σ H
noncomputable def a5J:TS:=λD σ H=>D.ct σ H
def Ą:PS X (.Break pos) a3t:=λ_ _ σ H _ I h=>wpAny_Break ⟨σ,H,I,h⟩
def Qx:PS X (.Continue pos) a5J:=λ_ _ σ H _ I h=>wpAny_Continue ⟨σ,H,I,h⟩
def bF.quiet{Y:aE}{σ:St}{H:Hp}{s:Shared}(I:bF X Y σ H s):interactive X.env=false:=by simp[interactive,I.ok.kind]
noncomputable def a5K(te:TE):TS:=λD σ H=>te σ H λ_ H1=>D.nx σ H1
def eY(he:PE X e te)(hs:@&(swapsWith e none pos.line X.env=pure false)):PS X (.Expr e pos) (a5K te):=by
 intro Y s σ H D I h;show wpAny_Expr_any (jr (he Y s σ H _ I h) λv s1 ⟨x,H1,I1,r1,q1⟩=>⟨σ,H1,I1,q1⟩) I.quiet hs
noncomputable def a5L(te:TE):TS:=λD σ H=>te σ H D.rt
def bI(he:PE X e te):PS X (.Return (some e) pos) (a5L te):=by
 intro Y s σ H D I h;show wpAny_Return_some (jr (he Y s σ H _ I h) λv s1 ⟨x,H1,I1,r1,q1⟩=>⟨x,σ,H1,I1,r1,q1⟩)
noncomputable def ą(c:TT)(t u:TS):TS:=λD σ H=>c σ H λb H1=>if b=true then t D σ H1 else u D σ H1
def cJ{a b:List Stmt}{tc:TT}(hc:PT X c tc)(ha:Qv X a t)(hb:Qv X b u):PS X (.If c a b pos) (ą tc t u):=by
 intro Y s σ H D I h;show wpAny_If (jr (hc Y s σ H _ I h) λd s1 ⟨H1,I1,q1⟩=>?_);cases d with
 |true=>show ha Y s1 σ H1 D I1 q1
 |false=>show hb Y s1 σ H1 D I1 q1
noncomputable def a3u:TS:=λ_ _ _=>False
def Ab:PS X st a3u:=λ_ _ _ _ _ _ h=>h.elim
end
abbrev TG:=V->St->Hp->(St->Hp->Prop)->Prop
abbrev Ć:=af->St->Hp->(St->Hp->Prop)->Prop
def PG(X:Cx)(target:Expr)(t:TG):Prop :=
 ∀(Y:aE) (s:Shared) (σ:St) (H:Hp) (v:V) (u:Value) (Q:St->Hp->Prop),bF X Y σ H s->cZ v u->t v σ H Q->
  wpAny (model X.prog X.w) X.A (assign target X.env u) (λ_ s'=>∃σ' H',bF X Y σ' H' s'/\Q σ' H') X.xe s
def PGs(X:Cx)(ts:ba)(t:Ć):Prop :=
 ∀(Y:aE) (s:Shared) (σ:St) (H:Hp) (vs:af) (us:aw) (Q:St->Hp->Prop),bF X Y σ H s->cN vs us->t vs σ H Q->
  wpAny (model X.prog X.w) X.A (assignInOrder ((assignEach ts X.env).map (·.2)) us) (λ_ s'=>∃σ' H',bF X Y σ' H' s'/\Q σ' H') X.xe s
abbrev a3v:=V->V->V->Hp->(Hp->Prop)->Prop
def a5M(X:Cx)(t:a3v):Prop :=
 ∀(Y:aE) (s:Shared) (σ:St) (H:Hp) (o i v:V) (ov iv u:Value) (Q:Hp->Prop),bF X Y σ H s->cZ o ov->cZ i iv->cZ v u->t o i v H Q->
  wpAny (model X.prog X.w) X.A (setItem ov iv u) (λ_ s'=>∃H',bF X Y σ H' s'/\Q H') X.xe s
section
variable{X:Cx}
noncomputable def yD(i:Nat):TG:=λv σ H Q=>Q (σ.set i (some v)) H
def aM(i:Nat){x:Str}(hN:X.N.Nodup)(hi:@&(X.N[i]?=some x))(hx:autoParam (Loc X.env.scope x) Q1_._auto_1)(hf:autoParam (X.fn x=true\/X.env.scope.names.lookup x=some .local) Q2_._auto_1):PG X (.Name x pos) (yD i):=by
 intro Y s σ H v u Q I r h;show wpAny_assign_Name (Qu I hN hi hx r (λs' I'=>⟨_,H,I',h⟩) hf)
noncomputable def a5N:Ć:=λvs σ H Q=>vs=[]/\Q σ H
noncomputable def ć(t:TG)(u:Ć):Ć:=λvs σ H Q=>∃v r,vs=v::r/\t v σ H λσ' H'=>u r σ' H' Q
def gW:PGs X [] a5N:=by
 intro Y s σ H vs us Q I r h;let⟨e,h⟩:=h;subst e;cases r;show assignInOrder_nil ⟨σ,H,I,h⟩
def bN{t:TG}{u:Ć}(h1:PG X e t)(h2:PGs X es u)
  (hs:@&((assignEach (e::es) X.env).map (·.2)=assign e X.env::(assignEach es X.env).map (·.2))):PGs X (e::es) (ć t u):=by
 intro Y s σ H vs us Q I r h;let⟨v,vr,e1,h⟩:=h;subst e1;cases r with
 |cons r rr =>
  rw[hs];show assignInOrder_cons (jr (h1 Y s σ H _ _ _ I r h) λ_ s1 ⟨σ1,H1,I1,q1⟩=>h2 Y s1 σ1 H1 _ _ Q I1 rr q1)
inductive a3w(K:aH)(n:Nat)(t:Ć)(v:V)(σ:St)(H:Hp)(Q:St->Hp->Prop):Prop
 |mk (a xs:_) (_:v=.ref a) (_:cO K H a xs) (_:xs.length=n) (_:t xs σ H Q)
def a3x{t:Ć}(hc:X.calm=true)(h:PGs X es t)
  (hn:@&((assignEach es X.env).length=n)) (hst:@&((assignEach es X.env).findIdx? (·.1)=none)):PG X (.Tuple es k pos) (a3w X.K n t):=by
 intro Y s σ H v u Q I r hw;let⟨a,xs,e1,hq,hl,hw⟩:=hw;subst e1;cases r;let⟨bY,rv,ht,hz⟩:=I.tuple hq;show assign_Tuple_tuple (I.ok.hd hc) ht (by simp[hn,<-hl,rv.length]) hst λh' hx=>?_;let I1:bF X Y σ H (s•h'):=I.kept (t':=s.toks) λb o e=>hx b o (b7 (bw e)) e;show h Y _ σ H xs _ Q I1 (by simpa using rv) hw
noncomputable def a7Z(to ti:TE)(t:a3v):TG:=λv σ H Q=>to σ H λo H1=>ti σ H1 λi H2=>t o i v H2 λH3=>Q σ H3
def Hv{o i:Expr}{to ti:TE}{t:a3v}(ho:PE X o to)(hi:PE X i ti)(hs:a5M X t)
  (ha:autoParam (∀v,assign (.Subscript o i pos) X.env v=(do
   let ov <-holding [v] (eval o X.env)
   let iv <-holding [v,ov] (eval i X.env)
   standAt pos
   holding [v,ov,iv] (setItem ov iv v)
   release [v,ov,iv] [])) Q0_._auto_1):PG X (.Subscript o i pos) (a7Z to ti t):=by
 intro Y s σ H v u Q I r h;rw[ha];show M (eG (jr (ho Y s σ H _ I h) λov s1 ⟨x,H1,I1,r1,q1⟩=>M (eG (jr (hi Y s1 σ H1 _ I1 q1) λiv s2 ⟨y,H2,I2,r2,q2⟩=>M (NT (M (eG (jr (hs Y s2 σ H2 x y v ov iv u _ I2 r1 r2 r q2) λ_ s3 ⟨H3,I3,q3⟩=>wpAny_release ⟨σ,H3,I3,q3⟩))))))))
noncomputable def a3y(te:TE)(g:TG):TS:=λD σ H=>te σ H λx H1=>g x σ H1 D.nx
def uq{g:TG}(he:PE X e te)(hg:PG X tg g)(hs:@&(swapsWithSole [tg] e pos.line X.env=pure false))(hw:@&(swappedStores [tg] e X.env=pure none))
  (h1:@&((assignEach [tg] X.env).map (·.2)=[assign tg X.env])):PS X (.Assign [tg] e pos) (a3y te g):=by
 intro Y s σ H D I h;show wpAny_Assign_stores (jr (he Y s σ H _ I h) λv s1 ⟨x,H1,I1,r1,q1⟩=>?_) hs hw;rw[h1];show jr (hg Y s1 σ H1 x v _ I1 r1 q1) λ_ s2 q=>q
def aV(i:Nat){x:Str}{pos':Pos}(hN:X.N.Nodup)(he:PE X e te)(hi:@&(X.N[i]?=some x))(hx:autoParam (Loc X.env.scope x) Q1_._auto_1)(hs:@&(swapsWith e (some (.Name x pos')) pos.line X.env=pure false))(hf:autoParam (X.fn x=true\/X.env.scope.names.lookup x=some .local) Q2_._auto_1) :
  PS X (.Assign [.Name x pos'] e pos) (a3y te (yD i)):=by
 intro Y s σ H D I h;show wpAny_Assign_Name (jr (he Y s σ H _ I h) λv s1 ⟨y,H1,I1,r1,q1⟩=>Qu I1 hN hi hx r1 (λs2 I2=>⟨_,H1,I2,q1⟩) hf) hs
end
section
variable{X:Cx}
noncomputable def a3z(c:TT)(tb:TS):TS:=λD σ H=>∃W:Nat->St->Hp->Prop,(∃m,W m σ H)/\∀m σ H,W m σ H->
 c σ H λb H1=>if b=true then ∃N:St->Hp->Prop,(∀σ' H',N σ' H'->∃m',m'<m/\W m' σ' H')/\tb { D with nx:=N,ct:=N,bk:=D.nx} σ H1 else D.nx σ H1
def Ĉ{tc:TT}(hp:PassesOwn (model X.prog X.w) X.A X.env X.xe)(hc:PT X c tc)(hb:Qv X body tb):PS X (.While c body [] pos) (a3z tc tb):=by
 intro Y s σ H D I h;let⟨W,⟨m0,w0⟩,turn⟩:=h;show wpAny_While (codeAny_whileLoop (λn s'=>∃σ' H',bF X Y σ' H' s'/\W n σ' H') ?_ m0 ⟨σ,H,I,w0⟩);rintro n s1 ⟨σ1,H1,I1,w1⟩;show yW hp (jr (hc Y s1 σ1 H1 _ I1 (turn n σ1 H1 w1)) λb s2 ⟨H2,I2,q2⟩=>?_);cases b with
 |true =>
  let⟨N,hN,q2⟩:=q2;rw[aD rfl];show yW hp (jr (hb Y s2 σ1 H2 _ I2 q2) λf s3 q3=>?_);cases f with
  |next =>
   let⟨σ3,H3,I3,n3⟩:=q3;let⟨m',hm,w3⟩:=hN σ3 H3 n3;show⟨m',hm,σ3,H3,I3,w3⟩
  |cont =>
   let⟨σ3,H3,I3,n3⟩:=q3;let⟨m',hm,w3⟩:=hN σ3 H3 n3;show⟨m',hm,σ3,H3,I3,w3⟩
  |brk=>show q3
  |ret v=>show q3
 |false =>
  rw[aA cL];show Nx ⟨σ1,H2,I2,q2⟩
end
structure It where
 go:Nat->Hp->Prop
 Xw:Nat->Hp->V->Hp->Prop
 stop:Nat->Hp->Prop
def Dd(X:Cx)(Y:aE)(H:Hp)(b:Addr):Prop :=
 H b=none/\b≠X.env.locals/\b∉X.fs/\(b∈X.ex\/X.s₀.heap.objs.size<=b)/\(∀x c,X.env.cells.lookup x=some c->c≠b)/\∀p∈X.pn++Y,p.1≠b
def bF.Fq{X:Cx}{Y:aE}{σ:St}{H H':Hp}{s:Shared}{b:Addr}(I:bF X Y σ H s)(hb:s⁻¹<=b)(hn:H' b=none):Dd X Y H' b:=by
 show⟨hn,iU (je I.lt hb),I.a5F hb,.inr (cC I.sz hb),λx c e z=>?_,λp hp z=>?_⟩
 ·let⟨v,q⟩:=I.cell x c e;show absurd (je q.lt (by rw[z];show hb)) (zc _)
 ·show absurd (je (bw (I.pin p hp).1) (by rw[z];show hb)) (zc _)
structure Turn(P:Program)(w:World)(K:aH)(tg:Expr)(Z97:It)(fp:aI)(it:Addr)(tn:Nat->Heap->Prop):Prop where
 mem:it∈fp
 obj:∀i h,tn i h->∀b∈fp,∃o,h.get? b=some o/\∀v,o.data≠.cell v
 keep:∀i h h',tn i h->(∀b∈fp,∀o,h.get? b=some o->h'.get? b=some o)->tn i h'
 item:∀(X:Cx),X.prog=P->X.w=w->X.K=K->X.calm=true->∀(i:Nat) (Y:aE) (s:Shared) (σ:St) (H:Hp) (E:∅),bF X Y σ H s->(∀b∈fp,Dd X Y H b)->tn i s.heap->Z97.go i H->
  wpAny (model P w) X.A (pyNext (.ref it)) (λr s1=>∃u,r=some u/\
   wpAny (model P w) X.A (letOwnedTupleGo tg (.ref it) u) (λ_ s2=>∃x H',bF X Y σ H' s2/\cZ x u/\Z97.Xw i H x H'/\tn (i+1) s2.heap/\∀b∈fp,H' b=none) E s1) E s
 done:∀(X:Cx),X.prog=P->X.w=w->X.K=K->X.calm=true->∀(i:Nat) (Y:aE) (s:Shared) (σ:St) (H:Hp) (E:∅),bF X Y σ H s->(∀b∈fp,Dd X Y H b)->tn i s.heap->Z97.stop i H->
  wpAny (model P w) X.A (pyNext (.ref it)) (λr s1=>r=none/\bF X Y σ H s1) E s
 self:∀(A:Around) (i:Nat) (s:Shared) (Q:∅) (E:∅),tn i s.heap->Q (.ref it) s->wpAny (model P w) A (pyIter (.ref it)) Q E s
abbrev TI:=St->Hp->(It->Hp->Prop)->Prop
inductive PIE(X:Cx)(Y:aE)(σ:St)(tg:Expr)(R:It->Hp->Prop)(itv:Value)(s2:Shared):Prop
 |mk (it:Addr) (fp:aI) (tn:Nat->Heap->Prop) (Z97:It) (H':Hp) (_:itv=.ref it) (_:bF X Y σ H' s2) (_:Turn X.prog X.w X.K tg Z97 fp it tn) (_:tn 0 s2.heap) (_:(∀b∈fp,Dd X Y H' b)) (_:R Z97 H')
def PI(X:Cx)(tg iter:Expr)(wi:TI):Prop :=
 ∀(Y:aE) (s:Shared) (σ:St) (H:Hp) (R:It->Hp->Prop),bF X Y σ H s->wi σ H R->
  wpAny (model X.prog X.w) X.A (eval iter X.env) (λv s1=>wpAny (model X.prog X.w) X.A (pyIter v) (PIE X Y σ tg R) X.xe s1) X.xe s
def Xx{E : Value → Shared → Prop}{s : Shared}{it : Addr}{u : Value}{o : Obj}{n : String}{vs : Array Value}{Q : Unit → Shared → Prop}(ho : s^^^it = some o)(hc : o.cls = .type n)(hd : o.data = .fields vs)
    (hn : ["enumerate", "zip", "dict_itemiterator", "dict_reverseitemiterator", "odict_iterator", "itertools.zip_longest", "itertools.pairwise"].contains n = false) (hQ : Q ⟨⟩ s) : wpAny Z98 A (letOwnedTupleGo tg (.ref it) u) Q E s := by
  unfold letOwnedTupleGo;cases tg <;> first
    | show ao hQ
    | (cases u <;> first
        | show ao hQ
        | (show M (wpAny_load ho ?_)
           rw [hc, hd];show wpAny Z98 A (if (["enumerate", "zip", "dict_itemiterator", "dict_reverseitemiterator", "odict_iterator", "itertools.zip_longest", "itertools.pairwise"].contains n && vs[0]? == some (rawInt _)) = true then _ else _) Q E s;rw [aA (by intro h; rw [hn, Bool.false_and] at h; cases h)];show ao hQ))
def â(K:aH)(a:Addr):It :=
 ⟨λi H=>∃xs x,bB K H a xs/\xs[i]?=some x,λi H x H'=>H'=H/\∀xs,bB K H a xs->xs[i]?=some x,λi H=>∃xs,bB K H a xs/\xs.length<=i⟩
def Itt(K:aH)(a:Addr):It :=
 ⟨λi H=>∃xs x,cO K H a xs/\xs[i]?=some x,λi H x H'=>H'=H/\∀xs,cO K H a xs->xs[i]?=some x,λi H=>∃xs,cO K H a xs/\xs.length<=i⟩
noncomputable def Vr(lo:Int)(n:Nat):It:=⟨λi _=>i<n,λi H x H'=>H'=H/\x=.int (lo+i),λi _=>n<=i⟩
def Y6{P:Program}{w:World}(a it:Addr):Turn P w K tg (â K a) [it] it (λi h=>h.IsListIter it a i) where
 mem:=by simp
 obj:=λi h st b hb=>by
  let e:b=it:=by simpa using hb
  subst e
  let⟨o,e,c,d⟩:=st
  show⟨o,e,λv z=>by rw[d]at z;cases z⟩
 keep:=λi h h' st k=>st.at λo e=>k it (by simp) o e
 item:=by
  intro X hP hw hK hc i Y s σ H E I hf st hg
  subst hP hw hK
  let⟨xs,x,hq,hx⟩:=hg
  let⟨bY,rv,p,hz⟩:=I.list hq
  let⟨u,hu,ru⟩:=rv.get hx
  let⟨f0,f1,f2,f3,f4,f5⟩:=hf it (by simp)
  show Ud st p.isList (x:=u) (by simpa using hu) λh' st' sb=>?_
  let I1:bF X Y σ H (s•h'):=I.turned (t':=s.toks) (λb o hb e=>(sb.2 b hb).trans e) f0 f1 f3 f4 f5
  let⟨o,e,c,d⟩:=id st'
  show⟨u,Z,Xx (s:=(s•h')) e c d () ⟨x,H,I1,ru,⟨rfl,λys hy=>by rw[I.wY hy hq];show hx⟩,st',λb hb=>(hf b hb).1⟩⟩
 done:=by
  intro X hP hw hK hc i Y s σ H E I hf st hg
  subst hP hw hK
  let⟨xs,hq,hx⟩:=hg
  let⟨bY,rv,p,hz⟩:=I.list hq
  let⟨f0,f1,f2,f3,f4,f5⟩:=hf it (by simp)
  let hl:=rv.length
  show wpAny_pyNext_list_end (I.ok.hd hc) st p.isList (by simp;omega) λh' eb=>⟨Z,I.turned (t':=s.toks) (λb o hb e=>eb b o hb e) f0 f1 f3 f4 f5⟩
 self:=λ_ _ _ _ _ st h=>wpAny_pyIter_listiter st h
def Vs{P:Program}{w:World}(a it:Addr):Turn P w K tg (Itt K a) [it] it (λi h=>h.IsTupleIter it a i) where
 mem:=by simp
 obj:=λi h st b hb=>by
  let e:b=it:=by simpa using hb
  subst e
  let⟨o,e,c,d⟩:=st
  show⟨o,e,λv z=>by rw[d]at z;cases z⟩
 keep:=λi h h' st k=>st.at λo e=>k it (by simp) o e
 item:=by
  intro X hP hw hK hc i Y s σ H E I hf st hg
  subst hP hw hK
  let⟨xs,x,hq,hx⟩:=hg
  let⟨bY,rv,p,hz⟩:=I.tuple hq
  let⟨u,hu,ru⟩:=rv.get hx
  let⟨f0,f1,f2,f3,f4,f5⟩:=hf it (by simp)
  show wpAny_pyNext_tuple_item st (show s.heap.IsTuple a bY.toArray from p) (x:=u) (by simpa using hu) λh' st' sb=>?_
  let I1:bF X Y σ H (s•h'):=I.turned (t':=s.toks) (λb o hb e=>(sb.2 b hb).trans e) f0 f1 f3 f4 f5
  let⟨o,e,c,d⟩:=id st'
  show⟨u,Z,Xx (s:=(s•h')) e c d () ⟨x,H,I1,ru,⟨rfl,λys hy=>by rw[I.Kl hy hq];show hx⟩,st',λb hb=>(hf b hb).1⟩⟩
 done:=by
  intro X hP hw hK hc i Y s σ H E I hf st hg
  subst hP hw hK
  let⟨xs,hq,hx⟩:=hg
  let⟨bY,rv,p,hz⟩:=I.tuple hq
  let⟨f0,f1,f2,f3,f4,f5⟩:=hf it (by simp)
  let hl:=rv.length
  show wpAny_pyNext_tuple_end (I.ok.hd hc) st (show s.heap.IsTuple a bY.toArray from p) (by simp;omega) λh' eb=>⟨Z,I.turned (t':=s.toks) (λb o hb e=>eb b o hb e) f0 f1 f3 f4 f5⟩
 self:=λ_ _ _ _ _ st h=>wpAny_pyIter_tupleiter st h
def Vt{P:Program}{w:World}(it:Addr)(lo:Int)(n:Nat):Turn P w K tg (Vr lo n) [it] it (λi h=>IsRangeIter h it (lo+(i:Nat)*1) ((n:Int)-(i:Nat)) 1) where
 mem:=by simp
 obj:=λi h st b hb=>by
  let e:b=it:=by simpa using hb
  subst e
  show⟨_,st,λv z=>by
   let z':Data.fields _=Data.cell v:=z
   cases z'⟩
 keep:=λi h h' st k=>k it (by simp) _ st
 item:=by
  intro X hP hw hK hc i Y s σ H E I hf st hg
  subst hP hw hK
  let⟨f0,f1,f2,f3,f4,f5⟩:=hf it (by simp)
  let W:=Walks.range (prog:=X.prog) (w:=X.w) (I.ok.hd hc) it lo 1 n
  show W.item i s _ _ hg st λv h' tk hv st' kk=>?_
  let⟨t,rfl⟩:=hv
  let I1:bF X Y σ H { s with heap:=h',toks:=tk}:=I.turned (λb o hb e=>kk b o (by simpa using hb) e) f0 f1 f3 f4 f5
  show⟨_,Z,Xx (s:={ s with heap:=h',toks:=tk}) (n:="range_iterator") st' rfl rfl () ⟨.int (lo+i),H,I1,⟨t,?_⟩,⟨rfl,rfl⟩,st',λb hb=>(hf b hb).1⟩⟩
  rw[Int.mul_one]
 done:=by
  intro X hP hw hK hc i Y s σ H E I hf st hg
  subst hP hw hK
  let⟨f0,f1,f2,f3,f4,f5⟩:=hf it (by simp)
  show wpAny_pyNext_range_end (I.ok.hd hc) st (by let:n<=i:=hg;omega) λh' eb=>⟨Z,I.turned (t':=s.toks) (λb o hb e=>eb b o hb e) f0 f1 f3 f4 f5⟩
 self:=λ_ _ _ _ _ st h=>wpAny_pyIter_rangeiter st h
section
variable{X:Cx}
def ĉ(K:aH)(tl:TE):TI:=λσ H R=>tl σ H λx H1=>EC (λa=>x=.ref a) (λa=>(∃xs,bB K H1 a xs)) λa=>R (â K a) H1
def a3A(K:aH)(tl:TE):TI:=λσ H R=>tl σ H λx H1=>EC (λa=>x=.ref a) (λa=>(∃xs,cO K H1 a xs)) λa=>R (Itt K a) H1
def a0v{l:Expr}{tl:TE}(hl:PE X l tl):PI X tg l (ĉ X.K tl):=by
 intro Y s σ H R I h;show jr (hl Y s σ H _ I h) λv s1 ⟨x,H1,I1,r1,q1⟩=>?_;let⟨a,e,⟨xs,hq⟩,q⟩:=q1;subst e;cases r1;let⟨bY,rv,p,hz⟩:=I1.list hq;show vC p.isList ⟨s1⁻¹,[s1⁻¹],_,_,H1,Z,I1.kept (t':=s1.toks) λb o e=>bM _ e,Y6 a _,⟨_,cB _ Z,Z,Z⟩,λb hb=>?_,q⟩;let e:b=s1⁻¹:=by simpa using hb
 subst e;show I1.Fq (aK _) (I1.hok.fresh (aK _))
def a3B{l:Expr}{tl:TE}(hl:PE X l tl):PI X tg l (a3A X.K tl):=by
 intro Y s σ H R I h;show jr (hl Y s σ H _ I h) λv s1 ⟨x,H1,I1,r1,q1⟩=>?_;let⟨a,e,⟨xs,hq⟩,q⟩:=q1;subst e;cases r1;let⟨bY,rv,p,hz⟩:=I1.tuple hq;show M6 (show s1.heap.IsTuple a bY.toArray from p) ⟨s1⁻¹,[s1⁻¹],_,_,H1,Z,I1.kept (t':=s1.toks) λb o e=>bM _ e,Vs a _,⟨_,cB _ Z,Z,Z⟩,λb hb=>?_,q⟩;let e:b=s1⁻¹:=by simpa using hb
 subst e;show I1.Fq (aK _) (I1.hok.fresh (aK _))
def Qy{Y:aE}{σ:St}{H:Hp}{s:Shared}{R:It->Hp->Prop}{E:∅}{lo hi:Int}{t u v:Tok}{tk:Nat}(I:bF X Y σ H s)(h1 : -(2^62)<=lo)(h2:lo<2^62)(h3 : -(2^62)<=hi)(h4:hi<2^62)
  (q:R (Vr lo (hi-lo).toNat) H):wpAny (model X.prog X.w) X.A (pyIter (.ref s⁻¹)) (PIE X Y σ tg R) E { s with heap:=s.heap.push { cls:=.type "range",data:=.fields #[.int lo t,.int hi u,.int 1 v]},toks:=tk}:=by
 show wpAny_pyIter_range (IsRange.new ..) (small_one h1 h2 h3 h4) ?_;let I1:bF X Y σ H { s with heap:=s.heap.push { cls:=.type "range",data:=.fields #[.int lo t,.int hi u,.int 1 v]},toks:=tk}:=I.kept λb o e=>bM _ e;show⟨(s.heap.push { cls:=.type "range",data:=.fields #[.int lo t,.int hi u,.int 1 v]}).objs.size,[(s.heap.push { cls:=.type "range",data:=.fields #[.int lo t,.int hi u,.int 1 v]}).objs.size],_,_,H,Z,
  I1.kept (t':=tk) λb o e=>bM _ e,Vt _ lo (hi-lo).toNat,?_,λb hb=>?_,q⟩
 ·let e1:lo+((0:Nat):Int)*1=lo:=by simp
  let e2:(((hi-lo).toNat:Nat):Int)-((0:Nat):Int)=Builtin.Range.rangeSize lo hi 1:=by rw[rangeSize_one];split<;>omega
  show IsRangeIter _ _ (lo+((0:Nat):Int)*1) ((((hi-lo).toNat:Nat):Int)-((0:Nat):Int)) 1;rw[e1,e2];show cB _ rfl
 ·let e:b=(s.heap.push { cls:=.type "range",data:=.fields #[.int lo t,.int hi u,.int 1 v]}).objs.size:=by simpa using hb
  subst e;show I1.Fq (aK _) (I1.hok.fresh (aK _))
def a5O(ta:TA):TI:=λσ H R=>ta σ H λvs H1=>EA (λj:Int=>vs=[.int j]) λj=>-(2^62)<=j/\j<2^62/\R (Vr 0 j.toNat) H1
def a5P(ta:TA):TI:=λσ H R=>ta σ H λvs H1=>∃i j:Int,vs=[.int i,.int j]/\(-(2^62)<=i/\i<2^62/\ -(2^62)<=j/\j<2^62)/\R (Vr i (j-i).toNat) H1
def jP{a:Expr}{ta:TA}(hg:Gl X "range")(hm:X.mg "range" = none)(ha:PA X [a] ta)(hs:@&(starEach [a] X.env=[(false,eval a X.env)])):PI X tg (.Call (.Name "range" p) [a] [] pos) (a5O ta):=by
 intro Y s σ H R I h;show Call_ (uo I hg hm boot_range (wJ (jr (ha pos Y s σ H _ I h) λus s1 ⟨vs,H1,I1,r1,q1⟩=>?_) hs Z));let⟨j,e,q1,q2,q⟩:=q1;subst e;cases r1 with
 |cons r rr =>
  cases rr;let⟨t,rfl⟩:=r;show call_range_1 (Qy I1 () () q1 q2 (by simpa using q))
def Df{a b:Expr}{ta:TA}(hg:Gl X "range")(hm:X.mg "range" = none)(ha:PA X [a,b] ta)(hs:@&(starEach [a,b] X.env=[(false,eval a X.env),(false,eval b X.env)]))(hs2:@&(starEach [b] X.env=[(false,eval b X.env)])) :
  PI X tg (.Call (.Name "range" p) [a,b] [] pos) (a5P ta):=by
 intro Y s σ H R I h;show Call_ (uo I hg hm boot_range (wJ (jr (ha pos Y s σ H _ I h) λus s1 ⟨vs,H1,I1,r1,q1⟩=>?_) (by rw[hs,hs2]) (by rw[hs2];rfl)));let⟨i,j,e,⟨q1,q2,q3,q4⟩,q⟩:=q1;subst e;cases r1 with
 |cons r rr =>
  cases rr with
  |cons r' rr =>
   cases rr;let⟨t,rfl⟩:=r;let⟨t',rfl⟩:=r';show call_range_2 (Qy I1 q1 q2 q3 q4 q)
noncomputable def a70(wi:TI)(g:TG)(tb:TS):TS:=λD σ H=>wi σ H λZ97 H1=>∃W:Nat->Nat->St->Hp->Prop,(∃m,W 0 m σ H1)/\∀i m σ H,W i m σ H->
 (Z97.stop i H/\D.nx σ H)\/(Z97.go i H/\∃N:St->Hp->Prop,(∀σ' H',N σ' H'->∃m',m'<m/\W (i+1) m' σ' H')/\∀x H',Z97.Xw i H x H'->g x σ H' λσ2 H2=>tb { D with nx:=N,ct:=N,bk:=D.nx} σ2 H2)
noncomputable def rY(fp:aI)(h:Heap):aE:=fp.filterMap λb=>(h.get? b).map λo=>(b,o)
def oO{b:Addr}{o:Obj}(hb:b∈fp)(e:h.get? b=some o):(b,o)∈rY fp h:=Uz.mpr ⟨b,hb,by rw[e];rfl⟩
def Y7{p:Addr×Obj}(hp:p∈rY fp h):p.1∈fp/\h.get? p.1=some p.2:=by
 let⟨b,hb,e⟩:=Uz.mp hp;cases q:h.get? b with
 |none=>rw[q]at e;cases e
 |some o =>
  rw[q]at e;let e':(b,o)=p:=dO e;subst e';show⟨hb,q⟩
def bF.pinned{Y:aE}{σ:St}{H:Hp}{s:Shared}(I:bF X Y σ H s)(hf:∀b∈fp,Dd X Y H b)(ho:∀b∈fp,∃o,s^^^b=some o/\∀v,o.data≠.cell v):bF X (Y++rY fp s.heap) σ H s :=
 I.Gb λp hp=>(cM.mp hp).elim (λz=>I.pin p (gq _ z)) λz=>by
  let⟨hb,e⟩:=Y7 z;let⟨f0,f1,f2,_⟩:=hf p.1 hb;let⟨o,e',d⟩:=ho p.1 hb;rw[e]at e';cases e';show⟨e,f0,f1,f2,d⟩
def bF.uN{Y pl:aE}{σ:St}{H:Hp}{s:Shared}(I:bF X (Y++pl) σ H s):bF X Y σ H s:=I.Gb λp hp=>I.pin p (gq _ (qz _ hp))
def iV{iter:Expr}{wi:TI}{g:TG}(hp:PassesOwn (model X.prog X.w) X.A X.env X.xe)(hc:X.calm=true)(hi:PI X tg iter wi)(hg:PG X tg g)(hb:Qv X body tb)
  (hs:autoParam (∀x,foldedSetIterable iter X.env x=pure x) Q0_._auto_1):PS X (.For tg iter body [] pos) (a70 wi g tb):=by
 intro Y s σ H D I h;show wpAny_For (jr (hi Y s σ H _ I h) λv s1 h1=>jr h1 λitv s2 h2=>?_) hs;let⟨it,fp,tn,Z97,H2,e,I2,T,st2,f2,W,⟨m0,w0⟩,turn⟩:=h2;subst e;let stat:∀{H':Hp},(∀b∈fp,H' b=none)->∀b∈fp,Dd X Y H' b:=λhn b hb=>⟨hn b hb,(f2 b hb).2⟩;show codeAny_forLoop_any (λn s'=>∃i σ' H',bF X Y σ' H' s'/\tn i s'.heap/\(∀b∈fp,H' b=none)/\W i n σ' H') ?_ m0 ⟨0,σ,H2,I2,st2,λb hb=>(f2 b hb).1,w0⟩;rintro n s3 ⟨i,σ3,H3,I3,st3,fr3,w3⟩;rcases turn i n σ3 H3 w3 with⟨stop,qn⟩|⟨go,N,hN,step⟩
 ·show yW hp (jr (T.done X Z Z Z hc i Y s3 σ3 H3 X.xe I3 (stat fr3) st3 stop) λr s4 ⟨hr,I4⟩=>?_);subst hr;show Nx ⟨σ3,H3,I4,qn⟩
 ·show yW hp (jr (T.item X Z Z Z hc i Y s3 σ3 H3 X.xe I3 (stat fr3) st3 go) λr s4 ⟨u,hr,h4⟩=>?_);subst hr;show yW hp (jr h4 λ_ s5 ⟨x,H5,I5,r5,y5,st5,fr5⟩=>?_);let I5':=I5.pinned (stat fr5) (T.obj _ _ st5);show yW hp (jr (hg _ s5 σ3 H5 x u _ I5' r5 (step x H5 y5)) λ_ s6 ⟨σ6,H6,I6,q6⟩=>yW hp (jr (hb _ s6 σ6 H6 _ I6 q6) λf s7 q7=>?_));let again:∀{Xy:St}{H7:Hp},bF X (Y++rY fp s5.heap) Xy H7 s7->N Xy H7->∃m,m<n/\∃i σ' H',bF X Y σ' H' s7/\tn i s7.heap/\(∀b∈fp,H' b=none)/\W i m σ' H':=λ{Xy H7} I7 n7=>by
   let⟨m',hm,w7⟩:=hN Xy H7 n7;show⟨m',hm,i+1,Xy,H7,I7.uN,T.keep _ _ _ st5 λb hb o e=>(I7.pin (b,o) (gq _ (gq _ (oO hb e)))).1,λb hb=>?_,w7⟩;let⟨o,e,d⟩:=T.obj _ _ st5 b hb;show(I7.pin (b,o) (gq _ (gq _ (oO hb e)))).2.1
  cases f with
  |next=>let⟨Xy,H7,I7,n7⟩:=q7;show again I7 n7
  |cont=>let⟨Xy,H7,I7,n7⟩:=q7;show again I7 n7
  |brk=>let⟨Xy,H7,I7,q7⟩:=q7;show⟨Xy,H7,I7.uN,q7⟩
  |ret v=>let⟨x7,Xy,H7,I7,r7,q7⟩:=q7;show⟨x7,Xy,H7,I7.uN,r7,q7⟩
end
def uO{a:Addr}{xs:af}{g:TG}{σ:St}{H:Hp}(Pv:Nat->St->Hp->Prop)(h0:Pv 0 σ H)(hl:∀i σ H,i<=xs.length->Pv i σ H->bB K H a xs)
  (hs:∀i x σ H,xs[i]?=some x->Pv i σ H->g x σ H λσ2 H2=>tb { D with nx:=Pv (i+1),ct:=Pv (i+1),bk:=D.nx} σ2 H2) (hd:∀σ H,Pv xs.length σ H->D.nx σ H) :
  ∃W:Nat->Nat->St->Hp->Prop,(∃m,W 0 m σ H)/\∀i m σ H,W i m σ H->
   ((â K a).stop i H/\D.nx σ H)\/((â K a).go i H/\∃N:St->Hp->Prop,(∀σ' H',N σ' H'->∃m',m'<m/\W (i+1) m' σ' H')/\∀x H',(â K a).Xw i H x H'->g x σ H' λσ2 H2=>tb { D with nx:=N,ct:=N,bk:=D.nx} σ2 H2):=by
 show⟨λi m σ H=>m=xs.length-i/\i<=xs.length/\Pv i σ H,⟨xs.length,by simp,dG _,h0⟩,?_⟩;rintro i m σ H ⟨rfl,hi,p⟩;let q:=hl i σ H hi p;by_cases hlt:i<xs.length
 ·show .inr ⟨⟨xs,xs[i],q,by simp[hlt]⟩,Pv (i+1),λσ' H' p'=>⟨xs.length-(i+1),(),Z,hlt,p'⟩,λx H' y=>?_⟩;let⟨e,y⟩:=y;subst e;show hs i x σ _ (y xs q) p
 ·let e:i=xs.length:=()
  subst e;show .inl ⟨⟨xs,q,aK _⟩,hd σ H p⟩
def Xz{a:Addr}{xs:af}{g:TG}{σ:St}{H:Hp}(Pv:Nat->St->Hp->Prop)(h0:Pv 0 σ H)(hl:∀i σ H,i<=xs.length->Pv i σ H->cO K H a xs)
  (hs:∀i x σ H,xs[i]?=some x->Pv i σ H->g x σ H λσ2 H2=>tb { D with nx:=Pv (i+1),ct:=Pv (i+1),bk:=D.nx} σ2 H2) (hd:∀σ H,Pv xs.length σ H->D.nx σ H) :
  ∃W:Nat->Nat->St->Hp->Prop,(∃m,W 0 m σ H)/\∀i m σ H,W i m σ H->
   ((Itt K a).stop i H/\D.nx σ H)\/((Itt K a).go i H/\∃N:St->Hp->Prop,(∀σ' H',N σ' H'->∃m',m'<m/\W (i+1) m' σ' H')/\∀x H',(Itt K a).Xw i H x H'->g x σ H' λσ2 H2=>tb { D with nx:=N,ct:=N,bk:=D.nx} σ2 H2):=by
 show⟨λi m σ H=>m=xs.length-i/\i<=xs.length/\Pv i σ H,⟨xs.length,by simp,dG _,h0⟩,?_⟩;rintro i m σ H ⟨rfl,hi,p⟩;let q:=hl i σ H hi p;by_cases hlt:i<xs.length
 ·show .inr ⟨⟨xs,xs[i],q,by simp[hlt]⟩,Pv (i+1),λσ' H' p'=>⟨xs.length-(i+1),(),Z,hlt,p'⟩,λx H' y=>?_⟩;let⟨e,y⟩:=y;subst e;show hs i x σ _ (y xs q) p
 ·let e:i=xs.length:=()
  subst e;show .inl ⟨⟨xs,q,aK _⟩,hd σ H p⟩
def xX{lo:Int}{g:TG}{σ:St}{H:Hp}(Pv:Nat->St->Hp->Prop)(h0:Pv 0 σ H)
  (hs:∀i σ H,i<n->Pv i σ H->g (.int (lo+i)) σ H λσ2 H2=>tb { D with nx:=Pv (i+1),ct:=Pv (i+1),bk:=D.nx} σ2 H2) (hd:∀σ H,Pv n σ H->D.nx σ H) :
  ∃W:Nat->Nat->St->Hp->Prop,(∃m,W 0 m σ H)/\∀i m σ H,W i m σ H->
   ((Vr lo n).stop i H/\D.nx σ H)\/((Vr lo n).go i H/\∃N:St->Hp->Prop,(∀σ' H',N σ' H'->∃m',m'<m/\W (i+1) m' σ' H')/\∀x H',(Vr lo n).Xw i H x H'->g x σ H' λσ2 H2=>tb { D with nx:=N,ct:=N,bk:=D.nx} σ2 H2):=by
 show⟨λi m σ H=>m=n-i/\i<=n/\Pv i σ H,⟨n,by simp,dG _,h0⟩,?_⟩;rintro i m σ H ⟨rfl,hi,p⟩;by_cases hlt:i<n
 ·show .inr ⟨hlt,Pv (i+1),λσ' H' p'=>⟨n-(i+1),(),Z,hlt,p'⟩,λx H' y=>?_⟩;let⟨e,y⟩:=y;subst e y;show hs i σ _ hlt p
 ·let e:i=n:=()
  subst e;show .inl ⟨aK _,hd σ H p⟩
abbrev R2:=V->V->Hp->VK->Prop
def qQ(X:Cx)(f:Value->Value->Sem Value)(r:R2):Prop :=
 ∀(Y:aE) (s:Shared) (σ:St) (H:Hp) (x y:V) (v u:Value) (Q:VK),bF X Y σ H s->cZ x v->cZ y u->r x y H Q->
  wpAny (model X.prog X.w) X.A (f v u) (EP X Y σ Q) X.xe s
def jE(X:Cx)(f:Value)(r:af->Hp->VK->Prop):Prop :=
 ∀(Y:aE) (s:Shared) (σ:St) (H:Hp) (xs:af) (us:aw) (Q:VK),bF X Y σ H s->cN xs us->r xs H Q->
  wpAny (model X.prog X.w) X.A (call f us) (EP X Y σ Q) X.xe s
def a71(X:Cx)(r:V->Hp->(Bool->Hp->Prop)->Prop):Prop :=
 ∀(Y:aE) (s:Shared) (σ:St) (H:Hp) (x:V) (v:Value) (Q:Bool->Hp->Prop),bF X Y σ H s->cZ x v->r x H Q->
  wpAny (model X.prog X.w) X.A (truthy v) (TP X Y σ Q) X.xe s
noncomputable def tOp(r:R2)(ta tb:TE):TE:=λσ H Q=>ta σ H λx H1=>tb σ H1 λy H2=>r x y H2 Q
inductive rI(C:Int->Int->Prop)(g:Int->Int->V)(x:V)(y:V)(H:Hp)(Q:VK):Prop
 |mk (i j:_) (_:x=.int i) (_:y=.int j) (_:C i j) (_:Q (g i j) H)
inductive rI0(g:Int->Int->V)(x:V)(y:V)(H:Hp)(Q:VK):Prop
 |mk (i j:_) (_:x=.int i) (_:y=.int j) (_:Q (g i j) H)
section
variable{X:Cx}{a b:Expr}{tb tc:TE}
def a3C(ha:PE X a ta)(hb:PE X b tb){Y:aE}{s:Shared}{σ:St}{H:Hp}{R:V->V->Hp->Prop}(I:bF X Y σ H s)
  (h:ta σ H λx H1=>tb σ H1 λy H2=>R x y H2) {Q:∅}{f:Value->Value->Sem Value}
  (hf:∀v u s2 x y H2,bF X Y σ H2 s2->cZ x v->cZ y u->R x y H2->wpAny (model X.prog X.w) X.A (f v u) Q X.xe s2) :
  wpAny (model X.prog X.w) X.A (eval a X.env) (λv s₁=>wpAny (model X.prog X.w) X.A (eval b X.env) (λu s₂=>wpAny (model X.prog X.w) X.A (f v u) Q X.xe s₂) X.xe s₁) X.xe s:=by
 show jr (ha Y s σ H _ I h) λv s1 ⟨x,H1,I1,r1,q1⟩=>jr (hb Y s1 σ H1 _ I1 q1) λu s2 ⟨y,H2,I2,r2,q2⟩=>hf v u s2 x y H2 I2 r1 r2 q2
def bA{op:Operator}{r:R2}(ho:qQ X (binaryOp op) r)(ha:PE X a ta)(hb:PE X b tb):PE X (.BinOp a op b pos) (tOp r ta tb):=by
 intro Y s σ H Q I h;show wpAny_BinOp (a3C ha hb I h λv u s2 x y H2 I2 rx ry q=>ho Y s2 σ H2 x y v u Q I2 rx ry q)
def opI{f:Value->Value->Sem Value}{C:Int->Int->Prop}{g:Int->Int->Int}
  (rule:∀(i j:Int) (t u:Tok) (s:Shared) (Q:∅) (E:∅),C i j->Q (.int (g i j) s.toks) { s with toks:=s.toks+1}->wpAny (model X.prog X.w) X.A (f (.int i t) (.int j u)) Q E s) :
  qQ X f (rI C λi j=>.int (g i j)):=by
 intro Y s σ H x y v u Q I rx ry h;let⟨i,j,rfl,rfl,hc,q⟩:=h;let⟨t,rfl⟩:=rx;let⟨t',rfl⟩:=ry;show rule i j t t' s _ _ hc ⟨.int (g i j),H,I.tok _,⟨_,Z⟩,q⟩
def a5Q{f:Value->Value->Sem Value}{g:Int->Int->Int}
  (rule:∀(i j:Int) (t u:Tok) (s:Shared) (Q:∅) (E:∅),Q (.int (g i j) s.toks) { s with toks:=s.toks+1}->wpAny (model X.prog X.w) X.A (f (.int i t) (.int j u)) Q E s) :
  qQ X f (rI0 λi j=>.int (g i j)):=by
 intro Y s σ H x y v u Q I rx ry h;let⟨i,j,rfl,rfl,q⟩:=h;let⟨t,rfl⟩:=rx;let⟨t',rfl⟩:=ry;show rule i j t t' s _ _ ⟨.int (g i j),H,I.tok _,⟨_,Z⟩,q⟩
def a0w{f:Value->Value->Sem Value}{g:Int->Int->Bool}
  (rule:∀(i j:Int) (t u:Tok) (s:Shared) (Q:∅) (E:∅),Q (.bool (g i j)) s->wpAny (model X.prog X.w) X.A (f (.int i t) (.int j u)) Q E s) :
  qQ X f (rI0 λi j=>.bl (g i j)):=by
 intro Y s σ H x y v u Q I rx ry h;let⟨i,j,rfl,rfl,q⟩:=h;let⟨t,rfl⟩:=rx;let⟨t',rfl⟩:=ry;show rule i j t t' s _ _ ⟨.bl (g i j),H,I,Z,q⟩
def a72(i j:Int):Prop:=0<j/\j<1073741824
def a73(i j:Int):Prop:=0<=j/\j<=1000000/\i.natAbs<2^64
def a3D(i j:Int):Prop:=(-(2^64)<i/\i<2^64)\/(-(2^64)<j/\j<2^64)
def a3D.ok{i j:Int}(h:a3D i j):IntMulOk i j:=by
 rcases h with⟨h1,h2⟩|⟨h1,h2⟩
 ·show .of_left (intBits_le_64 h1 h2)
 ·show .of_right (intBits_le_64 h1 h2)
def dH:qQ X (binaryOp .Add) (rI0 λi j=>.int (i+j)):=a5Q λ_ _ _ _ _ _ _ q=>add_int q
def Oj:qQ X (binaryOp .Sub) (rI0 λi j=>.int (i-j)):=a5Q λ_ _ _ _ _ _ _ q=>sub_int q
def zu:qQ X (binaryOp .Mult) (rI a3D λi j=>.int (i*j)):=opI λ_ _ _ _ _ _ _ hc q=>mul_int q hc.ok
def a0x:qQ X (binaryOp .FloorDiv) (rI a72 λi j=>.int (i/j)):=opI λi j _ _ _ _ _ hc q=>by
 let h1:(0:Int)<j:=hc.1;let h2:j<1073741824:=hc.2;show floordiv_int () (by rw[Int.fdiv_eq_ediv_of_nonneg i ()];show q) (.inl (PyProof.noPylong_small ()))
def jV:qQ X (binaryOp .Mod) (rI (λ_ j=>0<j) λi j=>.int (i%j)):=opI λi j _ _ _ _ _ hc q=>by
 let h1:(0:Int)<j:=hc;show mod_int' () (by rw[Int.fmod_eq_emod_of_nonneg i ()];show q)
def a3E:qQ X (binaryOp .Pow) (rI a73 λi j=>.int (i^j.toNat)):=opI λ_ _ _ _ _ _ _ hc q=>pow_int_small hc.1 hc.2.1 hc.2.2 q
end
noncomputable def a5R:V->V->Bool
 |.non,.non=>true |.non,.int _=>true |.int _,.non=>true |.non,.bl _=>true |.bl _,.non=>true |.non,.str _=>true |.str _,.non=>true
 |.int _,.int _=>true |.bl _,.bl _=>true |.str _,.str _=>true |.Xq _,.Xq _=>true
 |.int _,.str _=>true |.str _,.int _=>true |.bl _,.str _=>true |.str _,.bl _=>true
 |_,_=>false
def rEq:R2:=λx y H Q=>a5R x y=true/\Q (.bl (decide (x=y))) H
def rNe:R2:=λx y H Q=>a5R x y=true/\Q (.bl (!decide (x=y))) H
def XC{i j:Int}:decide (V.int i=V.int j)=(i==j):=by
 rw[rO];simp
def Ċ{i j:Bool}:decide (V.bl i=V.bl j)=(i==j):=by
 rw[rO];simp
def XD{i j:Str}:decide (V.str i=V.str j)=(i==j):=by
 rw[rO];simp
def XF{i j:Array UInt8}:decide (V.Xq i=V.Xq j)=(i.toList==j.toList):=by
 rw[rO];cases i;cases j;simp
section
variable{X:Cx}{a b:Expr}{tb tc:TE}
def eO{Y:aE}{σ:St}{H:Hp}{s:Shared}{Q:VK}{k k':Bool}(I:bF X Y σ H s)(q:Q (.bl k) H)(e:k=k'):EP X Y σ Q (.bool k') s:=by
 subst e;show⟨.bl k,H,I,Z,q⟩
def mZ:qQ X (compareOp .Eq) rEq:=by
 intro Y s σ H x y v u Q I rx ry h;let⟨hs,q⟩:=h;cases x with
 |non =>
  cases rx;cases y with
  |non=>cases ry;show PySem.EqNone.eq_none_none (eO I q (by simp))
  |bl j=>cases ry;show PySem.EqNone.eq_none_bool (eO I q (by simp))
  |int j=>let⟨t',rfl⟩:=ry;show PySem.EqNone.eq_none_int (eO I q (by simp))
  |str j=>let⟨t',rfl⟩:=ry;show PySem.EqNone.eq_none_str (eO I q (by simp))
  |_=>show absurd (show false=true from hs) cL
 |bl i =>
  cases rx;cases y with
  |non=>cases ry;show PySem.EqNone.eq_bool_none (eO I q (by simp))
  |bl j=>cases ry;show eq_bool (eO I q Ċ)
  |str j=>let⟨t',rfl⟩:=ry;show PySem.EqMixed.eq_bool_str (eO I q (by simp))
  |_=>show absurd (show false=true from hs) cL
 |int i =>
  let⟨t,rfl⟩:=rx;cases y with
  |non=>cases ry;show PySem.EqNone.eq_int_none (eO I q (by simp))
  |int j=>let⟨t',rfl⟩:=ry;show eq_int (eO I q XC)
  |str j=>let⟨t',rfl⟩:=ry;show PySem.EqMixed.eq_int_str (eO I q (by simp))
  |_=>show absurd (show false=true from hs) cL
 |str i =>
  let⟨t,rfl⟩:=rx;cases y with
  |non=>cases ry;show PySem.EqNone.eq_str_none (eO I q (by simp))
  |bl j=>cases ry;show PySem.EqMixed.eq_str_bool (eO I q (by simp))
  |int j=>let⟨t',rfl⟩:=ry;show PySem.EqMixed.eq_str_int (eO I q (by simp))
  |str j=>let⟨t',rfl⟩:=ry;show eq_str (eO I q XD)
  |_=>show absurd (show false=true from hs) cL
 |Xq i =>
  let⟨t,rfl⟩:=rx;cases y with
  |Xq j=>let⟨t',rfl⟩:=ry;show PySem.W.eq_bytes (eO I q XF)
  |_=>show absurd (show false=true from hs) cL
 |_=>cases y<;>show absurd (show false=true from hs) cL
def Km:qQ X (compareOp .NotEq) rNe:=by
 intro Y s σ H x y v u Q I rx ry h;let⟨hs,q⟩:=h;cases x with
 |non =>
  cases rx;cases y with
  |non=>cases ry;show PySem.EqNone.ne_none_none (eO I q (by simp))
  |bl j=>cases ry;show PySem.EqNone.ne_none_bool (eO I q (by simp))
  |int j=>let⟨t',rfl⟩:=ry;show PySem.EqNone.ne_none_int (eO I q (by simp))
  |str j=>let⟨t',rfl⟩:=ry;show PySem.EqNone.ne_none_str (eO I q (by simp))
  |_=>show absurd (show false=true from hs) cL
 |bl i =>
  cases rx;cases y with
  |non=>cases ry;show PySem.EqNone.ne_bool_none (eO I q (by simp))
  |bl j=>cases ry;show ne_bool (eO I q (congrArg not Ċ))
  |str j=>let⟨t',rfl⟩:=ry;show PySem.EqMixed.ne_bool_str (eO I q (by simp))
  |_=>show absurd (show false=true from hs) cL
 |int i =>
  let⟨t,rfl⟩:=rx;cases y with
  |non=>cases ry;show PySem.EqNone.ne_int_none (eO I q (by simp))
  |int j=>let⟨t',rfl⟩:=ry;show ne_int (eO I q (congrArg not XC))
  |str j=>let⟨t',rfl⟩:=ry;show PySem.EqMixed.ne_int_str (eO I q (by simp))
  |_=>show absurd (show false=true from hs) cL
 |str i =>
  let⟨t,rfl⟩:=rx;cases y with
  |non=>cases ry;show PySem.EqNone.ne_str_none (eO I q (by simp))
  |bl j=>cases ry;show PySem.EqMixed.ne_str_bool (eO I q (by simp))
  |int j=>let⟨t',rfl⟩:=ry;show PySem.EqMixed.ne_str_int (eO I q (by simp))
  |str j=>let⟨t',rfl⟩:=ry;show ne_str (eO I q (congrArg not XD))
  |_=>show absurd (show false=true from hs) cL
 |Xq i =>
  let⟨t,rfl⟩:=rx;cases y with
  |Xq j=>let⟨t',rfl⟩:=ry;show PySem.W.ne_bytes (eO I q (congrArg not XF))
  |_=>show absurd (show false=true from hs) cL
 |_=>cases y<;>show absurd (show false=true from hs) cL
def Ac:qQ X (compareOp .Lt) (rI0 λi j=>.bl (decide (i<j))):=a0w λ_ _ _ _ _ _ _ q=>lt_int q
def a5S:qQ X (compareOp .LtE) (rI0 λi j=>.bl (decide (i<=j))):=a0w λ_ _ _ _ _ _ _ q=>le_int q
def tE:qQ X (compareOp .Gt) (rI0 λi j=>.bl (decide (j<i))):=a0w λ_ _ _ _ _ _ _ q=>gt_int q
def a5T:qQ X (compareOp .GtE) (rI0 λi j=>.bl (decide (j<=i))):=a0w λ_ _ _ _ _ _ _ q=>ge_int q
def ċ : qQ X (compareOp .Is) (fun x y H Q => y = .non ∧ Q (.bl (decide (x = .non))) H) := by
  intro Y s σ H x y v u Q I rx ry h;let⟨rfl, q⟩ := h;cases ry;show is_none_gen (eO I q ?_);cases x <;> first
    | (cases rx; rfl)
    | (let⟨t, rfl⟩ := rx; rfl)
def a0y : qQ X (compareOp .IsNot) (fun x y H Q => y = .non ∧ Q (.bl (!decide (x = .non))) H) := by
  intro Y s σ H x y v u Q I rx ry h;let⟨rfl, q⟩ := h;cases ry;show isnot_none_gen (eO I q ?_);cases x <;> first
    | (cases rx; rfl)
    | (let⟨t, rfl⟩ := rx; rfl)
def Vu(b:Expr)(h:@&(op≠.In))(h2:@&(op≠.NotIn)):behindInMarks op b=false:=by
 let e1:(op==CmpOp.In)=false:=by cases op<;>first|rfl|exact absurd Z h
 let e2:(op==CmpOp.NotIn)=false:=by cases op<;>first|rfl|exact absurd Z h2
 cases b with|Set=>(show (_&&(_||_)&&_)=false;rw[e1,e2,Bool.or_self,Bool.and_false,Bool.false_and])|_=>rfl
def xY{r:R2}(ho:qQ X (compareOp op) r)(ha:PE X a ta)(hb:PE X b tb)(hm:behindInMarks op b=false:=by show Vu _):PE X (.Compare a [op] [b] pos) (tOp r ta tb):=by
 intro Y s σ H Q I h;show wpAny_Compare1 (a3C ha hb I h λv u s2 x y H2 I2 rx ry q=>ho Y s2 σ H2 x y v u Q I2 rx ry q) hm
noncomputable def a2I(t:TE):TT:=λσ H Q=>t σ H λx H'=>EA (λk=>x=.bl k) λk=>Q k H'
def aN{r:R2}(ho:qQ X (compareOp op) r)(ha:PE X a ta)(hb:PE X b tb)(hm:behindInMarks op b=false:=by show Vu _):PT X (.Compare a [op] [b] pos) (a2I (tOp r ta tb)):=by
 intro Y s σ H Q I h;show wpAny_isTrue_Compare1 (jr (ha Y s σ H _ I h) λv s1 ⟨x,H1,I1,r1,q1⟩=>jr (hb Y s1 σ H1 _ I1 q1) λu s2 ⟨y,H2,I2,r2,q2⟩ =>
  jr (ho Y s2 σ H2 x y v u _ I2 r1 r2 q2) λc s3 ⟨z,H3,I3,r3,k,e,q3⟩=>?_) hm
 subst e;cases r3;show CP ⟨H3,I3,q3⟩
noncomputable def a3F(r r':R2)(ta tb tc:TE):TE:=λσ H Q=>ta σ H λx H1=>tb σ H1 λy H2=>r x y H2 λz H3=>∃k,z=.bl k/\
 (if k=true then tc σ H3 λw' H4=>r' y w' H4 Q else Q (.bl false) H3)
def Č{op':CmpOp}{r r':R2}(ho:qQ X (compareOp op) r)(ho':qQ X (compareOp op') r')(ha:PE X a ta)(hb:PE X b tb)(hc:PE X c tc)
  (hm:lastMarks [op,op'] [b,c]=false:=by with_unfolding_all rfl):PE X (.Compare a [op,op'] [b,c] pos) (a3F r r' ta tb tc):=by
 intro Y s σ H Q I h;show Compare_chain (jr (ha Y s σ H _ I h) λv s1 ⟨x,H1,I1,r1,q1⟩=>chain_link (jr (hb Y s1 σ H1 _ I1 q1) λu s2 ⟨y,H2,I2,r2,q2⟩ =>
  jr (ho Y s2 σ H2 x y v u _ I2 r1 r2 q2) λd s3 ⟨z,H3,I3,r3,k,e,q3⟩=>?_)) hm
 subst e;cases r3;show CP ?_;cases k with
 |false=>show ite_ff ⟨.bl false,H3,I3,Z,q3⟩
 |true=>show ite_tt (chain_last (jr (hc Y s3 σ H3 _ I3 q3) λw' s4 ⟨z',H4,I4,r4,q4⟩=>ho' Y s4 σ H4 y z' u w' Q I4 r2 r4 q4))
def č(K:aH)(x:V)(H:Hp)(k:Bool):Prop :=
 match x with
 |.non=>k=false
 |.bl b=>k=b
 |.int i=>k=(i != 0)
 |.str y=>y.length<=sizeLine/\k=((y.length:Int) != 0)
 |.Xq y=>y.size<=sizeLine/\k=((y.size:Int) != 0)
 |.ref p=>(∃xs,bB K H p xs/\k = !xs.isEmpty)\/(∃xs,cO K H p xs/\k = !xs.isEmpty)\/∃J,H p=some (.dK J)/\k = !J.isEmpty
 |_=>False
def Vv{κ:Type}{J:List (κ×V)}{vs:List (κ×Value)}(r:KV J vs):(!vs.isEmpty) = !J.isEmpty:=by
 cases r<;>rfl
def Hw{xs:af}{bY:aw}(r:cN xs bY):(!bY.toArray.isEmpty) = !xs.isEmpty:=by
 cases r<;>simp
def Ol:(sizeLine:Nat)<2^63:=by rw[gK];decide
def Om:a71 X (λx H Q=>∃k,č X.K x H k/\Q k H):=by
 intro Y s σ H x v Q I rx h;let⟨k,e,q⟩:=h;let hl:=Ol;let hs:sizeLine=16777216:=gK;cases x with
 |non =>
  cases rx;let e':k=false:=e;subst e';show truthy_none ⟨H,I,q⟩
 |bl b =>
  cases rx;let e':k=b:=e;subst e';show CP ⟨H,I,q⟩
 |int i =>
  let⟨t,rfl⟩:=rx;let e':k=(i != 0):=e;subst e';show PySem.P.truthy_int ⟨H,I,q⟩
 |str y =>
  let⟨t,rfl⟩:=rx;obtain⟨hy,e'⟩:y.length<=sizeLine/\k=((y.length:Int) != 0):=e;subst e';show PySem.P.truthy_str () ⟨H,I.tok _,q⟩
 |Xq y =>
  let⟨t,rfl⟩:=rx;obtain⟨hy,e'⟩:y.size<=sizeLine/\k=((y.size:Int) != 0):=e;subst e';show PySem.W.truthy_bytes () ⟨H,I.tok _,q⟩
 |ref p =>
  cases rx;let e':(∃xs,bB X.K H p xs/\k = !xs.isEmpty)\/(∃xs,cO X.K H p xs/\k = !xs.isEmpty)\/∃J,H p=some (.dK J)/\k = !J.isEmpty:=e;rcases e' with⟨xs,hx,e'⟩|⟨xs,hx,e'⟩|⟨J,hx,e'⟩
  ·subst e';let⟨bY,r,pl,hz⟩:=I.list hx;let hlen:=r.length;show wpAny_truthy_list pl.isList (by simp only[List.size_toArray];omega) ⟨H,I.tok _,by rw[Hw r];show q⟩
  ·subst e';let⟨bY,r,pl,hz⟩:=I.tuple hx;let hlen:=r.length;show truthy_tuple pl (by simp only[List.size_toArray];omega) ⟨H,I.tok _,by rw[Hw r];show q⟩
  ·subst e';obtain⟨hz,hS,vs,r,m⟩:J.length<=sizeLine/\(p==sysModules)=false/\∃vs,KV J vs/\s.heap.DictOf (eX X.prog X.w) p vs:=I.hok p _ hx;let hlen:J.length=vs.length:=aU r;show wpAny_truthy_dict hS m () ⟨H,I.tok _,by rw[Vv r];show q⟩
 |_=>show(show False from e).elim
def Ď(ha:PE X a ta)(he:∀whole,isTrue a X.env whole=(do let v <-whole;standAt a.pos;holding [v] (truthy v))) :
  PT X a (λσ H Q=>ta σ H λx H'=>∃k,č X.K x H' k/\Q k H'):=by
 intro Y s σ H Q I h;show isTrue_plain (jr (ha Y s σ H _ I h) λv s1 ⟨x,H1,I1,r1,q1⟩=>Om Y s1 σ H1 x v Q I1 r1 q1) (he _)
def vals1{x:V}{us:aw}(r:cN [x] us):∃u,us=[u]/\cZ x u:=by
 cases r with
 |cons r1 r2=>cases r2;show⟨_,Z,r1⟩
def vals2{x y:V}{us:aw}(r:cN [x,y] us):∃u w',us=[u,w']/\cZ x u/\cZ y w':=by
 cases r with
 |cons r1 r2 =>
  cases r2 with
  |cons r3 r4=>cases r4;show⟨_,_,Z,r1,r3⟩
def Ko(hc:X.calm=true):jE X (.builtin "min") (λxs H Q=>∃i j,xs=[.int i,.int j]/\Q (.int (if j<i then j else i)) H):=by
 intro Y s σ H xs us Q I r h;let⟨i,j,rfl,q⟩:=h;let⟨u,w',rfl,⟨t,rfl⟩,⟨t',rfl⟩⟩:=vals2 r;show min_two_ints (I.ok.hd hc) λh' tk k=>⟨_,H,I.kept k,?_,q⟩;by_cases hj:j<i
 ·rw[aD hj,aD hj];show⟨_,Z⟩
 ·rw[aA hj,aA hj];show⟨_,Z⟩
end
structure Vw(h:Heap)(x dx C:Addr)(mA:Str->Option Value):Prop where
 obj:h.get? x=some (instObj C dx)
 ns:h.Ns1 dx mA
 ne:dx≠x
set_option tactic.hygienic true in
def Y8{dx:Addr}(n:h.Ns1 dx mA):∃od,h.get? dx=some od/\∀name,lookIn name od=some (mA name):=by
 let⟨o,es,ep,ho,hd,hk,_,hm⟩:=n;show⟨o,ho,λname=>?_⟩;let e:=hm name;unfold nsFind findBy at e;rw[<-Array.find?_toList]at e;unfold lookIn;rw[hd];lk;split
 ·rename_i y q;rw[q]at e;show congrArg some e
 ·rename_i q;rw[q]at e;let a:es.toList.any (·.refKey)=false:=by
   rw[List.any_eq_false];intro y hy;let⟨z,t,hkey⟩:=hk y (Array.mem_toList_iff.mp hy);simp[DictEntry.refKey,hkey]
  let a':¬es.toList.any (·.refKey)=true:=by rw[a];show cL
  rw[aA a'];show congrArg some e
def Vw.look{x dx C:Addr}(I:Vw h x dx C mA):∃od,PySem.W.InstAt h x (instObj C dx) C (some od)/\∀name,lookIn name od=some (mA name) :=
 let⟨od,ho,hl⟩:=Y8 I.ns
 ⟨od,⟨I.obj,Z,Z,ho⟩,hl⟩
section
variable{prog:Program}{w:World}{E:∅}{s:Shared}{x dx C f:Addr}{name:Str}{v:Value}
def get_map{expr:Bool}{Q:∅}(X:K.In s.heap)(I:Vw s.heap x dx C mA)(hg:PySem.W.plainGet K C name=true)(hh:PySem.W.hasDictIn K C=true)
  (ha:findIn K (.ref C) name=some none) (hv:mA name=some v) (hv':PySem.W.handedIn v=true) (h:Q v { s with toks:=s.toks+1}) :
  ∎ (getAttr (.ref x) name expr) Q E s:=by
 let⟨od,Z97,hl⟩:=I.look;show PySem.W.get_value X Z97 (Uv hg).1 (PySem.W.findObj_own hh ha Z (by rw[hl,hv])) hv' h
def ď{Q:Value×aw->Shared->Prop}(X:K.In s.heap)(I:Vw s.heap x dx C mA)(hg:PySem.W.plainGet K C name=true)
  (hf:findIn K (.ref C) name=some ⇑f) (ht:isFn K (.ref f)=true) (hv:mA name=none) (h:Q (.ref f,[.ref x]) s) :
  ∎ (getMethod (.ref x) name pl) Q E s:=by
 let⟨od,Z97,hl⟩:=I.look;show PySem.W.method_fn X Z97 (Uv hg).1 (Uv hg).2 hf (Hs.mp ht) (by show(lookIn name od).map (·.isSome)=some false;rw[hl,hv];rfl) h
def a0z{ns:ag}{Q:Unit->Shared->Prop}(X:K.In s.heap)(I:Vw s.heap x dx C mA)
  (hs:findIn K (.ref C) "__setattr__" = some (some (.builtin "object.__setattr__"))) (hp:PySem.W.plainOver K C=true) (ht:PySem.W.takerIn K C name=some none) (hh:PySem.W.hasDictIn K C=true)
  (hw:PySem.Within mA ns) (hsz:ns.length<=sizeLine)
  (h:∀h',Vw h' x dx C (λy=>if y=name then some v else mA y)->Heap.SameBut dx s.heap h'->Q ⟨⟩ { s with heap:=h',toks:=s.toks+2}) :
  ∎ (setAttr (.ref x) name v) Q E s:=by
 let⟨od,Z97,hl⟩:=I.look;show PySem.W.set_plain X Z97 hs (PySem.W.osa_open (s:={ s with toks:=s.toks+1}) (r:=none) X Z97 hp ht λb=>?_);let⟨cd,hc,hd'⟩:=PySem.W.any_some hh;let hx:s^^^x=some ⟨.ref C,some dx,.plain,#[]⟩:=I.obj;show M (ao (M (M (wpAny_loadPart hx (M (PySem.W.Looks.here (s:={ s with toks:=s.toks+1}) (PySem.W.looks_clsIn X hc) ?_))))));rw[hd'];show ao (a:=some dx) (M (ao (M (wpAny_nsSet1 (s:={ s with toks:=s.toks+1}) I.ns λh' hn2 hs2=>?_))));let⟨oD,esD,epD,hoD,hdD,hcD⟩:=hn2.count (PySem.Within.cons name v hw);show M (wpAny_lookBehind hoD (by rw[hdD];show pastItsLine_dict (cC hcD (by rw[iM];omega))) ?_);show ao (h _ ⟨(hs2.2 _ (Ne.symm I.ne)).trans I.obj,hn2,I.ne⟩ hs2)
def Đ{R:Result->Shared->Prop}{vs:aw}(X:K.In s.heap)(hm:PySem.W.makesIn K C=true)
  (hi:findIn K (.ref C) "__init__" = some ⇑f) (hf:PySem.W.typeIn K (.ref f)=some (.type "function"))
  (h:codeAny (model prog w) (A.under (.builtin "type.__call__" ⟨.ref C::vs,kw⟩)) (.call (.ref f) ⟨.ref (s⁻¹+1)::vs,kw⟩) (PySem.W.InitBack (s⁻¹+1) R)
   (s•(s.heap.push emptyDict).push (instObj C s⁻¹))) :
  codeAny (model prog w) A (.call (.ref C) ⟨vs,kw⟩) R s:=by
 let⟨hh,g,d,t,os⟩:=s;show PySem.W.make_core (PySem.W.makes_of X hm) (PySem.W.looks_findIn X hi) (λself=>PySem.W.bind_fn X self hf) (.inl Z) h
end
noncomputable def vK(f:Str)(v:V):be->be
 | []=>[(f,v)]
 |(g,x)::r=>if g=f then(g,v)::r else(g,x)::vK f v r
theorem Ek(f g:Str)(v:V):∀fs:be,(vK f v fs).lookup g=if g=f then some v else fs.lookup g
 | []=>by
  show List.lookup g [(f,v)]=_
  by_cases h:g=f
  ·let hb:(g==f)=true:=Hs.mpr h
   simp only[List.lookup,hb,if_pos h]
  ·let hb:(g==f)=false:=qC.mpr h
   simp only[List.lookup,hb,if_neg h]
 |(k,x)::r=>by
  let ih:=Ek f g v r
  rw[show vK f v ((k,x)::r)=(if k=f then(k,v)::r else(k,x)::vK f v r)from rfl]
  by_cases hk:k=f
  ·rw[aD hk]
   by_cases h:g=k
   ·let hb:(g==k)=true:=Hs.mpr h
    simp only[List.lookup,hb,if_pos (h.trans hk)]
   ·let hb:(g==k)=false:=qC.mpr h
    simp only[List.lookup,hb,if_neg (λe:g=f=>h (e.trans hk.symm))]
  ·rw[aA hk]
   by_cases h:g=k
   ·let hb:(g==k)=true:=Hs.mpr h
    simp only[List.lookup,hb,if_neg (λe:g=f=>hk (h.symm.trans e))]
   ·let hb:(g==k)=false:=qC.mpr h
    simp only[List.lookup,hb]
    show ih
theorem Dg(f:Str)(v:V):∀fs:be,f∈(vK f v fs).map (·.1)/\∀g,g∈fs.map (·.1)->g∈(vK f v fs).map (·.1)
 | []=>⟨by simp[vK],λg h=>by simp at h⟩
 |(k,x)::r=>by
  let⟨i1,i2⟩:=Dg f v r
  rw[show vK f v ((k,x)::r)=(if k=f then(k,v)::r else(k,x)::vK f v r)from rfl]
  by_cases hk:k=f
  ·rw[aD hk]
   subst hk
   show⟨by simp,λg h=>by simpa using h⟩
  ·rw[aA hk]
   show⟨?_,λg h=>?_⟩
   ·rw[cA]
    show bH _ i1
   ·rw[cA]at h ⊢
    rcases bT.mp h with e|e
    ·show bT.mpr (.inl e)
    ·show bH _ (i2 g e)
theorem El(f:Str)(v:V):∀fs:be,(vK f v fs).length<=fs.length+1
 | []=>by simp[vK]
 |(k,x)::r=>by
  let ih:=El f v r
  rw[show vK f v ((k,x)::r)=(if k=f then(k,v)::r else(k,x)::vK f v r)from rfl]
  by_cases hk:k=f
  ·rw[aD hk,iM,iM];omega
  ·rw[aA hk,iM,iM];omega
def oN.some_of{v:V}{o:Option Value}(r:oN (some v) o):∃u,o=some u/\cZ v u:=by
 cases o with
 |none=>show(show False from r).elim
 |some u=>show⟨u,Z,r⟩
def oN.none_of{o:Option Value}(r:oN none o):o=none:=by
 cases o with
 |none=>rfl
 |some u=>show(show False from r).elim
def Y9{v:V}{u:Value}(r:cZ v u):PySem.W.handedIn u=true:=by
 cases v with
 |non=>cases(show u=Value.none from r);rfl
 |bl b=>cases(show u=Value.bool b from r);rfl
 |int i=>let⟨t,e⟩:=(show ∃t,u=Value.int i t from r);cases e;rfl
 |str x=>let⟨t,e⟩:=(show ∃t,u=Value.str x t from r);cases e;rfl
 |Xq b=>let⟨t,e⟩:=(show ∃t,u=Value.bytes b t from r);cases e;rfl
 |flt b=>let⟨t,e⟩:=(show ∃t,u=Value.float b t from r);cases e;rfl
 |ref a=>cases(show u=Value.ref a from r);rfl
 |ty n=>cases(show u=Value.type n from r);rfl
section
variable{P:Program}{w:World}{H H':Hp}{a C dx:Addr}{fs fs':be}
def Gd(hok:xW P w H h)(e:H a=some (.ins C dx fs)):∃mA,Vw h a dx C mA/\(∀f,oN (fs.lookup f) (mA f))/\PySem.Within mA (fs.map (·.1))/\fs.length<=1000/\H dx=some (.own a):=by
 let⟨d,z,ne,ob,mA,n,r,q⟩:=(show fB P w H h a (.ins C dx fs)from hok a _ e);show⟨mA,⟨ob,n,ne⟩,r,q,z,d⟩
end
structure Cls(K:aH)(C:Addr):Prop where
 pg:PySem.W.plainGet K C Str.empty=true
 hd:PySem.W.hasDictIn K C=true
 po:PySem.W.plainOver K C=true
 sa:findIn K (.ref C) "__setattr__" = some (some (.builtin "object.__setattr__"))
def Cls.get{C:Addr}(c:Cls K C)(f:Str):PySem.W.plainGet K C f=true:=c.pg
def jC(K:aH)(C:Addr)(f:Str):Prop:=findIn K (.ref C) f=some none
def jC.taker{C:Addr}{f:Str}(n:jC K C f):PySem.W.takerIn K C f=some none:=by
 unfold PySem.W.takerIn;rw[show findIn K (.ref C) f=some none from n];rfl
structure Meth(K:aH)(C:Addr)(m:Str)(f:Addr):Prop where
 at_:findIn K (.ref C) m=some ⇑f
 fn:isFn K (.ref f)=true
 kp:keepIn K (.ref f)=true
section
variable{X:Cx}{Y:aE}{σ:St}{H:Hp}{s:Shared}{a C dx:Addr}{fs:be}{f:Str}{v:V}{E:∅}
def Vx{b:Bool}{Q:∅}(I:bF X Y σ H s)(e:H a=some (.ins C dx fs))(c:Cls X.K C)(n:jC X.K C f)(l:fs.lookup f=some v)
  (h:∀u s',bF X Y σ H s'->cZ v u->Q u s'):wpAny (model X.prog X.w) A (getAttr (.ref a) f b) Q E s:=by
 let⟨mA,Z96,r,_,_,_⟩:=Gd I.hok e;let⟨u,hu,ru⟩:=oN.some_of (v:=v) (o:=mA f) (by rw[<-l];show r f);show get_map I.Cq Z96 (c.get f) c.hd n hu (Y9 ru) (h u _ (I.tok _) ru)
def Vy{m:Str}{g:Addr}{Q:Value×aw->Shared->Prop}(I:bF X Y σ H s)(e:H a=some (.ins C dx fs))(c:Cls X.K C)(k:Meth X.K C m g)(l:fs.lookup m=none)
  (h:Q (.ref g,[.ref a]) s):wpAny (model X.prog X.w) A (getMethod (.ref a) m pl) Q E s:=by
 let⟨mA,Z96,r,_,_,_⟩:=Gd I.hok e;let hn:mA m=none:=oN.none_of (by rw[<-l];show r m);show ď I.Cq Z96 (c.get m) k.at_ k.fn hn h
def Vz{y:V}{u:Value}{Q:Unit->Shared->Prop}(I:bF X Y σ H s)(e:H a=some (.ins C dx fs))(c:Cls X.K C)(n:jC X.K C f)(hl:fs.length<1000)(ry:cZ y u)
  (h:∀s',bF X Y σ (cX H a (.ins C dx (vK f y fs))) s'->Q ⟨⟩ s'):wpAny (model X.prog X.w) A (setAttr (.ref a) f u) Q E s:=by
 let⟨mA,Z96,r,wi,_,ho⟩:=Gd I.hok e;let hz:(fs.map (·.1)).length<=sizeLine:=by rw[aJ,gK];omega
 show a0z I.Cq Z96 c.sa c.po n.taker c.hd wi hz λh' O' sb=>h _ ?_;let hd:∃o,h'.get? dx=some o:=let⟨o,_,_,e',_⟩:=O'.ns;⟨o,e'⟩
 show I.write (x:=a) (e:=dx) (by rw[e];show lW) (.inr ho) (λb q hb z=>(sb.2 b hb).trans z) hd ?_;show⟨by rw[aQ Z96.ne];show ho,?_,Z96.ne,O'.obj,_,O'.ns,λg=>?_,λg hg=>?_⟩
 ·let:=El f y fs;omega
 ·show oN ((vK f y fs).lookup g) (if g=f then some u else mA g);rw[Ek];by_cases q:g=f
  ·rw[aD q,aD q];show ry
  ·rw[aA q,aA q];show r g
 ·by_cases q:g=f
  ·rw[q];show(Dg f y fs).1
  ·show(Dg f y fs).2 g (wi g λz=>hg ?_);show(if g=f then some u else mA g)=none;rw[aA q];show z
def bF.made(I:bF X Y σ H s):bF X Y σ (cX (cX H s⁻¹ (.own (s⁻¹+1))) (s⁻¹+1) (.ins C s⁻¹ []))
  (s•(s.heap.push emptyDict).push (instObj C s⁻¹)):=by
 let e1:(s.heap.push emptyDict).get? s⁻¹=some emptyDict:=cB s.heap rfl;let e2:((s.heap.push emptyDict).push (instObj C s⁻¹)).get? (s⁻¹+1)=some (instObj C s⁻¹):=by
  let:=cB (s.heap.push emptyDict) (o:=instObj C s⁻¹) rfl
  rwa [oK]at this
 let e3:(s.heap.push emptyDict).Ns s⁻¹ (λ_=>none):=⟨emptyDict,#[],_,e1,Z,(λe he=>absurd he (by simp)),λ_=>rfl⟩;let I1:=I.laid (a:=s⁻¹) (o:=.own (s⁻¹+1)) (h':=s.heap.push emptyDict) (t':=s.toks) (λb u q=>bM _ q) (aK _) ⟨_,e1⟩;show I1.laid (a:=s⁻¹+1) (o:=.ins C s⁻¹ []) (t':=s.toks) (λb u q=>bM _ q) (Ob (oK _ _)) ?_;let ne:s⁻¹≠s⁻¹+1:=b7 (wO _);show⟨by rw[aQ ne,dw],dG _,ne,e2,λ_=>none,(Heap.Ns1.of_empty e3).at λo q=>bM _ q,λ_=>lW,λy hy=>absurd Z hy⟩
def a0A{prog:Program}{w:World}{env:Env}{f:Str}{s:Shared}{Q:∅}(hb:attributeBase e f env (eval e env)=eval e env)
  (h:∎ (eval e env) (λo s₁=>∎ (getAttr o f true) Q E s₁) E s):∎ (eval (.Attribute e f pos) env) Q E s :=
 Attribute_any_ h (by rw[arm_eval_Attribute,hb])
end
inductive a5U(K:aH)(f:Str)(x:V)(H1:Hp)(Q:VK):Prop
 |mk (a C dx fs v:_) (_:x=.ref a) (_:H1 a=some (.ins C dx fs)) (_:Cls K C) (_:jC K C f) (_:fs.lookup f=some v) (_:Q v H1)
noncomputable def a5V(K:aH)(ta:TE)(f:Str):TE:=λσ H Q=>ta σ H λx H1=>a5U K f x H1 Q
inductive a5W(K:aH)(f:Str)(y x:V)(σ:St)(H2:Hp)(Q:St->Hp->Prop):Prop
 |mk (a C dx fs:_) (_:x=.ref a) (_:H2 a=some (.ins C dx fs)) (_:Cls K C) (_:jC K C f) (_:fs.length<1000) (_:Q σ (cX H2 a (.ins C dx (vK f y fs))))
noncomputable def a74(K:aH)(ta tv:TE)(f:Str):TS:=λD σ H=>tv σ H λy H1=>ta σ H1 λx H2=>a5W K f y x σ H2 D.nx
section
variable{X:Cx}{o value:Expr}{f:Str}{pos' tpos:Pos}{tv:TE}
def a3G(he:PE X e ta)(hb:attributeBase e f X.env (eval e X.env)=eval e X.env):PE X (.Attribute e f pos) (a5V X.K ta f):=by
 intro Y s σ H Q I h;show a0A hb (jr (he Y s σ H _ I h) λu s1 ⟨x,H1,I1,rx,a,C,dx,fs,v,ex,ea,c,n,l,q⟩=>?_);subst ex;obtain rfl:u=Value.ref a:=rx;show Vx I1 ea c n l λu' s2 I2 ru=>⟨v,H1,I2,ru,q⟩
def Hx(ha:PE X o ta)(hv:PE X value tv)(hs:swapsWith value (some (.Attribute o f pos')) pos.line X.env=pure false):PS X (.Assign [.Attribute o f pos'] value pos) (a74 X.K ta tv f):=by
 intro Y s σ H D I h;show plainObj_wpAny_Assign_Attribute (jr (hv Y s σ H _ I h) λu s1 ⟨y,H1,I1,ry,q⟩=>jr (ha Y s1 σ H1 _ I1 q) λov s2 ⟨x,H2,I2,rx,a,C,dx,fs,ex,ea,c,n,l,q2⟩=>?_) hs;subst ex;obtain rfl:ov=Value.ref a:=rx;show Vz I2 ea c n l ry λs3 I3=>⟨σ,_,I3,q2⟩
end
section
variable{X:Cx}{Y:aE}{σ:St}{H:Hp}{s:Shared}{E:∅}{Q:∅}{c:Value}{b:Bool}
inductive rZ(K:aH)(H:Hp):V->Value->Prop where
 |non:rZ K H .non (.type "NoneType")
 |bl (x:Bool):rZ K H (.bl x) (.type "bool")
 |int (i:Int):rZ K H (.int i) (.type "int")
 |str (x:Str):rZ K H (.str x) (.type "str")
 |flt (x:UInt64):rZ K H (.flt x) (.type "float")
 |lst {a:Addr}{xs:af} (e:H a=↥xs):rZ K H (.ref a) (.type "list")
 |iw {a:Addr}{o:Obj}{xs:af} (e:H a=some (.iw o (.lst xs))):rZ K H (.ref a) (.type "list")
 |tup {a:Addr}{xs:af} (e:H a= ~~~xs):rZ K H (.ref a) (.type "tuple")
 |dK {a:Addr}{J:List (Key×V)} (e:H a=some (.dK J)):rZ K H (.ref a) (.type "dict")
 |dT {a:Addr}{J:List (aS×V)} (e:H a=some (.dT J)):rZ K H (.ref a) (.type "dict")
 |ins {a C dx:Addr}{fs:be} (e:H a=some (.ins C dx fs)) (cl:Cls K C) (ha:findIn K (.ref C) "__class__" = some (some (.builtin "object.__class__")))
   (hn:PySem.W.specialIn K (.builtin "object.__class__") "__get__" = some (some (.builtin "getset_descriptor.__get__"))) (htk:PySem.W.takesIn K (.builtin "object.__class__")=some true)
   (hm:PySem.W.mroIn K C (.type "object")=some true):rZ K H (.ref a) (.ref C)
def Za{x:V}{u t:Value}(I:bF X Y σ H s)(rx:cZ x u)(ty:rZ X.K H x t)(e:kitOne X.K t c=some b)(h:∀tk,Q (.bool b) { s with toks:=tk}) :
  wpAny (model X.prog X.w) A (call (.builtin "isinstance") [u,c]) Q E s:=by
 cases ty with
 |non=>cases(show u=Value.none from rx);show rP PySem.W.kitx_none I.Cq lW e (λz=>nomatch z) h
 |bl y=>cases(show u=Value.bool y from rx);show rP PySem.W.kitx_bool I.Cq lW e (λz=>nomatch z) h
 |int i=>let⟨t,q⟩:=(show ∃t,u=Value.int i t from rx);cases q;show rP PySem.W.kitx_int I.Cq lW e (λz=>nomatch z) h
 |str y=>let⟨t,q⟩:=(show ∃t,u=Value.str y t from rx);cases q;show rP PySem.W.kitx_str I.Cq lW e (λz=>nomatch z) h
 |flt y=>let⟨t,q⟩:=(show ∃t,u=Value.float y t from rx);cases q;show rP PySem.W.kitx_float I.Cq lW e (λz=>nomatch z) h
 | @lst a xs ea =>
  cases(show u=Value.ref a from rx);let⟨_,_,n,_,h1⟩:=(show fB X.prog X.w H s.heap a (.lst xs)from I.hok a _ ea);show rP PySem.W.kitx_list I.Cq ⟨_,h1,Z⟩ e (λz=>nomatch z) h
 | @iw a ob xs ea =>
  cases(show u=Value.ref a from rx);let⟨_,_,_,n,_,h1⟩:=(show fB X.prog X.w H s.heap a (.iw ob (.lst xs))from I.hok a _ ea);show rP PySem.W.kitx_list I.Cq ⟨_,h1,Z⟩ e (λz=>nomatch z) h
 | @tup a xs ea =>
  cases(show u=Value.ref a from rx);let⟨_,_,_,p⟩:=(show fB X.prog X.w H s.heap a (.tup xs)from I.hok a _ ea);let⟨o,h1,h2,_⟩:=p;show rP PySem.W.kitx_tuple I.Cq ⟨o,h1,h2⟩ e (λz=>nomatch z) h
 | @dK a J ea =>
  cases(show u=Value.ref a from rx);let⟨_,_,vs,_,p⟩:=(show fB X.prog X.w H s.heap a (.dK J)from I.hok a _ ea);let⟨o,es,ep,h1,h2,_⟩:=p;show rP PySem.W.kitx_dict I.Cq ⟨o,h1,h2.1⟩ e (λz=>nomatch z) h
 | @dT a J ea =>
  cases(show u=Value.ref a from rx);let⟨_,_,xs,_,o,es,ep,h1,h2,_⟩:=(show fB X.prog X.w H s.heap a (.dT J)from I.hok a _ ea);show rP PySem.W.kitx_dict I.Cq ⟨o,h1,h2.1⟩ e (λz=>nomatch z) h
 | @ins a C dx fs ea cl ha hn htk hm =>
  cases(show u=Value.ref a from rx);let⟨mA,Z96,_⟩:=Gd I.hok ea;let⟨od,Z97,_⟩:=Z96.look;show rP (PySem.W.kitx_own (cl.get _) cl.hd ha hn htk hm) I.Cq Z97 e (λz=>nomatch z) h
end
structure qR(k:Nat)(A:Around):Prop where
 hd:A.handled=none
 dp:A.depth+3*k+5<recursionLimit
 un:A.units+16*k+200<cLine
def qR.mono{j:Nat}(r:qR k A)(h:j<=k):qR j A:=⟨r.hd,by let:=r.dp;omega,by let:=r.un;omega⟩
def qR.deeper{k:Nat}{A:Around}(r:qR (k+1) A)(env:Env):qR k (A.deeper env) :=
 ⟨r.hd,by let:=r.dp;show A.depth+1+3*k+5<_;omega,by let:=r.un;show A.units+3+16*k+200<_;omega⟩
def VB{C:Addr}{us:aw}:(A.under (.builtin "type.__call__" ⟨.ref C::us,kw⟩)).depth=A.depth+1:=by
 first|rfl|simp[Around.under,Code.weight,Code.isCreation,Code.isGuard,Code.isCaller,Code.frames,Code.isFrame,guardIds]
def VD{C:Addr}{us:aw}:(A.under (.builtin "type.__call__" ⟨.ref C::us,kw⟩)).units=A.units+1:=by
 first|rfl|simp[Around.under,Code.cUnits,Code.frames,Code.isFrame]
def qR.make(r:qR (k+1) A)(C:Addr)(us:aw)(kw:List (Str×Value)):qR k (A.under (.builtin "type.__call__" ⟨.ref C::us,kw⟩)) :=
 ⟨r.hd,by let:=r.dp;rw[VB];omega,by let:=r.un;rw[VD];omega⟩
def qR.depth{k:Nat}{A:Around}(r:qR k A):A.depth<recursionLimit:=by let:=r.dp;omega
noncomputable def a0B:TA:=λ_ H Q=>Q [] H
noncomputable def Qz(ta:TE)(tr:TA):TA:=λσ H Q=>ta σ H λx H1=>tr σ H1 λxs H2=>Q (x::xs) H2
section
variable{X:Cx}{t:TA}
def aj:PA X [] a0B:=λ_ _ _ _ H Q I h=>Calls.spliced_nil ⟨[],H,I,.nil,h⟩
def O(ha:PE X e te)(hr:PA X es t)(hs:@&(starEach (e::es) X.env=(false,eval e X.env)::starEach es X.env)):PA X (e::es) (Qz te t):=by
 intro pos Y s σ H Q I h;rw[hs];show wpAny _ _ (spliced ((false,eval e X.env)::backTo pos (starEach es X.env))) _ _ s;show Calls.spliced_cons (jr (ha Y s σ H _ I h) λu s1 ⟨x,H1,I1,r1,q1⟩=>jr (hr pos Y s1 σ H1 _ I1 q1) λus s2 ⟨xs,H2,I2,r2,q2⟩=>⟨x::xs,H2,I2,.cons r1 r2,q2⟩)
end
abbrev Sp:=af->Hp->VK->XK->Prop
abbrev TF:=List Env->Hp->Shared->XK->∅
structure VF(P:Program)(w:World)(K:aH)(mg:Str->Option Value)(base:Heap)(A:Around)(outer:List Env)(s:Shared)(H:Hp):Prop where
 frames:A.frames=some outer
 mod:Mod K mg base
 bs:∀b o,base.get? b=some o->s^^^b=some o/\H b=none
 bsz:base.objs.size<=s⁻¹
 zY:s.heap.FunFrames base outer
 frf:∀b∈frs outer,H b=none
 hok:xW P w H s.heap
 bare:AllBare s.gens
inductive CE(outer:List Env)(P:Program)(w:World)(H:Hp)(s:Shared)(Q:VK)(u:Value)(s':Shared):Prop
 |mk (v H':_) (_:s'.os=s.os) (_:AllBare s'.gens) (_:Un (frs outer) [] H H' s.heap s'.heap) (_:xW P w H' s'.heap) (_:cZ v u) (_:Q v H')
def CR(CX:TF)(outer:List Env)(P:Program)(w:World)(H:Hp)(s:Shared)(Q:VK)(E:XK)(r:Result)(s':Shared):Prop :=
 match r with
 |.ok (.ret u)=>CE outer P w H s Q u s'
 |.ok _=>False
 |.error e=>CX outer H s E e s'
structure bG(P:Program)(w:World)(K:aH)(mg:Str->Option Value)(base:Heap)(CX:TF)(k:Nat)(f:Addr)(fd:FuncData)(ps:ag)(sp:Sp):Prop where
 len:∀vs H Q E,sp vs H Q E->vs.length=ps.length
 run:∀(A:Around) (outer:List Env) (s:Shared) (H:Hp) (args:Args) (us:aw) (vs:af) (Q:VK) (E:XK),qR k A->VF P w K mg base A outer s H->BindsTo s fd args (ps.zip us)->cN vs us->sp vs H Q E->
  codeAny (model P w) A (.call (.ref f) args) (CR CX outer P w H s Q E) s
def bG.mono{P:Program}{w:World}{K:aH}{mg:Str->Option Value}{base:Heap}{CX:TF}{j k:Nat}{f:Addr}{fd:FuncData}{ps:ag}{sp:Sp}(F:bG P w K mg base CX j f fd ps sp)(h:j<=k) :
  bG P w K mg base CX k f fd ps sp:=⟨F.len,λA outer s H args us vs Q E hr=>F.run A outer s H args us vs Q E (hr.mono h)⟩
def VF.make{P:Program}{w:World}{outer:List Env}{s:Shared}{H:Hp}(e:VF P w K mg base A outer s H)(C:Addr)(us:aw)(kw:List (Str×Value)) :
  VF P w K mg base (A.under (.builtin "type.__call__" ⟨.ref C::us,kw⟩)) outer s H:=⟨by first|exact e.frames|(simpa [Around.under,Code.envs,Code.isFrame,pushEnvs]using e.frames),e.mod,e.bs,e.bsz,e.zY,e.frf,e.hok,e.bare⟩
section
variable{X:Cx}{Y:aE}{σ:St}{H:Hp}{s s':Shared}
def bF.env0(I:bF X Y σ H s):VF X.prog X.w X.K X.mg X.base X.A X.stack s H :=
 ⟨I.ok.frames,I.ok.mod,I.bs,cC I.ok.bsz I.sz,I.stack,I.Xu,I.hok,I.bare⟩
def bF.after{Q:VK}{u:Value}(I:bF X Y σ H s)(h:CE X.stack X.prog X.w H s Q u s'):EP X Y σ Q u s':=by
 let⟨v,H',os,bare,un,hok,r,q⟩:=h;let⟨hh,g,d,t,os'⟩:=s';obtain rfl:os'=s.os:=os;show⟨v,H',I.call (h':=hh) (g':=g) (d':=d) (t':=t) (ch:=[]) un hok bare (λb z=>absurd z (by simp)),r,q⟩
end
noncomputable def a2J(sp:Sp)(JL:af)(E:XK)(t:TA):TE:=λσ H Q=>t σ H λvs H1=>sp (vs++JL) H1 Q E
inductive a3H(C:Addr)(m:Str)(x:V)(H1:Hp)(Q:Prop):Prop
 |mk (a dx fs:_) (_:x=.ref a) (_:H1 a=some (.ins C dx fs)) (_:fs.lookup m=none) (_:Q)
noncomputable def a5X(C:Addr)(m:Str)(sp:Sp)(JL:af)(E:XK)(ta:TE)(t:TA):TE:=λσ H Q=>ta σ H λx H1=>a3H C m x H1 (t σ H1 λvs H2=>sp (x::(vs++JL)) H2 Q E)
def a5Y(C:Addr)(sp:Sp)(JL:af)(E:XK)(t:TA):TE:=λσ H Q=>t σ H λvs H1=>∀x dx,H1 x=none->H1 dx=none->dx≠x->
 sp (.ref x::(vs++JL)) (cX (cX H1 dx (.own x)) x (.ins C dx [])) (λv H2=>v=.non/\Q (.ref x) H2) E
def Binds(K:aH)(fd:FuncData)(ps:ag)(ds:aw):Prop :=
 ∀(s:Shared) (us:aw),K.In s.heap->(us++ds).length=ps.length->BindsTo s fd ⟨us,[]⟩ (ps.zip (us++ds))
def Binds.all{fd:FuncData}{ps:ag}(h:∀us:aw,us.length=ps.length->bindArgs fd ⟨us,[]⟩=pure (ps.zip us)):Binds K fd ps []:=λs us _ hl=>by
 rw[jB]at hl ⊢;show .of_eq (h us hl)
def zx(CX:TF)(X:Cx)(E:XK):Prop:=∀(Y:aE) (σ:St) (H:Hp) (s:Shared) (e:Value) (s':Shared),bF X Y σ H s->CX X.stack H s E e s'->X.xe e s'
section
variable{X:Cx}{CX:TF}{f C:Addr}{fd:FuncData}{ps:ag}{sp:Sp}{JL:af}{ds:aw}{E:XK}{x m:Str}{apos:Pos}{o:Expr}{t:TA}
def VG{Y:aE}{σ:St}{H:Hp}{s:Shared}{Q:VK}{us:aw}{vs:af}(F:bG X.prog X.w X.K X.mg X.base CX k f fd ps sp)(hr:qR k X.A)(hb:Binds X.K fd ps ds)(hd:cN JL ds)(hx:zx CX X E)
  (I:bF X Y σ H s) (r:cN vs us) (h:sp (vs++JL) H Q E):wpAny (model X.prog X.w) X.A (call (.ref f) us) (EP X Y σ Q) X.xe s:=by
 let r2:cN (vs++JL) (us++ds):=r.append hd;let hl:(us++ds).length=ps.length:=by rw[<-r2.length];show F.len _ _ _ _ h
 show wpAny_call (CZ (F.run X.A X.stack s H ⟨us,[]⟩ (us++ds) (vs++JL) Q E hr I.env0 (hb s us I.Cq hl) r2 h) λr s' hq=>?_);cases r with
 |error e=>show hx Y σ H s e s' I hq
 |ok fl =>
  cases fl with
  |ret u=>show I.after hq
  |next=>show False.elim hq
  |brk=>show False.elim hq
  |cont=>show False.elim hq
def aY(F:bG X.prog X.w X.K X.mg X.base CX k f fd ps sp)(hr:qR k X.A)(hg:Gl X x)(hm:X.mg x=⇑f)(hk:keepIn X.K (.ref f)=true)(hb:Binds X.K fd ps ds)(hd:cN JL ds)(hx:zx CX X E)
  (ha:PA X (e::es) t) (hdb:@&((x==("__debug__" : Str))=false)) (he:@&(starEach (e::es) X.env=(false,eval e X.env)::starEach es X.env)) (hpl:@&((backTo pos (starEach es X.env)).any (·.1)=false)) :
  PE X (.Call (.Name x p) (e::es) [] pos) (a2J sp JL E t):=by
 intro Y s σ H Q I h;show vB (zZ I hg hm (M7 (h₀:=X.base) I.ok.mod.kin hk (jr (ha pos Y s σ H _ I h) λus s1 ⟨vs,H1,I1,r,q⟩=>⟨I1.Cq,VG F hr hb hd hx I1 r q⟩) he hpl) hdb)
def vL(he:PE X o ta)(c:Cls X.K C)(hm:Meth X.K C m f)(F:bG X.prog X.w X.K X.mg X.base CX k f fd ps sp)(hr:qR k X.A)(hb:Binds X.K fd ps ds)(hd:cN JL ds)(hx:zx CX X E)(ha:PA X (e::es) t)
  (hst:@&(starEach (e::es) X.env=(false,eval e X.env)::starEach es X.env)) (hpl:@&((backTo pos (starEach es X.env)).any (·.1)=false))
  (ht:@&(eval (.Call (.Attribute o m apos) (e::es) [] pos) X.env=(do
   let ov <-eval o X.env
   standAt apos.atName
   let(f,first) <-holding [ov] (getMethod ov m pl)
   callWith pos f first (backTo pos (starEach (e::es) X.env)) (backToKw pos (keywordEach [] X.env))))) :
  PE X (.Call (.Attribute o m apos) (e::es) [] pos) (a5X C m sp JL E ta t):=by
 intro Y s σ H Q I h;show PySem.W.methodCall_KW (pl:=pl) (jr (he Y s σ H _ I h) λu s1 ⟨x,H1,I1,rx,a,dx,fs,ex,ea,l,q⟩=>?_) ht;subst ex;obtain rfl:u=Value.ref a:=rx;show Vy I1 ea c hm l (M7 (first:=[.ref a]) (h₀:=X.base) I.ok.mod.kin hm.kp (jr (ha pos Y s1 σ H1 _ I1 q) λus s2 ⟨vs,H2,I2,r,q2⟩=>⟨I2.Cq,VG (us:=.ref a::us) (vs:=.ref a::vs) F hr hb hd hx I2 (.cons Z r) q2⟩) hst hpl)
structure Mk(K:aH)(C f:Addr):Prop where
 makes:PySem.W.makesIn K C=true
 init:findIn K (.ref C) "__init__" = some ⇑f
 fn:isFn K (.ref f)=true
 kp:keepIn K (.ref C)=true
def đ{Y:aE}{σ:St}{H:Hp}{s:Shared}{Q:VK}{us:aw}{vs:af}(Z98:Mk X.K C f)(F:bG X.prog X.w X.K X.mg X.base CX k f fd ps sp)(hr:qR (k+1) X.A)(hb:Binds X.K fd ps ds)(hd:cN JL ds)
  (hx:zx CX X E) (I:bF X Y σ H s) (r:cN vs us)
  (h:∀x dx,H x=none->H dx=none->dx≠x->sp (.ref x::(vs++JL)) (cX (cX H dx (.own x)) x (.ins C dx [])) (λv H2=>v=.non/\Q (.ref x) H2) E) :
  wpAny (model X.prog X.w) X.A (call (.ref C) us) (EP X Y σ Q) X.xe s:=by
 let hq:=h (s⁻¹+1) s⁻¹ (I.hok.fresh (vJ _)) (I.hok.fresh (aK _)) (b7 (wO _));let I2:=bF.made (C:=C) I;let r2:cN (V.ref (s⁻¹+1)::(vs++JL)) (Value.ref (s⁻¹+1)::(us++ds)):=.cons Z (r.append hd);let hl:(Value.ref (s⁻¹+1)::us++ds).length=ps.length:=by
  let e:=r2.length;rw[F.len _ _ _ _ hq]at e;show e.symm
 show wpAny_call (Đ (f:=f) I.Cq Z98.makes Z98.init (Hs.mp Z98.fn) (CZ (F.run _ X.stack _ _ ⟨Value.ref (s⁻¹+1)::us,[]⟩ (Value.ref (s⁻¹+1)::(us++ds)) _ _ E (hr.make C us [])
  (I2.env0.make C us []) (hb _ (Value.ref (s⁻¹+1)::us) I2.Cq hl) r2 hq) λr s' hq'=>?_))
 cases r with
 |error e=>show hx Y σ _ _ e s' I2 hq'
 |ok fl =>
  cases fl with
  |ret u =>
   let⟨v,H',I3,rv,ev,q3⟩:=I2.after hq';subst ev;show⟨rv,⟨V.ref (s⁻¹+1),H',I3,Z,q3⟩⟩
  |next=>show False.elim hq'
  |brk=>show False.elim hq'
  |cont=>show False.elim hq'
def a0C(Z98:Mk X.K C f)(F:bG X.prog X.w X.K X.mg X.base CX k f fd ps sp)(hr:qR (k+1) X.A)(hg:Gl X x)(hm:X.mg x=⇑C)(hb:Binds X.K fd ps ds)(hd:cN JL ds)(hx:zx CX X E)
  (ha:PA X (e::es) t) (hdb:@&((x==("__debug__" : Str))=false)) (he:@&(starEach (e::es) X.env=(false,eval e X.env)::starEach es X.env)) (hpl:@&((backTo pos (starEach es X.env)).any (·.1)=false)) :
  PE X (.Call (.Name x p) (e::es) [] pos) (a5Y C sp JL E t):=by
 intro Y s σ H Q I h;show vB (zZ I hg hm (M7 (h₀:=X.base) I.ok.mod.kin Z98.kp (jr (ha pos Y s σ H _ I h) λus s1 ⟨vs,H1,I1,r,q⟩=>⟨I1.Cq,đ Z98 F hr hb hd hx I1 r q⟩) he hpl) hdb)
end
structure bR(N P:ag)(sc:Scope):Prop where
 kind:sc.kind=.function:=by rfl
 co:sc.isCoroutine=false:=by rfl
 gen:sc.isGenerator=false:=by rfl
 nd:N.Nodup:=by decide
 pre:N.take P.length=P:=by rfl
 par:∀x∈P,sc.names.lookup x=some .local\/sc.names.lookup x=some .cell:=by decide
 a3I:∀y∈sc.names,y.2≠.free:=by decide
theorem Kq{kindOf:Str->Option NameKind}{x:Str}:∀{binds:List (Str×Value)}{m:Str->Option Value},(∀v,(x,v)∉binds)->bindL kindOf binds m x=m x
 | [],_,_=>rfl
 |(n,v)::r,m,h=>by
  unfold bindL
  rw[Kq λw hw=>h w (bH _ hw)]
  split
  ·let:x≠n:=by rintro rfl;show h v aZ
   simp[this]
  ·rfl
theorem Kr{kindOf:Str->Option NameKind}{x:Str}:∀{binds:List (Str×Value)}{m:Str->Option Value},(∀v,(x,v)∉binds)->bindC kindOf binds m x=m x
 | [],_,_=>rfl
 |(n,v)::r,m,h=>by
  unfold bindC
  rw[Kr λw hw=>h w (bH _ hw)]
  split
  ·rfl
  ·let:x≠n:=by rintro rfl;show h v aZ
   simp[this]
theorem Ks{kindOf:Str->Option NameKind}{x:Str}{v:Value}:∀{P:ag}{vs:aw}{i:Nat}{m:Str->Option Value},P.Nodup->P[i]?=some x->vs[i]?=some v->kindOf x=some .local->
  bindL kindOf (P.zip vs) m x=some v
 | [],_,_,_,_,h,_,_=>by simp at h
 |_::_,[],_,_,_,_,h,_=>by simp at h
 |p::P,w::vs,0,m,nd,h1,h2,hk=>by
  simp at h1 h2;subst h1;subst h2
  show bindL kindOf ((p,w)::P.zip vs) m p=_
  unfold bindL
  rw[Kq λv hv=>(iQ.mp nd).1 (Vf hv).1,aD hk]
  simp
 |p::P,w::vs,i+1,m,nd,h1,h2,hk=>by
  show bindL kindOf ((p,w)::P.zip vs) m x=_
  unfold bindL
  show Ks (i:=i) (iQ.mp nd).2 (by simpa using h1) (by simpa using h2) hk
theorem Ku{kindOf:Str->Option NameKind}{x:Str}{v:Value}:∀{P:ag}{vs:aw}{i:Nat}{m:Str->Option Value},P.Nodup->P[i]?=some x->vs[i]?=some v->kindOf x≠some .local->
  bindC kindOf (P.zip vs) m x=some v
 | [],_,_,_,_,h,_,_=>by simp at h
 |_::_,[],_,_,_,_,h,_=>by simp at h
 |p::P,w::vs,0,m,nd,h1,h2,hk=>by
  simp at h1 h2;subst h1;subst h2
  show bindC kindOf ((p,w)::P.zip vs) m p=_
  unfold bindC
  rw[Kr λv hv=>(iQ.mp nd).1 (Vf hv).1,aA hk]
  simp
 |p::P,w::vs,i+1,m,nd,h1,h2,hk=>by
  show bindC kindOf ((p,w)::P.zip vs) m x=_
  unfold bindC
  show Ku (i:=i) (iQ.mp nd).2 (by simpa using h1) (by simpa using h2) hk
noncomputable def start(N:ag)(vs:af):St:=vs.map some++List.replicate (N.length-vs.length) none
noncomputable def VH(CX:TF)(P:Program)(w:World)(K:aH)(mg:Str->Option Value)(base:Heap)(N:ag)(qual:Str)(scope:Scope)(f:Addr)(cd:Value)(A:Around)(outer:List Env)(s:Shared)(H:Hp)(E:XK):Cx where
 prog:=P
 w:=w
 K:=K
 mg:=mg
 base:=base
 A:=A.deeper (envOfC qual scope s⁻¹ f cd)
 N:=N
 s₀:=s
 H₀:=H
 env:=envOfC qual scope s⁻¹ f cd
 outer:=outer
 stack:=envOfC qual scope s⁻¹ f cd::outer
 ex:=[]
 calm:=true
 fn:=λ_=>true
 pn:=[]
 xe:=λe s'=>wpAny (model P w) (A.deeper (envOfC qual scope s⁻¹ f cd)) (leaving (envOfC qual scope s⁻¹ f cd) e) (λ_ s''=>CX outer H s E e s'') (λe' s''=>CX outer H s E e' s'') s'
def QB{sc:Scope}{x:Str}(h:sc.names.lookup x=some .cell):∃c,(cellsFrom n sc.names []).lookup x=some c:=by
 let q:=PySem.W.cellsFrom_some sc.names n [] (.inl h);show ý.mp q
def Zb{CX:TF}{P:Program}{w:World}{ps:ag}{qual:Str}{scope:Scope}{f:Addr}{cd:Value}{outer:List Env}{s s1:Shared}{H:Hp}{E:XK}{us:aw}{vs:af}
  (S:bR N ps scope) (hd:A.handled=none) (e0:VF P w K mg base A outer s H) (hl:vs.length=ps.length) (r:cN vs us)
  (x:InCallC s s⁻¹ (bindL (envOfC qual scope s⁻¹ f cd).kindOf (ps.zip us) λ_=>none) (cellsFrom (s⁻¹+1) scope.names []) (bindC (envOfC qual scope s⁻¹ f cd).kindOf (ps.zip us) λ_=>none) s1) :
  bF (VH CX P w K mg base N qual scope f cd A outer s H E) [] (start N vs) H s1:=by
 let hpl:ps.length<=N.length:=by let:=congrArg List.length S.pre;rw[dN]at this;omega
 let⟨h1,tk,rfl,hk⟩:=x.done;let noA:∀b:Addr,b∉(VH CX P w K mg base N qual scope f cd A outer s H E).ex:=λb z=>absurd (show b∈([]:aI)from z) (by simp);show⟨⟨e0.mod,S.kind,Z,Z,aK _,λy z c h1 h2=>?_,λy hy=>?_,λy c _ h=>?_,λ_=>hd,Around.frames_deeper e0.frames,.inr ⟨Z,Z⟩,λb z=>absurd z (noA b),e0.bs,e0.bsz,λb _ _=>noA b,λb z=>absurd z (noA b),e0.zY,e0.frf⟩,
  rfl,e0.bare,Un.kept hk,⟨_,x.toInCall.ns,λi y v h1 h2 h3=>?_⟩,λy c h=>⟨_,x.cell y c h⟩,e0.hok.fresh (aK _),λy c h=>?_,λp hp=>absurd (show p∈([]:aE)from hp) (by simp),e0.hok.kept hk,?_⟩
 ·show name_of_addr x.apart (CK h1) (CK h2)
 ·let hy:scope.names.lookup y=some .cell\/scope.names.lookup y=some .free:=hy;rcases hy with hy|hy
  ·show QB hy
  ·show absurd Z (S.a3I _ (CK hy))
 ·show fC (x.above y c (CK h))
 ·let hi:i<vs.length:=by
   unfold start at h2;by_cases hi:i<vs.length
   ·show hi
   ·rw[wK (by simpa using hi)]at h2;rw[List.getElem?_replicate]at h2;split at h2<;>cases h2
  let ha:vs[i]?=some v:=by
   unfold start at h2;rw[yL (by simpa using hi),cV]at h2;cases e:vs[i]? with
   |none=>rw[e]at h2;cases h2
   |some a=>rw[e]at h2;cases h2;rfl
  let⟨u,hu,rv⟩:=r.get ha;let hp:ps[i]?=some y:=by
   rw[<-S.pre,List.getElem?_take_of_lt ()];show h1
  let ndP:ps.Nodup:=by rw[<-S.pre];show S.nd.sublist (GP _ _)
  show⟨u,rv,?_⟩;rcases S.par y (gU hp)with k|k
  ·show .inl ⟨k,Ks ndP hp hu k⟩
  ·let⟨c,e⟩:=QB (n:=s⁻¹+1) k;show .inr ⟨.inl k,c,e,?_⟩;let q:=x.cell y c e;rw[Ku ndP hp hu (by show scope.names.lookup y≠_;rw[k];decide)]at q;show q
 ·show e0.hok.fresh (fC (x.above y c (CK h)))
 ·unfold start;show _=N.length;rw[bK,aJ,List.length_replicate];omega
def a2K{CX:TF}{P:Program}{w:World}{f:Addr}{name qual:Str}{params:Arguments}{scope:Scope}{dV kV doc pm dZ ct oc:Value}{an od:Option Addr}
  {osl:Array (Option Value)}{ps:ag}{sp:Sp} (lk:K.lookup f=some ⟨oc,od,.func (fnOf name qual params body scope dV kV doc pm an dZ ct),osl⟩) (hcd:codeIn K dZ qual=true) (S:bR N ps scope)
  (len:∀vs H Q E,sp vs H Q E->vs.length=ps.length)
  (hbody:∀(A:Around) (outer:List Env) (s:Shared) (H:Hp) (vs:af) (Q:VK) (E:XK),qR k (A.deeper (envOfC qual scope s⁻¹ f dZ))->sp vs H Q E->
   ∃t,Qv (VH CX P w K mg base N qual scope f dZ A outer s H E) body t/\t { nx:=λ_ H'=>Q .non H',rt:=Q} (start N vs) H) :
  bG P w K mg base CX (k+1) f (fnOf name qual params body scope dV kV doc pm an dZ ct) ps sp:=by
 show⟨len,λA outer s H args us vs Q E hr e0 hb r hsp=>?_⟩;let hl:=len _ _ _ _ hsp;let KX:K.In s.heap:=e0.mod.kin.keeps λb o e=>(e0.bs b o e).1;let lim:s.heap.NoLimit:=e0.mod.nolimit.keeps λb o e=>(e0.bs b o e).1;let hkind:∀y∈ps.zip us,scope.names.lookup y.1=some .local\/(scope.names.lookup y.1=some .cell/\((cellsFrom (s⁻¹+1) scope.names []).lookup y.1).isSome=true):=λ⟨n,v⟩ hy=>by
  rcases S.par n (Vf hy).1 with q|q
  ·show .inl q
  ·show .inr ⟨q,PySem.W.cellsFrom_some _ _ _ (.inl q)⟩
 show codeAny_call_function hr.depth (KX _ _ lk) Z S.co S.gen Z (PySem.W.codeRec_of KX hcd) (hb _ _ _ _ (wpAny_newFunctionEnv_cells S.kind hkind λenv he s1 x=>?_));subst he;show⟨lim.keeps x.toInCall.keep,codeAny_func ?_⟩;let⟨t,ht,hq⟩:=hbody A outer s H vs Q E (hr.deeper _) hsp;let I:bF (VH CX P w K mg base N qual scope f dZ A outer s H E) [] (start N vs) H s1:=Zb S hr.hd e0 hl r x;show iJ (ht [] s1 (start N vs) H _ I hq) (λfl s' hs=>?_) λe s' hs=>hs;let fin:∀{σ':St}{H':Hp}{v:V}{u:Value},bF (VH CX P w K mg base N qual scope f dZ A outer s H E) [] σ' H' s'->cZ v u->Q v H'->CE outer P w H s Q u s' :=
  λ{σ' H' v u} Z97 rv q=>⟨v,H',Z97.os,Z97.bare,Z97.base,Z97.hok,rv,q⟩
 cases fl with
 |ret u =>
  let⟨v,σ',H',Z97,rv,q⟩:=hs;show fin Z97 rv q
 |next =>
  let⟨σ',H',Z97,q⟩:=hs;show fin (v:=V.non) (u:=Value.none) Z97 Z q
 |brk =>
  let⟨_,_,_,q⟩:=hs;show False.elim q
 |cont =>
  let⟨_,_,_,q⟩:=hs;show False.elim q
section
variable{X:Cx}{x:Str}{t:TA}{id T:String}{r:af->Hp->VK->Prop}
noncomputable def tCB(r:af->Hp->VK->Prop)(t:TA):TE:=λσ H Q=>t σ H λvs H1=>r vs H1 Q
def aW(hc:jE X (.builtin id) r)(hg:Gl X x)(hm:X.mg x=none)(hv:bootBuiltins x=some (.builtin id))(ha:PA X (e::es) t)(hn:@&(x≠ "__name__"))(hdb:@&((x==("__debug__" : Str))=false))
  (he:@&(starEach (e::es) X.env=(false,eval e X.env)::starEach es X.env)) (hpl:@&((backTo pos (starEach es X.env)).any (·.1)=false)):PE X (.Call (.Name x p) (e::es) [] pos) (tCB r t):=by
 intro Y s σ H Q I h;show vB (uo I hg hm hv (PyProof.Rows.callWith_builtin1 (jr (ha pos Y s σ H _ I h) λus s1 ⟨vs,H1,I1,r1,q1⟩=>hc Y s1 σ H1 vs us Q I1 r1 q1) he hpl) hn hdb)
def fZ(hc:jE X (.type T) r)(hg:Gl X x)(hm:X.mg x=none)(hv:bootBuiltins x=some (.type T))(ha:PA X (e::es) t)(hn:@&(x≠ "__name__"))(hdb:@&((x==("__debug__" : Str))=false))
  (he:@&(starEach (e::es) X.env=(false,eval e X.env)::starEach es X.env)) (hpl:@&((backTo pos (starEach es X.env)).any (·.1)=false)):PE X (.Call (.Name x p) (e::es) [] pos) (tCB r t):=by
 intro Y s σ H Q I h;show vB (uo I hg hm hv (wJ (jr (ha pos Y s σ H _ I h) λus s1 ⟨vs,H1,I1,r1,q1⟩=>hc Y s1 σ H1 vs us Q I1 r1 q1) he hpl) hn hdb)
end
end L2
namespace HT
open PyProof.Rows
section
variable{prog:Program}{w:World}{A:Around}{E:∅}{s:Shared}
def a0D{t b:Addr}{vs ws:aw}{Q:∅}(ht:IsTup s.heap t vs.toArray)(hb:IsTup s.heap b ws.toArray)(hv:vs≠[])
  (h1:ws=[]->Q (.ref t) s) (h2:ws≠[]->Q (.ref s⁻¹) (s•s.heap.push { cls:=.type "tuple",data:=.seq (vs++ws).toArray}))
  (hsz:vs.length+ws.length<=sizeLine):∎ (binaryOp .Add (.ref t) (.ref b)) Q E s:=by
 let⟨⟨cls,dd,data,sl⟩,ho,hc,n,hd⟩:=id ht;let⟨⟨cls2,dd2,data2,sl2⟩,ho2,hc2,n2,hd2⟩:=id hb;simp only at hc hd hc2 hd2;subst hc hd hc2 hd2;let e:vs.toArray++ws.toArray=(vs++ws).toArray:=by simp
 by_cases hw:ws=[]
 ·show Oc ⟨_,ho,Z⟩ ⟨_,ho2,Z⟩ Nj NZ MK Mw (Mu _ _)
   (tuple_addW1 t b vs.toArray ws.toArray n n2 dd dd2 sl sl2 (by simpa using hv) (by simp[hw])) ⟨ho,ho2,h1 hw⟩
 ·show Oc ⟨_,ho,Z⟩ ⟨_,ho2,Z⟩ Nj NZ MK Mw (Mu _ _)
   (tuple_addW2 t b vs.toArray ws.toArray n n2 dd dd2 sl sl2 (by simpa using hv) (by simpa using hw) (by rw[gV,gV];show hsz)) ⟨ho,ho2,?_⟩
  rw[e];show h2 hw
noncomputable def kh(n d:Nat):Option Int->Nat
 |none=>d
 |some v=>if v<0 then(v+(n:Int)).toNat else min v.toNat n
def QC(n d:Nat):kh n d none=d:=rfl
def Ad(n d k:Nat):kh n d (some (k:Int))=min k n:=by
 show(if(k:Int)<0 then((k:Int)+(n:Int)).toNat else min (k:Int).toNat n)=min k n;rw[aA (),jf]
def a3J(n d:Nat)(hd:d<=n)(o:Option Int):kh n d o<=n:=by
 cases o with
 |none=>show hd
 |some v =>
  show(if v<0 then(v+(n:Int)).toNat else min v.toNat n)<=n;by_cases hv:v<0
  ·rw[aD hv];omega
  ·rw[aA hv];show U8 _ _
def XH(v:Int)(n d:Nat):(if v<0 then max (v+(n:Int)) 0 else min v (n:Int))=((kh n d (some v):Nat):Int):=by
 show(if v<0 then max (v+(n:Int)) 0 else min v (n:Int))=(((if v<0 then(v+(n:Int)).toNat else min v.toNat n):Nat):Int);by_cases hv:v<0
 ·simp only[if_pos hv];omega
 ·simp only[if_neg hv];omega
def VJ(lo hi:Option Int)(n:Nat):Builtin.Slice.sliceAdjust lo hi 1 (n:Int)=(((kh n 0 lo:Nat):Int),((kh n n hi:Nat):Int)):=by
 let h1:¬((1:Int)<0):=()
 unfold Builtin.Slice.sliceAdjust;simp only[h1,if_false];show Prod.ext ?_ ?_
 ·cases lo with
  |none=>rfl
  |some v=>show XH v n 0
 ·cases hi with
  |none=>rfl
  |some v=>show XH v n n
def VL(i j:Nat):Builtin.Slice.slicePlaces (i:Int) (j:Int) 1=j-i:=by
 unfold Builtin.Slice.slicePlaces;let h1:(1:Int)>0:=()
 simp only[h1,if_true,Int.ediv_one];split<;>omega
def Hy{v:Value}{o:Option Int}{Q:Option Int->Shared->Prop}(p:IsPart v o)(h:Q o s):∎ (Builtin.Slice.slicePartIndex v) Q E s:=by
 cases p with
 |none=>show slicePart_none h
 |int i t=>show slicePart_int h
def uP{sl:Addr}{vl vu:Value}{lo hi:Option Int}{n:Nat}{Q:Int×Int×Nat->Shared->Prop}(hs:s.heap.IsSliceOf sl vl vu .none)(pl:IsPart vl lo)(pu:IsPart vu hi)
  (h:Q (((kh n 0 lo:Nat):Int),1,kh n n hi-kh n 0 lo) s):∎ (Builtin.Slice.sliceApplied (.ref sl) (pure (n:Int))) Q E s:=by
 let⟨os,hos,hcs,hds⟩:=id hs;unfold Builtin.Slice.sliceApplied Builtin.Slice.sliceFields;show M (M (gM hos hds (x:=vl) Z (M (gM hos hds (x:=vu) Z (M (gM hos hds (x:=.none) Z (ao (M (slicePart_none ?_)))))))));show wpAny _ _ (if((1:Int)==0)=true then _ else _) _ _ s;rw[aA ()];show M (Hy pl (M (Hy pu (M (ao ?_)))));show wpAny _ _ (match Builtin.Slice.sliceAdjust lo hi 1 (n:Int)with|(lo,hi)=>pure (lo,(1:Int),Builtin.Slice.slicePlaces lo hi 1)) _ _ s;rw[VJ lo hi n];show wpAny _ _ (pure (((kh n 0 lo:Nat):Int),(1:Int),Builtin.Slice.slicePlaces ((kh n 0 lo:Nat):Int) ((kh n n hi:Nat):Int) 1)) _ _ s;rw[VL];show ao h
def Ē(xs:Array Value)(i k:Nat):((List.range k).filterMap λ(m:Nat)=>xs[((i:Int)+(m:Int)*1).toNat]?).toArray=((xs.toList.drop i).take k).toArray:=by
 let e:(λ(m:Nat)=>xs[((i:Int)+(m:Int)*1).toNat]?)=λm=>xs[i+m]?:=by
  funext m;let:((i:Int)+(m:Int)*1).toNat=i+m:=()
  rw[this]
 rw[e];let:=pick_run xs i k;rw[M8]at this;let e2:((λx=>xs[x]?)∘λx=>i+x)=λm=>xs[i+m]?:=rfl;rw[e2]at this;rw[this]
def Ae{t sl:Addr}{items:Array Value}{vl vu:Value}{lo hi:Option Int}{Q:∅}(ht:IsTup s.heap t items)(hs:s.heap.IsSliceOf sl vl vu .none)(pl:IsPart vl lo)(pu:IsPart vu hi)
  (hw:¬(kh items.size 0 lo=0/\kh items.size items.size hi=items.size))
  (h:Q (.ref s⁻¹) (s•s.heap.push { cls:=.type "tuple",data:=.seq ((items.toList.drop (kh items.size 0 lo)).take (kh items.size items.size hi-kh items.size 0 lo)).toArray}))
  (hsz:items.size<=sizeLine):∎ (getItem (.ref t) (.ref sl)) Q E s:=by
 let XJ:sizeOk (.seq ((items.toList.drop (kh items.size 0 lo)).take (kh items.size items.size hi-kh items.size 0 lo)).toArray):=by
  show((items.toList.drop (kh items.size 0 lo)).take (kh items.size items.size hi-kh items.size 0 lo)).toArray.size<=sizeLine;rw[gV,dN,gw,tZ];omega
 let hj:kh items.size items.size hi<=items.size:=a3J _ _ (aK _) hi;let⟨os,hos,hcs,hds⟩:=id hs;let hTs:s.TypeIs (.ref sl) "slice" :=⟨os,hos,hcs⟩;unfold getItem;try with_reducible show eG ?_
 first|refine M (ao ?_)|skip
 show M (wpAny_sequenceKey ht.typeIs () ?_);show M (nD (name:=Str.ofString "__getitem__") ht.typeIs Mj
  (gG Mj ht.typeIs entry_tuple_getitem ?_ (args_tuple_getitem _ _)))
 show wpAny _ _ (Builtin.Tuple.tupleItemsOf (.ref t) >>= _) _ _ s;show M (tupleItemsOf_ ht (M (rQ hTs ?_)));rw[aD ()];show M (uP hs pl pu ?_);let hno:¬((((kh items.size 0 lo:Nat):Int)==0&&(1:Int)==1&&(kh items.size items.size hi-kh items.size 0 lo)==items.size)=true):=by
  intro q;rw[fX,fX]at q;let q1:((kh items.size 0 lo:Nat):Int)=0:=eq_of_beq q.1.1;let q2:kh items.size items.size hi-kh items.size 0 lo=items.size:=eq_of_beq q.2;show hw ⟨(),()⟩
 show wpAny _ _ (if(((kh items.size 0 lo:Nat):Int)==0&&(1:Int)==1&&(kh items.size items.size hi-kh items.size 0 lo)==items.size)=true then _ else _) _ _ s;rw[aA hno,Ē];first
  |exact M (m:=Builtin.Tuple.tupleExact _) (jT (ao ⟨_,Z,ao h⟩) XJ)
  |exact M (m:=Builtin.Tuple.tupleExact _) (jT (M (ao (ao ⟨_,Z,ao h⟩))) XJ)
  |exact M (M (m:=Builtin.Tuple.tupleExact _) (jT (ao (ao ⟨_,Z,ao h⟩)) XJ))
  |exact M (M (m:=Builtin.Tuple.tupleExact _) (jT (ao ⟨_,Z,ao h⟩) XJ))
end
end HT
namespace L2
open PyProof.Rows
variable{X:Cx}{us:aw}{α:Type}
abbrev TO:=St->Hp->(Option Int->Hp->Prop)->Prop
def PO(X:Cx)(e:Option Expr)(t:TO):Prop :=
 ∀(Y:aE) (s:Shared) (σ:St) (H:Hp) (Q:Option Int->Hp->Prop),bF X Y σ H s->t σ H Q->
  wpAny (model X.prog X.w) X.A (evalPart e X.env) (λu s'=>∃o H',bF X Y σ H' s'/\IsPart u o/\Q o H') X.xe s
noncomputable def a0E:TO:=λ_ H Q=>Q none H
noncomputable def a5Z(t:TE):TO:=λσ H Q=>t σ H λx H1=>EA (λi=>x=.int i) λi=>Q (some i) H1
section
variable{e:Expr}{te:TE}{lo hi:Option Expr}{tl th:TO}{pos p2:Pos}
def fK:PO X none a0E:=by
 intro Y s σ H Q I h;rw[evalPart_none];show ao ⟨none,H,I,.none,h⟩
def d7(h:PE X e te):PO X (some e) (a5Z te):=by
 intro Y s σ H Q I hw;rw[evalPart_some];show jr (h Y s σ H _ I hw) λu s1 ⟨x,H1,I1,r1,q1⟩=>?_;let⟨i,rfl,q⟩:=q1;let⟨t,rfl⟩:=r1;show⟨some i,H1,I1,.int i t,q⟩
def SlR(X:Cx)(r:V->Option Int->Option Int->Hp->VK->Prop):Prop :=
 ∀(Y:aE) (s:Shared) (σ:St) (H:Hp) (x:V) (v vl vu:Value) (lo hi:Option Int) (sl:Addr) (Q:VK),bF X Y σ H s->cZ x v->s.heap.IsSliceOf sl vl vu .none->IsPart vl lo->IsPart vu hi->r x lo hi H Q->
  ∃T id,typeLookup (.type T) "__getitem__" = pure (some (.builtin id))/\s.TypeIs v T/\wpAny (model X.prog X.w) X.A (getItem v (.ref sl)) (EP X Y σ Q) X.xe s
noncomputable def tSl(r:V->Option Int->Option Int->Hp->VK->Prop)(te:TE)(tl th:TO):TE:=λσ H Q=>te σ H λx H1=>tl σ H1 λl H2=>th σ H2 λu H3=>r x l u H3 Q
def dD{r:V->Option Int->Option Int->Hp->VK->Prop}(hr:SlR X r)(he:PE X e te)(hl:PO X lo tl)(hu:PO X hi th):PE X (.Subscript e (.Slice lo hi none p2) pos) (tSl r te tl th):=by
 intro Y s σ H Q I h;show Subscript_ (jr (he Y s σ H _ I h) λv s1 ⟨x,H1,I1,r1,q1⟩=>wpAny_Slice (jr (hl Y s1 σ H1 _ I1 q1) λvl s2 ⟨l,H2,I2,pl,q2⟩=>jr (hu Y s2 σ H2 _ I2 q2) λvu s3 ⟨u,H3,I3,pu,q3⟩=>?_));rw[evalPart_none];show ao ?_;let I4:bF X Y σ H3 (s3•s3.heap.push { cls:=.type "slice",data:=.fields #[vl,vu,.none]}):=I3.kept (t':=s3.toks) λb ob q=>bM _ q;let⟨T,id,hT,ht,hg⟩:=hr Y (s3•s3.heap.push { cls:=.type "slice",data:=.fields #[vl,vu,.none]}) σ H3 x v vl vu l u s3⁻¹ Q I4 r1 (Heap.IsSliceOf.new ..) pl pu q3;show wpAny (model X.prog X.w) X.A (subscriptTail e (.Slice lo hi none p2) v (.ref s3⁻¹)) (EP X Y σ Q) X.xe (s3•s3.heap.push { cls:=.type "slice",data:=.fields #[vl,vu,.none]});show tail_any (ops:=[.ref s3⁻¹,v]) ht hT hg (by with_unfolding_all rfl)
def su(xs:af)(lo hi:Option Int):af:=(xs.drop (HT.kh xs.length 0 lo)).take (HT.kh xs.length xs.length hi-HT.kh xs.length 0 lo)
def Em(xs:af)(lo hi:Option Int):(su xs lo hi).length<=xs.length:=by
 unfold su;rw[dN,gw];omega
inductive a75(K:aH)(x:V)(lo:Option Int)(hi:Option Int)(H:Hp)(Q:VK):Prop
 |mk (a xs:_) (_:x=.ref a) (_:cO K H a xs) (_:¬(HT.kh xs.length 0 lo=0/\HT.kh xs.length xs.length hi=xs.length)) (_:∀p,H p=none->Q (.ref p) (cX H p (.tup (su xs lo hi))))
def ē:SlR X (a75 X.K):=by
 intro Y s σ H x v vl vu lo hi sl Q I rx hs pl pu h;let⟨a,xs,rfl,hx,hw,q⟩:=h;cases rx;let⟨bY,r,ht,hz⟩:=I.tuple hx;let hlen:bY.toArray.size=xs.length:=by rw[gV];show r.length.symm
 show⟨"tuple",_,PyProof.Rows.slot_tuple_getitem.lookup,ht.typeIs,?_⟩;show HT.Ae ht hs pl pu (by rw[hlen];show hw) ?_ (by rw[hlen];show hz);rw[hlen];show⟨.ref s⁻¹,_,I.laid (t':=s.toks) (o:=.tup (su xs lo hi)) (λb ob q=>bM _ q) (aK _) ⟨cC (Em xs lo hi) hz,_,(r.drop (HT.kh xs.length 0 lo)).take (HT.kh xs.length xs.length hi-HT.kh xs.length 0 lo),IsTup.new _ _⟩,Z,q _ (I.hok.fresh (aK _))⟩
inductive a6a(K:aH)(x:V)(y:V)(H:Hp)(Q:VK):Prop
 |mk (a b xs ys:_) (_:x=.ref a) (_:y=.ref b) (_:cO K H a xs) (_:cO K H b ys) (_:xs≠[]) (_:xs.length+ys.length<=sizeLine) (_:(ys=[]->Q (.ref a) H)) (_:(ys≠[]->∀p,H p=none->Q (.ref p) (cX H p (.tup (xs++ys)))))
def cN.Af{xs:af}(r:cN xs us):us=[]↔xs=[]:=by
 cases r with
 |nil=>simp
 |cons _ _=>simp
def XM:qQ X (binaryOp .Add) (a6a X.K):=by
 intro Y s σ H x y v u Q I rx ry h;let⟨a,b,xs,ys,rfl,rfl,ha,hb,hx,hz,q1,q2⟩:=h;cases rx;cases ry;let⟨bY,r1,p1,_⟩:=I.tuple ha;let⟨its2,r2,p2,_⟩:=I.tuple hb;show HT.a0D p1 p2 (λz=>hx (r1.Af.mp z)) (λz=>⟨.ref a,H,I,Z,q1 (r2.Af.mp z)⟩) (λz=>?_) (by rw[<-r1.length,<-r2.length];show hz);show⟨.ref s⁻¹,_,I.laid (t':=s.toks) (o:=.tup (xs++ys)) (λb ob q=>bM _ q) (aK _) ?_,Z,q2 (λw=>z (r2.Af.mpr w)) _ (I.hok.fresh (aK _))⟩;show⟨by rw[bK];show hz,_,r1.append r2,IsTup.new _ _⟩
end
noncomputable def ixN(n:Nat)(i:Int):Option Nat:=if 0<=i then(if i<n then some i.toNat else none)else if -(n:Int)<=i then some (i+n).toNat else none
def VN{α:Type}(xs:List α)(i:Int):Option α:=(ixN xs.length i).bind λj=>xs[j]?
def a0F{n:Nat}{i:Int}{j:Nat}(h:ixN n i=some j):seqIndex? i n=some j/\j<n/\ -(n:Int)<=i/\i<n:=by
 unfold ixN at h;by_cases h0:0<=i
 ·rw[aD h0]at h;by_cases h1:i<n
  ·rw[aD h1]at h;let e:i.toNat=j:=dO h;show⟨by rw[seqIndex_of h0 h1,e],(),(),h1⟩
  ·rw[aA h1]at h;cases h
 ·rw[aA h0]at h;by_cases h1 : -(n:Int)<=i
  ·rw[aD h1]at h;let e:(i+n).toNat=j:=dO h;show⟨by rw[seqIndex_neg () h1,e],(),h1,()⟩
  ·rw[aA h1]at h;cases h
def Oo{xs:List α}{i:Int}{v:α}(h:VN xs i=some v):∃j,seqIndex? i xs.length=some j/\xs[j]?=some v/\j<xs.length/\ -(xs.length:Int)<=i/\i<xs.length:=by
 unfold VN at h;cases e:ixN xs.length i with
 |none=>rw[e]at h;cases h
 |some j =>
  rw[e]at h;let⟨h1,h2,h3,h4⟩:=a0F e;show⟨j,h1,h,h2,h3,h4⟩
def bU{xs:List α}{j:Nat}{v:α}(h:xs[j]?=some v):VN xs (j:Int)=some v:=by
 let hj:j<xs.length:=(dY.mp h).1;let e:ixN xs.length (j:Int)=some j:=by
  unfold ixN;rw[aD (),aD ()];simp
 unfold VN;rw[e];show h
def a0G(b:Expr):Prop:=∀o i,subscripted b false o i=operate [o,i] (getItem o i)
def IxR(X:Cx)(r:R2):Prop :=
 ∀(value slice:Expr) (Y:aE) (s:Shared) (σ:St) (H:Hp) (x y:V) (v u:Value) (Q:VK),bF X Y σ H s->cZ x v->cZ y u->r x y H Q->
  subscripted slice false v u=operate [v,u] (getItem v u)->wpAny (model X.prog X.w) X.A (subscriptTail value slice v u) (EP X Y σ Q) X.xe s
def MtR(X:Cx)(id:String)(r:V->af->Hp->VK->Prop):Prop :=
 ∀(Y:aE) (s:Shared) (σ:St) (H:Hp) (x:V) (xs:af) (v:Value) (us:aw) (Q:VK),bF X Y σ H s->cZ x v->cN xs us->r x xs H Q->
  wpAny (model X.prog X.w) X.A (call (.builtin id) (v::us)) (EP X Y σ Q) X.xe s
section
variable{a b:Expr}{ta tb:TE}{pos:Pos}
def aP{r:R2}(hr:IxR X r)(ha:PE X a ta)(hb:PE X b tb)(hs:a0G b:=by show λ_ _=>rfl):PE X (.Subscript a b pos) (tOp r ta tb):=by
 intro Y s σ H Q I h;show Subscript_ (a3C ha hb I h λv u s2 x y H2 I2 rx ry q=>hr a b Y s2 σ H2 x y v u Q I2 rx ry q (hs _ _))
inductive a0H(K:aH)(x:V)(y:V)(H:Hp)(Q:VK):Prop
 |mk (p xs i v:_) (_:x=.ref p) (_:y=.int i) (_:bB K H p xs) (_:VN xs i=some v) (_:Q v H)
inductive a0I(K:aH)(x:V)(y:V)(H:Hp)(Q:VK):Prop
 |mk (p xs i v:_) (_:x=.ref p) (_:y=.int i) (_:cO K H p xs) (_:VN xs i=some v) (_:Q v H)
def a0J:IxR X (a0H X.K):=by
 intro value slice Y s σ H x y v u Q I rx ry h hs;let⟨p,xs,i,z,rfl,rfl,hq,he,q⟩:=h;cases rx;let⟨t,rfl⟩:=ry;let⟨bY,r,pl,hz⟩:=I.list hq;let⟨j,h1,h2,h3,h4,h5⟩:=Oo he;let⟨w,ew,VP⟩:=r.get h2;let hl:=r.length;let hn:=Ol;let fin:EP X Y σ Q w s:=⟨z,H,I,VP,q⟩;by_cases h0:0<=i
 ·let hj:i.toNat=j:=by
   rw[seqIndex_of h0 h5]at h1;show dO h1
  show item_listR pl.isList h0 () (by rw[hj];simpa using ew) fin hs
 ·let hj:(i+(bY.toArray.size:Int)).toNat=j:=by
   rw[seqIndex_neg () h4]at h1;rw[gV,<-hl];show dO h1
  show subscriptTail_builtinR (x:=w) pl.isList.typeIs slot_list_getitem.lookup
   (wpAny_getItem_list_neg (Q:=λr s'=>r=w/\EP X Y σ Q r s') pl.isList () (by rw[gV]<;>omega) () (by rw[hj];simpa using ew) ⟨Z,fin⟩) hs
def a3K:IxR X (a0I X.K):=by
 intro value slice Y s σ H x y v u Q I rx ry h hs;let⟨p,xs,i,z,rfl,rfl,hq,he,q⟩:=h;cases rx;let⟨t,rfl⟩:=ry;let⟨bY,r,pl,hz⟩:=I.tuple hq;let⟨j,h1,h2,h3,h4,h5⟩:=Oo he;let⟨w,ew,VP⟩:=r.get h2;let hl:=r.length;let hn:=Ol;let fin:EP X Y σ Q w s:=⟨z,H,I,VP,q⟩;show subscriptTail_builtinR (x:=w) pl.typeIs slot_tuple_getitem.lookup
  (getItem_tuple (j:=j) (Q:=λr s'=>r=w/\EP X Y σ Q r s') pl () () (by rw[gV,<-hl];show h1) (by simpa using ew) ⟨Z,fin⟩) hs
def Oq(lo hi:Option Int)(n:Nat):(sliceBounds lo hi none n).1=((HT.kh n 0 lo:Nat):Int)/\(sliceBounds lo hi none n).2.1=((HT.kh n n hi:Nat):Int)/\(sliceBounds lo hi none n).2.2=1:=by
 show⟨?_,?_,Z⟩
 ·cases lo with
  |none=>simp[sliceBounds,HT.kh]
  |some i =>
   simp only[sliceBounds,HT.kh,Option.getD_none,show(1:Int)>0 by decide,if_true];by_cases h:i<0
   ·simp only[h,if_true]<;>omega
   ·simp only[h,if_false]<;>omega
 ·cases hi with
  |none=>simp[sliceBounds,HT.kh]
  |some i =>
   simp only[sliceBounds,HT.kh,Option.getD_none,show(1:Int)>0 by decide,if_true];by_cases h:i<0
   ·simp only[h,if_true]<;>omega
   ·simp only[h,if_false]<;>omega
def JN(bY:aw)(lo hi:Option Int):slicePick bY.toArray lo hi none=((bY.drop (HT.kh bY.length 0 lo)).take (HT.kh bY.length bY.length hi-HT.kh bY.length 0 lo)).toArray:=by
 let⟨h1,h2,h3⟩:=Oq lo hi bY.toArray.size;unfold slicePick;rw[h1,h2,h3];simp only[sliceRange_one,pick_run,List.size_toArray]<;>rfl
inductive a76(K:aH)(x:V)(lo:Option Int)(hi:Option Int)(H:Hp)(Q:VK):Prop
 |mk (a xs:_) (_:x=.ref a) (_:bB K H a xs) (_:∀p,H p=none->Q (.ref p) (cX H p (.lst (su xs lo hi))))
def a0K:SlR X (a76 X.K):=by
 intro Y s σ H x v vl vu lo hi sl Q I rx hs pl pu h;let⟨a,xs,rfl,hx,q⟩:=h;cases rx;let⟨bY,r,ht,hz⟩:=I.list hx;let hlen:=r.length;show⟨"list",_,slot_list_getitem.lookup,ht.isList.typeIs,?_⟩;show wpAny_getItem_list_slice ht.isList hs pl pu .none (by simp) ?_ (by rw[gV]<;>omega);rw[JN,<-hlen];show⟨.ref s⁻¹,_,I.laid (t':=s.toks) (o:=.lst (su xs lo hi)) (λb ob q=>bM _ q) (aK _) ⟨cC (Em xs lo hi) hz,_,0,(r.drop (HT.kh xs.length 0 lo)).take (HT.kh xs.length xs.length hi-HT.kh xs.length 0 lo),cB _ Z⟩,Z,q _ (I.hok.fresh (aK _))⟩
noncomputable def Ag:V->Bool
 |.non=>true
 |.bl _=>true
 |.int _=>true
 |.str _=>true
 |_=>false
noncomputable def eqV:V->V->Bool
 |.non,.non=>true
 |.bl a,.bl b=>a==b
 |.bl a,.int b=>(if a then 1 else 0)==b
 |.int a,.bl b=>a==(if b then 1 else 0)
 |.int a,.int b=>a==b
 |.str a,.str b=>a==b
 |_,_=>false
def a3L{A:Around}{s:Shared}{y x:V}{u v:Value}(ry:cZ y u)(rx:cZ x v)(fy:Ag y=true)(fx:Ag x=true):SeqAt.EqAt A s u v (eqV y x):=by
 cases y with
 |non =>
  cases ry;cases x with
  |non=>cases rx;show SeqAt.EqAt.same _
  |bl b=>cases rx;show SeqAt.EqAt.none_bool b
  |int b=>let⟨t,rfl⟩:=rx;show SeqAt.EqAt.none_int b t
  |str b=>let⟨t,rfl⟩:=rx;show SeqAt.EqAt.none_str b t
  |_=>show absurd (show false=true from fx) cL
 |bl a =>
  cases ry;cases x with
  |non=>cases rx;show SeqAt.EqAt.bool_none a
  |bl b=>cases rx;show SeqAt.EqAt.bool_bool a b
  |int b=>let⟨t,rfl⟩:=rx;show SeqAt.EqAt.bool_int a b t
  |str b=>let⟨t,rfl⟩:=rx;show SeqAt.EqAt.bool_str a b t
  |_=>show absurd (show false=true from fx) cL
 |int a =>
  let⟨t',rfl⟩:=ry;cases x with
  |non=>cases rx;show SeqAt.EqAt.int_none a t'
  |bl b=>cases rx;show SeqAt.EqAt.int_bool a t' b
  |int b=>let⟨t,rfl⟩:=rx;show SeqAt.EqAt.int_int a t' b t
  |str b=>let⟨t,rfl⟩:=rx;show SeqAt.EqAt.int_str a t' b t
  |_=>show absurd (show false=true from fx) cL
 |str a =>
  let⟨t',rfl⟩:=ry;cases x with
  |non=>cases rx;show SeqAt.EqAt.str_none a t'
  |bl b=>cases rx;show SeqAt.EqAt.str_bool a t' b
  |int b=>let⟨t,rfl⟩:=rx;show SeqAt.EqAt.str_int a t' b t
  |str b=>let⟨t,rfl⟩:=rx;show SeqAt.EqAt.str_str a t' b t
  |_=>show absurd (show false=true from fx) cL
 |_=>show absurd (show false=true from fy) cL
def VR(x:V)(u:Value):Bool:=match u with
 |.none=>eqV .non x
 |.bool b=>eqV (.bl b) x
 |.int i _=>eqV (.int i) x
 |.str z _=>eqV (.str z) x
 |_=>false
def Ĕ{x y:V}{u:Value}(r:cZ y u)(f:Ag y=true):VR x u=eqV y x:=by
 cases y with
 |non=>cases r;rfl
 |bl b=>cases r;rfl
 |int i=>let⟨t,rfl⟩:=r;rfl
 |str z=>let⟨t,rfl⟩:=r;rfl
 |_=>show absurd (show false=true from f) cL
def Ge{x:V}{xs:af}(h:cN xs us)(f:xs.all Ag=true):us.any (VR x)=xs.any λy=>eqV y x:=by
 induction h with
 |nil=>rfl
 |cons r t ih =>
  rw[Vm,fX]at f;rw[oM,oM,Ĕ r f.1,ih f.2]
def Ah{A:Around}{s:Shared}{x:V}{v:Value}(rx:cZ x v)(fx:Ag x=true){xs:af}(h:cN xs us)(f:xs.all Ag=true):∀u∈us,SeqAt.EqAt A s u v (VR x u):=by
 induction h with
 |nil=>intro u hu;cases hu
 |cons r t ih =>
  intro u' hu;rw[Vm,fX]at f;rcases bT.mp hu with rfl|hu
  ·rw[Ĕ r f.1];show a3L r rx f.1 fx
  ·show ih f.2 u' hu
def inV(x:V)(xs:af):Bool:=xs.any λy=>eqV y x
inductive rIn(K:aH)(neg:Bool)(x:V)(y:V)(H:Hp)(Q:VK):Prop
 |mk (p xs:_) (_:y=.ref p) (_:(bB K H p xs\/cO K H p xs)) (_:Ag x=true) (_:xs.all Ag=true) (_:Q (.bl (if neg then !inV x xs else inV x xs)) H)
def Zc:qQ X (compareOp .In) (rIn X.K false):=by
 intro Y s σ H x y v u Q I rx ry h;let⟨p,xs,rfl,hq,fx,fs,q⟩:=h;cases ry;rcases hq with hq|hq
 ·let⟨bY,r,pl,hz⟩:=I.list hq;show SeqAt.in_listAt (VR x) pl.isList (λw hw=>Ah rx fx r fs w (by simpa using hw)) ⟨.bl _,H,I,Z,?_⟩;rw[show bY.toArray.any (VR x)=bY.any (VR x) by simp,Ge r fs];show q
 ·let⟨bY,r,pl,hz⟩:=I.tuple hq;show SeqAt.in_tupleAt (VR x) pl (λw hw=>Ah rx fx r fs w (by simpa using hw)) ⟨.bl _,H,I,Z,?_⟩;rw[show bY.toArray.any (VR x)=bY.any (VR x) by simp,Ge r fs];show q
def Ot:qQ X (compareOp .NotIn) (rIn X.K true):=by
 intro Y s σ H x y v u Q I rx ry h;let⟨p,xs,rfl,hq,fx,fs,q⟩:=h;cases ry;rcases hq with hq|hq
 ·let⟨bY,r,pl,hz⟩:=I.list hq;show SeqAt.notIn_listAt (VR x) pl.isList (λw hw=>Ah rx fx r fs w (by simpa using hw)) ⟨.bl _,H,I,Z,?_⟩;rw[show bY.toArray.any (VR x)=bY.any (VR x) by simp,Ge r fs];show q
 ·let⟨bY,r,pl,hz⟩:=I.tuple hq;show SeqAt.notIn_tupleAt (VR x) pl (λw hw=>Ah rx fx r fs w (by simpa using hw)) ⟨.bl _,H,I,Z,?_⟩;rw[show bY.toArray.any (VR x)=bY.any (VR x) by simp,Ge r fs];show q
def Ou:jE X (.builtin "len") (λxs H Q=>∃p ys,xs=[.ref p]/\(bB X.K H p ys\/cO X.K H p ys)/\Q (.int ys.length) H):=by
 intro Y s σ H xs us Q I r h;let⟨p,ys,rfl,hq,q⟩:=h;let⟨u,rfl,rx⟩:=vals1 r;cases rx;let hn:=Ol;rcases hq with hq|hq
 ·let⟨bY,r',pl,hz⟩:=I.list hq;let hlen:=r'.length;show Calls.call_len_list pl.isList (by simp only[List.size_toArray]<;>omega) ⟨.int ys.length,H,I.tok _,⟨s.toks+1,by rw[gV,hlen]⟩,q⟩
 ·let⟨bY,r',pl,hz⟩:=I.tuple hq;let hlen:=r'.length;show len_tuple pl (by simp only[List.size_toArray]<;>omega) ⟨.int ys.length,H,I.tok _,⟨s.toks+1,by rw[gV,hlen]⟩,q⟩
def Ov:jE X (.type "list") (λxs H Q=>∃p ys,xs=[.ref p]/\(bB X.K H p ys\/cO X.K H p ys)/\∀l,H l=none->Q (.ref l) (cX H l (.lst ys))):=by
 intro Y s σ H xs us Q I r h;let⟨p,ys,rfl,hq,q⟩:=h;let⟨u,rfl,rx⟩:=vals1 r;cases rx;let fin:∀(bY:aw),cN ys bY->ys.length<=sizeLine->∀(h':Heap) (c':Nat),(∀b o',s^^^b=some o'->h'.get? b=some o')->
   h'.get? s⁻¹=some { cls:=.type "list",dict:=none,data:=.seq bY.toArray c',slots:=#[]}->EP X Y σ Q (.ref s⁻¹) (s•h'):=λbY r' hz h' c' kp e =>
  ⟨.ref s⁻¹,_,I.laid (t':=s.toks) kp (aK _) (show fB X.prog X.w _ h' _ (.lst ys)from⟨hz,bY,c',r',e⟩),Z,q _ (I.hok.fresh (aK _))⟩
 rcases hq with hq|hq
 ·let⟨bY,r',pl,hz⟩:=I.list hq;let hlen:=r'.length;let⟨o,ho,hc,n,hd⟩:=pl.isList;show call_list_seq p (.inl Z) ho hc hd (λh' c' kp e=>fin bY r' hz h' c' kp e) (by simp only[List.size_toArray]<;>omega)
 ·let⟨bY,r',pl,hz⟩:=I.tuple hq;let hlen:=r'.length;let⟨o,ho,hc,n,hd⟩:=pl;show call_list_seq p (.inr Z) ho hc hd (λh' c' kp e=>fin bY r' hz h' c' kp e) (by simp only[List.size_toArray]<;>omega)
def ur:jE X (.type "tuple") (λxs H Q=>∃p ys,xs=[.ref p]/\((bB X.K H p ys/\∀l,H l=none->Q (.ref l) (cX H l (.tup ys)))\/(cO X.K H p ys/\Q (.ref p) H))):=by
 intro Y s σ H xs us Q I r h;let⟨p,ys,rfl,h⟩:=h;let⟨u,rfl,rx⟩:=vals1 r;cases rx;rcases h with⟨hq,q⟩|⟨hq,q⟩
 ·let⟨bY,r',pl,hz⟩:=I.list hq;let hlen:=r'.length;show call_tuple_list pl.isList (λh' kp=>?_) (by simp only[List.size_toArray]<;>omega);let I1:bF X Y σ H (s•h'):=I.kept (t':=s.toks) kp;let I2:bF X Y σ (cX H h'.objs.size (.tup ys)) (s•h'.push { cls:=.type "tuple",data:=.seq bY.toArray}) :=
   I1.laid (t':=s.toks) (λb o e=>bM _ e) (aK _) (show fB X.prog X.w _ _ _ (.tup ys)from⟨hz,bY,r',IsTup.new _ _⟩)
  show⟨.ref h'.objs.size,_,I2,Z,q _ (I1.hok.fresh (aK _))⟩
 ·let⟨bY,r',pl,hz⟩:=I.tuple hq;show call_tuple_same pl ⟨.ref p,H,I,Z,q⟩
def tyV(K:aH)(T:String)(x:V)(H:Hp):Prop:=match x with
 |.str _=>T = "str"
 |.int _=>T = "int"
 |.ref p=>(T = "list" /\∃xs,bB K H p xs)\/(T = "tuple" /\∃o,K.lookup p=some o/\o.cls=.type "tuple" /\o.dict=none)\/
   (T = "dict" /\((∃J,H p=some (.dK J))\/∃J,H p=some (.dT J)))\/(T = "set" /\∃S n,H p=some (.set S n))
 |_=>False
def ĕ{Y:aE}{σ:St}{H:Hp}{s:Shared}{T:String}{x:V}{v:Value}(I:bF X Y σ H s)(r:cZ x v)(ty:tyV X.K T x H) :
  s.TypeIs v T/\∀a,v=.ref a->∃ob,s^^^a=some ob/\ob.dict=none:=by
 cases x with
 |str z =>
  let⟨t,rfl⟩:=r;cases(show T = "str" from ty);show⟨typeIs_str s z t,λ_ e=>nomatch e⟩
 |int i =>
  let⟨t,rfl⟩:=r;cases(show T = "int" from ty);show⟨typeIs_int s i t,λ_ e=>nomatch e⟩
 |ref p =>
  cases r;rcases ty with⟨rfl,xs,hq⟩|⟨rfl,o,hk,hc,hd⟩|⟨rfl,hk⟩|⟨rfl,S,n,hk⟩
  ·let⟨bY,_,pl,_⟩:=I.list hq;show⟨pl.isList.typeIs,λa e=>?_⟩;cases e;let⟨o,n,e,c,hd,_⟩:=pl;show⟨o,e,hd⟩
  ·show⟨⟨o,I.Cq p o hk,hc⟩,λa e=>?_⟩;cases e;show⟨o,I.Cq _ o hk,hd⟩
  ·let z:∃o,s^^^p=some o/\o.ExactDict:=by
    rcases hk with⟨J,hk⟩|⟨J,hk⟩
    ·let⟨_,_,_,_,o,_,_,e,ex,_⟩:=I.hok p _ hk;show⟨o,e,ex⟩
    ·let⟨_,_,_,_,o,_,_,e,ex,_⟩:=I.hok p _ hk;show⟨o,e,ex⟩
   let⟨o,e,ex⟩:=z;show⟨⟨o,e,ex.1⟩,λa e2=>?_⟩;cases e2;show⟨o,e,ex.2.1⟩
  ·let⟨o,_,_,_,e,ex,_⟩:=I.hok p _ hk;show⟨⟨o,e,ex.1⟩,λa e2=>?_⟩;cases e2;show⟨o,e,ex.2.1⟩
 |_=>show False.elim ty
def a6b(K:aH)(T:String)(r:V->af->Hp->VK->Prop)(to:TE):TE:=λσ H Q=>to σ H λx H1=>tyV K T x H1/\r x [] H1 Q
def tBM(K:aH)(T:String)(r:V->af->Hp->VK->Prop)(to:TE)(t:TA):TE:=λσ H Q=>to σ H λx H1=>tyV K T x H1/\t σ H1 λxs H2=>r x xs H2 Q
variable{o e:Expr}{es:ba}{to:TE}{t:TA}{name:Str}{apos cpos:Pos}{T id:String}{r:V->af->Hp->VK->Prop}
def a3M(pa:PlainAttrs T)(slot:Slot T name id)(hty:typeOf (.builtin id)=pure (.type "method_descriptor"))(hm:MtR X id r)(ho:PE X o to)
  (hbase:@&(attributeBase o name X.env (eval o X.env)=eval o X.env)) (hline:@&((apos.endLine==cpos.line)=true)):PE X (.Call (.Attribute o name apos) [] [] cpos) (a6b X.K T r to):=by
 intro Y s σ H Q I h;show wpAny_Call_method0_late hbase hline (jr (ho Y s σ H _ I h) λv s1 ⟨x,H1,I1,r1,ty,q1⟩=>?_);let⟨h1,h2⟩:=ĕ I1 r1 ty;show⟨T,id,pa,slot,hty,h1,h2,Ue Z (PySem.evalArgs_none (hm Y s1 σ H1 x [] v [] Q I1 r1 .nil q1))⟩
def a6c(pa:PlainAttrs T)(slot:Slot T name id)(hty:typeOf (.builtin id)=pure (.type "method_descriptor"))(hm:MtR X id r)(ho:PE X o to)(ha:PA X (e::es) t)
  (hbase:@&(attributeBase o name X.env (eval o X.env)=eval o X.env))
  (hfew:@&(((backTo cpos (starEach (e::es) X.env)).all (λx=>!x.1)&&(backToKw cpos (keywordEach [] X.env)).all (λx=>x.1.isSome)
   && decide ((e::es).length+([]:List Keyword).length+(if([]:List Keyword).isEmpty then 0 else 1)<30))=true))
  (hline:@&((apos.endLine==cpos.line)=true)) (hs:@&(starEach (e::es) X.env=(false,eval e X.env)::starEach es X.env)) (hplain:@&((backTo cpos (starEach es X.env)).any (·.1)=false)) :
  PE X (.Call (.Attribute o name apos) (e::es) [] cpos) (tBM X.K T r to t):=by
 intro Y s σ H Q I h;show wpAny_Call_method_late hbase hfew hline Z (jr (ho Y s σ H _ I h) λv s1 ⟨x,H1,I1,r1,ty,q1⟩=>?_);let⟨h1,h2⟩:=ĕ I1 r1 ty;show⟨T,id,pa,slot,hty,h1,h2,?_⟩;let hA:=ha cpos Y s1 σ H1 _ I1 q1;rw[hs]at hA ⊢;show Ue (by show(false||(backTo cpos (starEach es X.env)).any (·.1))=false;rw[hplain]<;>rfl) (Calls.evalArgs_plain ?_);show jr hA λus s2 ⟨vs,H2,I2,r2,q2⟩=>hm Y s2 σ H2 x vs v us Q I2 r1 r2 q2
end
def Ow(X:Cx)(id:String)(r:V->af->Hp->VK->Prop):Prop :=
 ∀(Y:aE) (s:Shared) (σ:St) (H:Hp) (x:V) (xs:af) (v:Value) (us:aw) (Q:VK),bF X Y σ H s->cZ x v->cN xs us->r x xs H Q->
  wpAny (model X.prog X.w) X.A (call (.builtin id) (v::us)) (EP X Y σ Q) X.xe s
def cN.iG{x:V}(h:cN [x] us):∃u,us=[u]/\cZ x u:=by
 cases h with
 |cons r t =>
  cases t;show⟨_,Z,r⟩
def cN.zero:∀{us:aw},cN [] us->us=[]
 |_,.nil=>rfl
def cN.dropLast{xs:af}{us:aw}(h:cN xs us):cN xs.dropLast us.dropLast:=by
 induction h with
 |nil=>show .nil
 |cons r t ih =>
  cases t with
  |nil=>show .nil
  |cons q t'=>show .cons r ih
def cN.reverse{xs:af}{us:aw}(h:cN xs us):cN xs.reverse us.reverse:=by
 induction h with
 |nil=>show .nil
 |cons r t ih=>rw[U5,U5];show cN.append ih (.cons r .nil)
def V0(l:List α):l.eraseIdx (l.length-1)=l.dropLast:=by
 induction l with
 |nil=>rfl
 |cons a r ih =>
  cases r with
  |nil=>rfl
  |cons b r =>
   let e:(a::b::r).length-1=((b::r).length-1)+1:=by
    let h1:(a::b::r).length=r.length+2:=rfl;let h2:(b::r).length=r.length+1:=rfl;omega
   rw[e,List.eraseIdx_cons_succ,ih];all_goals rfl
section
variable{Y:aE}{σ:St}{H:Hp}{s:Shared}{l b:Addr}{xs ys zs:af}
def bF.a0L{bY its':aw}{n:Nat}{f:Array Value->Array Value}{t':Nat}(I:bF X Y σ H s)(hH:H l=↥xs)
  (e:s^^^l=some { cls:=.type "list",data:=.seq bY.toArray n}) (hf:f bY.toArray=its'.toArray) (hv:cN ys its') (hz:ys.length<=sizeLine) :
  bF X Y σ (cX H l (.lst ys)) { s with heap:=s.heap.update l (Obj.mapSeq f),toks:=t'}:=by
 let q:=PySem.IsL.update e f;rw[hf]at q;show I.write (x:=l) (e:=l) (by rw[hH];show trivial) (.inl Z) (λb' u hb hu=>(Ug s.heap (Obj.mapSeq f) (Ne.symm hb)).trans hu) ⟨_,q⟩ ?_;show⟨hz,its',_,hv,q⟩
def bF.a77{bY:aw}{t':Nat}(I:bF X Y σ H s)(hv:cN ys bY)(hz:ys.length<=sizeLine) :
  bF X Y σ (cX H s⁻¹ (.lst ys)) { s with heap:=s.heap.push { cls:=.type "list",data:=.seq bY.toArray},toks:=t'} :=
 I.laid (λ_ _ q=>bM _ q) (aK _) ⟨hz,bY,0,hv,cB _ Z⟩
def bF.fresh(I:bF X Y σ H s):H s⁻¹=none:=I.hok.fresh (aK _)
def bF.V1(I:bF X Y σ H s)(hH:H l=↥xs):xs.length<=sizeLine/\∃(bY:aw) (n:Nat),cN xs bY/\xs.length=bY.length/\s^^^l=some { cls:=.type "list",data:=.seq bY.toArray n}:=by
 let⟨z,bY,n,r,e⟩:=I.hok l _ hH;show⟨z,bY,n,r,r.length,e⟩
end
inductive a0M(x:V)(vs:af)(H:Hp)(Q:VK):Prop
 |mk (l xs y:_) (_:x=.ref l) (_:vs=[y]) (_:H l=↥xs) (_:xs.length<sizeLine) (_:Q .non (cX H l (.lst (xs++[y]))))
def Ze:Ow X "list.append" a0M:=by
 intro Y s σ H x vs v us Q I rx rv h;let⟨l,xs,y,rfl,rfl,hH,hz,q⟩:=h;cases rx;let⟨u,rfl,ru⟩:=rv.iG;let⟨z,bY,n,r,hl,e⟩:=I.V1 hH;show zp F.slot_list_append ⟨_,e,Z⟩ F.entry_list_append (F.args_list_append_2 _ _) (PySem.list_append l bY.toArray n u (by rw[List.size_toArray];omega)) ⟨e,?_⟩;show⟨.non,_,I.a0L (its':=bY++[u]) hH e (by simp) (r.append (.cons ru .nil)) ?_,Z,q⟩;rw[bK,Cw];omega
inductive a78(x:V)(vs:af)(H:Hp)(Q:VK):Prop
 |mk (l xs y:_) (_:x=.ref l) (_:vs=[]) (_:H l=↥xs) (_:xs[xs.length-1]?=some y) (_:Q y (cX H l (.lst xs.dropLast)))
def a3N:Ow X "list.pop" a78:=by
 intro Y s σ H x vs v us Q I rx rv h;let⟨l,xs,y,rfl,rfl,hH,hy,q⟩:=h;cases rx;let hus:=rv.zero;subst hus;let⟨z,bY,n,r,hl,e⟩:=I.V1 hH;let⟨u,hu,ru⟩:=r.get hy;let hy':bY.toArray[bY.toArray.size-1]?=some u:=by
  show bY.toArray[bY.length-1]?=some u;rw[<-GJ,<-hl];show hu
 show zp F.slot_list_pop ⟨_,e,Z⟩ F.entry_list_pop (F.args_list_pop_1 _) (MeetsSeq.list_pop_last l bY.toArray n u hy' (by rw[gV];omega)) ⟨e,?_⟩;show⟨y,_,I.a0L (its':=bY.dropLast) hH e ?_ r.dropLast ?_,ru,q⟩
 ·show bY.toArray.eraseIdxIfInBounds (bY.toArray.size-1)=bY.dropLast.toArray;rw[gV,List.eraseIdxIfInBounds_toArray,V0]
 ·rw[Uq];omega
inductive Ė(x:V)(vs:af)(H:Hp)(Q:VK):Prop
 |mk (l xs:_) (_:x=.ref l) (_:vs=[]) (_:H l=↥xs) (_:Q .non (cX H l (.lst xs.reverse)))
def V2:Ow X "list.reverse" Ė:=by
 intro Y s σ H x vs v us Q I rx rv h;let⟨l,xs,rfl,rfl,hH,q⟩:=h;cases rx;let hus:=rv.zero;subst hus;let⟨z,bY,n,r,hl,e⟩:=I.V1 hH;show zp F.slot_list_reverse ⟨_,e,Z⟩ F.entry_list_reverse (F.args_list_reverse_1 _) (AutoSeq1.list_reverse_list_0 l bY.toArray n (by rw[gV];omega)) ⟨e,?_⟩;show⟨.non,_,I.a0L (its':=bY.reverse) hH e (by simp) r.reverse ?_,Z,q⟩;rw[yS];omega
inductive a79(x:V)(y:V)(H:Hp)(Q:VK):Prop
 |mk (l b xs zs:_) (_:x=.ref l) (_:y=.ref b) (_:H l=↥xs) (_:H b=↥zs) (_:xs.length+zs.length<=sizeLine) (_:∀p,H p=none->Q (.ref p) (cX H p (.lst (xs++zs))))
def a3O:qQ X (binaryOp .Add) a79:=by
 intro Y s σ H x y v u Q I rx ry h;let⟨l,b,xs,zs,rfl,rfl,hH,hB,hz,q⟩:=h;cases rx;cases ry;let⟨z,bY,n,r,hl,e⟩:=I.V1 hH;let⟨z2,its2,n2,r2,hl2,e2⟩:=I.V1 hB;show PySem.P.add_list e e2 ?_ (by rw[gV,gV];omega);let ea:bY.toArray++its2.toArray=(bY++its2).toArray:=by simp
 rw[ea];show⟨.ref _,_,I.a77 (t':=s.toks) (r.append r2) (by rw[List.length_append];omega),Z,q _ I.fresh⟩
end L2
namespace Att
open PySem.W PySem.Calls PyProof.Rows
def Ft{P:Params}{h:Heap}:∀(ns:ae) (vs:aw),WellAll P h vs (ns.map WData.int)->IntsAre vs ns:=by
 intro ns
 induction ns with
 |nil =>
  intro vs w;rw[List.map_nil]at w;cases w;show .nil
 |cons n ns ih =>
  intro vs w;rw[cA]at w;cases w with
  |cons a b =>
   cases a;show .cons _ _ (ih _ b)
def Zf{l : OpenLaw}{n : Nat}(hn : l.most = some n){P : Params}{h : Heap}{args : List WData}{vals : aw}
    (hpre : l.row.toRowW.claim.pre args = true) (hwl : WellAll P h vals args) :
    ∃ a vs ns, vals = [Value.ref a] ∧ args = [WData.list (ns.map WData.int)] ∧ h.get? a = some { cls := .type "list", data := .seq vs.toArray } ∧ IntsAre vs ns ∧ ns.length ≤ n := by
  let hsh : WShape.hasAll [] args [.list .int] = true := (pre_splitW hpre).1;let hc : l.pre.holds [] { args := args } = true := (pre_splitW hpre).2;let⟨d, r, rfl, h1, h2⟩ := hasAllW_cons hsh;obtain rfl := hasAllW_nil h2;let⟨xs, rfl, h3⟩ := hasW_list h1;let⟨ns, rfl⟩ := items_int h3;let hlen : ns.length ≤ n := by
    unfold OpenLaw.pre at hc;let h4 : (WTm.not (.lt (.lit (.int (n : Int))) (.len (.arg 0)))).holds [] { args := [.list (ns.map .int)] } = true := by
      let h4 := (holds_andW hc).1;rw [hn] at h4;show h4
    let h5 := condW_of h4 (w_not (w_lt w_lit (w_len_list (w_arg Z))));rw [aJ] at h5;show Nat.le_of_not_lt fun q => ?_;let q' : (n : Int) < ((ns.length : Nat) : Int) := by omega
    first
      | (rw [bh q'] at h5; show absurd h5 ())
      | (simp at h5; omega)
  cases hwl with
  | cons w1 w2 =>
    cases w2;cases w1 with
    | list ho hall => show ⟨_, _, ns, Z, Z, ho, Ft ns _ hall, hlen⟩
def Zg(l : OpenLaw)(args : List WData) : l.row.toRowW.claim.post args (.bool true) args = true :=
  postW_of (r := l.row.toRowW) (X := (true == true))
    (show WShape.has [] (.bool true) .bool = true by first | rfl | decide | simp [WShape.has, WShape.arms, WShape.armsAll])
    (show (WTm.eq .res (.lit (.bool true))).value [] { args := args, res := some (.bool true), after := args } = some (.bool (true == true)) from w_eq_bool (w_res Z) w_lit) rfl
def QD{l:OpenLaw}{n:Nat}{q:Program}{loose:ag}{XP:(Str->Option Value)->Heap->Prop}{YP:World->Heap->Prop}{d:DefRec}
  (hn:l.most=some n) (hdf:d.params.defaults=[])
  (call:∀(w:World) (s₀ s₁:Shared) (mg mb:Str->Option Value) (fa:Addr) (o:Obj) (pm cd doc:Value) (a:Addr) (vs:aw) (ns:ae),
   Ground q loose [] XP w s₀ mg mb s₁.heap->YP w s₁.heap->
   s₁^^^fa=some o->o.data=.func (docDef d.name d.params d.body d.scope pm cd doc)->s₁.heap.CodeRec cd d.name->mg d.name=⇑fa->
   s₁^^^a=some { cls:=.type "list",data:=.seq vs.toArray}->IntsAre vs ns->ns.length<=n->s₁.gens = #[]->
   codeAny (model l.prog w) callerA (.call (.ref fa) ⟨[.ref a],[]⟩) (λr s'=>r=.ok (.ret (.bool true))/\OldK s₁.heap s'.heap/\s'.os=s₁.os/\AllBare s'.gens) s₁) :
  WalkO q loose XP YP l.row.toRowW d [] (λf vs=>PySem.call f vs):=by
 intro w s₀ s₁ mg mb G Z99 fa o pm cd doc dV kV ho hd hcd hD hmg hg args vals as hpre hlay hrd hwl hlo;obtain rfl:dV=.none:=Dflts.none hD hdf;obtain rfl:kV=.none:=Dflts.noKw hD;let⟨a,vs,ns,rfl,rfl,hobj,hints,hlen⟩:=Zf hn hpre hwl;show enter_call (CZ (call w s₀ s₁ mg mb fa o pm cd doc a vs ns G Z99 ho (fd_plain hd) hcd hmg hobj hints hlen hg) λr s' hq=>?_);let⟨rfl,h2,h3,h4⟩:=hq;show⟨.inl ⟨.bool true,.bool true,[],Z,λ_=>rfl,.bool true,Zg l _,λ_=>⟨List.Pairwise.nil,λ_ hm=>(nomatch hm)⟩⟩,h2,h3,h4⟩
end Att
namespace L2
open PyProof.Rows
variable{X:Cx}{σ:St}{ix:List (Option Nat)}{x qual:Str}{Y:aE}{a it:Addr}{n k:Nat}{scope:Scope}{g:TG}{tt:TT}{te:TE}{pos:Pos}{H1 H':Hp}{Q:VK}{o:HO}{N':ag}{tg elt iter:Expr}{w:World}{fd:FuncData}{A B:Prop}{R:Result->Shared->Prop}{ifs es:ba}{r:V->af->Hp->VK->Prop}
def Kv:∀{vs:aw}{ns:ae},IntsAre vs ns->cN (ns.map V.int) vs
 |_,_,.nil=>.nil
 |_,_,.cons n t h=>.cons ⟨t,Z⟩ (Kv h)
def Only(H:Hp):Prop:=∀b,H b=none\/∃o xs,H b=some (.iw o (.lst xs))
def ė{P:Program}{K:aH}{mg mb:Str->Option Value}{CX:TF}{fa:Addr}{sp:Sp}{s₁:Shared}{vs:aw}{ns:ae}
  (KX:K.In s₁.heap) (hns:s₁.heap.Ns mainGlobals mg) (hb:s₁.heap.Ns builtinsNs mb) (hbb:∀x:Str,x≠ "__name__" ->mb x=bootBuiltins x) (hlim:s₁.heap.NoLimit) (hg:s₁.gens = #[])
  (ha:s₁^^^a=some { cls:=.type "list",data:=.seq vs.toArray}) (hi:IntsAre vs ns) (hl:ns.length<=sizeLine) (hr:qR k callerA)
  (F:∀base:Heap,K.In base->base.Ns mainGlobals mg->bG P w K mg base CX k fa fd [x] sp) (hbind:∀(s:Shared) (u:Value),BindsTo s fd ⟨[u],[]⟩ [(x,u)])
  (hsp:∀H:Hp,Only H->bB K H a (ns.map V.int)->sp [.ref a] H (λv _=>v=.bl true) λ_ _ _=>False)
  (hCX:∀H e s',CX [] H s₁ (λ_ _ _=>False) e s'->False) :
  codeAny (model P w) callerA (.call (.ref fa) ⟨[.ref a],[]⟩) (λr s'=>r=.ok (.ret (.bool true))/\OldK s₁.heap s'.heap/\s'.os=s₁.os/\AllBare s'.gens) s₁:=by
 let rv:=Kv hi;let lenV:=hi.length;let core:∀H:Hp,Only H->bB K H a (ns.map V.int)->xW P w H s₁.heap->(∀b,H b≠none->b=a)->(H a≠none->K.lookup a=none)->
   codeAny (model P w) callerA (.call (.ref fa) ⟨[.ref a],[]⟩) (λr s'=>r=.ok (.ret (.bool true))/\OldK s₁.heap s'.heap/\s'.os=s₁.os/\AllBare s'.gens) s₁:=by
  intro H hO hS hok hA hK;let XQ:∀{b:Addr}{o:Obj},s₁^^^b=some o->H b=none->(Oi s₁.heap H).get? b=some o:=λe n=>ā e n;let noA:∀{b:Addr}{o:Obj}{es:Array DictEntry}{ep:Nat},s₁^^^b=some o->o.data=.dict es ep->H b=none:=λ{b o es ep} e d=>by
   cases q:H b with
   |none=>rfl
   |some u =>
    let e':b=a:=hA b (by rw[q];simp);subst e';rw[ha]at e;cases e;let d':Data.seq vs.toArray _=Data.dict es ep:=d;cases d'
  let nsK:∀{b:Addr}{m:Str->Option Value},s₁.heap.Ns b m->(Oi s₁.heap H).Ns b m:=λ{b m} ⟨o,es,ep,e,d,r⟩=>⟨o,es,ep,XQ e (noA e d),d,r⟩;let hKb:K.In (Oi s₁.heap H):=λb o e=>XQ (KX b o e) (by
   cases q:H b with
   |none=>rfl
   |some u =>
    let e':b=a:=hA b (by rw[q];simp);subst e';rw[hK (by rw[q];simp)]at e;cases e)
  let hM:Mod K mg (Oi s₁.heap H):=⟨hKb,nsK hns,⟨mb,nsK hb,hbb⟩,let⟨mc,h1,h2⟩:=hlim;⟨mc,nsK h1,h2⟩⟩;let e0:VF P w K mg (Oi s₁.heap H) callerA [] s₁ H:=⟨Z,hM,λb o e=>a0s e,Ob (Y4 _ _),trivial,λb hb=>absurd (show b∈([]:aI)from hb) (by simp),hok,.of_eq hg⟩;show CZ ((F _ hKb (nsK hns)).run callerA [] s₁ H ⟨[.ref a],[]⟩ [.ref a] [.ref a] _ _ hr e0 (hbind s₁ (.ref a)) (.cons Z .nil) (hsp H hO hS)) λr s' h=>?_;cases r with
  |error e=>show(hCX H e s' h).elim
  |ok fl =>
   cases fl with
   |next=>show False.elim h
   |brk=>show False.elim h
   |cont=>show False.elim h
   |ret u =>
    let⟨v,H',os,bare,un,hok',r',q⟩:=h;let q':v=.bl true:=q;subst q';obtain rfl:u=Value.bool true:=r';show⟨Z,OldK.of_keep λb o e=>?_,os,bare⟩;cases q:H b with
    |none=>show un.keep b o e q (by intro z;show absurd (show b∈([]:aI)from z) (by simp)) (by simp)
    |some u =>
     rcases hO b with z|⟨ob,xs,z⟩
     ·rw[q]at z;cases z
     ·let z2:=un.Hu b ob _ z;let⟨e1,_⟩:=hok b _ z;let⟨e2,_⟩:=hok' b _ z2;rw[e]at e1;cases e1;show e2
 cases hk:K.lookup a with
 |some o =>
  let e:=KX a o hk;rw[ha]at e;cases e;show core (λ_=>none) (λ_=>.inl Z) (.inr ⟨_,vs.toArray,_,hk,Z,Z,Z,by rw[gV,lenV];show hl,by simpa using rv⟩) (λb u z=>by let z':(none:Option HO)=some u:=z;cases z') (λb z=>absurd Z z) λz=>absurd Z z
 |none =>
  show core (λb=>if b=a then some (.iw { cls:=.type "list",data:=.seq vs.toArray} (.lst (ns.map V.int)))else none) (λb=>?_) (.inl (.inr ⟨{ cls:=.type "list",data:=.seq vs.toArray},aD Z⟩)) (λb u z=>?_) (λb z=>?_) λ_=>hk
  ·by_cases hb:b=a
   ·show .inr ⟨_,_,aD hb⟩
   ·show .inl (aA hb)
  ·by_cases hb:b=a
   ·let z':=(aD hb).symm.trans z;cases z';subst hb;show⟨ha,by rw[aJ];show hl,vs,_,rv,ha⟩
   ·let z':=(aA hb).symm.trans z;cases z'
  ·by_cases hb:b=a
   ·show hb
   ·show absurd (aA hb) z
abbrev KOf{K:aH}{h:Heap}(_:K.In h):aH:=K
def a0N{l:PySem.W.OpenLaw}{q:Program}{loose:ag}{XP:(Str->Option Value)->Heap->Prop}{YP:World->Heap->Prop}{d:DefRec}{K:Params->aH}{CX:World->TF}{sp:World->Sp}
  (hn:l.most=some n) (hn2:n<=sizeLine) (hdf:d.params.defaults=[]) (hr:qR k callerA)
  (hY:∀(w:World) (h:Heap),YP w h->(K w.params).In h)
  (F:∀(w:World) (mg:Str->Option Value) (fa:Addr) (h:Heap),(K w.params).In h->h.Ns mainGlobals mg->mg d.name=⇑fa->
   ∃fd:FuncData,(∀(s:Shared) (u:Value),BindsTo s fd ⟨[u],[]⟩ [(x,u)])/\
    ∀base:Heap,(K w.params).In base->base.Ns mainGlobals mg->bG l.prog w (K w.params) mg base (CX w) k fa fd [x] (sp w))
  (hsp:∀(w:World) (H:Hp) (a:Addr) (ns:ae),ns.length<=n->Only H->bB (K w.params) H a (ns.map V.int)->sp w [.ref a] H (λv _=>v=.bl true) λ_ _ _=>False)
  (hCX:∀(w:World) (H:Hp) (s:Shared) (e:Value) (s':Shared),CX w [] H s (λ_ _ _=>False) e s'->False) :
  PySem.W.WalkO q loose XP YP l.row.toRowW d [] (λf vs=>PySem.call f vs):=by
 show Att.QD hn hdf λw s₀ s₁ mg mb fa o pm cd doc a vs ns G Z99 ho hd hcd hmg hobj hints hlen hg=>?_;let KX:=hY w _ Z99;let⟨fd,hb,hF⟩:=F w mg fa _ KX G.T.g hmg;show ė KX G.T.g G.T.b G.T.builtins G.T.nolimit hg hobj hints (cC hlen hn2) hr hF hb (λH hO hS=>hsp w H a ns hlen hO hS) λH e s'=>hCX w H s₁ e s'
def Ę{l:PySem.W.OpenLaw}{q:Program}{loose:ag}{XP:(Str->Option Value)->Heap->Prop}{YP:World->Heap->Prop}{d:DefRec}{K:Params->aH}{CX:TF}{sp:aH->Sp}
  (hn:l.most=some n) (hn2:n<=sizeLine) (hdf:d.params.defaults=[]) (hr:qR k callerA)
  (hY:∀(w:World) (h:Heap),YP w h->(K w.params).In h)
  (F:∀(w:World) (mg:Str->Option Value) (fa:Addr) (h:Heap),(K w.params).In h->h.Ns mainGlobals mg->mg d.name=⇑fa->
   ∃fd:FuncData,(∀(s:Shared) (u:Value),BindsTo s fd ⟨[u],[]⟩ [(x,u)])/\
    ∀base:Heap,(K w.params).In base->base.Ns mainGlobals mg->bG l.prog w (K w.params) mg base CX k fa fd [x] (sp (K w.params)))
  (hsp:∀(K:aH) (H:Hp) (a:Addr) (ns:ae),ns.length<=n->Only H->bB K H a (ns.map V.int)->sp K [.ref a] H (λv _=>v=.bl true) λ_ _ _=>False)
  (hCX:∀(H:Hp) (s:Shared) (e:Value) (s':Shared),CX [] H s (λ_ _ _=>False) e s'->False) :
  PySem.W.WalkO q loose XP YP l.row.toRowW d [] (λf vs=>PySem.call f vs) :=
 a0N (K:=K) (CX:=λ_=>CX) (sp:=λw=>sp (K w.params)) hn hn2 hdf hr hY F (λw H a ns h1 h2 h3=>hsp (K w.params) H a ns h1 h2 h3) λ_ H s e s'=>hCX H s e s'
noncomputable def inClass(s:Stmt)(j:Nat):Stmt:=match s with
 |.ClassDef _ _ _ body _ _ _ _ _ _ _=>body.getD j (.Pass ⟨0,0,0,0⟩)
 |_=>.Pass ⟨0,0,0,0⟩
noncomputable def gY(s:Stmt):Arguments:=match s with
 |.FunctionDef _ a _ _ _ _ _ _ _ _=>a
 |_=>{ posonlyargs:=[],args:=[],vararg:=none,kwonlyargs:=[],kw_defaults:=[],kwarg:=none,defaults:=[]}
noncomputable def gj(s:Stmt):List Stmt:=match s with
 |.FunctionDef _ _ b _ _ _ _ _ _ _=>b
 |_=>[]
noncomputable def aG(s:Stmt):Scope:=match s with
 |.FunctionDef _ _ _ _ _ _ sc _ _ _=>sc
 |_=>{ kind:=.function,names:=[],isGenerator:=false,isCoroutine:=false}
abbrev gh:TF:=λ_ _ _ _ _ _=>False
abbrev E0:XK:=λ_ _ _=>False
def bZ:zx gh X E0:=λ_ _ _ _ _ _ _ h=>h.elim
structure Fun(K:aH)(x qual:Str)(st:Stmt)(f:Addr)(fd:FuncData):Prop where
 ex:∃(oc:Value) (od:Option Addr) (kV doc pm:Value) (an:Option Addr) (dZ ct:Value) (osl:Array (Option Value)),
  fd=fnOf x qual (gY st) (gj st) (aG st) .none kV doc pm an dZ ct/\K.lookup f=some ⟨oc,od,.func fd,osl⟩/\codeIn K dZ qual=true
 kp:keepIn K (.ref f)=true
section
variable{P:Program}{K:aH}{mg:Str->Option Value}{base:Heap}
def Fun.ok{st:Stmt}{f:Addr}{N ps:ag}{sp:Sp}(F:Fun K x qual st f fd)(S:bR N ps (aG st))(hbody:∀(dZ:Value) (A:Around) (outer:List Env) (s:Shared) (H:Hp) (vs:af) (Q:VK) (E:XK),qR k (A.deeper (envOfC qual (aG st) s⁻¹ f dZ))->sp vs H Q E->
   ∃t,Qv (VH gh P w K mg base N qual (aG st) f dZ A outer s H E).nox (gj st) t/\t { nx:=λ_ H'=>Q .non H',rt:=Q} (start N vs) H)
  (len:∀vs H Q E,sp vs H Q E->vs.length=ps.length:=by intro vs H Q E h;first|(cases h;subst_vars;rfl)|(repeat first|(let⟨e,_⟩:=h;rw[e];rfl)|(let⟨_,h⟩:=h))):⋯ (k+1) f fd ps sp:=by
 let⟨oc,od,kV,doc,pm,an,dZ,ct,osl,rfl,lk,hcd⟩:=F.ex;show a2K lk hcd S len λA outer s H vs Q E hr hsp=>?_;let⟨t,h,q⟩:=hbody dZ A outer s H vs Q E hr hsp;show⟨t,h.nox,q⟩
def Fun.binds{st:Stmt}{f:Addr}{ps:ag}(F:Fun K x qual st f fd)
  (h:∀(kV doc pm:Value) (an:Option Addr) (dZ ct:Value) (us:aw),us.length=ps.length->bindArgs (fnOf x qual (gY st) (gj st) (aG st) .none kV doc pm an dZ ct) ⟨us,[]⟩=pure (ps.zip us)):Binds K fd ps []:=by
 let⟨oc,od,kV,doc,pm,an,dZ,ct,osl,rfl,lk,hcd⟩:=F.ex;show .all (h kV doc pm an dZ ct)
def V3{st:Stmt}{f:Addr}{oc:Value}{od an:Option Addr}{osl:Array (Option Value)}{kV doc pm dZ ct:Value}(l:K.lookup f=some ⟨oc,od,.func (fnOf x qual (gY st) (gj st) (aG st) .none kV doc pm an dZ ct),osl⟩)
  (c:codeIn K dZ qual=true) (k:keepIn K (.ref f)=true):Fun K x qual st f (fnOf x qual (gY st) (gj st) (aG st) .none kV doc pm an dZ ct):=⟨⟨oc,od,kV,doc,pm,an,dZ,ct,osl,Z,l,c⟩,k⟩
end
def dz(h:n<=1000):n<sizeLine:=M9 h ()
def pv(i:Nat)(hN:@&(X.N[i]?=some x))(hv:Vis X.env.scope x:=by first|exact Or.inl rfl|exact Or.inr (Or.inl Z)|exact Or.inr (Or.inr Z))(hd:@&((x==("__debug__" : Str))=false))
  (hcd:@&((x==("__classdict__" : Str))=false)):PE X (.Name x pos) (Vq i):=a3r hN hv hd hcd
def cQ(h:B):if false=true then A else B:=by
 rw[aA cL];show h
def iC(h:A):if true=true then A else B:=by
 rw[aD rfl];show h
def qH{c:Prop} [Decidable c] (h1:c->A) (h2:¬c->B):if c then A else B:=by
 by_cases h:c
 ·rw[aD h];show h1 h
 ·rw[aA h];show h2 h
def aL(H H':Hp):Prop:=∀b o,H b=some o->H' b=some o
def aL.refl(H:Hp):aL H H:=λ_ _ h=>h
def aL.trans{H H2:Hp}(a:aL H H1)(b:aL H1 H2):aL H H2:=λc o h=>b c o (a c o h)
def aL.free{H:Hp}(e:aL H H'){l:Addr}(h:H' l=Option.none):H l=Option.none:=by
 cases q:H l with
 |none=>rfl
 |some o =>
  rw[e l o q]at h;cases h
def aL.seq{K:aH}{H:Hp}{xs:af}(e:aL H H')(h:bB K H a xs):bB K H' a xs:=by
 rcases h with(h|⟨o,h⟩)|h
 ·show .inl (.inl (e _ _ h))
 ·show .inl (.inr ⟨o,e _ _ h⟩)
 ·show .inr h
noncomputable def vM(cells:List (Str×Addr)):List (Str×NameKind)->List (Str×Addr)->List (Str×Addr)
 | [],acc=>acc
 |(n,k)::r,acc=>vM cells r (if k==.free then(match cells.lookup n with|some c=>(n,c)::acc|none=>acc)else acc)
theorem ę{env:Env}:∀(ns:List (Str×NameKind)) (acc:List (Str×Addr)),(∀x∈ns,x.2=.free->∃c,env.cells.lookup x.1=some c)->
  (forIn ns acc λ(x:Str×NameKind) (cs:List (Str×Addr))=>(if x.2==NameKind.free then do let a <-cellOf env x.1;pure (ForInStep.yield ((x.1,a)::cs))else pure (ForInStep.yield cs):Sem (ForInStep (List (Str×Addr)))))=pure (vM env.cells ns acc)
 | [],acc,_=>by simp[vM]
 |(n,k)::r,acc,h=>by
  rw[List.forIn_cons]
  let ih:=λa=>ę (env:=env) r a λx hx=>h x (bH _ hx)
  unfold vM
  by_cases hk:(k==NameKind.free)=true
  ·let⟨c,hc⟩:=h (n,k) aZ ()
   let hc':env.cells.lookup n=some c:=hc
   let hce:cellOf env n=pure c:=by simp only[cellOf,hc']
   simp only[hk,if_true,hce,pure_bind,hc']
   show ih _
  ·simp only[hk,if_false,pure_bind,ih]
   simp
def Hz{env:Env}(h:∀x∈scope.names,x.2=.free->∃c,env.cells.lookup x.1=some c):closureFor scope env=pure (vM env.cells scope.names []):=by
 let q:=ę (env:=env) scope.names [] h;unfold closureFor;rw[<-q];first
  |rfl
  |simp
set_option tactic.hygienic true in
theorem Ai{cells:List (Str×Addr)}:∀(ns:List (Str×NameKind)) (acc:List (Str×Addr)) {x:Str}{c:Addr},(∀y d,acc.lookup y=some d->cells.lookup y=some d)->(vM cells ns acc).lookup x=some c->cells.lookup x=some c
 | [],acc,x,c,ha,h=>ha x c h
 |(n,k)::r,acc,x,c,ha,h=>by
  unfold vM at h
  show Ai r _ (λy d hy=>?_) h
  split at hy
  ·split at hy
   ·rename_i c' hc'
    rw[List.lookup_cons]at hy
    split at hy
    ·rename_i e
     let e':y=n:=by simpa using e
     subst e'
     rw[hc'];show hy
    ·show ha y d hy
   ·show ha y d hy
  ·show ha y d hy
theorem Kw{cells:List (Str×Addr)}:∀(ns:List (Str×NameKind)) (acc:List (Str×Addr)) {x:Str},(∃c,acc.lookup x=some c)->∃c,(vM cells ns acc).lookup x=some c
 | [],acc,x,h=>h
 |(n,k)::r,acc,x,h=>by
  unfold vM
  show Kw r _ ?_
  split
  ·split
   ·rw[List.lookup_cons]
    split
    ·show⟨_,Z⟩
    ·show h
   ·show h
  ·show h
theorem HB{cells:List (Str×Addr)}:∀(ns:List (Str×NameKind)) (acc:List (Str×Addr)) {x:Str},(x,NameKind.free)∈ns->(∃c,cells.lookup x=some c)->∃c,(vM cells ns acc).lookup x=some c
 | [],acc,x,h,_=>nomatch h
 |(n,k)::r,acc,x,h,hc=>by
  unfold vM
  rcases bT.mp h with e|h
  ·cases e
   let⟨c,hc⟩:=hc
   show Kw r _ ?_
   simp[hc]
  ·show HB r _ h hc
def bF.track{H:Hp}{s:Shared}(I:bF X Y σ H s)(hn:H a=none)(h0:X.s₀.heap.objs.size<=a)(hL:a≠X.env.locals)
  (hc:∀x c,X.env.cells.lookup x=some c->c≠a) (hp:∀p∈X.pn++Y,p.1≠a) (new:fB X.prog X.w (cX H a o) s.heap a o):bF X Y σ (cX H a o) s:=by
 let ne:∀b u,H b=some u->b≠a:=λb u e=>dR e hn;let q:=I.step (g':=s.gens) (d':=s.drawn) (t':=s.toks) (h':=s.heap) (H':=cX H a o) (ch:=[a]) (λb hb=>?_) (λb ob _ _ _ e _=>e) (λb ob _ _ _ e _=>⟨ob.slots,e⟩) (λb ob hb _ n=>?_)
  (λb ob _ e=>⟨ob,e⟩) (λb xs e=>by rw[aQ (ne b _ e)];show e) (λb ob u e=>by rw[aQ (ne b _ e)];show e) (λb ps e=>⟨#[],by rw[aQ (ne b _ e),e];simp⟩) (λm hm=>hm) (λb u e=>?_) I.bare
 ·show q
 ·let e:b=a:=by simpa using hb
  subst e;show⟨.inr h0,hL,hc,hp⟩
 ·rw[aQ (λz=>hb (by simp[z]))];show n
 ·by_cases hb:b=a
  ·subst hb;rw[dw]at e;grind
  ·rw[aQ hb]at e;show(I.hok b u e).stay (λc v _ q=>q) (λc q=>by rw[aQ (dR q hn)];show q) λc xs q=>by rw[aQ (dR q hn)];show q
def sy(X:Cx)(N':ag)(scope:Scope)(C:Addr)(s:Shared)(H:Hp)(fp:aI)(xe:∅):Cx :=
 { X with N:=N',s₀:=s,H₀:=H,env:=compEnvC scope (vM X.env.cells scope.names []) C X.env,outer:=X.stack,ex:=fp,fn:=λ_=>false,xe:=xe}
structure XR(X:Cx)(N':ag)(ix:List (Option Nat))(scope:Scope):Prop where
 kind:scope.kind=.function
 Ě:∀y∈scope.names,y.2≠.cell
 locs:∀y∈scope.names,y.2=.local->scope.names.lookup y.1=some .local
 free:∀y∈scope.names,y.2=.free->X.env.kindOf y.1=some .cell\/X.env.kindOf y.1=some .free
 len:ix.length=N'.length
 cap:∀(i j:Nat),ix[i]?=some (some j)->∃x,N'[i]?=some x/\X.N[j]?=some x/\scope.names.lookup x=some .free
noncomputable def qg(ix:List (Option Nat))(σ:St):St:=ix.map λo=>o.bind λj=>(σ[j]?).join
theorem Aj{env:Env}{x:Str}:∀{names:List (Str×NameKind)},names.lookup x=some .free->(names.map λ(n,k)=>if(k==NameKind.free&&env.scope.kind==.function&&env.kindOf n==some .cell)then(n,NameKind.cell)else(n,k)).lookup x=some .cell\/(names.map λ(n,k)=>if(k==NameKind.free&&env.scope.kind==.function&&env.kindOf n==some .cell)then(n,NameKind.cell)else(n,k)).lookup x=some .free
 | [],h=>by simp at h
 |(n,k)::r,h=>by
  let ih:=@Aj env x r
  grind
theorem Ak{env:Env}{x:Str}:∀{names:List (Str×NameKind)},(∀y∈names,y.2≠.cell)->((names.map λ(n,k)=>if(k==NameKind.free&&env.scope.kind==.function&&env.kindOf n==some .cell)then(n,NameKind.cell)else(n,k)).lookup x=some .cell\/(names.map λ(n,k)=>if(k==NameKind.free&&env.scope.kind==.function&&env.kindOf n==some .cell)then(n,NameKind.cell)else(n,k)).lookup x=some .free)->(x,NameKind.free)∈names
 | [],_,h=>by simp at h
 |(n,k)::r,hn,h=>by
  let ih:=@Ak env x r λy hy=>hn y (bH _ hy)
  grind
def Ky{H:Hp}{s:Shared}{i:Nat}{v:V}(B:XR X N' ix scope)(I:bF X Y σ H s)
  (h1:N'[i]?=some x) (h2:(qg ix σ)[i]?=some (some v)):∃u c,cZ v u/\(vM X.env.cells scope.names []).lookup x=some c/\X.env.cells.lookup x=some c/\s.heap.IsCell c (some u)/\
   ((relabel scope X.env).names.lookup x=some .cell\/(relabel scope X.env).names.lookup x=some .free):=by
 let clB:∀x c,(vM X.env.cells scope.names []).lookup x=some c->X.env.cells.lookup x=some c:=λx c h=>Ai scope.names [] (λ_ _ z=>by simp at z) h;obtain⟨j,hj,hv⟩:∃j,ix[i]?=some (some j)/\σ[j]?=some (some v):=by
  unfold qg at h2;rw[cV]at h2;cases e:ix[i]? with
  |none=>grind
  |some o =>
   rw[e]at h2;cases o with
   |none=>cases h2
   |some j =>
    grind
 let⟨x',hx1,hx2,hx3⟩:=B.cap i j hj;let exx:x'=x:=by
  grind
 subst exx;let hmem:=CK hx3;let hout:=B.free _ hmem rfl;let⟨m0,_,hl⟩:=I.loc;let⟨u,r,l⟩:=hl j x' v hx2 hv (by
  rcases hout with e|e
  ·show .inr (.inl e)
  ·show .inr (.inr e))
 rcases l with⟨k,_⟩|⟨k,c,e,z⟩
 ·rcases hout with e|e
  ·rw[e]at k;cases k
  ·rw[e]at k;cases k
 ·let⟨c',hc'⟩:=HB scope.names [] hmem (I.ok.has x' hout);let:=clB x' c' hc';rw[e]at this;cases this;show⟨u,c,r,hc',e,z,Aj hx3⟩
def Zh{H:Hp}{s s4:Shared}{C:Addr}{fp:aI}{xe:∅}{m:Str->Option Value}
  (B:XR X N' ix scope) (I:bF X Y σ H s) (hf:∀b∈fp,Dd X Y H b) (hC:s⁻¹<=C) (hfs:∀b∈fp,b<s⁻¹)
  (ho:s4.os=s.os) (hg:s4.gens=s.gens) (hk:∀b o,s^^^b=some o->s4^^^b=some o) (hns:s4.heap.Ns C m) :
  bF (sy X N' scope C s H fp xe) Y (qg ix σ) H s4:=by
 let clB:∀x c,(vM X.env.cells scope.names []).lookup x=some c->X.env.cells.lookup x=some c:=λx c h=>Ai scope.names [] (λ_ _ z=>by simp at z) h;let hfree:H C=none:=I.hok.fresh hC;let neC:∀b o,s^^^b=some o->b≠C:=λb o e=>b7 (je (bw e) hC);show⟨⟨I.ok.mod,B.kind,I.ok.glob,I.ok.blt,hC,λx y c h1 h2=>I.ok.inj x y c (clB x c h1) (clB y c h2),λx hx=>?_,λx c h=>absurd (show false=true from h) cL,I.ok.hd,I.ok.frames,.inl Z,λb hb=>⟨?_,λx c e=>?_⟩,I.bs,?_,λb o e hb=>?_,λb hb z=>?_,I.stack,I.Xu⟩,
  ho,?_,Un.kept hk,⟨m,hns,λi x v h1 h2 h3=>?_⟩,λx c e=>?_,hfree,λx c e=>I.rT x c (clB x c e),λp hp=>?_,I.hok.kept hk,?_⟩
 ·let hx':=Ak (env:=X.env) (x:=x) B.Ě hx;show HB scope.names [] hx' (I.ok.has x (B.free _ hx' Z))
 ·show b7 (je (hfs b hb) hC)
 ·show(hf b hb).2.2.2.2.1 x c (clB x c e)
 ·show cC I.ok.bsz I.sz
 ·let⟨_,_,_,q,_⟩:=hf b hb;rcases q with q|q
  ·show I.ok.Vp b o e q
  ·show absurd (je (bw (I.ok.bs b o e).1) q) (zc _)
 ·let⟨_,q1,q2,_⟩:=hf b hb;rcases bT.mp (I.Dc b z)with e|e
  ·show q1 e
  ·show q2 e
 ·rw[hg];show I.bare
 ·let⟨u,c,r,hc1,_,⟨oc,z1,z2⟩,hk'⟩:=Ky B I h1 h2;show⟨u,r,.inr ⟨hk',c,hc1,oc,hk _ _ z1,z2⟩⟩
 ·let⟨v,oc,h1,h2⟩:=I.cell x c (clB x c e);show⟨v,oc,hk _ _ h1,h2⟩
 ·let⟨e,n,ne,nf,d⟩:=I.pin p hp;show⟨hk _ _ e,n,neC _ _ e,λz=>?_,d⟩;rcases bT.mp (I.Dc p.1 z)with e'|e'
  ·show ne e'
  grind
 ·show(ix.map _).length=N'.length;rw[aJ];show B.len
def QF{prog:Program}{A:Around}{s:Shared}{target:Expr}{it acc:Value}{env:Env}(Iv:Nat->Shared->Prop)
  (turn:∀n s,Iv n s->∎ (pyNext it) (λr s₁=>match r with
   |none=>R (.ok .next) s₁
   |some v=>∎ (letOwnedTupleGo target it v) (λ_ s₁'=>∎ (assign target env v) (λ_ s₂ =>
     ∎ (forIn ifs true λc r=>if r=true then do let ok <-isTrue c env (eval c env);pure (ForInStep.yield ok)else pure (ForInStep.yield r)) (λok s₃ =>
      if ok=true then ∎ (eval elt env) (λx s₄ =>
       ∎ (call (.builtin "list.append") [acc,x]) (λ_ s₅=>∃m,m<n/\Iv m s₅) (notedBy (model prog w) A env λe s'=>R (.error e) s') s₄) (notedBy (model prog w) A env λe s'=>R (.error e) s') s₃
      else ∃m,m<n/\Iv m s₃) (notedBy (model prog w) A env λe s'=>R (.error e) s') s₂) (notedBy (model prog w) A env λe s'=>R (.error e) s') s₁') (notedBy (model prog w) A env λe s'=>R (.error e) s') s₁) (notedBy (model prog w) A env λe s'=>R (.error e) s') s)
  (n:Nat) (h:Iv n s) :
  codeAny (model prog w) A (.compLoop (.ListComp elt [⟨target,iter,ifs,0⟩] scope pos) 0 it acc env) R s:=by
 show codeAny_loop Z Iv (λn s hI=>?_) n h;show wpAny _ A ((compTurn (.ListComp elt [⟨target,iter,ifs,0⟩] scope pos) 0 it acc env).onRaise λx=>do noteFrame x env;theTreesLotGoes x) _ _ s;show wpAny_noted ?_;rw[compTurn_list];show M (NT (M (iJ (turn n s hI) (λr s₁ h₁=>?_) λ_ _ h'=>h')));cases r with
 |none=>show ao h₁
 |some v =>
  show M (iJ h₁ (λ_ s₁' h₁'=>M (iJ h₁' (λ_ s₂ h₂=>M (iJ h₂ (λok s₃ h₃=>?_) λ_ _ h'=>h')) λ_ _ h'=>h')) λ_ _ h'=>h');cases ok with
  |false=>show ao ⟨Z,h₃⟩
  |true =>
   show M (M (iJ h₃ (λx s₄ h₄=>M (iJ h₄ (λ_ s₅ h₅=>ao (ao ⟨Z,h₅⟩)) λ_ _ h'=>h')) λ_ _ h'=>h'))
def PTs(X:Cx)(ifs:ba)(t:TT):Prop :=
 ∀(Y:aE) (s:Shared) (σ:St) (H:Hp) (Q:Bool->Hp->Prop),bF X Y σ H s->t σ H Q->
  wpAny (model X.prog X.w) X.A (forIn ifs true λc r=>if r=true then do let ok <-isTrue c X.env (eval c X.env);pure (ForInStep.yield ok)else pure (ForInStep.yield r)) (TP X Y σ Q) X.xe s
noncomputable def ě:TT:=λ_ H Q=>Q true H
def gk:PTs X [] ě:=λ_ _ _ H _ I h=>wpAny_tests_nil ⟨H,I,h⟩
def tG{c:Expr}{t:TT}(h:PT X c t):PTs X [c] t:=λY s σ H Q I hw=>wpAny_tests_one (h Y s σ H Q I hw)
def lY(ix:List (Option Nat))(g:TG)(tt:TT)(te:TE)(σ:St)(H1:Hp)(Q:VK)(Z97:It):Prop:=∃W:Nat->Nat->af->Hp->Prop,(∃m,W 0 m [] H1)/\∀i m ys H,W i m ys H->
 (Z97.stop i H/\ys.length<=sizeLine/\∀p,H p=none->Q (.ref p) (cX H p (.lst ys)))\/
 (Z97.go i H/\ys.length<=sizeLine/\∃N:af->Hp->Prop,(∀ys' H',N ys' H'->∃m',m'<m/\W (i+1) m' ys' H')/\∀x H',Z97.Xw i H x H'->g x (qg ix σ) H' λσ2 H2=>tt σ2 H2 λb H3=>if b=true then te σ2 H3 λv H4=>N (ys++[v]) H4 else N ys H3)
def tLC(ix:List (Option Nat))(wi:TI)(g:TG)(tt:TT)(te:TE):TE:=λσ H Q=>wi σ H λZ97 H1=>lY ix g tt te σ H1 Q Z97
section
variable{wi:TI}
def Ĝ(B:XR X N' ix scope)(hc:X.calm=true)
  (hg:∀C s H fp xe,PG (sy X N' scope C s H fp xe) tg g) (ht:∀C s H fp xe,PTs (sy X N' scope C s H fp xe) ifs tt) (he:∀C s H fp xe,PE (sy X N' scope C s H fp xe) elt te) {s2:Shared}{H2:Hp}{fp:aI}{tn:Nat->Heap->Prop}{Z97:It}{RR:Value->Addr->Result->Shared->Prop}{E:∅}
  (I2:bF X Y σ H2 s2) (T:Turn X.prog X.w X.K tg Z97 fp it tn) (st2:tn 0 s2.heap) (f2:∀b∈fp,Dd X Y H2 b)
  (q:∃W:Nat->Nat->af->Hp->Prop,(∃m,W 0 m [] H2)/\∀i m ys H,W i m ys H->
   (Z97.stop i H/\ys.length<=sizeLine/\∀p,H p=none->Q (.ref p) (cX H p (.lst ys)))\/
   (Z97.go i H/\ys.length<=sizeLine/\∃N:af->Hp->Prop,(∀ys' H',N ys' H'->∃m',m'<m/\W (i+1) m' ys' H')/\∀x H',Z97.Xw i H x H'->g x (qg ix σ) H' λσ2 H2=>tt σ2 H2 λb H3=>if b=true then te σ2 H3 λv H4=>N (ys++[v]) H4 else N ys H3))
  (hRR:∀D C s' H' ys,bF X Y σ (cX H' D (.lst ys)) s'->H' D=none->Q (.ref D) (cX H' D (.lst ys))->(∃m,s'.heap.Ns C m)->cX H' D (.lst ys) C=none->C≠X.env.locals->X.s₀.heap.objs.size<=C->(∀x c,X.env.cells.lookup x=some c->c≠C)->(∀p∈X.pn++Y,p.1≠C)->RR (.ref D) C (.ok .next) s') :
  wpAny (model X.prog X.w) X.A (newList []) (λacc s₃=>wpAny (model X.prog X.w) X.A (newFunctionEnv scope X.env.globals (vM X.env.cells scope.names []) [] X.env.qual none .none (some X.env)) (λcenv s₄ =>
   codeAny (model X.prog X.w) X.A (.compStart (.ListComp elt [⟨tg,iter,ifs,0⟩] scope pos) 0 (.ref it) acc { cenv with scope:=relabel scope X.env}) (RR acc cenv.locals) s₄) E s₃) E s2:=by
 let hfs:∀b∈fp,b<s2⁻¹:=λb hb=>by
  let⟨o,e,_⟩:=T.obj _ _ st2 b hb;show bw e
 show jT (wpAny_newFunctionEnv B.Ě (by intro y hy;simp at hy) (λh₁ hns₁ hsb₁=>?_) B.kind);dsimp only at hns₁ hsb₁ ⊢;generalize hH3:s2.heap.push { cls:=.type "list",dict:=none,data:=.seq ([]:aw).toArray}=H3 at hns₁ hsb₁ ⊢;let hC:H3.objs.size=s2⁻¹+1:=by rw[<-hH3,oK]
 let hDC:s2⁻¹≠H3.objs.size:=by rw[hC];show b7 (wO _)
 let below:∀b,b<s2⁻¹->b≠H3.objs.size/\b≠s2⁻¹:=λb hb=>⟨by rw[hC];show b7 (GQ hb),b7 hb⟩;let old:∀b o,s2^^^b=some o->h₁.get? b=some o:=λb o e=>hsb₁.extBut b o (below b (bw e)).1 (bM _ (hH3▸bM _ e));let hacc:h₁.get? s2⁻¹=some { cls:=.type "list",data:=.seq ([]:aw).toArray 0}:=hsb₁.extBut _ _ hDC (bM _ (hH3▸cB _ Z));let hCle:s2⁻¹<=H3.objs.size:=by rw[hC];show vJ _
 generalize hD:s2⁻¹=D at *
 generalize hCC:H3.objs.size=C at *
 let⟨W,⟨m0,w0⟩,turn⟩:=q;let' xe:∅:=notedBy (model X.prog X.w) X.A (compEnvC scope (vM X.env.cells scope.names []) C X.env) λe s'=>RR (.ref D) C (.error e) s';let' X':Cx:=sy X N' scope C s2 H2 fp xe;let DL:D∉frs X.stack:=λz=>by
  rcases bT.mp (I2.Dc D z)with e|e
  ·show absurd I2.lt (by rw[<-e,hD];show zc _)
  ·show I2.a5F (by rw[hD];show aK _) e
 let V4:∀x c,X.env.cells.lookup x=some c->c<D:=λx c e=>by
  let⟨v,oc,h,_⟩:=I2.cell x c e;rw[<-hD];show bw h
 let clB:∀x c,(vM X.env.cells scope.names []).lookup x=some c->X.env.cells.lookup x=some c:=λx c h=>Ai scope.names [] (λ_ _ z=>by simp at z) h;let ĝ:∀p∈X.pn++Y,p.1<D:=λp hp=>by rw[<-hD];show bw (I2.pin p hp).1
 let fpX:∀{pl:aE}{H':Hp},(∀b∈fp,H' b=none)->(∀p∈pl,p∈Y\/p.1=D)->∀b∈fp,Dd X' pl H' b:=λ{pl H'} hn hpl b hb=>by
  let⟨_,q1,q2,q3,q4,q5⟩:=f2 b hb;show⟨hn b hb,(below b (hfs b hb)).1,λz=>?_,.inl hb,λx c e=>q4 x c (clB x c e),λp hp=>?_⟩
  ·rcases bT.mp (I2.Dc b z)with e|e
   ·show q1 e
   ·show q2 e
  ·rcases cM.mp hp with hp|hp
   ·show q5 p (qz _ hp)
   ·rcases hpl p hp with z|z
    ·show q5 p (gq _ z)
    ·rw[z];show Ne.symm (below b (hfs b hb)).2
 let loop:∀s₃:Shared,s₃={ s2 with heap:=h₁,toks:=s2.toks+([]:List (Str×Value)).length}->
   codeAny (model X.prog X.w) X.A (.compLoop (.ListComp elt [⟨tg,iter,ifs,0⟩] scope pos) 0 (.ref it) (.ref D) (compEnvC scope (vM X.env.cells scope.names []) C X.env)) (RR (.ref D) C) s₃:=by
  rintro s₃ rfl;show QF (λn s'=>∃i H' ys bY k,bF X' Y (qg ix σ) H' s'/\tn i s'.heap/\(∀b∈fp,H' b=none)/\H' D=none/\s'^^^D=some { cls:=.type "list",data:=.seq (List.toArray bY) k}/\cN ys bY/\W i n ys H') ?_ m0
   ⟨0,H2,[],[],0,Zh B I2 f2 (by rw[hD];show hCle) (λb hb=>by rw[hD];show hfs b hb) Z Z old hns₁,T.keep _ _ _ st2 λb _ o e=>old b o e,λb hb=>(f2 b hb).1,I2.hok.fresh (by rw[hD];show aK _),hacc,.nil,w0⟩
  rintro n s' ⟨i,H',ys,bY,k,I',st',fr',hDn,hDo,rv,w'⟩;let hDX:∀v,({ cls:=.type "list",data:=.seq (List.toArray bY) k}:Obj).data≠.cell v:=λv z=>by
   let z':Data.seq (List.toArray bY) k=Data.cell v:=z;cases z'
  let a8a:∀{σ':St}{TJ:Hp}{s'':Shared}{its':aw}{k':Nat},bF X' Y σ' TJ s''->TJ D=none->s''^^^D=some { cls:=.type "list",data:=.seq (List.toArray its') k'}->bF X' (Y++[(D,{ cls:=.type "list",data:=.seq (List.toArray its') k'})]) σ' TJ s'':=λ{σ' TJ s'' its' k'} Z97 hn ho =>
   Z97.Gb λp hp=>(cM.mp hp).elim (λz=>Z97.pin p (gq _ z)) λz=>by
    let e:p=(D,{ cls:=.type "list",data:=.seq (List.toArray its') k'}):=by simpa using z
    subst e;show⟨ho,hn,hDC,DL,λv z=>by
     let z':Data.seq (List.toArray its') k'=Data.cell v:=z;cases z'⟩
  let plD:∀{its':aw}{k':Nat},∀p∈Y++[(D,({ cls:=.type "list",data:=.seq (List.toArray its') k'}:Obj))],p∈Y\/p.1=D:=λ{its' k'} p hp=>(cM.mp hp).elim .inl λz=>by
   let e:p=(D,{ cls:=.type "list",data:=.seq (List.toArray its') k'}):=by simpa using z
   subst e;show .inr rfl
  let unD:∀{pl:aE}{σ':St}{TJ:Hp}{s'':Shared},bF X' (Y++pl) σ' TJ s''->bF X' Y σ' TJ s'':=λZ97=>Z97.Gb λp hp=>Z97.pin p (gq _ (qz _ hp));let I'p:=a8a I' hDn hDo;rcases turn i n ys H' w' with⟨stop,hsz,fin⟩|⟨go,hsz,N,hN,step⟩
  ·show iJ (T.done X' Z Z Z hc i _ s' (qg ix σ) H' X'.xe I'p (fpX fr' plD) st' stop) (λr s5 ⟨hr,I5⟩=>?_) λ_ _ z=>z;subst hr;let a8b:s5^^^D=some { cls:=.type "list",data:=.seq (List.toArray bY) k}:=(I5.pin (D,_) (gq _ (gq _ (bQ.mpr Z)))).1;let sz0:X.s₀.heap.objs.size<=D:=by rw[<-hD];show I2.sz
   let Z97:bF X Y σ H' s5:=I2.call' (ch:=fp) I5.os I5.base I5.hok I5.bare λb hb=>by
    let⟨_,q1,_,q3,q4,q5⟩:=f2 b hb;show⟨q3,q1,q4,q5⟩
   let nL:X.env.locals<D:=by rw[<-hD];show I2.lt
   let J2:bF X Y σ (cX H' D (.lst ys)) s5:=bF.track Z97 hDn sz0 (iU nL) (λx c e=>b7 (V4 x c e)) (λp hp=>b7 (ĝ p hp)) ⟨hsz,bY,k,rv,a8b⟩;let⟨mC,hnC,_⟩:=I5.loc;let a3P:D<C:=Nat.lt_of_le_of_ne hCle hDC;show hRR D C s5 H' ys J2 hDn (fin D hDn) ⟨mC,hnC⟩ ?_ (iU (rR nL a3P)) (cC sz0 hCle) (λx c e=>b7 (rR (V4 x c e) a3P)) λp hp=>b7 (rR (ĝ p hp) a3P);rw[aQ (Ne.symm hDC)];show I5.free
  ·show iJ (T.item X' Z Z Z hc i _ s' (qg ix σ) H' X'.xe I'p (fpX fr' plD) st' go) (λr s5 ⟨u,hr,h5⟩=>?_) λ_ _ z=>z;subst hr;show iJ h5 (λ_ s6 ⟨x,H6,I6,r6,y6,st6,fr6⟩=>?_) λ_ _ z=>z;let I6':=I6.pinned (fpX fr6 plD) (T.obj _ _ st6);show iJ (hg C s2 H2 fp xe _ s6 (qg ix σ) H6 x u _ I6' r6 (step x H6 y6)) (λ_ s7 ⟨Xy,H7,I7,q7⟩=>?_) λ_ _ z=>z;let after:∀{σ8:St}{H8:Hp}{s8:Shared},bF X' ((Y++[(D,{ cls:=.type "list",data:=.seq (List.toArray bY) k})])++rY fp s6.heap) σ8 H8 s8->
     bF X' Y (qg ix σ) H8 s8/\tn (i+1) s8.heap/\(∀b∈fp,H8 b=none)/\H8 D=none/\s8^^^D=some { cls:=.type "list",data:=.seq (List.toArray bY) k}:=λ{σ8 H8 s8} I8=>by
    let pD:=I8.pin (D,{ cls:=.type "list",data:=.seq (List.toArray bY) k}) (gq _ (qz _ (gq _ (bQ.mpr Z))));let fpP:∀b∈fp,∀o,s6^^^b=some o->s8^^^b=some o/\H8 b=none:=λb hb o e=>by
     let z:=I8.pin (b,o) (gq _ (gq _ (oO hb e)));show⟨z.1,z.2.1⟩
    show⟨⟨I8.ok,I8.os,I8.bare,I8.base,?_,I8.cell,I8.free,I8.rT,λp hp=>?_,I8.hok,?_⟩,T.keep _ _ _ st6 λb hb o e=>(fpP b hb o e).1,λb hb=>?_,pD.2.1,pD.1⟩
    ·let⟨m8,hn8,_⟩:=I8.loc;show⟨m8,hn8,λi x v h1 h2 h3=>?_⟩;let⟨u,c,r,hc1,hc2,⟨oc,z1,z2⟩,hk'⟩:=Ky B I2 h1 h2;let⟨sl,e8⟩:=I8.base.any z1 (I2.rT x c hc2) λz=>(f2 c z).2.2.2.2.1 x c hc2 rfl;show⟨u,r,.inr ⟨hk',c,hc1,_,e8,z2⟩⟩
    ·rcases cM.mp hp with hp|hp
     ·show I8.pin p (qz _ hp)
     ·show I8.pin p (gq _ (qz _ (qz _ hp)))
    ·show(qg ix σ).length=N'.length;unfold qg;rw[aJ];show B.len
    ·let⟨o,e,_⟩:=T.obj _ _ st6 b hb;show(fpP b hb o e).2
   show iJ (ht C s2 H2 fp xe _ s7 Xy H7 _ I7 q7) (λb s8 ⟨H8,I8,q8⟩=>?_) λ_ _ z=>z;cases b with
   |false =>
    rw[aA cL]at q8 ⊢;let⟨m',hm,w8⟩:=hN _ _ q8;let⟨Z97,tn8,f8,d8,o8⟩:=after I8;show⟨m',hm,i+1,H8,ys,bY,k,Z97,tn8,f8,d8,o8,rv,w8⟩
   |true =>
    rw[aD rfl]at q8 ⊢;show iJ (he C s2 H2 fp xe _ s8 Xy H8 _ I8 q8) (λv s9 ⟨y,H9,I9,r9,q9⟩=>?_) λ_ _ z=>z;let⟨Z97,tn9,f9,d9,o9⟩:=after I9;let⟨m',hm,w9⟩:=hN _ _ q9;show append_at (hsz:=by rw[gV,<-rv.length];show hsz) o9 λh10 a6d a6e=>?_;show⟨m',hm,i+1,H9,ys++[y],bY++[v],k+1,?_,T.keep _ _ _ tn9 λb hb o e=>a6d.extBut b o (λz=>?_) e,f9,d9,by rw[List.push_toArray]at a6e;show a6e,rv.append (.cons r9 .nil),w9⟩
    ·show Z97.turned (t':=s9.toks) (it:=D) (λb o hb e=>a6d.extBut b o hb e) d9 hDC (.inr (by show s2⁻¹<=D;rw[hD];show aK _)) (λx c e=>b7 (V4 x c (clB x c e))) λp hp=>b7 (ĝ p hp)
    ·show(below b (hfs b hb)).2 z
 show codeAny_compStart_list (loop _ Z) (T.self X.A 0 _ _ _ (T.keep _ _ _ st2 λb _ o e=>old b o e) (loop _ Z))
end
noncomputable def Al(outer:Scope)(N N':ag)(ix:List (Option Nat))(scope:Scope):Bool :=
 (scope.kind==.function)&&(scope.names.all λy=>y.2 != .cell)&&(scope.names.all λy=>y.2 != .local||scope.names.lookup y.1==some .local) &&
 (scope.names.all λy=>y.2 != .free||outer.names.lookup y.1==some .cell||outer.names.lookup y.1==some .free)&&(ix.length==N'.length) &&
 (List.range ix.length).all λi=>match ix[i]? with
  |some (some j)=>(match N'[i]? with|some x=>N[j]?==some x&&scope.names.lookup x==some .free|none=>false)
  |_=>true
def Ğ(h:Al X.env.scope X.N N' ix scope=true):XR X N' ix scope:=by
 unfold Al at h;simp only[Bool.and_eq_true]at h;let⟨⟨⟨⟨⟨h1,h2⟩,h3⟩,h4⟩,h5⟩,h6⟩:=h;show⟨?_,λy hy=>?_,λy hy hl=>?_,λy hy hl=>?_,(),λi j e=>?_⟩
 ·grind
 ·grind
 ·grind
 ·let:=gH.mp h4 y hy;rw[hl]at this;simp at this;show this
 ·let hi:i<ix.length:=(dY.mp e).1;let:=gH.mp h6 i (gA.mpr hi);rw[e]at this;simp only at this;cases q:N'[i]? with
  |none=>rw[q]at this;simp at this
  |some x =>
   rw[q]at this;simp at this;show⟨x,Z,this.1,this.2⟩
section
variable{wi:TI}
def jF(N':ag)(ix:List (Option Nat))(hB:Al X.env.scope X.N N' ix scope=true)(hc:X.calm=true)(hi:PI X tg iter wi)
  (hg:∀C s H fp xe,PG (sy X N' scope C s H fp xe) tg g) (ht:∀C s H fp xe,PTs (sy X N' scope C s H fp xe) ifs tt) (he:∀C s H fp xe,PE (sy X N' scope C s H fp xe) elt te)
  (hs:autoParam (∀x,foldedSetIterable iter X.env x=pure x) Q0_._auto_1):PE X (.ListComp elt [⟨tg,iter,ifs,0⟩] scope pos) (tLC ix wi g tt te):=by
 intro Y s σ H Q I h;let B:=Ğ hB;rw[eval_ListComp];show þ (use:=none) Z hs (Hz λy hy hf=>I.ok.has y.1 (B.free y hy hf)) B.kind B.locs (jr (hi Y s σ H _ I h) λv s1 h1=>jr h1 λitv s2 h2=>?_);let⟨it,fp,tn,Z97,H2,e,I2,T,st2,f2,q⟩:=h2;subst e;show Ĝ B hc hg ht he I2 T st2 f2 q ?_;intro D C s' H' ys J2 hDn hq ⟨m,hn⟩ hC1 hC2 hC3 hC4 hC5;show⟨m,hn,λh' hs'=>⟨.ref D,_,J2.turned (t':=s'.toks) (it:=C) (λb o hb e=>hs'.extBut b o hb e) hC1 hC2 (.inr hC3) hC4 hC5,Z,hq⟩⟩
def HD{i:Nat}{pos' spos:Pos}(N':ag)(ix:List (Option Nat))(hN:X.N.Nodup)(hi':X.N[i]?=some x)(hx:X.env.scope.names.lookup x=some .local)
  (hB:Al X.env.scope X.N N' ix scope=true) (hc:X.calm=true) (hi:PI X tg iter wi)
  (hg:∀C s H fp xe,PG (sy X N' scope C s H fp xe) tg g) (ht:∀C s H fp xe,PTs (sy X N' scope C s H fp xe) ifs tt) (he:∀C s H fp xe,PE (sy X N' scope C s H fp xe) elt te)
  (hsw:swapsWith (.ListComp elt [⟨tg,iter,ifs,0⟩] scope pos) (some (.Name x pos')) spos.line X.env=pure true)
  (hs:autoParam (∀x,foldedSetIterable iter X.env x=pure x) Q0_._auto_1):PS X (.Assign [.Name x pos'] (.ListComp elt [⟨tg,iter,ifs,0⟩] scope pos) spos) (a3y (tLC ix wi g tt te) (yD i)):=by
 intro Y s σ H D0 I h;let B:=Ğ hB;rw[exec_Assign_Name_used _ _ _ _ hsw];show M (NT (M ?_));show wpAny _ X.A (do let _ <-comprehension (.ListComp elt [⟨tg,iter,ifs,0⟩] scope pos) scope X.env _ (newList []) false (eval iter X.env) (some (assign (.Name x pos') X.env))) _ _ s;show M (iJ (þ (use:=some (assign (.Name x pos') X.env)) (Q:=λ_ s'=>SP X Y D0 .next s') Z hs (Hz λy hy hf=>I.ok.has y.1 (B.free y hy hf)) B.kind B.locs
  (jr (hi Y s σ H _ I h) λv s1 h1=>jr h1 λitv s2 h2=>?_)) (λ_ s' hq=>ao (ao hq)) λ_ _ e=>e)
 let⟨it,fp,tn,Z97,H2,e,I2,T,st2,f2,q⟩:=h2;subst e;show Ĝ (Q:=λx H1=>yD i x σ H1 D0.nx) B hc hg ht he I2 T st2 f2 q ?_;intro D C s' H' ys J2 hDn hq ⟨m,hn⟩ hC1 hC2 hC3 hC4 hC5;show wpAny _ X.A (assign (.Name x pos') X.env (.ref D)) _ _ _;show wpAny_assign_Name (Kh (v:=.ref D) J2 hN hi' (.inl hx) Z (λs'' I'' hsb=>?_) (.inr hx));let⟨a,hsb,ha⟩:=hsb;let aC:C≠a:=by
  rcases ha with rfl|ha
  ·show hC2
  ·show λz=>hC4 x a ha z.symm
 show⟨m,hn.sameBut hsb aC,λh'' hs''=>⟨_,_,I''.turned (t':=s''.toks) (it:=C) (λb o hb e=>hs''.extBut b o hb e) hC1 hC2 (.inr hC3) hC4 hC5,hq⟩⟩
end
section
variable{K:aH}{xs:af}
def qU(Pv:Nat->af->Hp->Prop)(h0:Pv 0 [] H1)(hl:∀i ys H,i<=xs.length->Pv i ys H->bB K H a xs/\ys.length<=sizeLine)
  (hs:∀i x ys H,xs[i]?=some x->Pv i ys H->g x (qg ix σ) H λσ2 H2=>tt σ2 H2 λb H3=>if b=true then te σ2 H3 λv H4=>Pv (i+1) (ys++[v]) H4 else Pv (i+1) ys H3)
  (hd:∀ys H,Pv xs.length ys H->∀p,H p=none->Q (.ref p) (cX H p (.lst ys))):lY ix g tt te σ H1 Q (â K a):=by
 show⟨λi m ys H=>m=xs.length-i/\i<=xs.length/\Pv i ys H,⟨xs.length,by simp,dG _,h0⟩,?_⟩;rintro i m ys H ⟨rfl,hi,p⟩;let⟨q,z⟩:=hl i ys H hi p;by_cases hlt:i<xs.length
 ·show .inr ⟨⟨xs,xs[i],q,by simp[hlt]⟩,z,Pv (i+1),λys' H' p'=>⟨xs.length-(i+1),(),Z,hlt,p'⟩,λx H' y=>?_⟩;let⟨e,y⟩:=y;subst e;show hs i x ys _ (y xs q) p
 ·let e:i=xs.length:=()
  subst e;show .inl ⟨⟨xs,q,aK _⟩,z,hd ys H p⟩
def Am{lo:Int}(Pv:Nat->af->Hp->Prop)(h0:Pv 0 [] H1)(hl:∀i ys H,i<=n->Pv i ys H->ys.length<=sizeLine)
  (hs:∀i ys H,i<n->Pv i ys H->g (.int (lo+i)) (qg ix σ) H λσ2 H2=>tt σ2 H2 λb H3=>if b=true then te σ2 H3 λv H4=>Pv (i+1) (ys++[v]) H4 else Pv (i+1) ys H3)
  (hd:∀ys H,Pv n ys H->∀p,H p=none->Q (.ref p) (cX H p (.lst ys))):lY ix g tt te σ H1 Q (Vr lo n):=by
 show⟨λi m ys H=>m=n-i/\i<=n/\Pv i ys H,⟨n,by simp,dG _,h0⟩,?_⟩;rintro i m ys H ⟨rfl,hi,p⟩;let z:=hl i ys H hi p;by_cases hlt:i<n
 ·show .inr ⟨hlt,z,Pv (i+1),λys' H' p'=>⟨n-(i+1),(),Z,hlt,p'⟩,λx H' y=>?_⟩;let⟨e,y⟩:=y;subst e y;show hs i ys _ hlt p
 ·let e:i=n:=()
  subst e;show .inl ⟨aK _,z,hd ys H p⟩
end
def a6f{K:aH}{xs:af}(f:V->Option V)(hx:bB K H1 a xs)(hz:xs.length<=sizeLine)
  (hs:∀x H (N:Option V->Hp->Prop),x∈xs->aL H1 H->(∀H',aL H1 H'->N (f x) H')->g x (qg ix σ) H λσ2 H2=>tt σ2 H2 λb H3=>if b=true then te σ2 H3 λv H4=>N (some v) H4 else N none H3)
  (hd:∀H p,aL H1 H->H p=none->Q (.ref p) (cX H p (.lst (xs.filterMap f)))):lY ix g tt te σ H1 Q (â K a):=by
 show qU (K:=K) (a:=a) (xs:=xs) (λi ys H=>ys=(xs.take i).filterMap f/\aL H1 H) ⟨Z,aL.refl _⟩ (λi ys H hi ⟨e,s⟩=>⟨s.seq hx,?_⟩) (λi x ys H hi ⟨e,s⟩=>?_) λys H ⟨e,s⟩ p hp=>?_
 ·subst e;show cC (Ua _ _) (cC ?_ hz);rw[dN];show U8 _ _
 ·let hm:x∈xs:=gU hi;let⟨hil,hix⟩:=dY.mp hi;let et:xs.take (i+1)=xs.take i++[x]:=by rw[yK hil,hix]
  show hs x H (λo H'=>match o with|some v=>(ys++[v]=(xs.take (i+1)).filterMap f/\aL H1 H')|none=>(ys=(xs.take (i+1)).filterMap f/\aL H1 H')) hm s λH' s'=>?_;cases ef:f x with
  |some v =>
   show⟨?_,s'⟩;rw[e,et,wM];simp[ef]
  |none =>
   show⟨?_,s'⟩;rw[e,et,wM];simp[ef]
 ·subst e;rw[gJ];show hd H p s hp
def a3Q{lo:Int}(f:Nat->Option V)(hz:n<=sizeLine)
  (hs:∀i H (N:Option V->Hp->Prop),i<n->aL H1 H->(∀H',aL H1 H'->N (f i) H')->g (.int (lo+i)) (qg ix σ) H λσ2 H2=>tt σ2 H2 λb H3=>if b=true then te σ2 H3 λv H4=>N (some v) H4 else N none H3)
  (hd:∀H p,aL H1 H->H p=none->Q (.ref p) (cX H p (.lst ((List.range n).filterMap f)))):lY ix g tt te σ H1 Q (Vr lo n):=by
 show Am (λi ys H=>ys=(List.range i).filterMap f/\aL H1 H) ⟨Z,aL.refl _⟩ (λi ys H hi ⟨e,s⟩=>?_) (λi ys H hi ⟨e,s⟩=>?_) λys H ⟨e,s⟩ p hp=>?_
 ·grind
 ·show hs i H (λo H'=>match o with|some v=>(ys++[v]=(List.range (i+1)).filterMap f/\aL H1 H')|none=>(ys=(List.range (i+1)).filterMap f/\aL H1 H')) hi s λH' s'=>?_;cases ef:f i with
  |some v =>
   show⟨?_,s'⟩;rw[e,wR,wM];simp[ef]
  |none =>
   show⟨?_,s'⟩;rw[e,wR,wM];simp[ef]
 ·subst e;show hd H p s hp
mutual
inductive JM(K:aH) (H:Hp):V->PyData->Prop
 |non:JM K H .non .none
 |bl (b:Bool):JM K H (.bl b) (.bool b)
 |int (i:Int):JM K H (.int i) (.int i)
 |str (x:Str):JM K H (.str x) (.str x)
 |lst {a:Addr}{xs:af}{ds:List PyData}:bB K H a xs->vN K H xs ds->JM K H (.ref a) (.list ds)
 |tup {a:Addr}{xs:af}{ds:List PyData}:cO K H a xs->vN K H xs ds->JM K H (.ref a) (.tuple ds)
inductive vN(K:aH) (H:Hp):af->List PyData->Prop
 |nil:vN K H [] []
 |cons {x:V}{xs:af}{d:PyData}{ds:List PyData}:JM K H x d->vN K H xs ds->vN K H (x::xs) (d::ds)
end
def aL.vP{K:aH}{H:Hp}{xs:af}(e:aL H H')(h:cO K H a xs):cO K H' a xs:=by
 rcases h with(h|⟨o,h⟩)|h
 ·show .inl (.inl (e _ _ h))
 ·show .inl (.inr ⟨o,e _ _ h⟩)
 ·show .inr h
def JM.reads{H:Hp}{s:Shared}(I:bF X Y σ H s){v:V}{d:PyData}{u:Value}(h:JM X.K H v d)(r:cZ v u):∃as,Reads s.heap u d as:=by
 show JM.rec (motive_1:=λv d _=>∀u,cZ v u->∃as,Reads s.heap u d as) (motive_2:=λxs ds _=>∀us,cN xs us->∃as,ReadsAll s.heap us ds as) (λu r=>?_) (λb u r=>?_) (λi u r=>?_) (λx u r=>?_) (λh q ih u r=>?_) (λh q ih u r=>?_) (λus q=>?_) (λh q ih jh us z=>?_) h u r
 ·cases r;show⟨_,.none⟩
 ·cases r;show⟨_,.bool b⟩
 ·let⟨t,rfl⟩:=r;show⟨_,.int i t⟩
 ·let⟨t,rfl⟩:=r;show⟨_,.str x t⟩
 ·cases r;let⟨bY,rv,⟨o,n,e,c,_,d⟩,_⟩:=I.list h;let⟨as,ra⟩:=ih _ rv;show⟨_,.list e c d (by simpa using ra)⟩
 ·cases r;let⟨bY,rv,⟨o,e,c,n,d⟩,_⟩:=I.tuple h;let⟨as,ra⟩:=ih _ rv;show⟨_,.tuple e c d (by simpa using ra)⟩
 ·cases q;show⟨_,.nil⟩
 ·cases z with
  |cons r t =>
  let⟨as,ra⟩:=ih _ r;let⟨bs,rb⟩:=jh _ t;show⟨_,.cons ra rb⟩
theorem vN.ints{K:aH}{H:Hp}:∀ns:ae,vN K H (ns.map V.int) (ns.map PyData.int)
 | []=>.nil
 |n::ns=>.cons (.int n) (vN.ints ns)
inductive a0O(K:aH)(neg:Bool)(x:V)(y:V)(H:Hp)(Q:VK):Prop
 |mk (d d':_) (_:JM K H x d) (_:JM K H y d') (_:SeqAt.shaped d=true) (_:SeqAt.shaped d'=true) (_:Q (.bl (if neg then !PyData.eqv d d' else PyData.eqv d d')) H)
def a3R(hu:X.A.units+64<cLine):qQ X (compareOp .Eq) (a0O X.K false):=by
 intro Y s σ H x y v u Q I rx ry h;let⟨d,d',h1,h2,s1,s2,q⟩:=h;let⟨as,ra⟩:=h1.reads I rx;let⟨bs,rb⟩:=h2.reads I ry;show eq_dataH ra rb s1 s2 hu ⟨.bl _,H,I,Z,q⟩
def a3S(hu:X.A.units+64<cLine):qQ X (compareOp .NotEq) (a0O X.K true):=by
 intro Y s σ H x y v u Q I rx ry h;let⟨d,d',h1,h2,s1,s2,q⟩:=h;let⟨as,ra⟩:=h1.reads I rx;let⟨bs,rb⟩:=h2.reads I ry;show ne_dataH ra rb s1 s2 hu ⟨.bl _,H,I,Z,q⟩
inductive V5(K:aH)(neg:Bool)(x:V)(y:V)(H:Hp)(Q:VK):Prop
 |mk (d ds:_) (_:JM K H x d) (_:JM K H y (.list ds)) (_:SeqAt.shaped d=true) (_:SeqAt.shaped (.list ds)=true) (_:Q (.bl (if neg then !ds.any (λe=>PyData.eqv e d)else ds.any (λe=>PyData.eqv e d))) H)
def a3T(hu:X.A.units+65<cLine):qQ X (compareOp .In) (V5 X.K false):=by
 intro Y s σ H x y v u Q I rx ry h;let⟨d,ds,h1,h2,s1,s2,q⟩:=h;let⟨as,ra⟩:=h1.reads I rx;let⟨bs,rb⟩:=h2.reads I ry;show SeqAt.in_list_reads rb ra (yO s2) (yO s1) (room_in_shaped s1 hu) ⟨.bl _,H,I,Z,q⟩
def Zi(hu:X.A.units+65<cLine):qQ X (compareOp .NotIn) (V5 X.K true):=by
 intro Y s σ H x y v u Q I rx ry h;let⟨d,ds,h1,h2,s1,s2,q⟩:=h;let⟨as,ra⟩:=h1.reads I rx;let⟨bs,rb⟩:=h2.reads I ry;show SeqAt.notIn_list_reads rb ra (yO s2) (yO s1) (room_in_shaped s1 hu) ⟨.bl _,H,I,Z,q⟩
noncomputable def a3U:V->Option Value
 |.ty n=>some (.type n)
 |.ref a=>⇑a
 |_=>none
def ğ{c:V}{cv u:Value}(h:a3U c=some cv)(r:cZ c u):u=cv:=by
 cases c with
 |ty n=>cases h;show r
 |ref a=>cases h;show r
 |_=>cases h
def QG:jE X (.builtin "isinstance") (λxs H Q=>∃x c cv t b,xs=[x,c]/\a3U c=some cv/\rZ X.K H x t/\kitOne X.K t cv=some b/\Q (.bl b) H):=by
 intro Y s σ H xs us Q I r h;let⟨x,c,cv,t,b,rfl,hc,ty,hk,q⟩:=h;let⟨u1,u2,rfl,r1,r2⟩:=vals2 r;obtain rfl:=ğ hc r2;show Za I r1 ty hk λtk=>⟨.bl b,H,I.tok tk,Z,q⟩
abbrev Cx.in1(X:Cx):Cx:={ X with A:=X.A.in1}
def bF.in1{Y:aE}{σ:St}{H:Hp}{s:Shared}(I:bF X Y σ H s):bF X.in1 Y σ H s :=
 ⟨⟨I.ok.mod,I.ok.kind,I.ok.glob,I.ok.blt,I.ok.above,I.ok.inj,I.ok.has,I.ok.cab,I.ok.hd,I.ok.frames,I.ok.stk,I.ok.exf,I.ok.bs,I.ok.bsz,I.ok.Vp,I.ok.Y5,I.ok.zY,I.ok.frf⟩,I.os,I.bare,I.base,I.loc,I.cell,I.free,I.rT,I.pin,I.hok,I.len⟩
def bF.of_in1{H:Hp}{s:Shared}(I:bF X.in1 Y σ H s):bF X Y σ H s :=
 ⟨⟨I.ok.mod,I.ok.kind,I.ok.glob,I.ok.blt,I.ok.above,I.ok.inj,I.ok.has,I.ok.cab,I.ok.hd,I.ok.frames,I.ok.stk,I.ok.exf,I.ok.bs,I.ok.bsz,I.ok.Vp,I.ok.Y5,I.ok.zY,I.ok.frf⟩,I.os,I.bare,I.base,I.loc,I.cell,I.free,I.rT,I.pin,I.hok,I.len⟩
def jo(K:aH)(H:Hp)(xs:af)(bs:List Bool):Prop:=Paired (λx b=>č K x H b) xs bs
theorem jo.get{K:aH}{H:Hp}:∀{xs:af}{bs:List Bool}{i:Nat}{x:V},jo K H xs bs->xs[i]?=some x->∃b,bs[i]?=some b/\č K x H b
 |_,_,_,_,.nil,h=>by simp at h
 |_,_,0,_,.cons h r,e=>by
  simp at e;subst e
  show⟨_,Z,h⟩
 |_,_,i+1,_,.cons h r,e=>by
  let⟨d,e1,q⟩:=jo.get (i:=i) r (by simpa using e)
  show⟨d,by simpa using e1,q⟩
theorem jo.bls{K:aH}{H:Hp}:∀bs:List Bool,jo K H (bs.map V.bl) bs
 | []=>.nil
 |b::bs=>.cons Z (jo.bls bs)
def Ġ{H:Hp}{p:Addr}{ys:af}{bs:List Bool}(hc:X.calm=true)(hq:bB X.K H p ys)(ht:jo X.K H ys bs)(f:Dd X Y H it) :
  ∀(k i:Nat) (s:Shared),ys.length-i=k->bF X Y σ H s->s.heap.IsListIter it p i->(∀s',bF X Y σ H s'->R (.ok (.ret (.bool ((bs.drop i).all id)))) s')->
  codeAny (model X.prog X.w) X.A (.builtin "all.loop" ⟨[.ref it],[]⟩) R s:=by
 let⟨f0,f1,f2,f3,f4,f5⟩:=f;intro k
 induction k with
 |zero =>
  intro i s hk I st hR;let⟨bY,rv,pl,hz⟩:=I.list hq;let hl:=rv.length;show jU F.entry_all_loop ?_;rw[j5 Nk _];show wpAny _ X.A.in1 (pyNext (.ref it) >>= _) _ _ s;show M (wpAny_pyNext_list_end (I.ok.hd hc) st pl.isList (by simp;omega) λh' eb=>?_);show M (j9 (ao ?_));let q:=hR _ (I.turned (t':=s.toks) (λb o hb e=>eb b o hb e) f0 f1 f3 f4 f5);let hlb:bs.length=ys.length:=(aU ht).symm;rw[GD ()]at q;show q
 |succ k ih =>
  intro i s hk I st hR;let⟨bY,rv,pl,hz⟩:=I.list hq;let hl:=rv.length;let hlt:i<ys.length:=()
  let hx:ys[i]?=some ys[i]:=by simp[hlt]
  let⟨u,hu,ru⟩:=rv.get hx;let⟨b,hb,tb⟩:=ht.get hx;show jU F.entry_all_loop ?_;rw[j5 Nk _];show wpAny _ X.A.in1 (pyNext (.ref it) >>= _) _ _ s;show M (Ud st pl.isList (x:=u) () λh' st' sb=>?_);let I1:bF X Y σ H (s•h'):=I.turned (t':=s.toks) (λb o hb e=>(sb.2 b hb).trans e) f0 f1 f3 f4 f5;let hdb:bs.drop i=b::bs.drop (i+1):=by
   let⟨hlb,eb⟩:=dY.mp hb;rw[yM hlb,eb]
  rw[hdb]at hR;let I1p:bF X (Y++rY [it] h') σ H (s•h'):=I1.pinned (fp:=[it]) (λc hcc=>by rw[bQ.mp hcc];show⟨f0,f1,f2,f3,f4,f5⟩) λc hcc=>by
   rw[bQ.mp hcc];let⟨o,e,c',d⟩:=st';grind
  show M (eG (iJ (Om (X:=X.in1.nox) _ _ σ H ys[i] u (λc H'=>c=b/\H'=H) ((bF.in1 I1p).wish _) ru ⟨b,tb,Z,Z⟩) (λc s2 ⟨H',I2,e1,e2⟩=>?_) λ_ _ z=>False.elim z));rw[e2]at I2;subst e1;let I2':bF X (Y++rY [it] h') σ H s2:=bF.of_in1 I2.rW;let QH:bF X Y σ H s2:=I2'.uN;let st2:s2.heap.IsListIter it p (i+1):=st'.at λo e=>(I2'.pin (it,o) (gq _ (gq _ (oO (bQ.mpr Z) e)))).1;show M (zj ?_);cases c with
  |true =>
   simp only[if_true];show ao ⟨lU Nk _,ih (i+1) s2 () QH st2 λs' I'=>by simpa using hR s' I'⟩
  |false =>
   simp only[Bool.false_eq_true,if_false];show M (j9 (ao ?_));simpa using hR s2 QH
def Zj(hc:X.calm=true):jE X (.builtin "all") (λxs H Q=>∃p ys bs,xs=[.ref p]/\bB X.K H p ys/\jo X.K H ys bs/\Q (.bl (bs.all id)) H):=by
 intro Y s σ H xs us Q I r h;let⟨p,ys,bs,rfl,hq,ht,q⟩:=h;let⟨u,rfl,rx⟩:=vals1 r;cases rx;show UG F.kind_all F.plain_all F.entry_all (F.args_all1 _) ?_;unfold Builtin.«all»;show M (m:=oneArg "all" _) (ao ?_);let⟨bY,rv,pl,hz⟩:=I.list hq;show M (vC pl.isList ?_);let I1:bF X Y σ H (s•s.heap.push { cls:=.type "list_iterator",data:=.fields #[.ref p,.int 0 0]}):=I.kept (t':=s.toks) λb o e=>bM _ e;show ao ⟨lU Nk _,Ġ hc hq ht (I.Fq (aK _) (I.hok.fresh (aK _))) ys.length 0 _ (wX _) I1 ⟨_,cB _ Z,Z,Z⟩ λs' I'=>?_⟩;show⟨.bl _,H,I',Z,by simpa using q⟩
def ġ{H:Hp}{p:Addr}{ys:af}{bs:List Bool}(hc:X.calm=true)(hq:bB X.K H p ys)(ht:jo X.K H ys bs)(f:Dd X Y H it) :
  ∀(k i:Nat) (s:Shared),ys.length-i=k->bF X Y σ H s->s.heap.IsListIter it p i->(∀s',bF X Y σ H s'->R (.ok (.ret (.bool ((bs.drop i).any id)))) s')->
  codeAny (model X.prog X.w) X.A (.builtin "any.loop" ⟨[.ref it],[]⟩) R s:=by
 let⟨f0,f1,f2,f3,f4,f5⟩:=f;intro k
 induction k with
 |zero =>
  intro i s hk I st hR;let⟨bY,rv,pl,hz⟩:=I.list hq;let hl:=rv.length;show jU Nm ?_;rw[j5 wQ _];show wpAny _ X.A.in1 (pyNext (.ref it) >>= _) _ _ s;show M (wpAny_pyNext_list_end (I.ok.hd hc) st pl.isList (by simp;omega) λh' eb=>?_);show M (j9 (ao ?_));let q:=hR _ (I.turned (t':=s.toks) (λb o hb e=>eb b o hb e) f0 f1 f3 f4 f5);let hlb:bs.length=ys.length:=(aU ht).symm;rw[GD ()]at q;show q
 |succ k ih =>
  intro i s hk I st hR;let⟨bY,rv,pl,hz⟩:=I.list hq;let hl:=rv.length;let hlt:i<ys.length:=()
  let hx:ys[i]?=some ys[i]:=by simp[hlt]
  let⟨u,hu,ru⟩:=rv.get hx;let⟨b,hb,tb⟩:=ht.get hx;show jU Nm ?_;rw[j5 wQ _];show wpAny _ X.A.in1 (pyNext (.ref it) >>= _) _ _ s;show M (Ud st pl.isList (x:=u) () λh' st' sb=>?_);let I1:bF X Y σ H (s•h'):=I.turned (t':=s.toks) (λb o hb e=>(sb.2 b hb).trans e) f0 f1 f3 f4 f5;let hdb:bs.drop i=b::bs.drop (i+1):=by
   let⟨hlb,eb⟩:=dY.mp hb;rw[yM hlb,eb]
  rw[hdb]at hR;let I1p:bF X (Y++rY [it] h') σ H (s•h'):=I1.pinned (fp:=[it]) (λc hcc=>by rw[bQ.mp hcc];show⟨f0,f1,f2,f3,f4,f5⟩) λc hcc=>by
   rw[bQ.mp hcc];let⟨o,e,c',d⟩:=st';grind
  show M (eG (iJ (Om (X:=X.in1.nox) _ _ σ H ys[i] u (λc H'=>c=b/\H'=H) ((bF.in1 I1p).wish _) ru ⟨b,tb,Z,Z⟩) (λc s2 ⟨H',I2,e1,e2⟩=>?_) λ_ _ z=>False.elim z));rw[e2]at I2;subst e1;let I2':bF X (Y++rY [it] h') σ H s2:=bF.of_in1 I2.rW;let QH:bF X Y σ H s2:=I2'.uN;let st2:s2.heap.IsListIter it p (i+1):=st'.at λo e=>(I2'.pin (it,o) (gq _ (gq _ (oO (bQ.mpr Z) e)))).1;show M (zj ?_);cases c with
  |false =>
   simp only[Bool.false_eq_true,if_false];show ao ⟨lU wQ _,ih (i+1) s2 () QH st2 λs' I'=>by simpa using hR s' I'⟩
  |true =>
   simp only[if_true];show M (j9 (ao ?_));simpa using hR s2 QH
def Zk(hc:X.calm=true):jE X (.builtin "any") (λxs H Q=>∃p ys bs,xs=[.ref p]/\bB X.K H p ys/\jo X.K H ys bs/\Q (.bl (bs.any id)) H):=by
 intro Y s σ H xs us Q I r h;let⟨p,ys,bs,rfl,hq,ht,q⟩:=h;let⟨u,rfl,rx⟩:=vals1 r;cases rx;show UG F.kind_any F.plain_any F.entry_any (F.args_any1 _) ?_;unfold Builtin.«any»;show M (m:=oneArg "any" _) (ao ?_);let⟨bY,rv,pl,hz⟩:=I.list hq;show M (vC pl.isList ?_);let I1:bF X Y σ H (s•s.heap.push { cls:=.type "list_iterator",data:=.fields #[.ref p,.int 0 0]}):=I.kept (t':=s.toks) λb o e=>bM _ e;show ao ⟨lU wQ _,ġ hc hq ht (I.Fq (aK _) (I.hok.fresh (aK _))) ys.length 0 _ (wX _) I1 ⟨_,cB _ Z,Z,Z⟩ λs' I'=>?_⟩;show⟨.bl _,H,I',Z,by simpa using q⟩
structure Dn(K:aH)(mg:Str->Option Value)(x:Str)(st:Stmt)(ps:ag) where
 f:Addr
 fd:FuncData
 F:Fun K x x st f fd
 b:Binds K fd ps []
 m:mg x=⇑f
 bd:∀(s:Shared) (us:aw),us.length=ps.length->BindsTo s fd ⟨us,[]⟩ (ps.zip us)
structure Bl(mg:Str->Option Value):Prop where
 get:∀x:Str,x∈(["len","range","list","isinstance","int","bool","str","all","any","sorted","set","min","max","tuple","enumerate","dict","ValueError"]:ag)->mg x=none
def Bl.len{mg:Str->Option Value}(B:Bl mg):mg "len" = none:=B.get _ ()
def Bl.range{mg:Str->Option Value}(B:Bl mg):mg "range" = none:=B.get _ ()
def Bl.list{mg:Str->Option Value}(B:Bl mg):mg "list" = none:=B.get _ ()
def Bl.isinstance{mg:Str->Option Value}(B:Bl mg):mg "isinstance" = none:=B.get _ ()
def Bl.int{mg:Str->Option Value}(B:Bl mg):mg "int" = none:=B.get _ ()
def Bl.bool{mg:Str->Option Value}(B:Bl mg):mg "bool" = none:=B.get _ ()
def Bl.all{mg:Str->Option Value}(B:Bl mg):mg "all" = none:=B.get _ ()
def Bl.any{mg:Str->Option Value}(B:Bl mg):mg "any" = none:=B.get _ ()
def Bl.sorted{mg:Str->Option Value}(B:Bl mg):mg "sorted" = none:=B.get _ ()
def Bl.set{mg:Str->Option Value}(B:Bl mg):mg "set" = none:=B.get _ ()
def Bl.min{mg:Str->Option Value}(B:Bl mg):mg "min" = none:=B.get _ ()
def Bl.tuple{mg:Str->Option Value}(B:Bl mg):mg "tuple" = none:=B.get _ ()
def Bl.enumerate{mg:Str->Option Value}(B:Bl mg):mg "enumerate" = none:=B.get _ ()
def Bl.dict{mg:Str->Option Value}(B:Bl mg):mg "dict" = none:=B.get _ ()
def En{K:aH}:kitOne K (.type "int") (.type "int")=some true:=by rfl
def Ao{K:aH}:kitOne K (.type "int") (.type "bool")=some false:=by rfl
def QJ{K:aH}:kitOne K (.type "NoneType") (.type "int")=some false:=by rfl
def Ox{K:aH}:kitOne K (.type "NoneType") (.type "bool")=some false:=by rfl
section
variable{K:aH}
def bf(e:X.K=K):IxR X (a0H K):=by subst e;show a0J
def aO(e:X.K=K):IxR X (a0I K):=by subst e;show a3K
def a0P(e:X.K=K)(hu:X.A.units+64<cLine):qQ X (compareOp .Eq) (a0O K false):=by subst e;show a3R hu
def XS(e:X.K=K)(hu:X.A.units+64<cLine):qQ X (compareOp .NotEq) (a0O K true):=by subst e;show a3S hu
def qX(e:X.K=K)(hu:X.A.units+65<cLine):qQ X (compareOp .In) (V5 K false):=by subst e;show a3T hu
def gO(e:X.K=K)(hu:X.A.units+65<cLine):qQ X (compareOp .NotIn) (V5 K true):=by subst e;show Zi hu
def a0Q(e:X.K=K):qQ X (compareOp .In) (rIn K false):=by subst e;show Zc
def V6(e:X.K=K):qQ X (compareOp .NotIn) (rIn K true):=by subst e;show Ot
def a8c(K:aH):af->Hp->VK->Prop:=λxs H Q=>∃p ys,xs=[.ref p]/\(bB K H p ys\/cO K H p ys)/\Q (.int ys.length) H
def b8(e:X.K=K):jE X (.builtin "len") (a8c K):=by subst e;show Ou
def a0R(K:aH):af->Hp->VK->Prop:=λxs H Q=>∃p ys,xs=[.ref p]/\(bB K H p ys\/cO K H p ys)/\∀l,H l=none->Q (.ref l) (cX H l (.lst ys))
def V7(e:X.K=K):jE X (.type "list") (a0R K):=by subst e;show Ov
def a6g(K:aH):af->Hp->VK->Prop:=λxs H Q=>∃x c cv t b,xs=[x,c]/\a3U c=some cv/\rZ K H x t/\kitOne K t cv=some b/\Q (.bl b) H
def iZ(e:X.K=K):jE X (.builtin "isinstance") (a6g K):=by subst e;show QG
def a8d(K:aH):af->Hp->VK->Prop:=λxs H Q=>∃p ys bs,xs=[.ref p]/\bB K H p ys/\jo K H ys bs/\Q (.bl (bs.all id)) H
def a8e(K:aH):af->Hp->VK->Prop:=λxs H Q=>∃p ys bs,xs=[.ref p]/\bB K H p ys/\jo K H ys bs/\Q (.bl (bs.any id)) H
def Dh(e:X.K=K)(hc:X.calm=true):jE X (.builtin "all") (a8d K):=by subst e;show Zj hc
def Zm(e:X.K=K)(hc:X.calm=true):jE X (.builtin "any") (a8e K):=by subst e;show Zk hc
def dU{l:Expr}{tl:TE}(e:X.K=K)(hl:PE X l tl):PI X tg l (ĉ K tl):=by subst e;show a0v hl
def Gf{l:Expr}{tl:TE}(e:X.K=K)(hl:PE X l tl):PI X tg l (a3A K tl):=by subst e;show a3B hl
def a8f(K:aH)(ta:TE):TT:=λσ H Q=>ta σ H λx H'=>∃k,č K x H' k/\Q k H'
def cY{a:Expr}{ta:TE}(e:X.K=K)(ha:PE X a ta)(he:∀whole,isTrue a X.env whole=(do let v <-whole;standAt a.pos;holding [v] (truthy v))):PT X a (a8f K ta):=by subst e;show Ď ha he
def jb{t:Ć}(e:X.K=K)(hc:X.calm=true)(h:PGs X es t)
  (hn:@&((assignEach es X.env).length=n)) (hst:@&((assignEach es X.env).findIdx? (·.1)=none)):PG X (.Tuple es k pos) (a3w K n t):=by subst e;show a3x hc h hn hst
def mK{o:Expr}{to:TE}{name:Str}{apos cpos:Pos}{T id:String}(e:X.K=K)(pa:PlainAttrs T)(slot:Slot T name id)(hty:typeOf (.builtin id)=pure (.type "method_descriptor"))(hm:MtR X id r)(ho:PE X o to)
  (hbase:@&(attributeBase o name X.env (eval o X.env)=eval o X.env)) (hline:@&((apos.endLine==cpos.line)=true)):PE X (.Call (.Attribute o name apos) [] [] cpos) (a6b K T r to):=by subst e;show a3M pa slot hty hm ho hbase hline
def gZ{o e:Expr}{to:TE}{t:TA}{name:Str}{apos cpos:Pos}{T id:String}(e0:X.K=K)(pa:PlainAttrs T)(slot:Slot T name id)(hty:typeOf (.builtin id)=pure (.type "method_descriptor"))(hm:MtR X id r)(ho:PE X o to)(ha:PA X (e::es) t)
  (hbase:@&(attributeBase o name X.env (eval o X.env)=eval o X.env))
  (hfew:@&(((backTo cpos (starEach (e::es) X.env)).all (λx=>!x.1)&&(backToKw cpos (keywordEach [] X.env)).all (λx=>x.1.isSome)
   && decide ((e::es).length+([]:List Keyword).length+(if([]:List Keyword).isEmpty then 0 else 1)<30))=true))
  (hline:@&((apos.endLine==cpos.line)=true)) (hs:@&(starEach (e::es) X.env=(false,eval e X.env)::starEach es X.env)) (hplain:@&((backTo cpos (starEach es X.env)).any (·.1)=false)) :
  PE X (.Call (.Attribute o name apos) (e::es) [] cpos) (tBM K T r to t):=by subst e0;show a6c pa slot hty hm ho ha hbase hfew hline hs hplain
end
inductive a6h(t u:TS)(D:Ends)(σ:St)(H:Hp):Prop
 |mk (Z97:St->Hp->Prop) (_:t { D with nx:=Z97} σ H) (_:∀σ' H',Z97 σ' H'->u D σ' H')
def g8{st:Stmt}{rest:List Stmt}{t u:TS}(h1:PS X st t)(h2:Qv X rest u):Qv X (st::rest) (a6h t u):=by
 intro Y s σ H D I h;let⟨Z97,q1,q2⟩:=h;show U7 (jr (h1 Y s σ H { D with nx:=Z97} I q1) λf s1 q=>?_);cases f with
 |next =>
  let⟨σ',H',I',q⟩:=q;show h2 Y s1 σ' H' D I' (q2 σ' H' q)
 |ret v=>show q
 |brk=>show q
 |cont=>show q
structure iH(H:Hp)(p:Addr)(o:HO)(H':Hp):Prop where
 fresh:H p=none
 here:H' p=some o
 rest:∀b,b≠p->H' b=H b
def iH.nC{H:Hp}{p:Addr}(h:H p=none):iH H p o (cX H p o):=⟨h,dw,λ_ hb=>aQ hb⟩
def iH.same{H:Hp}{p:Addr}(n:iH H p o H'):aL H H':=λb u e=>(n.rest b (dR e n.fresh)).trans e
def iH.ne{H:Hp}{p b:Addr}{u:HO}(n:iH H p o H')(h:H b=some u):b≠p:=dR h n.fresh
structure tH(H:Hp)(l:Addr)(o:HO)(H':Hp):Prop where
 here:H' l=some o
 rest:∀b,b≠l->H' b=H b
def tH.nC{H:Hp}{l:Addr}:tH H l o (cX H l o):=⟨dw,λ_ hb=>aQ hb⟩
section
variable{K:aH}{t:TA}
noncomputable def X3(t:TA):TE:=λσ H Q=>t σ H λxs H1=>xs.length<=1000/\∀p H',iH H1 p (.tup xs) H'->Q (.ref p) H'
noncomputable def a6i(t:TA):TE:=λσ H Q=>t σ H λxs H1=>xs.length<=1000/\∀p H',iH H1 p (.lst xs) H'->Q (.ref p) H'
def bL{x1}(h:PA X es t):PE X (.Tuple es x1 pos) (X3 t):=by
 intro Y s σ H Q I hq;show wpAny_Tuple_spliced (jr (h pos Y s σ H _ I hq) λus s1 ⟨xs,H1,I1,r,z,q⟩=>?_);let z':xs.length<=sizeLine:=fC (dz z);show⟨by rw[<-r.length];show z',?_⟩;let hf:H1 s1⁻¹=none:=I1.hok.fresh (aK _);show⟨.ref s1⁻¹,cX H1 s1⁻¹ (.tup xs),I1.laid (t':=s1.toks) (λb u e=>bM _ e) (aK _) ⟨z',us,r,⟨_,cB _ Z,Z,_,Z⟩⟩,Z,q _ _ (iH.nC hf)⟩
def cH(h:PA X es t):PE X (.List es pos) (a6i t):=by
 intro Y s σ H Q I hq;show wpAny_List_spliced (jr (h pos Y s σ H _ I hq) λus s1 ⟨xs,H1,I1,r,z,q⟩=>?_);let z':xs.length<=sizeLine:=fC (dz z);show⟨by rw[<-r.length];show z',?_⟩;let hf:H1 s1⁻¹=none:=I1.hok.fresh (aK _);show⟨.ref s1⁻¹,cX H1 s1⁻¹ (.lst xs),I1.laid (t':=s1.toks) (λb u e=>bM _ e) (aK _) ⟨z',us,0,r,cB _ Z⟩,Z,q _ _ (iH.nC hf)⟩
def qQ.weak{f:Value->Value->Sem Value}{r r':R2}(h:qQ X f r)(m:∀x y H Q,r' x y H Q->r x y H Q):qQ X f r':=λY s σ H x y v u Q I rx ry q=>h Y s σ H x y v u Q I rx ry (m x y H Q q)
def jE.weak{f:Value}{r r':af->Hp->VK->Prop}(h:jE X f r)(m:∀xs H Q,r' xs H Q->r xs H Q):jE X f r':=λY s σ H xs us Q I rs q=>h Y s σ H xs us Q I rs (m xs H Q q)
inductive a6j(x:V)(y:V)(H:Hp)(Q:VK):Prop
 |mk (l b xs zs:_) (_:x=.ref l) (_:y=.ref b) (_:H l=↥xs) (_:H b=↥zs) (_:xs.length+zs.length<=1000) (_:∀p H',iH H p (.lst (xs++zs)) H'->Q (.ref p) H')
def jy:qQ X (binaryOp .Add) a6j:=a3O.weak λx y H Q ⟨l,b,xs,zs,e1,e2,h1,h2,z,q⟩=>⟨l,b,xs,zs,e1,e2,h1,h2,fC (dz z),λp hp=>q p _ (iH.nC hp)⟩
inductive a8g(K:aH)(x:V)(lo:Option Int)(hi:Option Int)(H:Hp)(Q:VK):Prop
 |mk (a xs:_) (_:x=.ref a) (_:bB K H a xs) (_:∀p H',iH H p (.lst (su xs lo hi)) H'->Q (.ref p) H')
def uQ(e:X.K=K):SlR X (a8g K):=by
 subst e;show λY s σ H x v vl vu lo hi sl Q I rx hs pl pu ⟨a,xs,e,h,q⟩=>a0K Y s σ H x v vl vu lo hi sl Q I rx hs pl pu ⟨a,xs,e,h,λp hp=>q p _ (iH.nC hp)⟩
inductive a3V(K:aH)(xs:af)(H:Hp)(Q:VK):Prop
 |mk (p ys:_) (_:xs=[.ref p]) (_:(bB K H p ys\/cO K H p ys)) (_:∀l H',iH H l (.lst ys) H'->Q (.ref l) H')
def jH(e:X.K=K):jE X (.type "list") (a3V K):=(V7 e).weak λxs H Q ⟨p,ys,e,h,q⟩=>⟨p,ys,e,h,λl hl=>q l _ (iH.nC hl)⟩
def Ow.weak{id:String}{r':V->af->Hp->VK->Prop}(h:Ow X id r)(m:∀x xs H Q,r' x xs H Q->r x xs H Q):Ow X id r':=λY s σ H x xs v us Q I rx rs q=>h Y s σ H x xs v us Q I rx rs (m x xs H Q q)
inductive a6k(x:V)(vs:af)(H:Hp)(Q:VK):Prop
 |mk (l xs y:_) (_:x=.ref l) (_:vs=[y]) (_:H l=↥xs) (_:xs.length<1000) (_:∀H',tH H l (.lst (xs++[y])) H'->Q .non H')
def fL:Ow X "list.append" a6k:=Ze.weak λx vs H Q ⟨l,xs,y,e1,e2,h,z,q⟩=>⟨l,xs,y,e1,e2,h,dz (fC z),q _ tH.nC⟩
end
def HF{K:aH}{xs:af}(f:V->Option V)(hx:bB K H1 a xs)(hz:xs.length<=1000)
  (hs:∀x H (N:Option V->Hp->Prop),x∈xs->aL H1 H->(∀H',aL H1 H'->N (f x) H')->g x (qg ix σ) H λσ2 H2=>tt σ2 H2 λb H3=>if b=true then te σ2 H3 λv H4=>N (some v) H4 else N none H3)
  (hd:∀H p H',aL H1 H->iH H p (.lst (xs.filterMap f)) H'->Q (.ref p) H'):lY ix g tt te σ H1 Q (â K a) :=
 a6f f hx (fC (dz hz)) hs λH p s hp=>hd H p _ s (iH.nC hp)
def X4{lo:Int}(f:Nat->Option V)(hz:n<=1000)
  (hs:∀i H (N:Option V->Hp->Prop),i<n->aL H1 H->(∀H',aL H1 H'->N (f i) H')->g (.int (lo+i)) (qg ix σ) H λσ2 H2=>tt σ2 H2 λb H3=>if b=true then te σ2 H3 λv H4=>N (some v) H4 else N none H3)
  (hd:∀H p H',aL H1 H->iH H p (.lst ((List.range n).filterMap f)) H'->Q (.ref p) H'):lY ix g tt te σ H1 Q (Vr lo n) :=
 a3Q f (fC (dz hz)) hs λH p s hp=>hd H p _ s (iH.nC hp)
end L2
namespace Lw
open L2
variable{ns:ae}{H:Hp}{K:aH}{a:Addr}
def Aq{p:Addr}(h:H p=none)(o:HO):aL H (cX H p o):=λb u q=>by rw[aQ (dR q h)];show q
theorem vQ{α β:Type}{f:α->Option β}{g:α->β}:∀{l:List α},(∀x∈l,f x=some (g x))->l.filterMap f=l.map g
 | [],_=>rfl
 |x::r,h=>by
  rw[Mv (h x aZ),cA,vQ λy hy=>h y (bH _ hy)]
def a0S{f:V->Option V}{g:Int->V}(h:∀v∈ns,f (.int v)=some (g v)):(ns.map V.int).filterMap f=ns.map g:=by
 rw[M8];show vQ h
theorem Dj{f:V->Option V}{p:Int->Bool}:∀{ns:ae},(∀v∈ns,f (.int v)=if p v=true then some (.int v)else none)->(ns.map V.int).filterMap f=(ns.filter p).map V.int
 | [],_=>rfl
 |v::r,h=>by
  let ih:=Dj (f:=f) (p:=p) (ns:=r) λy hy=>h y (bH _ hy)
  grind
def Gg{k:Int}(h0:0<=k)(h:k<(ns.length:Int)):VN (ns.map V.int) k=some (.int (ns.getD k.toNat 0)):=by
 let hk:k.toNat<ns.length:=()
 let ek:k=((k.toNat:Nat):Int):=()
 let q:VN (ns.map V.int) ((k.toNat:Nat):Int)=some (.int (ns.getD k.toNat 0)):=bU (by
  grind)
 grind
def ã(K:aH)(H:Hp)(a:Addr)(ns:ae):Prop:=(∃o,H a=some (.iw o (.lst (ns.map V.int))))\/
 ∃(o:Obj) (bY:Array Value) (n:Nat),K.lookup a=some o/\o.cls=.type "list" /\o.dict=none/\o.data=.seq bY n/\bY.size<=sizeLine/\cN (ns.map V.int) bY.toList
def ã.seq(h:ã K H a ns):bB K H a (ns.map V.int):=by
 rcases h with⟨o,h⟩|h
 ·show .inl (.inr ⟨o,h⟩)
 ·show .inr h
def ã.of(hO:Only H)(h:bB K H a (ns.map V.int)):ã K H a ns:=by
 rcases h with(h|⟨o,h⟩)|h
 ·rcases hO a with z|⟨ob,xs,z⟩
  ·grind
  grind
 ·show .inl ⟨o,h⟩
 ·show .inr h
def ã.same{H':Hp}(e:aL H H')(h:ã K H a ns):ã K H' a ns:=by
 rcases h with⟨o,h⟩|h
 ·show .inl ⟨o,e _ _ h⟩
 ·show .inr h
inductive a2L(K:aH)(vs:af)(H:Hp)(Q:VK)(u_3:XK):Prop
 |mk (a:Addr) (ns:ae) (_:vs=[.ref a]) (_:ã K H a ns) (_:ns.length<=63) (_:∀H',Q (.bl true) H')
end Lw
namespace L2
open PyProof.Rows
variable{K:aH}{mg:Str->Option Value}{k:Nat}
def a6l{h:Heap}{x:Str}{st:Stmt}{ps:ag}{f:Addr}{oc:Value}{od an:Option Addr}{osl:Array (Option Value)}{kV doc pm dZ ct:Value}(X:K.In h)(G:h.Ns mainGlobals mg)
  (a:nsIn K mainGlobals x=some ⇑f) (l:K.lookup f=some ⟨oc,od,.func (fnOf x x (gY st) (gj st) (aG st) .none kV doc pm an dZ ct),osl⟩) (c:codeIn K dZ x=true) (k:keepIn K (.ref f)=true)
  (hb:∀(kV doc pm:Value) (an:Option Addr) (dZ ct:Value) (us:aw),us.length=ps.length->bindArgs (fnOf x x (gY st) (gj st) (aG st) .none kV doc pm an dZ ct) ⟨us,[]⟩=pure (ps.zip us)) :
  Nonempty (Dn K mg x st ps) :=
 let F:=V3 (st:=st) l c k
 ⟨⟨f,_,F,F.binds hb,N5 X G a,λs us hl=>.of_eq (hb _ _ _ _ _ _ us hl)⟩⟩
def a6m{h:Heap}(X:K.In h)(G:h.Ns mainGlobals mg)
  (z1:nsIn K mainGlobals "len" = some none) (z2:nsIn K mainGlobals "range" = some none) (z3:nsIn K mainGlobals "list" = some none) (z4:nsIn K mainGlobals "isinstance" = some none) (z5:nsIn K mainGlobals "int" = some none)
  (z6:nsIn K mainGlobals "bool" = some none) (z7:nsIn K mainGlobals "str" = some none) (z8:nsIn K mainGlobals "all" = some none) (z9:nsIn K mainGlobals "any" = some none) (z10:nsIn K mainGlobals "sorted" = some none)
  (z11:nsIn K mainGlobals "set" = some none) (z12:nsIn K mainGlobals "min" = some none) (z13:nsIn K mainGlobals "max" = some none) (z14:nsIn K mainGlobals "tuple" = some none) (z15:nsIn K mainGlobals "enumerate" = some none)
  (z16:nsIn K mainGlobals "dict" = some none) (z17:nsIn K mainGlobals "ValueError" = some none):Bl mg:=by
 show⟨λx hx=>?_⟩;simp only[List.mem_cons,List.not_mem_nil,or_false]at hx;rcases hx with rfl|rfl|rfl|rfl|rfl|rfl|rfl|rfl|rfl|rfl|rfl|rfl|rfl|rfl|rfl|rfl|rfl
 ·show j7 X G z1
 ·show j7 X G z2
 ·show j7 X G z3
 ·show j7 X G z4
 ·show j7 X G z5
 ·show j7 X G z6
 ·show j7 X G z7
 ·show j7 X G z8
 ·show j7 X G z9
 ·show j7 X G z10
 ·show j7 X G z11
 ·show j7 X G z12
 ·show j7 X G z13
 ·show j7 X G z14
 ·show j7 X G z15
 ·show j7 X G z16
 ·show j7 X G z17
def a3W{P:Program}{w:World}{fa:Addr}{st:Stmt}{sp:Sp}{x:Str}(hfa:mg "law" =⇑fa)(d:Dn K mg "law" st [x])(F:∀base:Heap,⋯ k d.f d.fd [x] sp) :
  ∃fd:FuncData,(∀(s:Shared) (u:Value),BindsTo s fd ⟨[u],[]⟩ [(x,u)])/\∀base:Heap,K.In base->base.Ns mainGlobals mg->⋯ k fa fd [x] sp:=by
 let e:fa=d.f:=by
  let:=hfa.symm.trans d.m;let:=dO this;cases this;rfl
 subst e;show⟨d.fd,λs u=>d.bd s [u] Z,λbase _ _=>F base⟩
def Ite(K:aH)(a:Addr):It :=
 ⟨λi H=>∃xs x,bB K H a xs/\xs[i]?=some x,λi H x H'=>∃p y,x=.ref p/\iH H p (.tup [.int i,y]) H'/\∀xs,bB K H a xs->xs[i]?=some y,λi H=>∃xs,bB K H a xs/\xs.length<=i⟩
def Zn{P:Program}{w:World}{elts:ba}{pos:Pos}(a it e:Addr)(hei:e≠it):Turn P w K (.Tuple elts k pos) (Ite K a) [e,it] e (λi h=>(∃old,IsEnum h e it i old)/\h.IsListIter it a i) where
 mem:=by simp
 obj:=λi h st b hb=>by
  let⟨⟨old,he⟩,hit⟩:=st
  rcases bT.mp hb with rfl|hb
  ·grind
  ·rw[bQ.mp hb]
   let⟨o,e1,c,d⟩:=hit
   grind
 keep:=λi h h' st kk=>by
  let⟨⟨old,he⟩,hit⟩:=st
  show⟨⟨old,kk e (by simp) _ he⟩,hit.at λo q=>kk it (by simp) o q⟩
 item:=by
  intro X hP hw hK hc i Y s σ H E I hf st hg
  subst hP hw hK
  let⟨xs,x,hq,hx⟩:=hg
  let⟨bY,rv,pl,hz⟩:=I.list hq
  let⟨u,hu,ru⟩:=rv.get hx
  let⟨⟨old,he⟩,hit⟩:=st
  let⟨f0,f1,f2,f3,f4,f5⟩:=hf e (by simp)
  let⟨g0,g1,g2,g3,g4,g5⟩:=hf it (by simp)
  show wpAny_pyNext_enum_item he hit pl.isList (x:=u) () hei λh' ho hit' hT hsz hk=>?_
  show⟨_,Z,ö ho λh2 he2 hs2=>?_⟩
  let eT:s⁻¹≠e:=iU (bw he)
  let iT:s⁻¹≠it:=by
   let⟨o,e1,_⟩:=hit
   show iU (bw e1)
  let hT2:h2.get? s⁻¹=some { cls:=.type "tuple",data:=.seq #[.int i s.toks,u]}:=(hs2.2 _ eT).trans hT
  let kp:∀b o,b≠e->b≠it->s^^^b=some o->h2.get? b=some o:=λb o h1 h2' q=>(hs2.2 b h1).trans (hk b o h1 h2' q)
  let I1:bF X Y σ H { s with heap:=h2,toks:=s.toks+1}:=by
   show I.step (g':=s.gens) (d':=s.drawn) (H':=H) (ch:=[e,it]) (λb hb=>?_) (λb o _ _ hc q _=>kp b o (λz=>hc (by simp[z])) (λz=>hc (by simp[z])) q) (λb o _ _ hc q _=>⟨o.slots,kp b o (λz=>hc (by simp[z])) (λz=>hc (by simp[z])) q⟩) (λ_ _ _ _ n=>n)
    (λb o hc q=>⟨o,kp b o (λz=>hc (by simp[z])) (λz=>hc (by simp[z])) q⟩) (λ_ _ q=>q) (λ_ _ _ q=>q) (λb ps q=>⟨#[],by rw[q];simp⟩) (λm hm=>?_) (λb o q=>?_) I.bare
   ·rcases bT.mp hb with rfl|hb
    ·show⟨f3,f1,f4,f5⟩
    ·rw[bQ.mp hb];show⟨g3,g1,g4,g5⟩
   ·let⟨o,es,ep,q,r⟩:=hm
    show⟨o,es,ep,kp _ o (Ne.symm f1) (Ne.symm g1) q,r⟩
   ·let nb:∀c v,H c=some v->c≠e/\c≠it:=λc v q=>⟨dR q f0,dR q g0⟩
    show(I.hok b o q).stay (λc v hcc r=>kp c v ?_ ?_ r) (λ_ q=>q) λ_ _ q=>q
    ·grind
    grind
  let hfree:H s⁻¹=none:=I.hok.fresh (aK _)
  let I2:bF X Y σ (cX H s⁻¹ (.tup [.int i,x])) { s with heap:=h2,toks:=s.toks+1}:=by
   show bF.track I1 hfree I.sz (iU I.lt) (λy c q=>?_) (λp hp=>b7 (bw (I.pin p hp).1)) ?_
   ·let⟨v,oc,q1,_⟩:=I.cell y c q
    show b7 (bw q1)
   ·show⟨(by show 2<=sizeLine;decide),[.int i s.toks,u],.cons ⟨_,Z⟩ (.cons ru .nil),⟨_,hT2,Z,_,Z⟩⟩
  show⟨.ref s⁻¹,_,I2,Z,⟨_,x,Z,iH.nC hfree,λys hy=>by rw[I.wY hy hq];show hx⟩,⟨⟨u,?_⟩,hit'.at λo q=>(hs2.2 it (Ne.symm hei)).trans q⟩,λb hb=>?_⟩
  ·grind
  ·rcases bT.mp hb with rfl|hb
   ·rw[aQ (Ne.symm eT)];show f0
   ·rw[bQ.mp hb,aQ (Ne.symm iT)];show g0
 done:=by
  intro X hP hw hK hc i Y s σ H E I hf st hg
  subst hP hw hK
  let⟨xs,hq,hx⟩:=hg
  let⟨bY,rv,pl,hz⟩:=I.list hq
  let⟨⟨old,he⟩,hit⟩:=st
  let⟨g0,g1,g2,g3,g4,g5⟩:=hf it (by simp)
  let hl:=rv.length
  show wpAny_pyNext_enum_end (I.ok.hd hc) he hit pl.isList (by simp;omega) λh' eb=>⟨Z,I.turned (t':=s.toks) (λb o hb q=>eb b o hb q) g0 g1 g3 g4 g5⟩
 self:=λ_ _ _ _ _ st h=>by
  let⟨⟨old,he⟩,_⟩:=st
  show Nb he h
section
variable{X:Cx}
def a6n(K:aH)(ta:TA):TI:=λσ H R=>ta σ H λvs H1=>∃a,vs=[.ref a]/\(∃xs,bB K H1 a xs)/\R (Ite K a) H1
def a0T{elts:ba}{tpos:Pos}{l:Expr}{ta:TA}{p pos:Pos}(e0:X.K=K)(hg:Gl X "enumerate")(hm:X.mg "enumerate" = none)(ha:PA X [l] ta)(hs:@&(starEach [l] X.env=[(false,eval l X.env)])) :
  PI X (.Tuple elts k tpos) (.Call (.Name "enumerate" p) [l] [] pos) (a6n K ta):=by
 subst e0;intro Y s σ H R I h;show vB (uo I hg hm boot_enumerate (wJ (jr (ha pos Y s σ H _ I h) λus s1 ⟨vs,H1,I1,r1,q1⟩=>?_) hs (by rfl)));let⟨a,e,⟨xs,hq⟩,q⟩:=q1;subst e;let⟨u,rfl,ru⟩:=vals1 r1;cases ru;let⟨bY,rv,pl,hz⟩:=I1.list hq;show call_enumerate_list pl.isList λh' he hit hsz hk=>Nb he ?_;let I2:bF X Y σ H1 (s1•h'):=I1.kept (t':=s1.toks) hk;show⟨s1⁻¹+1,[s1⁻¹+1,s1⁻¹],_,_,H1,Z,I2,Zn a s1⁻¹ (s1⁻¹+1) (iU (wO _)),⟨⟨_,he⟩,hit⟩,λb hb=>?_,q⟩;let hb':s1⁻¹<=b:=by
  grind
 show I1.Fq hb' (I1.hok.fresh hb')
end
def Ģ{a:Addr}{xs:af}{g:TG}{tb:TS}{D:Ends}{σ:St}{H:Hp}(Pv:Nat->St->Hp->Prop)(h0:Pv 0 σ H)(hl:∀i σ H,i<=xs.length->Pv i σ H->bB K H a xs)
  (hs:∀(i:Nat) x σ H p H',xs[i]?=some x->Pv i σ H->iH H p (.tup [.int i,x]) H'->g (.ref p) σ H' λσ2 H2=>tb { D with nx:=Pv (i+1),ct:=Pv (i+1),bk:=D.nx} σ2 H2) (hd:∀σ H,Pv xs.length σ H->D.nx σ H) :
  ∃W:Nat->Nat->St->Hp->Prop,(∃m,W 0 m σ H)/\∀i m σ H,W i m σ H->
   ((Ite K a).stop i H/\D.nx σ H)\/((Ite K a).go i H/\∃N:St->Hp->Prop,(∀σ' H',N σ' H'->∃m',m'<m/\W (i+1) m' σ' H')/\∀x H',(Ite K a).Xw i H x H'->g x σ H' λσ2 H2=>tb { D with nx:=N,ct:=N,bk:=D.nx} σ2 H2):=by
 show⟨λi m σ H=>m=xs.length-i/\i<=xs.length/\Pv i σ H,⟨xs.length,by simp,dG _,h0⟩,?_⟩;rintro i m σ H ⟨rfl,hi,p⟩;let q:=hl i σ H hi p;by_cases hlt:i<xs.length
 ·show .inr ⟨⟨xs,xs[i],q,by simp[hlt]⟩,Pv (i+1),λσ' H' p'=>⟨xs.length-(i+1),(),Z,hlt,p'⟩,λx H' y=>?_⟩;let⟨pp,y0,rfl,nw,ex⟩:=y;show hs i y0 σ H pp H' (ex xs q) p nw
 ·let e:i=xs.length:=()
  subst e;show .inl ⟨⟨xs,q,aK _⟩,hd σ H p⟩
def ģ{a:Addr}{xs:af}{ix:List (Option Nat)}{g:TG}{tt:TT}{te:TE}{σ:St}{H1:Hp}{Q:VK}(f:Nat->Option V)(hx:bB K H1 a xs)(hz:xs.length<=1000)
  (hs:∀(i:Nat) x H (N:Option V->Hp->Prop),xs[i]?=some x->aL H1 H->(∀H',aL H1 H'->N (f i) H')->g x (qg ix σ) H λσ2 H2=>tt σ2 H2 λb H3=>if b=true then te σ2 H3 λv H4=>N (some v) H4 else N none H3)
  (hd:∀H p H',aL H1 H->iH H p (.lst ((List.range xs.length).filterMap f)) H'->Q (.ref p) H'):lY ix g tt te σ H1 Q (â K a):=by
 show qU (K:=K) (a:=a) (xs:=xs) (λi ys H=>ys=(List.range i).filterMap f/\aL H1 H) ⟨Z,aL.refl _⟩ (λi ys H hi ⟨e,s⟩=>⟨s.seq hx,?_⟩) (λi x ys H hi ⟨e,s⟩=>?_) λys H ⟨e,s⟩ p hp=>?_
 ·subst e;show cC (Ua _ _) ?_;rw[vD];show cC hi (fC (dz hz))
 ·show hs i x H (λo H'=>match o with|some v=>(ys++[v]=(List.range (i+1)).filterMap f/\aL H1 H')|none=>(ys=(List.range (i+1)).filterMap f/\aL H1 H')) hi s λH' s'=>?_;cases ef:f i with
  |some v =>
   show⟨?_,s'⟩;rw[e,wR,wM];simp[ef]
  |none =>
   show⟨?_,s'⟩;rw[e,wR,wM];simp[ef]
 ·subst e;show hd H p _ s (iH.nC hp)
end L2
namespace Bg
open L2 Lw
abbrev zW:=Option Int×ae
noncomputable def Eo(ns:ae):Bool:=(List.range (ns.length-1)).all λi=>decide (ns.getD i 0<ns.getD (i+1) 0)
def V8(n:Int)(ns:ae):Bool:=(ns.all λv=>decide (0<=v/\v<n))&&Eo ns
noncomputable def oR(n:Int):Option Int->Bool
 |none=>false
 |some i=>decide (0<=i/\i<n)
noncomputable def rowAt(rs:List zW)(k:Nat):zW:=rs.getD k (none,[])
inductive Flt where
 |ok|row (k:Nat)|place (v:Nat)|tie (a b:Int)|apart (v j k:Nat)
 deriving DecidableEq
variable{i:Nat}
noncomputable def upV:Option Int->V
 |none=>.non
 |some i=>.int i
def a0U(K:aH)(H:Hp)(v:V)(t:Int×Int):Prop:=∃p,v=.ref p/\cO K H p [.int t.1,.int t.2]
inductive Dl(K:aH)(H:Hp)(a:Addr)(ts:ar):Prop
 |mk (xs:_) (_:bB K H a xs) (_:Paired (a0U K H) xs ts) (_:ts.length<=1000)
inductive uw(K:aH)(H:Hp)(v:V)(n:Int)(ts:ar):Prop
 |mk (p a:_) (_:v=.ref p) (_:cO K H p [.int n,.ref a]) (_:Dl K H a ts)
def Dl.same{K:aH}{H H':Hp}{a:Addr}{ts:ar}(e:aL H H')(h:Dl K H a ts):Dl K H' a ts:=by
 let⟨xs,h1,h2,h3⟩:=h;show⟨xs,e.seq h1,Paired.cD h2 λ_ _ ⟨p,q1,q2⟩=>⟨p,q1,e.vP q2⟩,h3⟩
def uw.same{K:aH}{H H':Hp}{v:V}{n:Int}{ts:ar}(e:aL H H')(h:uw K H v n ts):uw K H' v n ts:=by
 let⟨p,a,h1,h2,h3⟩:=h;show⟨p,a,h1,e.vP h2,h3.same e⟩
def bC{α β:Type}{F:α->β->Prop}{xs:List α}{ys:List β}{x:α}(p:Paired F xs ys)(e:xs[i]?=some x):∃y,ys[i]?=some y/\F x y:=by
 induction p generalizing i with
 |nil=>cases e
 |cons h r ih =>
  cases i with
  |zero=>cases e;show⟨_,Z,h⟩
  |succ i=>show ih (i:=i) e
def cI{α β:Type}{F:α->β->Prop}{xs:List α}{ys:List β}{y:β}(p:Paired F xs ys)(e:ys[i]?=some y):∃x,xs[i]?=some x/\F x y:=by
 induction p generalizing i with
 |nil=>cases e
 |cons h r ih =>
  cases i with
  |zero=>cases e;show⟨_,Z,h⟩
  |succ i=>show ih (i:=i) e
def uR{rs:List zW}(h:i<rs.length):rs[i]?=some (rowAt rs i):=by
 unfold rowAt;grind
def X5(ns:ae)(v:Int):(ns.map PyData.int).any (λe=>PyData.eqv e (.int v))=decide (v∈ns):=by
 induction ns with
 |nil=>rfl
 |cons a r ih =>
  rw[cA,oM,ih,PyData.eqv];grind
def V9(ns:ae):PyData.depthAll (ns.map PyData.int)=0:=by
 induction ns with
 |nil=>rfl
 |cons a r ih=>rw[cA,PyData.depthAll,ih];rfl
def Ĥ(ns:ae):PyData.canLayAll0 (ns.map PyData.int)=true:=by
 induction ns with
 |nil=>rfl
 |cons a r ih=>rw[cA,PyData.canLayAll0,ih];rfl
def shaped_ints(ns:ae):SeqAt.shaped (.list (ns.map PyData.int))=true:=by
 unfold SeqAt.shaped;rw[PyData.canLay0,Ĥ,PyData.depth,V9];decide
def QK(ns ms:ae):PyData.eqv (.list (ns.map PyData.int)) (.list (ms.map PyData.int))=decide (ns=ms):=by
 rw[PyData.eqv];show PySem.W.ked_eqvAll ns ms
def wZ{K:aH}{H:Hp}{b:Addr}{ns:ae}{v:Int}{Q:VK}(hS:bB K H b (ns.map V.int))(q:Q (.bl (decide (v∈ns))) H):V5 K false (.int v) (.ref b) H Q :=
 ⟨_,_,.int v,.lst hS (vN.ints ns),Z,shaped_ints ns,by rw[X5];show q⟩
def oU{K:aH}{H:Hp}{b:Addr}{ns:ae}{v:Int}{Q:VK}(hS:bB K H b (ns.map V.int))(q:Q (.bl (!decide (v∈ns))) H):V5 K true (.int v) (.ref b) H Q :=
 ⟨_,_,.int v,.lst hS (vN.ints ns),Z,shaped_ints ns,by rw[X5];show q⟩
end Bg
namespace L2
open PyProof.Rows
def aL.chg{H H':Hp}{l:Addr}{o:HO}{H0:Hp}(s:aL H0 H)(h0:H0 l=none)(c:tH H l o H'):aL H0 H':=λb u e=>(c.rest b (dR e h0)).trans (s b u e)
end L2
namespace Bg
open L2 Lw
variable{H H':Hp}
def Zo(a b:Int)(r:ae):Eo (a::b::r)=(decide (a<b)&&Eo (b::r)):=by
 unfold Eo;let e:(a::b::r).length-1=(b::r).length-1+1:=by simp
 rw[e,List.range_succ_eq_map,Vm,Od];rfl
theorem QS:∀ls:ae,Eo ls=true↔ls.Pairwise (· < ·)
 | []=>by simp[Eo]
 | [a]=>by simp[Eo]
 |a::b::r=>by
  rw[Zo,fX,QS (b::r),eE,uc (a:=a)]
  constructor
  ·rintro⟨h1,h2⟩
   show⟨λc hc=>?_,h2⟩
   rcases bT.mp hc with rfl|hc
   ·show h1
   ·show Int.lt_trans h1 ((uc.mp h2).1 c hc)
  ·rintro⟨h1,h2⟩
   show⟨h1 b aZ,h2⟩
def a0V(n:Int)(ls:ae):V8 n ls=true↔(∀v∈ls,0<=v/\v<n)/\ls.Pairwise (· < ·):=by
 unfold V8;rw[fX,QS,gH];constructor
 ·rintro⟨h1,h2⟩;show⟨λv hv=>dB (h1 v hv),h2⟩
 ·rintro⟨h1,h2⟩;show⟨λv hv=>bh (h1 v hv),h2⟩
inductive qI(H:Hp)(v:V)(t:Int×Int):Prop
 |mk (p:_) (_:v=.ref p) (_:H p= ~~~[.int t.1,.int t.2])
inductive Oz(l:Addr)(H:Hp)(v:V)(r:zW):Prop
 |mk (p b:_) (_:v=.ref p) (_:H p= ~~~[upV r.1,.ref b]) (_:H b=↥(r.2.map V.int)) (_:b≠l) (_:r.2.length<=1000)
def qI.same{v:V}{t:Int×Int}(s:aL H H')(h:qI H v t):qI H' v t:=by
 let⟨p,e,q⟩:=h;show⟨p,e,s _ _ q⟩
def qI.chg{l:Addr}{xs ys:af}{v:V}{t:Int×Int}(hl:H l=↥xs)(c:tH H l (.lst ys) H')(h:qI H v t):qI H' v t:=by
 let⟨p,e,q⟩:=h;show⟨p,e,(c.rest p (Xr q hl ())).trans q⟩
def Oz.same{l:Addr}{v:V}{r:zW}(s:aL H H')(h:Oz l H v r):Oz l H' v r:=by
 let⟨p,b,e,q1,q2,n,z⟩:=h;show⟨p,b,e,s _ _ q1,s _ _ q2,n,z⟩
def eN{α β:Type}{F:α->β->Prop}{xs:List α}{ys:List β}{x:α}{y:β}(h:Paired F xs ys)(q:F x y):Paired F (xs++[x]) (ys++[y]):=by
 induction h with
 |nil=>show .cons q .nil
 |cons h _ ih=>show .cons h ih
noncomputable def w5(t:Int×Int):PyData:=.tuple [.int t.1,.int t.2]
def a0U.isD{K:aH}{v:V}{t:Int×Int}(h:a0U K H v t):JM K H v (w5 t):=by
 let⟨p,rfl,q1⟩:=h;show .tup q1 (.cons (.int _) (.cons (.int _) .nil))
def OD{K:aH}{α:Type}{F:V->α->Prop}{f:α->PyData}(hf:∀v x,F v x->JM K H v (f x)){xs:af}{ys:List α}(h:Paired F xs ys):vN K H xs (ys.map f):=by
 induction h with
 |nil=>show .nil
 |cons h _ ih=>show .cons (hf _ _ h) ih
def ĥ(ts:ar):PyData:=.list (ts.map w5)
def Dl.isD{K:aH}{H:Hp}{a:Addr}{ts:ar}(h:Dl K H a ts):JM K H (.ref a) (ĥ ts):=by
 let⟨xs,h1,h2,_⟩:=h;show .lst h1 (OD (λv x q=>q.isD) h2)
theorem Gh{α:Type}{f:α->PyData}(h:∀x,(f x).canLay0=true):∀l:List α,PyData.canLayAll0 (l.map f)=true
 | []=>rfl
 |x::r=>by rw[cA,PyData.canLayAll0,h x,Gh h r];rfl
theorem uT{α:Type}{f:α->PyData}{k:Nat}(h:∀x,(f x).depth<=k):∀l:List α,PyData.depthAll (l.map f)<=k
 | []=>dG _
 |x::r=>by
  rw[cA,PyData.depthAll]
  show Nat.max_le.mpr ⟨h x,uT h r⟩
def X6(t:Int×Int):(w5 t).canLay0=true:=rfl
def Kz(t:Int×Int):(w5 t).depth<=1:=by
 unfold w5;simp[PyData.depth,PyData.depthAll]
def QT(ts:ar):SeqAt.shaped (ĥ ts)=true:=by
 unfold SeqAt.shaped ĥ;rw[PyData.canLay0,Gh X6,PyData.depth,Hi];show bh (by let:=uT Kz ts;omega)
def QV{d:PyData}(h:SeqAt.shaped d=true):PyData.eqv d d=true:=SeqAt.eqv_refl d (yO h)
end Bg
namespace L2
inductive T1(f:Option V->St)(σ:St):Prop
 |mk (a:_) (h:σ=f a)
inductive T2(f:Option V->Option V->St)(σ:St):Prop
 |mk (a b:_) (h:σ=f a b)
inductive T3(f:Option V->Option V->Option V->St)(σ:St):Prop
 |mk (a b c:_) (h:σ=f a b c)
inductive T4(f:Option V->Option V->Option V->Option V->St)(σ:St):Prop
 |mk (a b c d:_) (h:σ=f a b c d)
inductive T5(f:Option V->Option V->Option V->Option V->Option V->St)(σ:St):Prop
 |mk (a b c d e:_) (h:σ=f a b c d e)
inductive T6(f:Option V->Option V->Option V->Option V->Option V->Option V->St)(σ:St):Prop
 |mk (a b c d e g:_) (h:σ=f a b c d e g)
inductive P3{α:Type}(A B:Prop)(C:α->Prop):Prop
 |mk (a:A) (b:B) (x:α) (c:C x)
inductive P4{α:Type}(A B:Prop)(C D:α->Prop):Prop
 |mk (a:A) (b:B) (x:α) (c:C x) (d:D x)
def P3.s{α:Type}{A B:Prop}{C:α->Prop}(h:P3 A B C):B:=by cases h;assumption
def P4.s{α:Type}{A B:Prop}{C D:α->Prop}(h:P4 A B C D):B:=by cases h;assumption
end L2
namespace X7
open PySem.W PyProof.Rows
variable{p:Array Nat}{m:Nat}
noncomputable def Ok(n:Nat)(key:Nat->Int){α:Type}:KasT α->(α->Prop)->Prop
 |.ret a,Q=>Q a
 |.ask i j k,Q=>i<n/\j<n/\Ok n key (k (decide (key i<key j))) Q
section
variable{n:Nat}{key:Nat->Int}{α β:Type}
theorem Ok.mono{Q Q':α->Prop}(h:∀a,Q a->Q' a):∀{t:KasT α},Ok n key t Q->Ok n key t Q'
 |.ret _,x=>h _ x
 |.ask _ _ _,⟨a,b,x⟩=>⟨a,b,Ok.mono h x⟩
theorem Ok.bind{f:α->KasT β}{Q:β->Prop}:∀{t:KasT α},Ok n key t (λa=>Ok n key (f a) Q)->Ok n key (t.bind f) Q
 |.ret _,x=>x
 |.ask _ _ _,⟨a,b,x⟩=>⟨a,b,Ok.bind x⟩
theorem Ok.wp{cmp:Nat->Nat->(Bool->Shared->Prop)->Shared->Prop}{s:Shared}{Q:α->Prop}{R:α->Shared->Prop}(hc:∀i j (C:Bool->Shared->Prop),i<n->j<n->C (decide (key i<key j)) s->cmp i j C s)(hq:∀a,Q a->R a s) :
  ∀{t:KasT α},Ok n key t Q->t.kasWp cmp R s
 |.ret _,x=>hq _ x
 |.ask i j k,⟨a,b,x⟩=>hc i j _ a b (Ok.wp hc hq x)
structure Pm(n:Nat)(p:Array Nat):Prop where
 perm:p.Perm (List.range n).toArray
def Pm.size{p:Array Nat}(h:Pm n p):p.size=n:=by
 let:=h.perm.size_eq;grind
def Pm.lt(h:Pm n p){i:Nat}(hi:i<n):p.getD i 0<n:=by
 let hs:=h.size;let hi':i<p.size:=()
 let hm:p[i]∈(List.range n):=by
  let:=(T8.mp h.perm).mem_iff (a:=p[i]);simpa using this
 let:p.getD i 0=p[i]:=by simp[Array.getD,hi']
 rw[this];show gA.mp hm
def Pm.of{q:Array Nat}(h:Pm n p)(e:q.Perm p):Pm n q:=⟨e.trans h.perm⟩
noncomputable def KK(key:Nat->Int)(p:Array Nat)(i:Nat):Int:=key (p.getD i 0)
def Dp(p:Array Nat)(i:Nat):p.getD i 0=(p[i]?).getD 0:=by simp[Array.getD_eq_getD_getElem?]
def HJ{i j:Nat}(hj:j<=p.size)(k:Nat):KK key (kas_rev p i j) k=if i<=k/\k<j then KK key p (i+j-1-k)else KK key p k:=by
 unfold KK kas_rev;rw[Dp,getElem?_mirror_all hj];split<;>rw[Dp]
def Ħ{k d:Nat}(hk:k<p.size)(hd:d<=k)(i:Nat):KK key (bubble p k d) i=if i=k-d then KK key p k else if k-d<i/\i<=k then KK key p (i-1)else KK key p i:=by
 unfold KK;rw[Dp,Dp p k,Dp p (i-1),Dp p i,getElem?_bubble hk d hd];split
 ·rfl
 ·split<;>rfl
def Dr(key:Nat->Int)(p:Array Nat)(m:Nat):Prop:=∀i j,i<=j->j<m->KK key p i<=KK key p j
def Down(key:Nat->Int)(p:Array Nat)(m:Nat):Prop:=∀i j,i<=j->j<m->KK key p j<=KK key p i
def Pm.rev(h:Pm n p)(i j:Nat):Pm n (kas_rev p i j):=h.of (mirror_perm _ _ _ _)
theorem Wa{p:Array Nat}(hp:Pm n p):∀(f m:Nat),1<=m->m+f<=n->Dr key p m->Ok n key (kas_asc p f m) (λr=>m<=r/\r<=m+f/\Dr key p r/\(r=m+f\/KK key p r<KK key p (r-1)))
 |0,m,_,_,hs=>⟨aK _,aK _,hs,.inl Z⟩
 |f+1,m,h1,hm,hs=>by
  show⟨hp.lt (),hp.lt (),?_⟩
  by_cases c:key (p.getD m 0)<key (p.getD (m-1) 0)
  ·rw[bh c];lk;rw[aD rfl]
   show⟨aK _,(),hs,.inr c⟩
  ·rw[cG c];lk;rw[aA cL]
   show Ok.mono (λr ⟨a,b,d,e⟩=>⟨(),(),d,?_⟩) (Wa hp f (m+1) () () ?_)
   ·intro i j hij hj
    by_cases hjm:j<m
    ·show hs i j hij hjm
    ·let:j=m:=()
     subst this
     by_cases hi:i=j
     ·grind
     ·let q:=hs i (j-1) () ()
      let c':KK key p (j-1)<=KK key p j:=by unfold KK;omega
      omega
   ·rcases e with e|e
    ·show .inl ()
    ·show .inr e
def QW(hp:Pm n p)(h1:1<=m)(hm:m<=n)(hd:Down key p m):Ok n key (kas_tail3 m n p) (λr=>Pm n r.2/\1<=r.1/\r.1<=n/\Dr key r.2 r.1):=by
 show Ok.bind (Ok.mono (λr ⟨a,b,c,_⟩=>?_) (Wa (hp.rev 0 m) (n-m) m h1 () ?_))
 ·intro i j hij hj;let hs:=hp.size;rw[HJ (),HJ (),aD (),aD ()];show hd _ _ () ()
 ·show⟨hp.rev 0 m,(),(),c⟩
def Ds{q:Nat}(hm:m<=p.size)(he:∀i,m-(q+1)<=i->i<m->KK key p i=KK key p (m-1))(k:Nat):KK key (kas_rev p (m-(q+1)) m) k=KK key p k:=by
 rw[HJ hm];by_cases c:m-(q+1)<=k/\k<m
 ·rw[aD c,he k c.1 c.2,he _ () ()]
 ·rw[aA c]
theorem Gi:∀(f:Nat) {p:Array Nat} (m q:Nat),Pm n p->1<=m->m+f<=n->Down key p m->q+1<=m->(∀i,m-(q+1)<=i->i<m->KK key p i=KK key p (m-1))->
  Ok n key (kas_desc f p m q) (λr=>Pm n r.1/\1<=r.2.1/\r.2.1<=n/\Down key r.1 r.2.1/\r.2.2+1<=r.2.1/\∀i,r.2.1-(r.2.2+1)<=i->i<r.2.1->KK key r.1 i=KK key r.1 (r.2.1-1))
 |0,p,m,q,hp,h1,hm,hd,hq,he=>⟨hp,h1,(),hd,hq,he⟩
 |f+1,p,m,q,hp,h1,hm,hd,hq,he=>by
  show⟨hp.lt (),hp.lt (),?_⟩
  let hs:=hp.size
  let iG:∀(p':Array Nat),(∀k,KK key p' k=KK key p k)->KK key p m<=KK key p (m-1)->Down key p' (m+1):=λp' hk c i j hij hj=>by
   rw[hk,hk]
   by_cases hjm:j<m
   ·show hd i j hij hjm
   ·let:j=m:=()
    subst this
    by_cases hi:i=j
    ·grind
    ·let:=hd i (j-1) () ();omega
  by_cases c:key (p.getD m 0)<key (p.getD (m-1) 0)
  ·rw[bh c];lk;rw[aD rfl]
   let c1:KK key p m<=KK key p (m-1):=by unfold KK;omega
   by_cases hq0:q>0
   ·rw[aD hq0]
    show Gi f (m+1) 0 (hp.rev _ _) () () (iG _ (Ds () he) c1) () λi a b=>by grind
   ·rw[aA hq0]
    show Gi f (m+1) 0 hp () () (iG _ (λ_=>rfl) c1) () λi a b=>by grind
  ·rw[cG c];lk;rw[aA cL]
   show⟨hp.lt (),hp.lt (),?_⟩
   by_cases d:key (p.getD (m-1) 0)<key (p.getD m 0)
   ·rw[bh d];lk;rw[aD rfl]
    show⟨hp,h1,by show m<=n;omega,hd,hq,he⟩
   ·rw[cG d];lk;rw[aA cL]
    let e:KK key p m=KK key p (m-1):=by unfold KK;omega
    show Gi f (m+1) (q+1) hp () () (iG _ (λ_=>rfl) ()) () λi a b=>?_
    grind
def Ep(hp:Pm n p)(hm:m+1<=n)(hd:Down key p (m+1)):Ok n key (kas_descPart m n p) (λr=>Pm n r.2/\1<=r.1/\r.1<=n/\Dr key r.2 r.1):=by
 show Ok.bind (Ok.mono (λr ⟨a,b,c,d,e,g⟩=>?_) (Gi (n-(m+1)) (m+1) 0 hp () () hd () λi x y=>by grind));let hs:=a.size;by_cases q:r.2.2>0
 ·rw[aD q];show QW (a.rev _ _) b c λi j x y=>by rw[Ds () g,Ds () g];show d i j x y
 ·rw[aA q];show QW a b c d
def ħ(hp:Pm n p)(h1:1<=n):Ok n key (kas_count n p) (λr=>Pm n r.2/\1<=r.1/\r.1<=n/\Dr key r.2 r.1):=by
 show Ok.bind (Ok.mono (λm ⟨a,b,c,d⟩=>?_) (Wa hp (n-1) 1 (aK _) () λi j x y=>by grind));by_cases e:m=n
 ·rw[aD (by simpa using e)];show⟨hp,a,(),c⟩
 ·rw[aA (by simpa using e)];let lt:KK key p m<KK key p (m-1):=by
   grind
  let hs:=hp.size;by_cases g:m>1
  ·rw[aD g];show⟨hp.lt (),hp.lt (),?_⟩;by_cases z:key (p.getD 0 0)<key (p.getD (m-1) 0)
   ·rw[bh z];lk;rw[aD rfl];show⟨hp,a,(),c⟩
   ·rw[cG z];lk;rw[aA cL];show Ep (hp.rev _ _) () ?_;let z':KK key p (m-1)<=KK key p 0:=by unfold KK;omega
    let all:∀i,i<m->KK key p i=KK key p 0:=λi hi=>by
     let q1:=c 0 i () hi;let q2:=c i (m-1) () ();omega
    intro i j hij hj;rw[HJ (),HJ ()];grind
  ·rw[aA g];let m1:m=1:=()
   subst m1;show Ep hp () λi j hij hj=>?_;grind
theorem HN{p:Array Nat}(hp:Pm n p){k:Nat}(hk:k<n)(hs:Dr key p k):∀(f l r:Nat),l<=r->r<=k->r-l<=f->(∀i,i<l->KK key p i<=KK key p k)->(∀i,r<=i->i<k->KK key p k<KK key p i)->
  Ok n key (kas_place p k f l r) (λl=>l<=k/\(∀i,i<l->KK key p i<=KK key p k)/\∀i,l<=i->i<k->KK key p k<KK key p i)
 |0,l,r,h1,h2,h3,lo,hi=>⟨(),lo,λi a b=>hi i () b⟩
 |f+1,l,r,h1,h2,h3,lo,hi=>by
  unfold kas_place
  by_cases c:l>=r
  ·rw[aD c]
   show⟨(),lo,λi a b=>hi i () b⟩
  ·rw[aA c]
   show⟨hp.lt hk,hp.lt (),?_⟩
   by_cases d:key (p.getD k 0)<key (p.getD ((l+r)/2) 0)
   ·rw[bh d];lk;rw[aD rfl]
    show HN hp hk hs f l ((l+r)/2) () () () lo λi a b=>?_
    let:=hs ((l+r)/2) i a b
    let d':KK key p k<KK key p ((l+r)/2):=d
    omega
   ·rw[cG d];lk;rw[aA cL]
    show HN hp hk hs f ((l+r)/2+1) r () h2 () (λi a=>?_) hi
    let:=hs i ((l+r)/2) () ()
    let d':KK key p ((l+r)/2)<=KK key p k:=by unfold KK;omega
    omega
theorem Ĩ:∀(f:Nat) {p:Array Nat} (k:Nat),Pm n p->k+f=n->Dr key p k->Ok n key (kas_bin f p k) (λp=>Pm n p/\Dr key p n)
 |0,p,k,hp,hk,hs=>⟨hp,()⟩
 |f+1,p,k,hp,hk,hs=>by
  show Ok.bind (Ok.mono (λl ⟨a,lo,hi⟩=>?_) (HN hp () hs k 0 k () (aK _) () (λi h=>by omega) λi h1 h2=>by omega))
  let hz:=hp.size
  show Ĩ f (k+1) (hp.of (bubble_perm _ _ _)) () λi j hij hj=>?_
  rw[Ħ () (),Ħ () ()]
  rw[show k-(k-l)=l by omega]
  by_cases i1:i=l
  ·rw[aD i1]
   by_cases j1:j=l
   ·rw[aD j1];show Int.le_refl _
   ·rw[aA j1,aD ()]
    show Int.le_of_lt (hi (j-1) () ())
  ·rw[aA i1]
   by_cases i2:l<i/\i<=k
   ·rw[aD i2,aA (),aD ()]
    show hs (i-1) (j-1) () ()
   ·rw[aA i2]
    by_cases j1:j=l
    ·rw[aD j1];show lo i ()
    ·rw[aA j1]
     by_cases j2:l<j/\j<=k
     ·rw[aD j2];show hs i (j-1) () ()
     ·rw[aA j2];show hs i j hij ()
def a0W(h1:1<=n):Ok n key (kas_sort n) (λp=>Pm n p/\Dr key p n):=by
 show Ok.bind (Ok.mono (λr ⟨a,b,c,d⟩=>?_) (ħ ⟨Array.Perm.refl _⟩ h1));by_cases e:r.1<n
 ·rw[aD e];show Ĩ _ _ a () ?_;grind
 ·rw[aA e];show⟨a,()⟩
end
end X7
namespace X7
open PyProof.Rows PySem.Calls PySem.W
section
variable{prog:Program}{wo:World}{A:Around}{E:∅}{s:Shared}
def Asks(prog:Program)(wo:World)(A:Around)(κ:SortKind)(zs:aw)(key:Nat->Int)(s:Shared):Prop :=
 (∀(E:∅) (R:SortKind->Shared->Prop),R κ s->wpAny (model prog wo) A (keyKind' zs.toArray) R E s)/\
 ∀(i j:Nat) (C:Bool->Shared->Prop),i<zs.length->j<zs.length->C (decide (key i<key j)) s->kas_ask prog wo A κ zs i j C s
abbrev HS(zs:aw)(p:Array Nat):Array Value:=List.toArray (p.toList.map λi=>zs.getD i Value.none)
def a3X(vs:aw):HS vs (List.range vs.length).toArray=vs.toArray:=by
 unfold HS;congr 1;apply List.ext_getElem?;intro i;by_cases h:i<vs.length
 ·simp[h]
 ·simp[h]
def OJ{a:Addr}{zs:aw}{n:Nat}{κ:SortKind}{key:Nat->Int}{P:PySem.Fin->Shared->Prop}(oa:s^^^a=some (seqObj "list" zs.toArray n))(h64:zs.length<64)
  (hk:2<=zs.length->∀h',(∀b o,b≠a->s^^^b=some o->h'.get? b=some o)->Asks prog wo A κ zs key (s•h'))
  (h:∀p,Pm zs.length p->Dr key p zs.length->P (.done (.ret .none)) (s•sortedHeap s.heap a zs (HS zs p))) :
  wpAny (model prog wo) A (Builtin.«list.sort» ⟨[.ref a],[]⟩) P E s:=by
 rw[list_sort_plain];let la:a<s⁻¹:=bw oa;show M (listItems_at oa Z ?_);show M (Vn oa Z ?_ (by rw[gV,gK];omega) (dG _));obtain⟨ep,oa1⟩:∃ep,(s.heap.update a (Obj.mapSeq λ_=>#[])).get? a=some (seqObj "list" #[] ep):=⟨_,Vg oa λ_=>#[]⟩;show M (seqEpoch_at oa1 Z ?_);show M (NK ?_ (by show zs.length<=_;rw[gK];omega));show M (Vo (eG ?_) (dG _));let oa6:(((s.heap.update a (Obj.mapSeq λ_=>#[])).push (seqObj "tuple" zs.toArray 0)).push (seqObj "list" #[] 0)).get? a=some (seqObj "list" #[] ep):=by
  rw[Nf _ _ _ (by rw[Og,U9];grind),Nf _ _ _ (by rw[U9];grind)];show oa1
 show wpAny (model prog wo) A _ P E (s•((s.heap.update a (Obj.mapSeq λ_=>#[])).push (seqObj "tuple" zs.toArray 0)).push (seqObj "list" #[] 0));lk;let lz:zs.toArray.size=zs.length:=by simp
 by_cases g2:zs.toArray.size<2
 ·rw[aD g2,aD g2];show M (ao ?_);rw[StateT.run_pure];show M (ao ?_);lk;show M (seqEpoch_at oa6 Z (M (Vn oa6 Z ?_ (dG _) ())));simp only[if_false,Bool.false_eq_true,bne_self_eq_false];let q:=h (List.range zs.length).toArray ⟨Array.Perm.refl _⟩ (λi j hij hj=>by grind);rw[a3X]at q;show ao ?_;let e:(arrOf (SortSt.mk' general' (zs.toArray.zip zs.toArray) #[] 7 none)).map (·.2)=zs.toArray:=by
   grind
  rw[e];show q
 ·rw[aA g2,aA g2];let h2':2<=zs.length:=()
  let⟨ak,ac⟩:=hk h2' (((s.heap.update a (Obj.mapSeq λ_=>#[])).push (seqObj "tuple" zs.toArray 0)).push (seqObj "list" #[] 0)) λb o hb e=>bM _ (bM _ (by rw[M5 _ _ _ _ hb];show e));show M (ak _ _ ?_);let ask:(kas_sort zs.length).kasWp (kas_ask prog wo A κ zs) (λp s'=>s'=(s•((s.heap.update a (Obj.mapSeq λ_=>#[])).push (seqObj "tuple" zs.toArray 0)).push (seqObj "list" #[] 0))/\Pm zs.length p/\Dr key p zs.length)
    (s•((s.heap.update a (Obj.mapSeq λ_=>#[])).push (seqObj "tuple" zs.toArray 0)).push (seqObj "list" #[] 0)) :=
   Ok.wp (n:=zs.length) (key:=key) ac (λp hp=>⟨Z,hp⟩) (a0W ())
  rw[kas_ask_eq]at ask;let est:SortSt.mk' κ (zs.toArray.zip zs.toArray) #[] 7 none=kas_st κ (pairsOf zs) (List.toArray (List.range zs.length)):=by
   let e:=kas_range (pairsOf zs);rw[pairsOf_size]at e;show SortSt.mk' κ (pairsOf zs) #[] 7 none=SortSt.mk' κ ((List.toArray (List.range zs.length)).map (kas_item (pairsOf zs))) #[] 7 none;rw[e]
  let rn:=kas_runs (E:=E) (Q:=λ_ st' s'=>∃p:Array Nat,p.size=zs.length/\arrOf st'=p.map (kas_item (pairsOf zs))/\failedOf st'=none/\(s'=(s•((s.heap.update a (Obj.mapSeq λ_=>#[])).push (seqObj "tuple" zs.toArray 0)).push (seqObj "list" #[] 0))/\Pm zs.length p/\Dr key p zs.length))
   h2' h64 (λp' st' s' a1 a2 a3 a4=>⟨p',a1,a2,a3,a4⟩) ask
  rw[<-est]at rn;show M (iJ rn ?_ λ_ _ e=>e);rintro⟨⟨⟩,st'⟩ s' ⟨p,hp,ra,hf,rfl,pm,sr⟩;lk;let hout:(arrOf st').map (·.2)=HS zs p:=by
   apply Array.toList_inj.mp;rw[ra,Array.map_map,Array.toList_map];show vA λi _=>by show(kas_item (pairsOf zs) i).2=_;rw[kas_item_eq]
  let hso:(HS zs p).size=zs.length:=()
  rw[hout];show M (seqEpoch_at oa6 Z ?_);show M (Vn oa6 Z ?_ (dG _) (cC (Ob hso) (by rw[gK];omega)));rw[hf];simp only[if_false,Bool.false_eq_true,bne_self_eq_false];show ao (h p pm sr)
def Zq{l:Addr}{zs:aw}{κ:SortKind}{key:Nat->Int}{R:∅}(il:s.heap.IsList l zs.toArray)(h64:zs.length<64)
  (hk:2<=zs.length->∀(A':Around) (h':Heap),(∀b o,s^^^b=some o->h'.get? b=some o)->Asks prog wo A' κ zs key (s•h'))
  (h:∀p,Pm zs.length p->Dr key p zs.length->R (.ref (s⁻¹+1)) (s•sortedAll s.heap zs (HS zs p))) :
  wpAny (model prog wo) A (call (.builtin "sorted") [.ref l]) R E s:=by
 apply ù kind_sorted plain_sorted entry_sorted (args_sorted1 _);unfold Builtin.«sorted»;show M (m:=checkCount "sorted" 1 1 _) (ao ?_);show M (collect_list il ?_ (by rw[gK];omega));show M (Vo ?_ (by rw[gK];omega));let lz:((s.heap.push (seqObj "list" #[] 0)).update s⁻¹ (Obj.mapSeq (· ++ zs.toArray))).objs.size=s⁻¹+1:=by
  rw[U9];show Og _ _
 let oL:(((s.heap.push (seqObj "list" #[] 0)).update s⁻¹ (Obj.mapSeq (· ++ zs.toArray))).push (seqObj "list" zs.toArray 0)).get? (s⁻¹+1)=some (seqObj "list" zs.toArray 0):=by
  rw[<-lz];show cB _ rfl
 show wpAny _ _ _ _ _ (s•((s.heap.push (seqObj "list" #[] 0)).update s⁻¹ (Obj.mapSeq (· ++ zs.toArray))).push (seqObj "list" zs.toArray 0));rw[lz];show M (eG (gG slot_list_sort ⟨_,oL,Z⟩ entry_list_sort (OJ (κ:=κ) (key:=key) oL h64 (λg2 h' kp=>hk g2 _ h' λb o e=>?_) λp a1 a2=>⟨_,Z,?_⟩) (args_list_sort _)))
 ·let lb:b<s⁻¹:=bw e;show kp b o (b7 (GQ lb)) ?_;rw[Nf _ _ _ (),M5 _ _ _ _ (b7 lb),Nf _ _ _ (b7 lb)];show e
 ·show ao ⟨_,Z,h p a1 a2⟩
end
end X7
namespace X7
open PyProof.Rows PySem.Calls PySem.W
variable{h:Heap}
def countP_le{α:Type}{p q:α->Bool}(h:∀x,p x=true->q x=true)(l:List α):l.countP p<=l.countP q:=by
 induction l with
 |nil=>show aK _
 |cons a r ih =>
  rw[Np,Np];by_cases c:p a=true
  ·rw[aD c,aD (h a c)];omega
  ·rw[aA c];omega
theorem KC{α:Type}{p q:α->Bool}(h:∀x,p x=true->q x=true){x:α}:∀{l:List α},x∈l->p x=false->q x=true->l.countP p<l.countP q
 |a::r,hx,h1,h2=>by
  rw[Np,Np]
  let le:=countP_le h r
  rcases bT.mp hx with rfl|hx
  ·grind
  ·let ih:=KC h hx h1 h2
   grind
noncomputable def rank(ls:List (ae))(i:Nat):Int:=(ls.countP λz=>decide (z<ls.getD i []):Nat)
def a6o{x y z:ae}(h:z<y)(h2:¬x<y):z<x:=by
 grind
def X8{ls:List (ae)}{i j:Nat}(hi:i<ls.length):decide (rank ls i<rank ls j)=decide (ls.getD i []<ls.getD j []):=by
 let hm:ls.getD i []∈ls:=by
  grind
 unfold rank;by_cases c:ls.getD i []<ls.getD j []
 ·rw[bh c];show bh (Int.ofNat_lt.mpr (KC (λz hz=>?_) hm ?_ ?_))
  ·grind
  ·grind
  grind
 ·rw[cG c];show cG λz=>?_;let:=countP_le (p:=λz=>decide (z<ls.getD j [])) (q:=λz=>decide (z<ls.getD i [])) (λz hz=>bh (a6o (dB hz) c)) ls;omega
section
variable{prog:Program}{w:World}{A:Around}{E:∅}{s:Shared}{Q:Bool->Shared->Prop}
def QX:∀{xs ys:aw}{ns ms:ae} (i:Nat),IntsAre xs ns->IntsAre ys ms->Q (decide (ns<ms)) s->KatLex prog w A true (decide (xs.length<ys.length)) Q (xs.zip ys) i s
 |_,_,_,_,i,.nil,.nil,h=>by
  show kat_nil ?_
  show h
 |_,_,_,_,i,.nil,.cons (vs:=ys) (ns:=ms) m u y,h=>by
  show kat_nil ?_
  let e:decide (([]:ae)<m::ms)=true:=bh (List.Lex.nil)
  rw[e]at h
  let e2:decide (([]:aw).length<(Value.int m u::ys).length)=true:=by simp
  rw[e2];show h
 |_,_,_,_,i,.cons (vs:=xs) (ns:=ns) n t x,.nil,h=>by
  show kat_nil ?_
  let e:decide (n::ns<([]:ae))=false:=cG (List.not_lt_nil _)
  rw[e]at h
  let e2:decide ((Value.int n t::xs).length<([]:aw).length)=false:=by simp
  rw[e2];show h
 |_,_,_,_,i,.cons (vs:=xs) (ns:=ns) n t x,.cons (vs:=ys) (ns:=ms) m u y,h=>by
  let ef:decide ((Value.int n t::xs).length<(Value.int m u::ys).length)=decide (xs.length<ys.length):=by
   simp only[List.length_cons,Nat.add_lt_add_iff_right]
  rw[ef]
  show kat_cons (wpAny_eqBool_int ?_)
  by_cases c:n=m
  ·subst c
   rw[Nq]
   show kat_yes (QX (i+1) x y ?_)
   let e:decide (n::ns<n::ms)=decide (ns<ms):=by
    let:(n::ns<n::ms)↔ns<ms:=by rw[Uk];simp
    simp only[this]
   rw[e]at h;show h
  ·rw[qC.mpr c]
   show kat_no ?_
   let e:decide (n::ns<m::ms)=decide (n<m):=by
    let:(n::ns<m::ms)↔n<m:=by rw[Uk];simp[c]
    simp only[this]
   rw[e]at h
   cases z:(true&&i==0)with
   |true=>show oneLt_int h
   |false=>show kat_one _ _ (lt_int h)
structure a6p(h:Heap)(v:Value)(ns:ae):Prop where
 at':∃a o xs n,v=.ref a/\h.get? a=some o/\o.cls=.type "tuple" /\o.data=.seq xs n/\IntsAre xs.toList ns
 ne:ns≠[]
inductive tK(h:Heap):aw->List (ae)->Prop
 |nil:tK h [] []
 |cons {v ns vs ls}:a6p h v ns->tK h vs ls->tK h (v::vs) (ns::ls)
def tK.keep{h':Heap}(k:∀b o,h.get? b=some o->h'.get? b=some o){vs ls}(t:tK h vs ls):tK h' vs ls:=by
 induction t with
 |nil=>show .nil
 |cons x _ ih =>
  let⟨⟨a,o,xs,n,e,ho,r⟩,ne⟩:=x;show .cons ⟨⟨a,o,xs,n,e,k _ _ ho,r⟩,ne⟩ ih
def tK.len{vs ls}(t:tK h vs ls):vs.length=ls.length:=by
 induction t with
 |nil=>rfl
 |cons _ _ ih=>rw[iM,iM,ih]
def tK.get{vs ls}(t:tK h vs ls){i}(hi:i<vs.length):a6p h (vs.getD i .none) (ls.getD i []):=by
 induction t generalizing i with
 |nil=>cases hi
 |cons a _ ih =>
  cases i with
  |zero=>show a
  |succ i=>show ih (Uh hi)
def tK.kat{vs ls}(t:tK h vs ls):∃fs,KatTups h vs fs/\fs.length=vs.length/\∀v∈fs,∃n t,v=Value.int n t:=by
 induction t with
 |nil=>show⟨[],KatTups.nil,Z,λv hv=>absurd hv fj⟩
 | @cons v ns vs ls x _ ih =>
  let⟨⟨a,o,xs,n,e,ho,hc,hd,hi⟩,ne⟩:=x;let⟨fs,k,l,q⟩:=ih;subst e;let⟨xl⟩:=xs;let hi:IntsAre xl ns:=hi;cases hi with
  |nil=>grind
  |cons m u r =>
   show⟨.int m u::fs,KatTups.cons ho hc hd Z k,(),λv hv=>?_⟩;grind
def Zr{vs:aw}{ls:List (ae)}(h:tK s.heap vs ls)(h2:2<=vs.length):Asks prog w A (tuples' true) vs (rank ls) s:=by
 show⟨λE Q q=>?_,λi j C hi hj q=>?_⟩
 ·let⟨fs,k,l,ty⟩:=h.kat;show kat_kind (T:=.type "int") k () (λv hv=>?_) Z q;let⟨n,t,rfl⟩:=ty v hv;show Looks.of_pure rfl
 ·let⟨⟨a,o,xs,n,e1,ho,hc,hd,hx⟩,_⟩:=h.get hi;let⟨⟨a',o',ys,n',e2,ho',hc',hd',hy⟩,_⟩:=h.get hj;unfold kas_ask;rw[e1,e2];show kat_lt ho hd ho' hd' ?_;rw[X8 (by rw[<-h.len];show hi)]at q;show QX 0 hx hy q
end
end X7
namespace L2
open PyProof.Rows Bg X7
def a3Y(K:aH)(H:Hp)(v:V)(ns:ae):Prop:=∃p,v=.ref p/\cO K H p (ns.map V.int)
inductive ĩ(K:aH)(xs:af)(H:Hp)(Q:VK):Prop
 |mk (l vs:_) (ls:List (ae)) (_:xs=[.ref l]) (_:bB K H l vs) (_:Paired (a3Y K H) vs ls) (_:(∀ns∈ls,ns≠[])) (_:vs.length<64) (_:∀(q:ay) p H',q.Perm (List.range vs.length)->(q.map λi=>ls.getD i []).Pairwise (λa b=>¬b<a)->iH H p (.lst (q.map λi=>vs.getD i .non)) H'->Q (.ref p) H')
theorem ints_of:∀{ns:ae}{us:aw},cN (ns.map V.int) us->IntsAre us ns
 | [],_,.nil=>.nil
 |n::ns,_,.cons r t=>by
  let⟨k,rfl⟩:=r
  show .cons n k (ints_of t)
section
variable{X:Cx}{K:aH}
def a0X{Y:aE}{σ:St}{H:Hp}{s:Shared}(I:bF X Y σ H s){vs:af}{us:aw}{ls:List (ae)}(v:cN vs us)(p:Paired (a3Y X.K H) vs ls)(ne:∀ns∈ls,ns≠[]):tK s.heap us ls:=by
 induction v generalizing ls with
 |nil =>
  cases p;show .nil
 |cons r t ih =>
  cases p with
  |cons a b =>
   let⟨pt,rfl,hT⟩:=a;let⟨bY,ri,⟨o,ho,hc,n,hd⟩,_⟩:=I.tuple hT;cases r;show .cons ⟨⟨pt,o,bY.toArray,n,Z,ho,hc,hd,by simpa using ints_of ri⟩,ne _ aZ⟩ (ih b λns h=>ne ns (bH _ h))
def Zt{vs:af}{us:aw}(v:cN vs us)(i:Nat)(h:i<vs.length):cZ (vs.getD i .non) (us.getD i .none):=by
 induction v generalizing i with
 |nil=>cases h
 |cons r _ ih =>
  cases i with
  |zero=>show r
  |succ i=>show ih i (Uh h)
theorem QZ{vs:af}{us:aw}(r:cN vs us):∀(q:ay),(∀i∈q,i<vs.length)->cN (q.map λi=>vs.getD i .non) (q.map λi=>us.getD i .none)
 | [],_=>.nil
 |i::q,h=>.cons (Zt r i (h i aZ)) (QZ r q λj hj=>h j (bH _ hj))
def vR(e:X.K=K):jE X (.builtin "sorted") (ĩ K):=by
 subst e;intro Y s σ H xs us Q I r h;let⟨l,vs,ls,rfl,hL,hP,ne,h64,q⟩:=h;let⟨u,rfl,rx⟩:=vals1 r;cases rx;let⟨bY,r',pl,hz⟩:=I.list hL;let hlen:=r'.length;let ht:=a0X I r' hP ne;let hl2:=ht.len;show Zq (κ:=tuples' true) (key:=rank ls) pl.isList () (λh2 A' h' kp=>Zr (ht.keep kp) h2) λp pm sr=>?_;let⟨c,hc⟩:=sortedAll_at s.heap bY (HS bY p);let hs:=pm.size;let mem:∀i∈p.toList,i<bY.length:=λi hi=>by
  let:=(T8.mp pm.perm).mem_iff (a:=i);grind
 let z:(p.toList.map λi=>vs.getD i V.non).length=bY.length:=()
 show⟨.ref (s⁻¹+1),_,I.laid (t':=s.toks) (o:=.lst (p.toList.map λi=>vs.getD i V.non)) (λb o eo=>sortedAll_old eo) (vJ _) ?_,Z,?_⟩
 ·show⟨by rw[z,<-hlen];show hz,_,c,QZ r' p.toList (λi hi=>by rw[hlen];show mem i hi),hc⟩
 ·show q p.toList _ _ ?_ ?_ (iH.nC (I.hok.fresh (vJ _)))
  ·let:=T8.mp pm.perm;grind
  ·rw[T9];intro i j hi hj hij;rw[aJ,tZ,hs]at hi hj;let q1:=sr i j (fC hij) hj;unfold X7.KK at q1;let li:=pm.lt hi;let lj:=pm.lt hj;rw[List.getElem_map,List.getElem_map];let e1:p.getD i 0=p.toList[i]'(by rw[tZ,hs];show hi):=by simp[Array.getD,hs,hi]
   let e2:p.getD j 0=p.toList[j]'(by rw[tZ,hs];show hj):=by simp[Array.getD,hs,hj]
   rw[<-e1,<-e2];intro c;let z1:=X8 (ls:=ls) (i:=p.getD j 0) (j:=p.getD i 0) ();grind
end
end L2
namespace Sm
variable{xs:Array Nat}{k j:Nat}
def Yb(xs:Array Nat)(j k:Nat):Prop:=k<=xs.size/\∀i (h:i<xs.size),xs[i]<j↔i<k
def Yc(h:xs.toList.Pairwise (· < ·)){i:Nat}(hi:i<xs.size)(hk:k<xs.size)(ik:i<k):xs[i]<xs[k]:=by
 let:=T9.mp h i k (by simpa using hi) (by simpa using hk) ik;simpa using this
def Ī(h:xs.toList.Pairwise (· < ·)):∀(fuel lo hi:Nat),hi-lo<=fuel->lo<=hi->hi<=xs.size->
  (∀i (z:i<xs.size),i<lo->xs[i]<j)->(∀i (z:i<xs.size),hi<=i->j<=xs[i])->Yb xs j (SetTable.below.go xs j fuel lo hi):=by
 intro fuel
 induction fuel with
 |zero =>
  intro lo hi a b c d e;unfold SetTable.below.go;let:lo=hi:=()
  subst this;show⟨c,λi z=>⟨λq=>by
   rcases um i lo with g|g
   ·show g
   ·let:=e i z g;omega,λq=>d i z q⟩⟩
 |succ f ih =>
  intro lo hi a b c d e;unfold SetTable.below.go;by_cases q:lo<hi
  ·rw[aD q];lk;let m1:lo<=(lo+hi)/2:=()
   let m2:(lo+hi)/2<hi:=()
   let m3:(lo+hi)/2<xs.size:=()
   let ge:xs.getD ((lo+hi)/2) j=xs[(lo+hi)/2]:=by simp[Array.getD,m3]
   rw[ge];by_cases r:xs[(lo+hi)/2]<j
   ·rw[aD r];show ih _ _ () () c (λi z hi'=>?_) e;rcases um i ((lo+hi)/2)with g|g
    ·let:=Yc h z m3 g;omega
    ·let:i=(lo+hi)/2:=()
     subst this;show r
   ·rw[aA r];show ih _ _ () () () d (λi z hi'=>?_);rcases um ((lo+hi)/2) i with g|g
    ·let:=Yc h m3 z g;omega
    ·let:i=(lo+hi)/2:=()
     subst this;omega
  ·rw[aA q];let:lo=hi:=()
   subst this;show⟨c,λi z=>⟨λq=>by
    rcases um i lo with g|g
    ·show g
    ·let:=e i z g;omega,λq=>d i z q⟩⟩
def Ar(h:xs.toList.Pairwise (· < ·))(j:Nat):Yb xs j (SetTable.below xs j) :=
 Ī h _ _ _ () (dG _) (aK _) (λi z q=>absurd q (wU _)) (λi z q=>absurd z ())
def below_at(h:xs.toList.Pairwise (· < ·))(hk:k<xs.size):SetTable.below xs (xs[k])=k:=by
 let⟨a,b⟩:=Ar h xs[k];rcases Nat.lt_trichotomy (SetTable.below xs xs[k]) k with g|g|g
 ·let c:=(b (SetTable.below xs xs[k]) ()).mp (Yc h () hk g);omega
 ·show g
 ·let c:=(b k hk).mpr g;omega
def Wb(h:xs.toList.Pairwise (· < ·)):SetTable.below xs 0=0:=by
 let⟨a,b⟩:=Ar h 0;rcases Nat.eq_zero_or_pos (SetTable.below xs 0)with g|g
 ·show g
 grind
def Wc(h:xs.toList.Pairwise (· < ·))(hk:k<xs.size):SetTable.below xs (xs[k]+1)=k+1:=by
 let⟨a,b⟩:=Ar h (xs[k]+1);let c:=(b k hk).mp ();rcases um (k+1) (SetTable.below xs (xs[k]+1))with g|g
 ·let e:=(b (k+1) ()).mpr g;let:=Yc h hk (show k+1<xs.size by omega) (wO _);omega
 ·omega
def Yd(j:Nat):SetTable.has #[] j=false:=by
 unfold SetTable.has;simp
def zy{t:SetTable}(dm:t.dummies = #[])(h:j∉t.place.toList):t.slot j=.empty:=by
 unfold SetTable.slot;let e:(t.place[SetTable.below t.place j]?==some j)=false:=by
  rw[qC];intro c;show h (by simpa using Array.mem_of_getElem? c)
 lk;rw[e,dm,Yd];rfl
def Zu{t:SetTable}(up:t.place.toList.Pairwise (· < ·))(h:j∈t.place.toList):∃i,t.slot j=.live i:=by
 let⟨k,hk,e⟩:=qD h;let hk':k<t.place.size:=by simpa using hk
 let e':t.place[k]=j:=by simpa using e
 unfold SetTable.slot;let q:SetTable.below t.place j=k:=by rw[<-e'];show below_at up hk'
 lk;rw[q];let:(t.place[k]?==some j)=true:=by simp[hk',e']
 rw[this];grind
noncomputable def adv(mask:Nat)(p:SetTable.Probe):SetTable.Probe :=
 if 0<p.more then{ p with more:=p.more-1,j:=p.j+1}else
 { p with j:=(SetTable.leap mask p.i p.perturb).1,more:=SetTable.runEnd mask (SetTable.leap mask p.i p.perturb).1-(SetTable.leap mask p.i p.perturb).1,i:=(SetTable.leap mask p.i p.perturb).1,perturb:=(SetTable.leap mask p.i p.perturb).2}
def a3Z(t:SetTable)(p:SetTable.Probe):t.advance p=adv t.mask p:=by
 unfold SetTable.advance adv;rfl
def nth(mask:Nat)(p:SetTable.Probe):Nat->SetTable.Probe
 |0=>p
 |k+1=>nth mask (adv mask p) k
def Zv(m:Nat)(p:SetTable.Probe):(adv m p).dummy=p.dummy:=by
 unfold adv;split<;>rfl
def ī{t:SetTable}(dm:t.dummies = #[])(up:t.place.toList.Pairwise (· < ·))(h:Int):∀(k fuel:Nat) (p:SetTable.Probe),k<fuel->p.dummy=none->(nth t.mask p k).j∉t.place.toList->
  ∃j,j∉t.place.toList/\SetTable.probe.go t (λ_=>h+1) h fuel p=some (.empty j none):=by
 intro k
 induction k with
 |zero =>
  intro fuel p hf hd hn;obtain⟨f,rfl⟩:∃f,fuel=f+1:=⟨fuel-1,()⟩;unfold SetTable.probe.go;let hn':p.j∉t.place.toList:=hn;show⟨p.j,hn',?_⟩;rw[zy dm hn',hd]
 |succ k ih =>
  intro fuel p hf hd hn;obtain⟨f,rfl⟩:∃f,fuel=f+1:=⟨fuel-1,()⟩;unfold SetTable.probe.go;by_cases c:p.j∈t.place.toList
  ·let⟨i,e⟩:=Zu up c;rw[e];lk;let:(h+1==h)=false:=()
   rw[this];rw[a3Z];show ih f (adv t.mask p) () (by rw[Zv];show hd) hn
  ·rw[zy dm c,hd];show⟨p.j,c,Z⟩
noncomputable def Wd(v:Nat):SetTable.Probe:={ j:=v%8,more:=0,i:=v%8,perturb:=v,dummy:=none}
def seven:∀v,v<16->∀j,j<8->∃k,k<16/\(nth 7 (Wd v) k).j=j:=by decide
def O1{v:Nat}(h:v<16):SetTable.bits (v:Int)=v:=by
 unfold SetTable.bits;omega
def a0Y{t:SetTable}(dm:t.dummies = #[])(up:t.place.toList.Pairwise (· < ·)){v:Nat}(hk:k<10*SetTable.turns t.mask)(hn:(nth t.mask (t.probeStart (v:Int)) k).j∉t.place.toList) :
  ∃j,j∉t.place.toList/\t.freeSlot (v:Int)=some (j,false):=by
 let⟨j,hj,e⟩:=ī dm up (v:Int) k (10*SetTable.turns t.mask) (t.probeStart (v:Int)) hk Z hn;show⟨j,hj,?_⟩;unfold SetTable.freeSlot SetTable.probe;rw[e];rfl
theorem Wf:∀(l m:ay),l.Nodup->(∀x∈l,x∈m)->l.length<=m.length
 | [],_,_,_=>dG _
 |a::r,m,nd,h=>by
  let am:a∈m:=h a aZ
  let⟨n1,n2⟩:=iQ.mp nd
  let q:=Wf r (m.erase a) n2 λx hx=>(Ur (λe=>n1 ())).mpr (h x (bH _ hx))
  grind
def a4a{l:ay}(h:l.length<=4):∃j,j<8/\j∉l:=by
 apply ú;intro c;let q:∀j,j<8->j∈l:=λj hj=>ú λd=>c ⟨j,hj,d⟩;let:=Wf (List.range 8) l Va (λj hj=>q j (gA.mp hj));rw[vD]at this;omega
def Ĭ{t:SetTable}(dm:t.dummies = #[]){v:Nat}(hv:v<16)(hm:15<=t.mask)(hn:v∉t.place.toList):t.freeSlot (v:Int)=some (v,false):=by
 unfold SetTable.freeSlot SetTable.probe;let e:(t.probeStart (v:Int)).j=v:=by
  unfold SetTable.probeStart;lk;rw[O1 hv];show Nat.mod_eq_of_lt ()
 obtain⟨f,hf⟩:∃f,10*SetTable.turns t.mask=f+1:=⟨10*SetTable.turns t.mask-1,by unfold SetTable.turns;omega⟩;rw[hf];unfold SetTable.probe.go;rw[e,zy dm hn];rfl
def Es(es:Array (Int×Value))(L:ay):Prop:=Paired (λe v=>e.1=((v:Nat):Int)/\∃tk,e.2=Value.int ((v:Nat):Int) tk) es.toList L
structure Tb(B:Bool)(t:SetTable)(L:ay):Prop where
 dm:t.dummies = #[]
 pl:t.plain=true
 led:t.led = !B
 up:t.place.toList.Pairwise (· < ·)
 sz:t.place.size=L.length
 nd:L.Nodup
 lt:∀v∈L,v<16
 sh:(t.mask=7/\L.length<=4)\/(15<=t.mask/\t.place.toList=L/\L.length*5<t.mask*3)
def a4b(up:xs.toList.Pairwise (· < ·))(h:j∉xs.toList):(SetTable.insertAt xs (SetTable.below xs j) j).toList.Pairwise (· < ·):=by
 let⟨a,b⟩:=Ar up j;rw[GC];let z:∀i (hi:i<xs.toList.length),xs.toList[i]<j↔i<SetTable.below xs j:=λi hi=>by
  let:=b i (by simpa using hi);simpa using this
 rw[Us];show⟨up.sublist (GP _ _),?_,?_⟩
 ·rw[uc];show⟨λy hy=>?_,up.sublist (List.drop_sublist _ _)⟩;let⟨i,hi,e⟩:=qD hy;grind
 ·intro x hx y hy;let⟨i,hi,e⟩:=qD hx;rw[List.getElem_take]at e;let hl:i<xs.toList.length:=()
  let hb:i<SetTable.below xs j:=()
  let x1:x<j:=()
  rcases bT.mp hy with rfl|hy
  ·show x1
  ·let⟨k,hk,e2⟩:=qD hy;grind
def Es.len{es:Array (Int×Value)}{L:ay}(h:Es es L):es.size=L.length:=by
 let:=aU h;grind
theorem Er{α β:Type}{R:α->β->Prop}:∀{xs:List α}{ys:List β} (n:Nat),Paired R xs ys->Paired R (xs.take n) (ys.take n)
 |_,_,0,_=>.nil
 |_,_,_+1,.nil=>.nil
 |_,_,n+1,.cons r t=>.cons r (Er n t)
theorem Et{α β:Type}{R:α->β->Prop}:∀{xs:List α}{ys:List β} (n:Nat),Paired R xs ys->Paired R (xs.drop n) (ys.drop n)
 |_,_,0,r=>r
 |_,_,_+1,.nil=>.nil
 |_,_,n+1,.cons _ t=>Et n t
def jJ{α β:Type}{R:α->β->Prop}{xs xs':List α}{ys ys':List β}(h:Paired R xs ys)(q:Paired R xs' ys'):Paired R (xs++xs') (ys++ys'):=by
 induction h with
 |nil=>show q
 |cons a _ ih=>show .cons a ih
def bC{α β:Type}{R:α->β->Prop}{xs:List α}{ys:List β}(p:Paired R xs ys)(i:Nat)(h:i<ys.length):∃x,xs[i]?=some x/\R x ys[i]:=by
 induction p generalizing i with
 |nil=>cases h
 |cons r _ ih =>
  cases i with
  |zero=>show⟨_,Z,r⟩
  |succ i=>show ih i (Uh h)
def a4c{B:Bool}{t:SetTable}{L:ay}{es:Array (Int×Value)}{v:Nat}{x:Value}(T:Tb B t L)(hE:Es es L)(hv:v<16)(hn:v∉L)(hx:∃tk,x=Value.int ((v:Nat):Int) tk) :
  ∃t1 es1 p,layNew t es ((v:Nat):Int) x=(es1,t1,false,false)/\Es es1 (L.take p++v::L.drop p)/\t1.dummies = #[]/\t1.plain=true/\(t1.led = !B)/\t1.mask=t.mask/\t1.finger=t.finger/\t1.moves=t.moves/\
   t1.place.toList.Pairwise (· < ·)/\t1.place.size=L.length+1/\(15<=t.mask->t1.place.toList=L.take p++v::L.drop p):=by
 let main:∃j,j∉t.place.toList/\t.freeSlot ((v:Nat):Int)=some (j,false)/\(15<=t.mask->j=v):=by
  rcases T.sh with⟨m7,l4⟩|⟨Ye,pe,fl⟩
  ·let lp:t.place.toList.length<=4:=by rw[tZ,T.sz];show l4
   let⟨j,hj,nj⟩:=a4a lp;let⟨k,hk,e⟩:=seven v hv j hj;let st:t.probeStart ((v:Nat):Int)=Wd v:=by
    unfold SetTable.probeStart Wd;rw[O1 hv,m7];unfold SetTable.runEnd;let:¬v%(7+1)+9<=7:=()
    simp only[if_neg this];simp
   let⟨j',hj',e'⟩:=a0Y (v:=v) (k:=k) T.dm T.up (by unfold SetTable.turns;omega) (by rw[st,m7,e];show nj);show⟨j',hj',e',λc=>by omega⟩
  ·let nv:v∉t.place.toList:=by rw[pe];show hn
   show⟨v,nv,Ĭ T.dm hv Ye nv,λ_=>rfl⟩
 let⟨j,nj,ef,ej⟩:=main;let sz1:(SetTable.insertAt t.place (SetTable.below t.place j) j).size=L.length+1:=by
  let:=congrArg List.length (GC t.place (SetTable.below t.place j) j);rw[tZ]at this;rw[this,bK,iM,dN,gw,tZ,T.sz];omega
 let es1:(SetTable.insertAt es (SetTable.below t.place j) (((v:Nat):Int),x)).size=L.length+1:=by
  let:=congrArg List.length (GC es (SetTable.below t.place j) (((v:Nat):Int),x));rw[tZ]at this;rw[this,bK,iM,dN,gw,tZ,hE.len];omega
 let mk:L.length+1<=t.mask:=by
  rcases T.sh with⟨m7,l4⟩|⟨Ye,pe,fl⟩<;>omega
 show⟨{ t with place:=SetTable.insertAt t.place (SetTable.below t.place j) j},SetTable.insertAt es (SetTable.below t.place j) (((v:Nat):Int),x),SetTable.below t.place j,?_,?_,T.dm,T.pl,T.led,rfl,rfl,rfl,a4b T.up nj,sz1,?_⟩
 ·unfold layNew;rw[ef];lk;unfold SetTable.put;let hd:SetTable.has t.dummies j=false:=by rw[T.dm];show Yd j
  lk;rw[hd];let ft:SetTable.fits { t with place:=SetTable.insertAt t.place (SetTable.below t.place j) j} (SetTable.insertAt es (SetTable.below t.place j) (((v:Nat):Int),x)).size=true:=by
   unfold SetTable.fits SetTable.fill;lk;rw[sz1,es1,T.dm];simp;omega
  unfold SetTable.orStandIn;simp only[if_false,Bool.false_eq_true];rw[aD ft,ft];rfl
 ·unfold Es;rw[GC];show jJ (Er _ hE) (.cons ⟨Z,hx⟩ (Et _ hE))
 ·intro hm;lk;let:=ej hm;subst this;rcases T.sh with⟨m7,l4⟩|⟨Ye,pe,fl⟩
  ·omega
  ·rw[GC,pe]
end Sm
namespace Sm
variable{L:ay}{m f n:Nat}{es:Array (Int×Value)}
def ĭ(m:Nat)(owner:Array (Option Nat))(L:ay):Prop:=owner.size=m+1/\∀j,j<=m->owner.getD j none=if j∈L then some (L.idxOf j)else none
def Į{owner:Array (Option Nat)}(Z96:ĭ m owner L){v:Nat}(hv:v<=m)(hn:v∉L):SetTable.layClean.free m owner (f+1) v v=some v:=by
 unfold SetTable.layClean.free;obtain⟨k,hk⟩:∃k,SetTable.runEnd m v+1-v=k+1:=⟨SetTable.runEnd m v-v,by unfold SetTable.runEnd;split<;>omega⟩;rw[hk,List.range_succ_eq_map];let g:owner.getD (v+0) (some 0)=none:=by
  let a:=Z96.2 v hv;rw[aA hn]at a;let hs:v<owner.size:=by rw[Z96.1];omega
  simp[Array.getD,hs]at a ⊢;show a
 rw[vy (by rw[g];rfl)];rfl
def į(hm:15<=m):∀(R L:ay) (owner:Array (Option Nat)),ĭ m owner L->(L++R).Nodup->(∀v∈R,v<16)->
  ∃İ,ĭ m İ (L++R)/\(R.map λv=>((v:Nat):Int)).foldl (λ(acc:Option (Array (Option Nat)×Nat)) h=>do
   let(owner,k) <-acc
   let j <-SetTable.layClean.free m owner (SetTable.turns m) (SetTable.bits h%(m+1)) (SetTable.bits h)
   pure (owner.setIfInBounds j (some k),k+1)) (some (owner,L.length))=some (İ,(L++R).length):=by
 intro R
 induction R with
 |nil=>grind
 |cons v R ih =>
  intro L owner Z96 nd hlt;let hv:v<16:=hlt v aZ;let hn:v∉L:=λc=>by
   grind
  let O':ĭ m (owner.setIfInBounds v (some L.length)) (L++[v]):=by
   show⟨by rw[Array.size_setIfInBounds];show Z96.1,λj hj=>?_⟩;let hs:v<owner.size:=by rw[Z96.1];omega
   let hs':j<owner.size:=by rw[Z96.1];omega
   let a:=Z96.2 j hj;by_cases e:j=v
   ·subst e;rw[aD (gq _ (bQ.mpr Z)),Ng,aA hn];simp[Array.getD,hs]
   ·let e1:(owner.setIfInBounds v (some L.length)).getD j none=owner.getD j none:=by
     simp only[Array.getD,Array.size_setIfInBounds,hs'];simp[Array.getElem_setIfInBounds,hs',Ne.symm e]
    grind
  let⟨o2,O2,e2⟩:=ih (L++[v]) _ O' () (λu hu=>hlt u (bH _ hu));show⟨o2,(),?_⟩;rw[cA,List.foldl_cons];let st:(do
   let(owner,k) <-some (owner,L.length);let j <-SetTable.layClean.free m owner (SetTable.turns m) (SetTable.bits ((v:Nat):Int)%(m+1)) (SetTable.bits ((v:Nat):Int))
   pure (owner.setIfInBounds j (some k),k+1):Option (Array (Option Nat)×Nat))=some (owner.setIfInBounds v (some L.length),(L++[v]).length):=by
   rw[O1 hv,Nat.mod_eq_of_lt ()];let:SetTable.turns m=(m+14)+1:=rfl;rw[this];show(SetTable.layClean.free m owner (m+14+1) v v).bind _=_;rw[Į Z96 () hn];simp
  grind
noncomputable def upTo(m:Nat)(L:ay):ay:=(List.range (m+1)).filter λj=>decide (j∈L)
def O3(m:Nat)(L:ay):(upTo m L).Pairwise (· < ·):=GK _ List.pairwise_lt_range
def mem_upTo(h:∀v∈L,v<=m){j:Nat}:j∈upTo m L↔j∈L:=by
 unfold upTo;grind
def Eu(h:L.Pairwise (· < ·)):L.Nodup:=h.imp λh=>b7 h
def xZ(h:∀v∈L,v<=m)(nd:L.Nodup):(upTo m L).Perm L :=
 (Gz (Eu (O3 m L)) nd).mpr λj=>mem_upTo h
def a0Z(nd:L.Nodup):L.map (λv=>L.idxOf v)=List.range L.length:=by
 apply List.ext_getElem
 ·simp
 grind
theorem ı{α β:Type}(p:α->Bool)(f:α->β):∀l:List α,l.filterMap (λa=>if p a=true then some (f a)else none)=(l.filter p).map f
 | []=>rfl
 |a::r=>by
  rw[Nr]
  cases e:p a with
  |true=>rw[Mv (b:=f a) (by rw[e];rfl),ı p f r];simp
  |false=>rw[List.filterMap_cons_none (by rw[e];rfl),ı p f r];simp
theorem Q0{α β:Type}{f g:α->Option β}:∀{l:List α},(∀a∈l,f a=g a)->l.filterMap f=l.filterMap g
 | [],_=>rfl
 |a::r,h=>by
  let e:=h a aZ
  let q:=Q0 (l:=r) λb hb=>h b (bH _ hb)
  grind
def Es.hashes(h:Es es L):(es.map (·.1)).toList=L.map λv=>((v:Nat):Int):=by
 rw[Array.toList_map];unfold Es at h;generalize es.toList=l at h
 induction h with
 |nil=>rfl
 |cons r _ ih=>grind
def Es.at{es:Array (Int×Value)}{L:ay}(h:Es es L){v:Nat}(hv:v∈L):∃e,es[L.idxOf v]?=some e/\e.1=((v:Nat):Int)/\∃tk,e.2=Value.int ((v:Nat):Int) tk:=by
 let hi:=Mt hv;let⟨x,e,q⟩:=bC h (L.idxOf v) hi;rw[List.getElem_idxOf hi]at q;show⟨x,by simpa using e,q⟩
theorem a2M{es:Array (Int×Value)}{L:ay}(h:Es es L):∀S:ay,(∀v∈S,v∈L)->Paired (λe v=>e.1=((v:Nat):Int)/\∃tk,e.2=Value.int ((v:Nat):Int) tk) ((S.map λv=>L.idxOf v).filterMap λi=>es[i]?) S
 | [],_=>.nil
 |v::S,hs=>by
  let⟨e,a,b⟩:=h.at (hs v aZ)
  rw[cA,Mv a]
  show .cons b (a2M h S λu hu=>hs u (bH _ hu))
def O4{mv:Nat}{led plain:Bool}(hm:15<=m)(hE:Es es L)(nd:L.Nodup)(hlt:∀v∈L,v<16) :
  ∃order:Array Nat,SetTable.laid m f mv led plain (es.map (·.1))=some ({ mask:=m,place:=(upTo m L).toArray,dummies:=#[],finger:=f,led:=led,moves:=mv,plain:=plain},order)/\
   Es (order.filterMap (es[·]?)) (upTo m L)/\coversAll order es.size=true:=by
 let hle:∀v∈L,v<=m:=λv hv=>by grind
 let O0:ĭ m (Array.replicate (m+1) none) []:=⟨by simp,λj hj=>by simp[Array.getD]⟩;let⟨ow,Z96,e⟩:=į hm L [] _ O0 (by simpa using nd) hlt;rw[List.nil_append]at Z96 e;let ec:SetTable.layClean m (es.map (·.1))=some ow:=by
  unfold SetTable.layClean;rw[<-Array.foldl_toList,hE.hashes];grind
 let lv:(List.range (m+1)).filterMap (λj=>(ow.getD j none).map λk=>(j,k))=(upTo m L).map λj=>(j,L.idxOf j):=by
  unfold upTo;rw[<-ı];apply Q0;intro j hj;rw[Z96.2 j ()];grind
 show⟨((upTo m L).map λj=>L.idxOf j).toArray,?_,?_,?_⟩
 ·unfold SetTable.laid;rw[ec];show some _=some _;let:(List.range (m+1)).filterMap (λj=>(ow.getD j none).map (j,·))=(upTo m L).map λj=>(j,L.idxOf j):=lv;rw[this,lV,lV];let i1:((λ(x:Nat×Nat)=>x.1)∘λj=>(j,L.idxOf j))=λj=>j:=rfl;let i2:((λ(x:Nat×Nat)=>x.2)∘λj=>(j,L.idxOf j))=λj=>L.idxOf j:=rfl;rw[i1,i2,List.map_id']
 ·unfold Es;rw[Array.toList_filterMap];show a2M hE (upTo m L) λv hv=>(mem_upTo hle).mp hv
 ·unfold coversAll;rw[List.isPerm_iff,hE.len];let p:=(xZ hle nd).map λv=>L.idxOf v;rw[a0Z nd]at p;show p
def Wg(h:∀v∈L,v<16)(hm:15<=m)(nd:L.Nodup):(upTo m L).length=L.length:=(xZ (λv hv=>by let:=h v hv;omega) nd).length_eq
def Av(h:n<2^40):n<SetTable.sizeAbove n:=by
 let go:∀fuel size,n<size*2^fuel->n<SetTable.sizeAbove.go n fuel size:=by
  intro fuel
  induction fuel with
  |zero=>intro size h;unfold SetTable.sizeAbove.go;simpa using h
  |succ f ih =>
   intro size h;unfold SetTable.sizeAbove.go;split
   ·show ih _ (by rw[Nat.pow_succ]at h;rw[Nat.mul_assoc,Nat.mul_comm 2];show h)
   ·omega
 show go 64 8 ()
def Aw(h:8<=n):16<=SetTable.sizeAbove n:=by
 let go:∀fuel size,16<=size->16<=SetTable.sizeAbove.go n fuel size:=by
  intro fuel
  induction fuel with
  |zero=>intro size h;unfold SetTable.sizeAbove.go;show h
  |succ f ih =>
   intro size h;unfold SetTable.sizeAbove.go;split
   ·show ih _ ()
   ·show h
 unfold SetTable.sizeAbove;unfold SetTable.sizeAbove.go;rw[aD h];show go 63 _ ()
def Tb.fits{B:Bool}{t:SetTable}{L:ay}(T:Tb B t L):t.fits L.length=true:=by
 unfold SetTable.fits SetTable.fill;let:=T.sz;rw[T.dm];rcases T.sh with⟨a,b⟩|⟨a,b,c⟩<;>simp[this]<;>omega
def O5{B:Bool}{mv:Nat}(hm:15<=m)(nd:L.Nodup)(hlt:∀v∈L,v<16)(hr:L.length*5<m*3) :
  Tb B { mask:=m,place:=(upTo m L).toArray,dummies:=#[],finger:=f,led:=!B,moves:=mv,plain:=true} (upTo m L) where
 dm:=rfl
 pl:=rfl
 led:=rfl
 up:=by simpa using O3 m L
 sz:=by simp
 nd:=Eu (O3 m L)
 lt:=λv hv=>hlt v ((mem_upTo (λv hv=>by grind)).mp hv)
 sh:=.inr ⟨hm,by simp,by rw[Wg hlt hm nd];show hr⟩
def Ĵ{B:Bool}{t:SetTable}(hp:t.plain=true)(hl:t.led = !B)(hE:Es es L)(nd:L.Nodup)(hlt:∀v∈L,v<16)(hn:8<=n)(h2:2*L.length<=n)(hb:n<2^40) :
  ∃es' t' L',relayAll t es n=(es',t',false)/\Es es' L'/\Tb B t' L'/\L'.Perm L:=by
 let a1:=Av hb;let a2:=Aw hn;let hm:15<=SetTable.sizeAbove n-1:=()
 let⟨order,e,hE',hc⟩:=O4 (f:=t.finger) (mv:=t.movedTo (SetTable.sizeAbove n-1)) (led:=!B) (plain:=true) hm hE nd hlt;let T:=O5 (B:=B) (f:=t.finger) (mv:=t.movedTo (SetTable.sizeAbove n-1)) hm nd hlt ();show⟨_,_,_,?_,hE',T,xZ (λv hv=>by let:=hlt v hv;omega) nd⟩;unfold relayAll SetTable.relaid;rw[hp,hl,e];lk;let z:=hE'.len;rw[hc,z,T.fits];rfl
end Sm
namespace Sm
variable{L:ay}{es:Array (Int×Value)}{h:Heap}{a:Addr}{B:Bool}{tk:Nat}
abbrev lE(es:Array (Int×Value))(ep:Nat)(t:SetTable):Obj:={ cls:=.type "set",dict:=none,data:=.set es ep t,slots:=#[]}
def jw(B:Bool)(h:Heap)(a:Addr)(L:ay):Prop:=∃es ep t,h.get? a=some (lE es ep t)/\Es es L/\Tb B t L
def qi(h:Heap)(a:Addr):Prop:=∃es ep t,h.get? a=some (lE es ep t)/\(t.mask=7\/5<=es.size)
def qi.keep{h':Heap}(S:qi h a)(k:∀o,h.get? a=some o->h'.get? a=some o):qi h' a :=
 let⟨es,ep,t,ho,r⟩:=S;⟨es,ep,t,k _ ho,r⟩
def jw.keep{h':Heap}(S:jw B h a L)(k:∀o,h.get? a=some o->h'.get? a=some o):jw B h' a L :=
 let⟨es,ep,t,ho,r⟩:=S;⟨es,ep,t,k _ ho,r⟩
def Tb.len{t:SetTable}(T:Tb B t L):L.length<=16:=by
 let:=Wf L (List.range 16) T.nd λx hx=>gA.mpr (T.lt x hx);simpa using this
def Wh:∀v:Nat,v<16->hashInt ((v:Nat):Int)=((v:Nat):Int):=by decide
def Es.elems{prog:Program}{w:World}(h:Es es L)(lt:∀v∈L,v<16):ElemsOf (intKind prog w) es.toList:=by
 unfold Es at h;generalize es.toList=l at h
 induction h with
 |nil=>intro e he;simp at he
 | @cons x y xs ys r _ ih =>
  intro e he;rcases bT.mp he with rfl|he
  ·let⟨tk,e2⟩:=r.2;show⟨⟨((y:Nat):Int),?_,?_⟩,?_⟩
   ·show Value.isInt _ _=true;rw[e2];simp[Value.isInt]
   ·rw[r.1];show(Wh y (lt y aZ)).symm
   ·rw[e2];rfl
  ·show ih (λv hv=>lt v (bH _ hv)) e he
def Es.find(h:Es es L)(v:Nat):(es.toList.findIdx? λe=>Value.isInt ((v:Nat):Int) e.2).isSome=decide (v∈L):=by
 unfold Es at h;generalize es.toList=l at h
 induction h with
 |nil=>simp
 | @cons x y xs ys r _ ih =>
  let⟨tk,e2⟩:=r.2;rw[List.findIdx?_cons,e2];by_cases c:v=y
  ·subst c;simp[Value.isInt]
  ·let:Value.isInt ((v:Nat):Int) (.int ((y:Nat):Int) tk)=false:=by simp[Value.isInt];omega
   grind
section
variable{prog:Program}{w:World}{A:Around}{E:∅}{s:Shared}
def a00{ep:Nat}{t:SetTable}{v:Nat}{ad:Bool}{Q:ScanMet->Shared->Prop}(ho:s^^^a=some (lE es ep t))(hE:Es es L)(T:Tb B t L)(hv:v<16)
  (h1:v∈L->∀j,Q (.found j) s) (h2:v∉L->Q .absent s):∎ (setScan a (.int ((v:Nat):Int) tk) ((v:Nat):Int) ad es) Q E s:=by
 let hf:t.fits es.size=true:=by rw[hE.len];show T.fits
 let sc:=wpAny_setScan_of (prog:=prog) (w:=w) (A:=A) (E:=E) (s:=s) (knd:=intKind prog w) (k:=((v:Nat):Int)) (x:=.int ((v:Nat):Int) tk) (adding:=ad) (Q:=Q) (by simp[intKind,Value.isInt]) ho Z hf (hE.elems T.lt) (by
  let q:=hE.find v;let e:(λe:Int×Value=>(intKind prog w).is ((v:Nat):Int) e.2)=λe=>Value.isInt ((v:Nat):Int) e.2:=rfl;grind)
 let e:(intKind prog w).hash ((v:Nat):Int)=((v:Nat):Int):=Wh v hv;rw[e]at sc;show sc
def yc{es':Array (Int×Value)}{ep:Nat}{t t':SetTable}(ho:h.get? a=some (lE es ep t)):(h.update a (Obj.putSet es' t')).get? a=some (lE es' (ep+1) t'):=by
 let:=Cy (Obj.putSet es' t') ho (by rw[putSet_of es' t' rfl];rfl);rw[putSet_of es' t' rfl]at this;show this
def a01(prog:Program)(w:World){t:SetTable}{v:Nat}(hE:Es es L)(T:Tb B t L):byScan (.int ((v:Nat):Int) tk) es=true :=
 byScan_of (knd:=intKind prog w) Z (by rw[hE.len];let:=T.len;unfold scanBound;omega) (hE.elems T.lt)
def ĵ{v:Nat}{Q:Bool->Shared->Prop}(S:jw B s.heap a L)(hv:v<16)
  (h:∀b h' L',Heap.SameBut a s.heap h'->jw B h' a L'->(∀u,u∈L'↔u=v\/u∈L)->(qi s.heap a->qi h' a)->Q b (s•h')) :
  ∎ (setAddHashed a (.int ((v:Nat):Int) tk) ((v:Nat):Int)) Q E s:=by
 let⟨es,ep,t,ho,hE,T⟩:=S;let hf:t.fits es.size=true:=by rw[hE.len];show T.fits
 unfold setAddHashed setAddHashedIn;show eG (M (wpAny_setState_of ho Z hf ?_));lk;rw[a01 prog w hE T];simp only[↓reduceIte];unfold setAddByScan;show M (M (j9 (M (a00 ho hE T hv (λhm j=>?_) λhm=>?_))))
 ·lk;show ao (ao ?_);let q:=h false s.heap L (U6 a s.heap) ⟨es,ep,t,ho,hE,T⟩ (λu=>⟨.inr,λc=>c.elim (λe=>e▸hm) id⟩) id;show q
 ·lk;let⟨t1,es1,p,e1,hE1,dm,pl,ld,mk,_,_,up,sz,own⟩:=a4c (x:=.int ((v:Nat):Int) tk) T hE hv hm ⟨tk,Z⟩;rw[e1];lk;show M (ao ?_);rw[pl];show M (ao ?_);simp only[↓reduceIte];let mem:∀u,u∈L.take p++v::L.drop p↔u=v\/u∈L:=λu=>by
   rw[cM,bT];let e:u∈L↔u∈L.take p\/u∈L.drop p:=by rw[<-cM,tY]
   rw[e];constructor
   ·rintro(c|c|c)
    ·show .inr (.inl c)
    ·show .inl c
    ·show .inr (.inr c)
   ·rintro(c|c|c)
    ·show .inr (.inl c)
    ·show .inl c
    ·show .inr (.inr c)
  let nd1:(L.take p++v::L.drop p).Nodup:=by
   let pm:(L.take p++v::L.drop p).Perm (v::L):=by
    let:L.take p++L.drop p=L:=tY p L;show List.perm_middle.trans (by rw[this])
   show pm.nodup_iff.mpr (iQ.mpr ⟨hm,T.nd⟩)
  let lt1:∀u∈L.take p++v::L.drop p,u<16:=λu hu=>((mem u).mp hu).elim (λe=>e▸hv) (T.lt u);let ln1:(L.take p++v::L.drop p).length=L.length+1:=by
   rw[bK,iM,dN,gw];omega
  let fl:t1.fill=L.length+1:=by unfold SetTable.fill;rw[dm,sz];rfl
  let l16:=T.len;let z1:es1.size=L.length+1:=by rw[hE1.len,ln1]
  show M (GR ho Z ?_ (by rw[z1,gK];omega));let ho1:=yc (es':=es1) (t':=t1) ho;cases tf:t1.tooFull with
  |false =>
   simp only[Bool.not_false,Bool.and_false,Bool.false_eq_true,if_false];show ao (ao ?_);show h true _ _ (qF ..) ⟨es1,ep+1,t1,ho1,hE1,⟨dm,pl,ld,up,by rw[ln1,sz],nd1,lt1,?_⟩⟩ mem (λ⟨es0,ep0,t0,ho0,d⟩=>⟨es1,ep+1,t1,ho1,by
    rw[ho]at ho0;cases ho0;rw[mk,z1];let:=hE.len;omega⟩)
   unfold SetTable.tooFull at tf;let tf':=UJ tf;rw[fl,mk]at tf';rw[ln1,mk];rcases T.sh with⟨m7,l4⟩|⟨Ye,pe,_⟩
   ·show .inl ⟨m7,()⟩
   ·show .inr ⟨Ye,own Ye,()⟩
  |true =>
   simp only[Bool.not_false,Bool.and_self,if_true];unfold SetTable.tooFull at tf;let tf':=dB tf;rw[fl,mk]at tf';let five:5<=L.length+1:=by
    rcases T.sh with⟨m7,l4⟩|⟨Ye,pe,_⟩<;>omega
   let gr:SetTable.grown es1.size=(L.length+1)*4:=by
    unfold SetTable.grown;rw[z1,aA ()]
   let⟨es2,t2,L2,e2,hE2,T2,pm⟩:=Ĵ (t:=t1) (n:=SetTable.grown es1.size) pl ld hE1 nd1 lt1 (by rw[gr];omega) (by rw[gr,ln1];omega) (by rw[gr];omega);rw[e2];lk;show M (ao ?_);show M (GR ho1 Z ?_ (by rw[hE2.len,pm.length_eq,ln1,gK];omega));show ao (ao ?_);show h true _ L2 ((qF ..).trans (qF ..)) ⟨es2,_,t2,yc ho1,hE2,T2⟩ (λu=>(pm.mem_iff).trans (mem u)) λ_=>⟨es2,_,t2,yc ho1,.inr (by rw[hE2.len,pm.length_eq,ln1];show five)⟩
end
end Sm
namespace Sm
variable{es:Array (Int×Value)}{ep:Nat}
abbrev oF(w:World):Bool:=w.params.followText "set-order"
theorem HW{α:Type}:∀(l:List α) (i:Nat) (h:i<l.length),(l[i]::l.eraseIdx i).Perm l
 |_::r,0,_=>.refl _
 |x::r,i+1,h=>by
  let q:=HW r i (by simpa using h)
  rw[List.getElem_cons_succ,List.eraseIdx_cons_succ]
  show(List.Perm.swap x (r[i]'(by simpa using h)) (r.eraseIdx i)).trans (q.cons x)
def a02{α:Type}(nx:Nat->Nat):∀(fuel k:Nat) (left:List α) (out:Array α),left.length<=fuel->(pickOrder.go nx fuel k left out).toList.Perm (out.toList++left):=by
 intro fuel
 induction fuel with
 |zero =>
  intro k left out h;let:left=[]:=Mx.mp ();subst this;unfold pickOrder.go;simp
 |succ f ih =>
  intro k left out h;unfold pickOrder.go;by_cases c:left=[]
  ·subst c;simp
  ·let pos:0<left.length:=List.length_pos_iff.mpr c;let lt:=Nat.mod_lt (nx k) pos;rw[bO lt];lk;show(ih (k+1) _ _ ()).trans ?_;rw[Array.toList_push,rM];show List.Perm.append_left _ (HW left _ lt)
def KD{α:Type}(nx:Nat->Nat)(xs:Array α):(pickOrder nx xs).toList.Perm xs.toList:=by
 let:=a02 nx xs.size 0 xs.toList #[] (by simp);unfold pickOrder;simpa using this
def Yg(a:Addr):setWalk a=(do
 let(xs,c,tb) <-setState a
 if <-setsByText then
  let q <-ask
  return pickOrder (q.params.setOrder a c) xs
 if !tb.plain&&xs.size>1 then return (<-drawOrder xs.size xs.toList).toArray
 (do if !tb.led&&xs.size>1 then unsupported "set:maker-not-led" : Sem Unit)
 return xs):=rfl
def Es.perm{L:ay}(h:Es es L){es':List (Int×Value)}(p:es'.Perm es.toList):∃L',Paired (λe v=>e.1=((v:Nat):Int)/\∃tk,e.2=Value.int ((v:Nat):Int) tk) es' L'/\L'.Perm L:=by
 show⟨es'.map λe=>e.1.toNat,?_,?_⟩
 ·let all:∀e∈es.toList,∃v:Nat,e.1=((v:Nat):Int)/\∃tk,e.2=Value.int ((v:Nat):Int) tk:=by
   unfold Es at h;generalize es.toList=l at h;clear p
   induction h with
   |nil=>intro e he;simp at he
   |cons r _ ih =>
    intro e he;rcases bT.mp he with rfl|he
    ·show⟨_,r⟩
    ·show ih e he
  let all':∀e∈es',∃v:Nat,e.1=((v:Nat):Int)/\∃tk,e.2=Value.int ((v:Nat):Int) tk:=λe he=>all e (p.mem_iff.mp he);clear p
  induction es' with
  |nil=>show .nil
  |cons e r ih =>
   let⟨v,e1,e2⟩:=all' e aZ;rw[cA];show .cons ?_ (ih λx hx=>all' x (bH _ hx));rw[e1];show⟨Z,e2⟩
 ·show(p.map λe=>e.1.toNat).trans ?_;unfold Es at h;generalize es.toList=l at h;let:l.map (λe=>e.1.toNat)=L:=by
   induction h with
   |nil=>rfl
   |cons r _ ih=>rw[cA,ih,r.1];rfl
  rw[this]
section
variable{prog:Program}{w:World}{A:Around}{E:∅}{s:Shared}{a:Addr}{L:ay}
def jD{t:SetTable}{B:Bool}{Q:(Array (Int×Value)×Nat×SetTable)->Shared->Prop}(ho:s^^^a=some (lE es ep t))(hE:Es es L)(T:Tb B t L)(h:Q (es,ep,t) s) :
  ∎ (setState a) Q E s:=wpAny_setState_of ho Z (by rw[hE.len];show T.fits) h
def rC{Q:Bool->Shared->Prop}(h:Q (oF w) s):∎ setsByText Q E s:=by
 unfold setsByText;show M (Nt (ao h))
def walk_at{t:SetTable}{Q:Array (Int×Value)->Shared->Prop}(ho:s^^^a=some (lE es ep t))(hE:Es es L)(T:Tb (oF w) t L)
  (h:∀es',es'.toList.Perm es.toList->Q es' s):∎ (setWalk a) Q E s:=by
 rw[Yg];show M (jD ho hE T (M (rC ?_)));let pl:=T.pl;let ld:=T.led;cases c:oF w with
 |true =>
  simp only[if_true];show M (Nt (ao (h _ (KD _ _))))
 |false =>
  rw[c]at ld;simp only[pl,ld,Bool.not_true,Bool.not_false,Bool.false_and,Bool.false_eq_true,if_false];first|exact M (ao (ao (h _ .rfl)))|exact ao (h _ .rfl)
def Zw{t:SetTable}{others:aI}{f:Option Addr}{Q:Array (Int×Value)->Shared->Prop}(ho:s^^^a=some (lE es ep t))(hE:Es es L)(T:Tb (oF w) t L)
  (h:∀es',es'.toList.Perm es.toList->Q es' s):∎ (setWalkUnseen a others f) Q E s:=by
 unfold setWalkUnseen;show M (jD ho hE T (M (rC ?_)));let e:(oF w||(t.led&&t.plain)||decide (es.size<=1))=true:=by rw[T.led,T.pl];grind
 lk;rw[aD e];show walk_at ho hE T h
noncomputable def Yh(es:Array (Int×Value))(laid:Option (SetTable×Array Nat)):Sem (Array (Int×Value)×SetTable):=do
 let some (t,order):=laid
  |unsupported "internal:set-table-without-room"
 if(order.filterMap (es[·]?)).size != es.size then unsupported "internal:set-table-lost-an-element"
 pure (order.filterMap (es[·]?),t)
def Ķ(a:Addr)(n:Nat):setRelay a n=(do
 let(es,_,t) <-setState a
 if SetTable.sizeAbove n>sizeLine then unsupported "set:memory"
 let(es,t) <-Yh es (t.relaid (es.map (·.1)) n)
 storeSet a es t):=rfl
def Q5{t:SetTable}{order:Array Nat}{S:ay}{Q:Array (Int×Value)×SetTable->Shared->Prop}(hE':Es (order.filterMap (es[·]?)) S)(hz:es.size=S.length)(h:Q (order.filterMap (es[·]?),t) s) :
  ∎ (Yh es (some (t,order))) Q E s:=by
 unfold Yh;lk;let e:((order.filterMap (es[·]?)).size != es.size)=false:=by rw[hE'.len,hz];simp
 simp only[e,Bool.false_eq_true,if_false];first|exact M (ao (ao h))|exact ao h
def ķ{n:Nat}(h:n<=64):SetTable.sizeAbove n<=128:=by
 let:∀n,n<=64->SetTable.sizeAbove n<=128:=()
 grind
def a03{more:Nat}{Q:Unit->Shared->Prop}{B:Bool}(S:jw B s.heap a L)(hm:more<=16)
  (h:∀h' es ep t L',Heap.SameBut a s.heap h'->h'.get? a=some (lE es ep t)->Es es L'->Tb B t L'->L'.Perm L->(L.length+more)*5<t.mask*3->Q ⟨⟩ (s•h')):∎ (setRoomFor a more) Q E s:=by
 let⟨es,ep,t,ho,hE,T⟩:=S;unfold setRoomFor;show M (jD ho hE T ?_);let fl:t.fill=L.length:=by unfold SetTable.fill;rw[T.dm,T.sz];rfl
 let l16:=T.len;unfold SetTable.roomFor;lk;rw[fl,T.sz];by_cases c:(L.length+more)*5>=t.mask*3
 ·rw[aD c];lk;rw[Ķ];show M (jD ho hE T ?_);let five:5<=L.length+more:=by
   rcases T.sh with⟨m7,_⟩|⟨Ye,_,_⟩<;>omega
  let b1:=Av (n:=(L.length+more)*2) ();let b2:=Aw (n:=(L.length+more)*2) ();let b3:=ķ (n:=(L.length+more)*2) ();lk;rw[aA (by rw[gK];omega)];let hm':15<=SetTable.sizeAbove ((L.length+more)*2)-1:=()
  let⟨order,e,hE',hc⟩:=O4 (f:=t.finger) (mv:=t.movedTo (SetTable.sizeAbove ((L.length+more)*2)-1)) (led:=t.led) (plain:=t.plain) hm' hE T.nd T.lt;unfold SetTable.relaid;rw[e];let lz:=Wg T.lt hm' T.nd;show M (Q5 hE' (by rw[hE.len,lz]) ?_);show GR ho Z ?_ (by rw[hE'.len,lz,gK];omega);let T':=O5 (B:=B) (f:=t.finger) (mv:=t.movedTo (SetTable.sizeAbove ((L.length+more)*2)-1)) hm' T.nd T.lt ();rw[<-T.led,<-T.pl]at T';show h _ _ _ _ _ (qF ..) (yc ho) hE' T' (xZ (λv hv=>by let:=T.lt v hv;omega) T.nd) (by show _<(SetTable.sizeAbove ((L.length+more)*2)-1)*3;omega)
 ·rw[aA c];show ao (h s.heap es ep t L (U6 a s.heap) ho hE T .rfl ())
end
end Sm
namespace Sm
def Ĺ(sA oA:Addr)(each:Sem Unit):setMerge sA oA each=(do
 if sA==oA then return
 let(eo,epoch,to) <-setState oA
 if eo.isEmpty then return
 setRoomFor sA eo.size
 let(_,_,ts) <-setState sA
 match ts.road to with
 |.slotForSlot =>
  storeSet sA eo { to with finger:=ts.finger,led:=ts.led&&to.led,moves:=ts.moves,plain:=ts.plain&&to.plain}
 |.clean =>
  let(es,t) <-Yh eo (SetTable.laid ts.mask ts.finger ts.moves (ts.led&&to.led) (ts.plain&&to.plain) (eo.map (·.1)))
  storeSet sA es t
 |.oneByOne =>
  for (h,x)in <-setWalkUnseen oA [sA] (some sA) do
   let _ <-holding [x] (setAddHashed sA x h)
   each
   if(<-setState oA).2.1 != epoch then unsupported "set.changed-during-merge"):=rfl
section
variable{prog:Program}{w:World}{A:Around}{E:∅}{s:Shared}{sA oA:Addr}{L1 L2:ay}
def Q6{each:Sem Unit}{Q:Unit->Shared->Prop}(ne:sA≠oA)(S1:jw (oF w) s.heap sA L1)(S2:jw (oF w) s.heap oA L2)(D:qi s.heap oA)
  (he:∀(s':Shared) (Q':Unit->Shared->Prop),(∀o,s^^^oA=some o->s'^^^oA=some o)->Q' ⟨⟩ s'->∎ each Q' E s')
  (h:∀h' L,Heap.SameBut sA s.heap h'->jw (oF w) h' sA L->(∀u,u∈L↔u∈L1\/u∈L2)->Q ⟨⟩ (s•h')):∎ (setMerge sA oA each) Q E s:=by
 let⟨eo,ep,to,ho,hE,T⟩:=S2;rw[Ĺ];let nb:(sA==oA)=false:=qC.mpr ne;rw[nb];simp only[Bool.false_eq_true,if_false];show M (jD ho hE T ?_);lk;let hz:=hE.len;let l16:=T.len;by_cases c:eo.isEmpty=true
 ·rw[aD c];let l0:L2.length=0:=by rw[<-hz];simpa using c
  let:L2=[]:=Mx.mp l0;subst this;show ao (h s.heap L1 (U6 _ _) S1 λu=>by simp)
 rw[aA c];show M (a03 S1 () λh1 es1 ep1 t1 L1' Q7 ho1 hE1 T1 pm hr=>?_);let ho':h1.get? oA=some (lE eo ep to):=by rw[Q7.2 oA (Ne.symm ne)];show ho
 show M (jD (s:=(s•h1)) ho1 hE1 T1 ?_);lk;let fl:t1.fill=L1'.length:=by unfold SetTable.fill;rw[T1.dm,T1.sz];rfl
 unfold SetTable.road;rw[fl,pm.length_eq];let ld:(t1.led&&to.led) = !oF w:=by rw[T1.led,T.led];simp
 let pl:(t1.plain&&to.plain)=true:=by rw[T1.pl,T.pl];rfl
 by_cases e0:L1.length=0
 ·let n1:L1=[]:=Mx.mp e0;let nb:(L1.length != 0)=false:=by rw[e0];rfl
  rw[nb];simp only[Bool.false_eq_true,if_false];let dmt:to.dummies.isEmpty=true:=by rw[T.dm];rfl
  by_cases em:t1.mask=to.mask
  ·let:(t1.mask==to.mask&&to.dummies.isEmpty)=true:=()
   rw[this];simp only[if_true];show GR (s:=(s•h1)) ho1 rfl ?_ (by rw[hz,gK];omega);show h _ L2 (Q7.trans (qF ..)) ⟨eo,_,_,yc ho1,hE,⟨T.dm,pl,ld,T.up,T.sz,T.nd,T.lt,T.sh⟩⟩ λu=>by rw[n1];simp
  ·let:(t1.mask==to.mask&&to.dummies.isEmpty)=false:=()
   rw[this];simp only[Bool.false_eq_true,if_false];let Ye:15<=t1.mask:=by
    let⟨es0,ep0,t0,ho0,d⟩:=D;rw[ho]at ho0;cases ho0;rcases T1.sh with⟨m7,_⟩|⟨Ye,_⟩
    ·grind
    ·show Ye
   let⟨order,e,hE',hc⟩:=O4 (f:=t1.finger) (mv:=t1.moves) (led:=t1.led&&to.led) (plain:=t1.plain&&to.plain) Ye hE T.nd T.lt;rw[e];let lz:=Wg T.lt Ye T.nd;show M (Q5 hE' (by rw[hz,lz]) ?_);show GR (s:=(s•h1)) ho1 rfl ?_ (by rw[hE'.len,lz,gK];omega);let T':=O5 (B:=oF w) (f:=t1.finger) (mv:=t1.moves) Ye T.nd T.lt ();rw[<-ld,<-pl]at T';show h _ _ (Q7.trans (qF ..)) ⟨_,_,_,yc ho1,hE',?_⟩ λu=>?_
   ·grind
   ·rw[n1,mem_upTo (λv hv=>by let:=T.lt v hv;omega)];simp
 ·let nb:(L1.length != 0)=true:=by simp[e0]
  rw[nb];simp only[if_true];show M (Zw (s:=(s•h1)) ho' hE T λes' pe=>?_);let⟨R,hR,pR⟩:=hE.perm pe;show M ?_;rw[<-UL];show wpAny_forIn_list _ (λrest _ s'=>∃h' L R,s'=(s•h')/\Heap.SameBut sA s.heap h'/\jw (oF w) h' sA L/\Paired (λ(e:Int×Value) (v:Nat)=>e.1=((v:Nat):Int)/\∃tk,e.2=Value.int ((v:Nat):Int) tk) rest R/\
   (∀v∈R,v<16)/\∀u,(u∈L\/u∈R)↔(u∈L1\/u∈L2)) _ ?_ ?_ _ _ ⟨h1,L1',R,Z,Q7,⟨es1,ep1,t1,ho1,hE1,T1⟩,hR,λv hv=>T.lt v (pR.mem_iff.mp hv),λu=>by rw[pm.mem_iff,pR.mem_iff]⟩
  ·rintro⟨hh,x⟩ rest b s' ⟨h',L,R',rfl,sb,S,hP,lt,mem⟩;cases hP with
   | @cons _ v _ R'' r t =>
    let⟨e1,tk,e2⟩:=r;dsimp only at e1 e2;subst e1;subst e2;lk;show M (eG (ĵ (s:=(s•h')) S (lt v aZ) λb2 h2 L' sb2 S' mem' _=>?_));let sb3:=sb.trans sb2;let oo:h2.get? oA=some (lE eo ep to):=by rw[sb3.2 oA (Ne.symm ne)];show ho
    show M (he _ _ (λo q=>by grind) (M (jD (s:=(s•h2)) oo hE T ?_)));simp only[bne_self_eq_false,Bool.false_eq_true,if_false];show ao ⟨h2,L',R'',Z,sb3,S',t,λu hu=>lt u (bH _ hu),λu=>?_⟩;grind
  ·rintro b s' ⟨h',L,R',rfl,sb,S,hP,lt,mem⟩;cases hP;show ao (h h' L sb S λu=>by rw[<-mem u];simp)
end
end Sm
namespace Sm
open PySem.Builtin.Frozenset
variable{Q:∅}{B:Bool}
def Wi:isSubtype (.type "set") (.type "set")=pure true:=by rw[Vk];kernel_rfl
def ĺ:entryFor table "set.__or__" = some Builtin.«frozenset.__or__» := NP (id':="frozenset.__or__") (by kernel_rfl) Z () (by kernel_rfl)
def Wj:entryFor table "set.__iter__" = some Builtin.«frozenset.__iter__» := NP (id':="frozenset.__iter__") (by kernel_rfl) Z () (by kernel_rfl)
noncomputable def O6(id:String)(l:Addr)(r:Value):Sem Value:=do
 let result <-copyOf l
 if r != .ref l then
  let q <-addrOf result
  holding [result] (updateFrom id q r)
 return result
def or_eq(x y:Value):Builtin.«frozenset.__or__» ⟨[x,y],[]⟩=(do
 let(self,cP) <-slot1 "__or__" ⟨[x,y],[]⟩
 if !(<-isAnySet self <&&> isAnySet cP)then
  rule s!"frozenset.{"__or__"}.declined"
  return <-ret .notImplemented
 ret (<-O6 s!"frozenset.{"__or__"}" (<-addrOf self) cP)):=rfl
section
variable{prog:Program}{w:World}{A:Around}{E:∅}{s:Shared}{a b:Addr}{L1 L2:ay}
def Q8(B:Bool):Tb B (.fresh 0 0 (!B)) []:=⟨Z,Z,Z,.nil,Z,.nil,λv h=>by simp at h,.inl ⟨Z,by simp⟩⟩
def a4d(h:Q (.ref s⁻¹) (s•s.heap.push (lE #[] 0 (.fresh 0 0 (!oF w))))):∎ (newSet (.type "set")) Q E s:=by
 unfold newSet;show M (rC ?_);lk;simp only[newObj];show M (wpAny_alloc (ao h))
def jw.type(S:jw B s.heap a L1):s.TypeIs (.ref a) "set" := let⟨_,_,_,ho,_⟩:=S;⟨_,ho,Z⟩
def Wk{Q:Bool->Shared->Prop}(S:jw B s.heap a L1)(h:Q true s):∎ (isAnySet (.ref a)) Q E s:=by
 unfold isAnySet orM;show M (vG S.type Wi (ao h))
def a04(S:jw (oF w) s.heap a L1)(D:qi s.heap a)
  (h:∀h' L,(∀b o,s^^^b=some o->h'.get? b=some o)->jw (oF w) h' s⁻¹ L->(∀u,u∈L↔u∈L1)->Q (.ref s⁻¹) (s•h')):∎ (copyOf a) Q E s:=by
 unfold copyOf baseOf;show M (M (vG S.type Wi (ao ?_)));simp only[if_true];show M (a4d ?_);show wpAny _ _ (do setMerge s⁻¹ a;pure (Value.ref s⁻¹)) _ _ _;let lt:a<s⁻¹:=by
  let⟨_,_,_,ho,_⟩:=S;show bw ho
 let k:∀b o,s^^^b=some o->(s.heap.push (lE #[] 0 (.fresh 0 0 (!oF w)))).get? b=some o:=λb o e=>bM _ e;show M (Q6 (s:=(s•s.heap.push (lE #[] 0 (.fresh 0 0 (!oF w))))) (L1:=[]) (iU lt) ⟨#[],0,_,cB _ rfl,.nil,Q8 _⟩ (S.keep (k a)) (D.keep (k a)) (λs' Q' _ q=>ao q) λh' L sb S' mem=>?_);show ao (h h' L (λb o e=>?_) S' λu=>by grind);let lb:=bw e;rw[sb.2 b (b7 lb)];show k b o e
def HX{es:Array (Int×Value)}{ep:Nat}{t:SetTable}{Q:Nat->Shared->Prop}(ho:s^^^a=some (lE es ep t))(hE:Es es L1)(T:Tb B t L1)(h:Q ep s):∎ (setEpoch a) Q E s :=
 wpAny_setEpoch_of ho Z (by rw[hE.len];show T.fits) h
def Ļ{id:String}(ne:a≠b)(S1:jw (oF w) s.heap a L1)(D1:qi s.heap a)(S2:jw (oF w) s.heap b L2)(D2:qi s.heap b)
  (h:∀h' L,(∀b o,s^^^b=some o->h'.get? b=some o)->jw (oF w) h' s⁻¹ L->(∀u,u∈L↔u∈L1\/u∈L2)->Q (.ref s⁻¹) (s•h')) :
  ∎ (O6 id a (.ref b)) Q E s:=by
 unfold O6;show M (a04 S1 D1 λh1 L k S mem=>?_);let nb:(Value.ref b != Value.ref a)=true:=()
 rw[nb];simp only[if_true];let S2':=S2.keep (k b);let D2':=D2.keep (k b);let lt:b<s⁻¹:=by
  let⟨_,_,_,ho,_⟩:=S2;show bw ho
 let S2c:=S2';let⟨es,ep,t,ho,hE,T⟩:=S2c;show wpAny _ _ (holding [Value.ref s⁻¹] (updateFrom id s⁻¹ (.ref b)) >>= λ_=>pure (Value.ref s⁻¹)) _ _ _;show M (eG ?_);unfold updateFrom;show M (Wk (s:=(s•h1)) S2' ?_);simp only[if_true];show wpAny _ _ (merge id s⁻¹ b) _ _ _;unfold merge;show M (HX (s:=(s•h1)) ho hE T (Q6 (s:=(s•h1)) (iU lt) S S2' D2' (λs' Q' ks q=>?_) λh' L' sb S' mem'=>?_))
 ·unfold unchanged;show M (HX (s:=s') (ks _ ho) hE T ?_);simp only[bne_self_eq_false,Bool.false_eq_true,if_false];show ao q
 ·show ao (h h' L' (λc o e=>?_) S' λu=>by rw[mem' u,mem u]);rw[sb.2 c (b7 (bw e))];show k c o e
def a6q(ne:a≠b)(S1:jw (oF w) s.heap a L1)(D1:qi s.heap a)(S2:jw (oF w) s.heap b L2)(D2:qi s.heap b)
  (h:∀h' L,(∀b o,s^^^b=some o->h'.get? b=some o)->jw (oF w) h' s⁻¹ L->(∀u,u∈L↔u∈L1\/u∈L2)->Q (.ref s⁻¹) (s•h')) :
  ∎ (binaryOp .BitOr (.ref a) (.ref b)) Q E s:=by
 show wpAny_binaryOp_same S1.type S2.type F.fills_set_or F.slot_set_or (gG F.slot_set_or S1.type ĺ ?_ (F.args_set_or_2 _ _));rw[or_eq];show M (m:=slot1 "__or__" _) (ao ?_);lk;unfold andM;show M (M (Wk S1 (Wk S2 ?_)));simp only[Bool.not_true,Bool.false_eq_true,if_false];show wpAny _ _ (O6 _ a (.ref b) >>= λv=>ret v) _ _ _;show M (Ļ ne S1 D1 S2 D2 λh' L k S mem=>?_);show ao ⟨_,Z,by simp,h h' L k S mem⟩
end
end Sm
namespace Sm
def lF:Slot "set_iterator" "__next__" "set_iterator.__next__" := .of (owner:="set_iterator") (n:="__next__") (by rw[typeLookup_type,builtinLookup_eq_fast];kernel_rfl) () () () (by first|exact .inl ()|exact .inr ()) (by rw[Vk];kernel_rfl)
def yE:entryFor table "set_iterator.__next__" = some Builtin.«set_iterator.__next__» := entryFor_of_fast (by kernel_rfl)
def Ax(a:Value):argsOk "set_iterator.__next__" ⟨[a],[]⟩:=by unfold argsOk;kernel_rfl
def Ay:Slot "set_iterator" "__iter__" "set_iterator.__iter__" := .of (owner:="set_iterator") (n:="__iter__") (by rw[typeLookup_type,builtinLookup_eq_fast];kernel_rfl) () () () (by first|exact .inl ()|exact .inr ()) (by rw[Vk];kernel_rfl)
def O7(a:Value):argsOk "set_iterator.__iter__" ⟨[a],[]⟩:=by unfold argsOk;kernel_rfl
end Sm
namespace Sm
variable{es:Array (Int×Value)}{ep:Nat}
def JQ:entryFor table "set_iterator.__iter__" = some Builtin.«dict_keyiterator.__iter__» := NP (id':="dict_keyiterator.__iter__") (by kernel_rfl) Z () (by kernel_rfl)
noncomputable def walked(w:World)(a:Addr)(ep:Nat)(es:Array (Int×Value)):Array (Int×Value):=if oF w=true then pickOrder (w.params.setOrder a ep) es else es
def Ew(w:World)(a:Addr)(ep:Nat)(es:Array (Int×Value)):(walked w a ep es).toList.Perm es.toList:=by
 unfold walked;split
 ·show KD _ _
 ·show .rfl
def qj(w:World)(a:Addr)(ep:Nat)(es:Array (Int×Value)):(walked w a ep es).size=es.size:=by
 let:=(Ew w a ep es).length_eq;simpa using this
def a05(a:Addr)(slot given epochThen:Nat):setNext a slot given epochThen=(do
 let(xs,c,tb) <-setState a
 if <-setsByText then
  if c != epochThen then
   unsupported "set_iterator.__next__:elements-changed"
  let zs <-setWalk a
  return (zs[given]?).map λz=>(z.2,slot)
 if !tb.plain&&xs.size>1 then
  unsupported "set_iterator.__next__:the-table-is-plain-no-more"
 (do if !tb.led && !xs.isEmpty then unsupported "set:maker-not-led" : Sem Unit)
 return match xs[SetTable.below tb.place slot]?,tb.place[SetTable.below tb.place slot]? with
  |some (_,z),some m=>some (z,m+1)
  |_,_=>none):=rfl
noncomputable def nF(B:Bool)(t:SetTable)(i:Nat):Nat:=if B=true then 0 else if i=0 then 0 else t.place.getD (i-1) 0+1
def Wl{B:Bool}{t:SetTable}{L:ay}(T:Tb B t L)(hB:B=false):∀i,i<=L.length->SetTable.below t.place (nF B t i)=i
 |0,_=>by
  unfold nF
  rw[hB]
  show Wb T.up
 |k+1,h=>by
  unfold nF
  rw[hB]
  let hk:k<t.place.size:=by rw[T.sz];omega
  simp only[Bool.false_eq_true,if_false,Nat.add_sub_cancel]
  rw[aA ()]
  let:t.place.getD k 0=t.place[k]:=by simp[Array.getD,hk]
  rw[this]
  show Wc T.up hk
section
variable{prog:Program}{w:World}{A:Around}{E:∅}{s:Shared}{a:Addr}{L:ay}
def a06{t:SetTable}{Q:Array (Int×Value)->Shared->Prop}(ho:s^^^a=some (lE es ep t))(hE:Es es L)(T:Tb (oF w) t L)
  (h:Q (walked w a ep es) s):∎ (setWalk a) Q E s:=by
 rw[Yg];show M (jD ho hE T (M (rC ?_)));let pl:=T.pl;let ld:=T.led;unfold walked at h;cases c:oF w with
 |true =>
  rw[c]at h;simp only[if_true]at h ⊢;show M (Nt (ao h))
 |false =>
  rw[c]at ld h;simp only[pl,ld,Bool.not_true,Bool.not_false,Bool.false_and,Bool.false_eq_true,if_false]at h ⊢;first|exact M (ao (ao h))|exact ao h
def Q9{i:Nat}{t:SetTable}{Q:Option (Value×Nat)->Shared->Prop}(ho:s^^^a=some (lE es ep t))(hE:Es es L)(T:Tb (oF w) t L)(hi:i<=L.length)
  (h:Q (((walked w a ep es)[i]?).map λe=>(e.2,nF (oF w) t (i+1))) s):∎ (setNext a (nF (oF w) t i) i ep) Q E s:=by
 rw[a05];show M (jD ho hE T (M (rC ?_)));let pl:=T.pl;let ld:=T.led;cases c:oF w with
 |true =>
  simp only[if_true,bne_self_eq_false,Bool.false_eq_true,if_false];show M (a06 ho hE T (ao ?_));rw[c]at h;unfold nF at h ⊢;grind
 |false =>
  rw[c]at ld h;simp only[pl,ld,Bool.not_true,Bool.not_false,Bool.false_and,Bool.false_eq_true,if_false];let bs:=Wl T c i hi;rw[c]at bs;rw[bs];let wk:walked w a ep es=es:=by unfold walked;rw[c];rfl
  rw[wk]at h;let e:(match es[i]?,t.place[i]? with
   |some (_,z),some m=>some (z,m+1)
   |_,_=>none)=(es[i]?).map λe=>(e.2,nF false t (i+1)):=by
   by_cases q:i<L.length
   ·let h1:i<es.size:=by rw[hE.len];show q
    let h2:i<t.place.size:=by rw[T.sz];show q
    rw[yN h1,yN h2];unfold nF;simp[Array.getD,h2]
   ·let h1:es[i]?=none:=MN (by rw[hE.len];omega);rw[h1];rfl
  first
  |exact M (ao (ao (by rw[e];show h)))
  |exact ao (by rw[e];show h)
abbrev itO(sl i:Nat)(a:Addr)(n ep:Nat):Obj:={ cls:=.type "set_iterator",dict:=none,data:=.fields #[.int (sl:Nat) 0,.int (i:Nat) 0,.ref a,.int (n:Nat) 0,.int (ep:Nat) 0],slots:=#[]}
def item_at{I:Addr}{i:Nat}{t:SetTable}{e:Int×Value}{Q:Option Value->Shared->Prop}(ne:a≠I)(ho:s^^^a=some (lE es ep t))(hE:Es es L)(T:Tb (oF w) t L)
  (hI:s^^^I=some (itO (nF (oF w) t i) i a L.length ep)) (hw:(walked w a ep es)[i]?=some e)
  (h:∀h',h'.get? I=some (itO (nF (oF w) t (i+1)) (i+1) a L.length ep)->Heap.SameBut I s.heap h'->Q (some e.2) (s•h')):∎ (pyNext (.ref I)) Q E s:=by
 let hi:i<L.length:=by
  rcases um i (walked w a ep es).size with q|q
  ·rw[qj,hE.len]at q;show q
  grind
 let hT:s.TypeIs (.ref I) "set_iterator" :=⟨_,hI,Z⟩;unfold pyNext;show M (uh (nD (name:=Str.ofString "__next__") hT lF (gG lF hT yE ?_ (Ax _))));unfold Builtin.«set_iterator.__next__»;show M (m:=slotArgs "__next__" 0 _) (ao ?_);lk;show M (CV hI Z ?_);lk;unfold setEntries;show M (M (jD ho hE T (ao ?_)));let z:(((es.size:Nat):Int) !=((L.length:Nat):Int))=false:=by rw[hE.len];simp
 lk;rw[z];simp only[Bool.false_eq_true,if_false,Int.toNat_natCast];show M (Q9 ho hE T () ?_);rw[hw];dsimp only[Option.map];show M (j8 hI (by simp) λh1 hI1 Q7=>M (j8 (s:=(s•h1)) hI1 (by simp) λh2 hI2 sb2=>ao ⟨_,Z,ao (h h2 ?_ (Q7.trans sb2))⟩));rw[hI2];simp[rawInt]
def HY{I:Addr}{t:SetTable}{Q:Option Value->Shared->Prop}(hh:A.handled=none)(ne:a≠I)(ho:s^^^a=some (lE es ep t))(hE:Es es L)(T:Tb (oF w) t L)
  (hI:s^^^I=some (itO (nF (oF w) t L.length) L.length a L.length ep))
  (h:∀h',Heap.ExtBut I s.heap h'->Q none (s•h')):∎ (pyNext (.ref I)) Q E s:=by
 let hT:s.TypeIs (.ref I) "set_iterator" :=⟨_,hI,Z⟩;unfold pyNext;show M (uh (nD (name:=Str.ofString "__next__") hT lF (gG lF hT yE ?_ (Ax _))));unfold Builtin.«set_iterator.__next__»;show M (m:=slotArgs "__next__" 0 _) (ao ?_);lk;show M (CV hI Z ?_);lk;unfold setEntries;show M (M (jD ho hE T (ao ?_)));let z:(((es.size:Nat):Int) !=((L.length:Nat):Int))=false:=by rw[hE.len];simp
 lk;rw[z];simp only[Bool.false_eq_true,if_false,Int.toNat_natCast];show M (Q9 ho hE T () ?_);rw[MN (by rw[qj,hE.len];grind)];dsimp only[Option.map];show M (j8 hI (by simp) λh1 hI1 Q7=>M ?_);simp only[newExc,newTuple];show M (jT ?_ (by size_fits));show M (m:=firstArgMember _ _) (Hq (a:=Value.none) (by first|rfl|(simp only[firstArgMember];rfl)) ?_);show jT ?_ (by size_fits);simp only[raiseNew];show M (N6 ?_);rw[show A.in1.handled=none from hh];show M (ao (Oe ?_));show M (vG (U:="StopIteration") (T:="StopIteration") (b:=true) ⟨_,cB _ Z,Z⟩ Hh (ao (h _ ((Q7.extBut.push _).push _))))
end
end Sm
namespace Sm
open PyProof.Rows
variable{a:Addr}{es:Array (Int×Value)}{ep:Nat}
section
variable{prog:Program}{w:World}{A:Around}{E:∅}{s:Shared}{L:ay}
def a4e{I:Addr}{t:SetTable}(hh:A.handled=none)(ne:a≠I)(hE:Es es L)(T:Tb (oF w) t L) :
  Walks prog w A I [I,a] [I] L.length (λi v=>∃e,(walked w a ep es)[i]?=some e/\v=e.2)
   (λi h=>h.get? I=some (itO (nF (oF w) t i) i a L.length ep)/\h.get? a=some (lE es ep t)) where
 sub:=λb hb=>by grind
 frame:=λ_ _ _ st hk=>⟨hk I (by simp) _ st.1,hk a (by simp) _ st.2⟩
 item:=λi s Q E hi st hQ=>by
  obtain⟨e,he⟩:∃e,(walked w a ep es)[i]?=some e:=⟨_,yN (by rw[qj,hE.len];show hi)⟩
  show item_at ne st.2 hE T st.1 he λh' hI sb=>?_
  show hQ _ h' s.toks ⟨e,he,Z⟩ ⟨hI,by rw[sb.2 a ne];show st.2⟩ λb o hb q=>by rw[sb.2 b (λc=>hb (by simp[c]))];show q
 done:=λs Q E st hQ=>HY hh ne st.2 hE T st.1 λh' xb=>hQ h' s.toks λb o hb q=>xb b o (λc=>hb (by simp[c])) q
 self:=λi s Q E st hQ=>by
  let hT:s.TypeIs (.ref I) "set_iterator" :=⟨_,st.1,Z⟩
  show Nh hT Ay (gG Ay hT JQ ?_ (O7 _))
  show wpAny _ _ (ret (Value.ref I)) _ _ s;show ao ⟨_,Z,"set_iterator",_,hT,lF.lookup,hQ⟩
def ļ(a:Addr):setDrawn a=(do
 let(es,_,t) <-setState a
 let byText <-setsByText
 return !byText&&(!t.plain&&es.size>1)):=rfl
def Az{t:SetTable}{Q:∅}(ho:s^^^a=some (lE es ep t))(hE:Es es L)(T:Tb (oF w) t L)
  (h:Q (.ref s⁻¹) (s•s.heap.push (itO 0 0 a L.length ep))):∎ (pyIter (.ref a)) Q E s:=by
 let hT:s.TypeIs (.ref a) "set" :=⟨_,ho,Z⟩;show Nh hT F.slot_set_iter (gG F.slot_set_iter hT Wj ?_ (F.args_set_iter_1 _));unfold Builtin.«frozenset.__iter__»;show M (m:=Builtin.Frozenset.slot0 _ _) (ao ?_);unfold Builtin.Frozenset.sizeOf setEntries;show M (M (M (jD ho hE T (ao (ao ?_)))));rw[ļ];show M (M (jD ho hE T (M (rC (ao ?_)))));rw[T.pl];simp only[Bool.not_true,Bool.false_and,Bool.and_false,Bool.false_eq_true,if_false];show M (ao (M (HX ho hE T (M ?_))));unfold newFields;show jT (ao ⟨_,Z,"set_iterator",_,⟨_,cB _ Z,Z⟩,lF.lookup,?_⟩);rw[hE.len];show h
def a07:(Value.type "set" == Value.type "list")=false:=by decide
def a4f:(Value.type "set" == Value.type "tuple")=false:=by decide
def Ľ:typeLookup (.type "set") "__len__" = pure (some (.builtin "set.__len__")):=F.slot_set_len.lookup
def split_len:splitId "set.__len__" = some ("set","__len__"):=by decide
def Ra{t:SetTable}{Q:aw->Shared->Prop}(hh:A.handled=none)(ho:s^^^a=some (lE es ep t))(hE:Es es L)(T:Tb (oF w) t L)
  (h:∀(h':Heap) (tk:Nat),(∀b o,s^^^b=some o->h'.get? b=some o)->s⁻¹<h'.objs.size->Q ((walked w a ep es).toList.map (·.2)) { s with heap:=h',toks:=tk}):∎ (collect (.ref a)) Q E s:=by
 let lt:a<s⁻¹:=bw ho;unfold collect;show M (wpAny_runValue (jU F.entry_proto_collect ?_));rw[j5 F.plain_proto_collect _];show wpAny _ A.in1 (newList [] >>= λl=>again (.builtin "list.__iadd__" ⟨[l,.ref a],[]⟩)) _ _ s;show M (jT (ao ⟨lU F.plain_list_iadd _,jU F.entry_list_iadd ?_⟩));rw[j5 F.plain_list_iadd _];let S0:(s.heap.push { cls:=.type "list",data:=.seq ([]:aw).toArray}).get? s⁻¹=some { cls:=.type "list",data:=.seq ([]:aw).toArray}:=cB _ rfl;let ho1:(s.heap.push { cls:=.type "list",data:=.seq ([]:aw).toArray}).get? a=some (lE es ep t):=bM _ ho;let hT1:Shared.TypeIs (s•s.heap.push { cls:=.type "list",data:=.seq ([]:aw).toArray}) (.ref a) "set" :=⟨_,ho1,rfl⟩;show wpAny _ A.in1 (Builtin.List.listExtendWith (.ref s⁻¹) (.ref a) (.ref s⁻¹)) _ _ (s•s.heap.push { cls:=.type "list",data:=.seq ([]:aw).toArray});unfold Builtin.List.listExtendWith;show M (rQ hT1 ?_);let n1:Builtin.List.listSameRef (.ref s⁻¹) (.ref a)=false:=by simp[Builtin.List.listSameRef,Nat.ne_of_gt lt]
 simp only[n1,a07,a4f,Bool.or_false,Bool.false_eq_true,if_false];show M (Az ho1 hE T (M (eG ?_)));let ho2:((s.heap.push { cls:=.type "list",data:=.seq ([]:aw).toArray}).push (itO 0 0 a L.length ep)).get? a=some (lE es ep t):=bM _ ho1;let hT2:Shared.TypeIs (s•(s.heap.push { cls:=.type "list",data:=.seq ([]:aw).toArray}).push (itO 0 0 a L.length ep)) (.ref a) "set" :=⟨_,ho2,rfl⟩;unfold Builtin.List.listLengthHint;show M (Hf hT2 Ľ ?_);lk;rw[split_len];lk;show M (vG hT2 Wi ?_);rw[aA ()];rw[aD ()];show M (rQ hT2 ?_);lk;show ao ?_;rw[aD ()];show M (j9 ?_);let lsz:(s.heap.push { cls:=.type "list",data:=.seq ([]:aw).toArray}).objs.size=s⁻¹+1:=Og _ _;let S1:((s.heap.push { cls:=.type "list",data:=.seq ([]:aw).toArray}).push (itO 0 0 a L.length ep)).get? s⁻¹=some { cls:=.type "list",data:=.seq ([]:aw).toArray}:=bM _ S0;show M ?_;show wpAny _ A.in1 (updateSeq s⁻¹ (·.push .none) >>= λ_=>updateSeq s⁻¹ (·.pop)) _ _ _;show M (Ny S1 Z ?_);let S2:=Cy (Obj.mapSeq (·.push Value.none)) S1 rfl;show Ny S2 Z ?_;let S3:=Cy (Obj.mapSeq (·.pop)) S2 rfl;let oth:∀b o,b≠s⁻¹->((s.heap.push { cls:=.type "list",data:=.seq ([]:aw).toArray}).push (itO 0 0 a L.length ep)).get? b=some o->
   ((((s.heap.push { cls:=.type "list",data:=.seq ([]:aw).toArray}).push (itO 0 0 a L.length ep)).update s⁻¹ (Obj.mapSeq (·.push Value.none))).update s⁻¹ (Obj.mapSeq (·.pop))).get? b=some o :=
  λb o hb e=>(Ug _ _ (Ne.symm hb)).trans ((Ug _ _ (Ne.symm hb)).trans e)
 let neI:a≠(s.heap.push { cls:=.type "list",data:=.seq ([]:aw).toArray}).objs.size:=()
 let W:=(a4e (prog:=prog) (w:=w) (A:=A.in1) (I:=(s.heap.push { cls:=.type "list",data:=.seq ([]:aw).toArray}).objs.size) (ep:=ep) () neI hE T).toS;let l16:=T.len;let sl0:nF (oF w) t 0=0:=by unfold nF;split<;>rfl
 show ao ⟨lU F.plain_extend_loop _,codeAny_extend_loopS W (by rw[gK];omega) _ (by
   grind) _ _ 0 _ #[] _ Z (dG _) ⟨?_,?_⟩ S3 (ItemsOf.nil _) λs' acc' c' hm hS' hacc=>?_⟩
 ·show oth _ _ () ?_;rw[sl0];show cB _ rfl
 ·show oth _ _ (b7 lt) ho2
 ·let⟨h',g',d',tk',os'⟩:=s';let eg:g'=s.gens:=hm.gens;let ed:d'=s.drawn:=hm.drawn;let eo:os'=s.os:=hm.os;subst eg;subst ed;subst eo;show wpAny _ A (load s⁻¹ >>= _) _ _ _;show M (wpAny_load hS' ?_);lk;let el:acc'.toList=(walked w a ep es).toList.map (·.2):=by
   apply List.ext_getElem?;intro i;rw[GJ,cV,GJ];rcases um i acc'.size with q|q
   ·let⟨e,he,hv⟩:=hacc.2 i acc'[i] (yN q);rw[yN q,he,hv];rfl
   ·rw[MN q,MN (by rw[qj,hE.len,<-hacc.1];show q)];rfl
  rw[el];show ao (h h' tk' (λb o e=>?_) (bw hS'));let lb:b<s⁻¹:=bw e;show hm.heap b o () (oth b o (b7 lb) (bM _ (bM _ e)))
def a4g{h:Heap}{b:Addr}{vs:aw}{out:Array Value}{o:Obj}(lb:b<h.objs.size)(ne:b≠a)(e:h.get? b=some o):(sortedHeap h a vs out).get? b=some o:=by
 unfold sortedHeap;rw[M5 _ _ _ _ ne];show bM _ (bM _ (by rw[M5 _ _ _ _ ne];show e))
def a6r{h:Heap}{vs:aw}{xs out:Array Value}{n:Nat}(e:h.get? a=some (seqObj "list" xs n)):∃n',(sortedHeap h a vs out).get? a=some (seqObj "list" out n'):=by
 unfold sortedHeap;show⟨_,Vg (bM _ (bM _ (Vg e λ_=>#[]))) λ_=>out⟩
def Wm{Q:∅}(hh:A.handled=none)(S:jw (oF w) s.heap a L)
  (h:∀(h':Heap) (tk:Nat) (p:Addr) (vs:aw) (n:Nat) (ns:ae),(∀b o,s^^^b=some o->h'.get? b=some o)->s⁻¹<=p->h'.get? p=some (seqObj "list" vs.toArray n)->IntsAre vs ns->
   ns.Perm (L.map λv=>((v:Nat):Int))->ns.Pairwise (· <= ·)->Q (.ref p) { s with heap:=h',toks:=tk}):∎ (call (.builtin "sorted") [.ref a]) Q E s:=by
 let⟨es,ep,t,ho,hE,T⟩:=S;let l16:=T.len;apply ù kind_sorted plain_sorted entry_sorted (args_sorted1 _);unfold Builtin.«sorted»;show M (m:=checkCount "sorted" 1 1 _) (ao ?_);show M (Ra (by simpa using hh) ho hE T λh1 tk k lz=>?_);let⟨L',hP,pm⟩:=hE.perm (Ew w a ep es);let hl:L'.length=L.length:=pm.length_eq;let hI:IntsAre ((walked w a ep es).toList.map (·.2)) (L'.map λv=>((v:Nat):Int)):=by
  generalize (walked w a ep es).toList=l at hP;clear pm hl
  induction hP with
  |nil=>show .nil
  |cons r _ ih =>
   let⟨q,e⟩:=r.2;rw[cA,cA,e];show .cons _ q ih
 let hn:((walked w a ep es).toList.map (·.2)).length=L.length:=by rw[aJ,tZ,qj,hE.len]
 show M (Vo ?_ (by rw[hn,gK];omega));let o1:(h1.push (seqObj "list" ((walked w a ep es).toList.map (·.2)).toArray 0)).get? h1.objs.size=some (seqObj "list" ((walked w a ep es).toList.map (·.2)).toArray 0):=cB _ rfl;show M (eG (gG slot_list_sort ⟨_,o1,Z⟩ entry_list_sort (list_sort_tree o1 hI (by rw[hn];omega) λout ns a1 a2 a3=>⟨_,Z,?_⟩) (args_list_sort _)));let⟨n',o2⟩:=a6r (vs:=(walked w a ep es).toList.map (·.2)) (out:=out) o1;show ao ⟨_,Z,h _ _ _ out.toList n' ns (λb o e=>?_) (fC lz) (by simpa using o2) a1 (a2.trans (pm.map _)) a3⟩;let lb:b<h1.objs.size:=rR (bw e) lz;show a4g (by rw[Og];show GQ lb) (b7 lb) (bM _ (k b o e))
end
end Sm
namespace Sm
open PyProof.Rows
section
variable{prog:Program}{w:World}{A:Around}{R:Result->Shared->Prop}{I:Addr}{fp wr:aI}{G:Array GenState->Array GenState->Prop}{n:Nat}{P:Nat->Value->Prop}{St:Nat->Shared->Prop}
def a08(W:WalksS prog w A.in1 I fp wr G n P St)(S:Addr)(nf:S∉fp)(val:Nat->Nat)(hv:∀i v,i<n->P i v->∃t,v=.int ((val i:Nat):Int) t)(lt:∀i,i<n->val i<16) :
  ∀(k i:Nat) (s:Shared) (L:ay),n-i=k->i<=n->St i s->jw (oF w) s.heap S L->qi s.heap S->(∀u,u∈L↔∃j,j<i/\val j=u)->
   (∀s' L',Moved (S::wr) G s s'->jw (oF w) s'.heap S L'->qi s'.heap S->(∀u,u∈L'↔∃j,j<n/\val j=u)->R (.ok (.ret .none)) s')->
   codeAny (model prog w) A (.builtin "set.update.loop" ⟨[.ref S,.ref I],[]⟩) R s:=by
 let nw:S∉wr:=λh=>nf (W.sub _ h);let up:∀b∈wr,b∈S::wr:=λb hb=>bH _ hb;intro k
 induction k with
 |zero =>
  intro i s L hk hi st hS hD mem hR;obtain rfl:i=n:=()
  show jU F.entry_set_update_loop ?_;rw[j5 Ub _];show wpAny _ A.in1 (pyNext (.ref I) >>= _) _ _ s;show M (W.done s _ _ st λs' hm=>?_);show ao (hR s' L (hm.mono up) (hS.keep λo e=>hm.heap S o nw e) (hD.keep λo e=>hm.heap S o nw e) mem)
 |succ k ih =>
  intro i s L hk hi st hS hD mem hR;let li:i<n:=()
  show jU F.entry_set_update_loop ?_;rw[j5 Ub _];show wpAny _ A.in1 (pyNext (.ref I) >>= _) _ _ s;show M (W.item i s _ _ li st λv s' hP st' hm=>?_);let⟨t,rfl⟩:=hv i v li hP;let hS':=hS.keep λo e=>hm.heap S o nw e;let hD':=hD.keep λo e=>hm.heap S o nw e;show wpAny _ A.in1 (holding [Value.int ((val i:Nat):Int) t] (setAdd S (.int ((val i:Nat):Int) t)) >>= _) _ _ s';show M (eG ?_);unfold setAdd;show eG (M ((intKind prog w).pyHash (k:=((val i:Nat):Int)) (intKind_is _ _ _ _) ?_));let eh:(intKind prog w).hash ((val i:Nat):Int)=((val i:Nat):Int):=Wh _ (lt i li);rw[eh];show ĵ (s:={ s' with toks:=s'.toks+1}) hS' (lt i li) λb h' L' sb S2 a81 dn=>ao ⟨lU Ub _,ih (i+1) _ L' () li (W.frame _ s' _ _ st' (vJ _) λc hc o e=>?_) S2 (dn hD') (λu=>?_) λs2 L2 hm2 h2 h3 h4=>hR s2 L2 (Moved.trans W.gtrans ((hm.mono up).then_heap (vJ _) λc o hc e=>?_) hm2) h2 h3 h4⟩
  ·rw[sb.2 c (λq:c=S=>nf ())];show e
  ·grind
  ·rw[sb.2 c (λq:c=S=>hc ())];show e
end
section
variable{prog:Program}{w:World}{A:Around}{E:∅}{s:Shared}
def a09(a:Value){Q:∅}(h:Q (.ref s⁻¹) (s•s.heap.push (lE #[] 0 (.fresh 0 0 (!oF w))))) :
  codeAny (model prog w) A (.call (.builtin "set.__new__") ⟨[.type "set",a],[]⟩) (wants Q E) s:=by
 show codeAny_of_tree ?_;show wpAny _ A.in1 (do checkBuiltinCall "set.__new__" ⟨[.type "set",a],[]⟩;again (.builtin "set.__new__" ⟨[.type "set",a],[]⟩)) _ _ s;show M (Hq (F.newCall_set_1 a) (ao ⟨lU F.plain_set_new _,jU F.entry_set_new ?_⟩));rw[j5 F.plain_set_new _];unfold Builtin.«set.__new__» Builtin.Frozenset.newClass;let hsub:=sub_set_self;let⟨hp,g,d,tk,os⟩:=s;dsimp only at h ⊢
 wp_walk
 show Nt (ao ?_);lk;simp only[newObj];show M (wpAny_alloc (ao (ao h)))
def a4h{l:Addr}{items:Array Value}{vals:ay}{Q:∅}(hh:A.handled=none)(hl:s.heap.IsList l items)(hi:IntsAre items.toList (vals.map λv=>((v:Nat):Int)))(lt:∀v∈vals,v<16)
  (h:∀(h':Heap) (tk:Nat) (L:ay),jw (oF w) h' s⁻¹ L->qi h' s⁻¹->(∀u,u∈L↔u∈vals)->(∀b o,b<s⁻¹->s^^^b=some o->h'.get? b=some o)->Q (.ref s⁻¹) { s with heap:=h',toks:=tk}) :
  ∎ (call (.type "set") [.ref l]) Q E s:=by
 let⟨c,tl,hmro⟩:=F.called_set.mro;let hmade:=F.called_set.made;let hsub:=F.called_set.sub;let hlen:items.size=vals.length:=by
  let:=hi.length;simpa using this
 show wpAny_call (codeAny_of_tree ?_);show wpAny _ _ (callAny (.type "set") _) _ _ _;show ao ⟨Code.quiet_builtin _ (),jU F.entry_type_call ?_⟩;rw[Around.under_plain (weight_type_call_type "set" [.ref l] []) rfl];let h1:=F.called_set.notType;let h2:=F.called_set.canCreate;let hct:=F.typeCall_set_1 (.ref l);repeat (any_goals (first|assumption|wp_step))
 show CZ (a09 (.ref l) (E:=E) (Q:=λobj s₁=>obj=.ref s⁻¹/\s₁=(s•s.heap.push (lE #[] 0 (.fresh 0 0 (!oF w))))) ⟨rfl,rfl⟩) λr s₁ hr=>?_;cases r with
 |error e=>show hr
 |ok fl =>
  cases fl with
  |ret obj =>
   let⟨rfl,rfl⟩:=hr;let gS:(s.heap.push (lE #[] 0 (.fresh 0 0 (!oF w)))).get? s⁻¹=some (lE #[] 0 (.fresh 0 0 (!oF w))):=cB _ rfl;let hT:Shared.TypeIs (s•s.heap.push (lE #[] 0 (.fresh 0 0 (!oF w)))) (.ref s⁻¹) "set" :=⟨_,gS,rfl⟩;let hli:=F.called_set.init.lookup;let hbi:=F.called_set.init.bind (.ref s⁻¹);repeat (any_goals (first|assumption|wp_step))
   show CZ (codeAny_call_builtin (R:=wants (λr s₂=>r=.none/\∃h' tk L,s₂={ s with heap:=h',toks:=tk}/\jw (oF w) h' s⁻¹ L/\qi h' s⁻¹/\(∀u,u∈L↔u∈vals)/\
     (∀b o,b<s⁻¹->s^^^b=some o->h'.get? b=some o)) E) F.called_set.init.plain F.entry_set_init (check_set_init_1 hT ?_)) λr₂ s₂ hr₂=>?_
   ·let⟨ol,hol,hcl,nl,hdl⟩:=hl;let⟨ocls,odict,odata,oslots⟩:=ol;simp only at hcl hdl;subst hcl;subst hdl;let hol':(s.heap.push (lE #[] 0 (.fresh 0 0 (!oF w)))).get? l=some { cls:=.type "list",dict:=odict,data:=.seq items nl,slots:=oslots}:=bM _ hol;let hsls:=F.sub_list_set;let hslf:=F.sub_list_frozenset;let hne:(Value.type "list" == Value.type "dict")=false:=()
    let hl1:(s.heap.push (lE #[] 0 (.fresh 0 0 (!oF w)))).IsList l items:=⟨_,hol',Z,nl,Z⟩;unfold Builtin.«set.__init__» noKeywords Builtin.Frozenset.updateFrom;generalize hPI:pyIter=PI
    wp_walk
    subst hPI;show vC hl1 (M (wpAny_runValue ?_));let ll:l<s⁻¹:=bw hol;let hh3:A.in1.in1.in1.handled=none:=by simp[hh]
    let ni:l≠(s.heap.push (lE #[] 0 (.fresh 0 0 (!oF w)))).objs.size:=by rw[oK];show b7 (GQ ll)
    let nf:s⁻¹∉[(s.heap.push (lE #[] 0 (.fresh 0 0 (!oF w)))).objs.size,l]:=by
     rw[oK];simp only[List.mem_cons,List.not_mem_nil,or_false,not_or];show⟨b7 (wO _),iU ll⟩
    let hval:∀(i:Nat) (v:Value),i<items.size->items[i]?=some v->∃t,v=.int (((λi=>vals.getD i 0) i:Nat):Int) t:=λi v li hv=>by
     let⟨t,e⟩:=PyProof.Rows.IntsAre.int_at hi i v (by rw[GJ];show hv);let lv:i<vals.length:=()
     show⟨t,?_⟩;rw[e];simp[List.getD,lv]
    show a08 ((Walks.list hh3 _ l ni items).toS) s⁻¹ nf (λi=>vals.getD i 0) hval (λi li=>?_) (items.size-0) 0 _ [] () (dG _) ⟨⟨_,cB _ Z,Z,Z⟩,(hl1.push _)⟩ ?hS0 ?hD0 (λu=>by simp) ?hR
    ·let lv:i<vals.length:=()
     show lt _ ?_;simp[List.getD,lv]
    case hS0=>show⟨#[],0,_,bM _ gS,.nil,Q8 _⟩
    case hD0=>show⟨#[],0,_,bM _ gS,.inl Z⟩
    case hR =>
     intro s' L' hm hS' hD' mem;let⟨h',g',d',tk',os'⟩:=s';let eg:g'=s.gens:=hm.gens;let ed:d'=s.drawn:=hm.drawn;let eo:os'=s.os:=hm.os;subst eg;subst ed;subst eo;show wpAny _ _ _ _ _ _;show ao ?_;show wpAny _ _ (ret Value.none) _ _ _;show ao ⟨Z,h',tk',L',Z,hS',hD',λu=>?_,λb o hb e=>?_⟩
     ·rw[mem u];constructor
      ·rintro⟨j,hj,rfl⟩;let lv:j<vals.length:=()
       simp[List.getD,lv]
      ·intro hu;let⟨j,hj,e⟩:=qD hu;show⟨j,(),by simp[List.getD,hj,e]⟩
     ·let b1:b≠s⁻¹:=b7 hb;let b2:b≠(s.heap.push (lE #[] 0 (.fresh 0 0 (!oF w)))).objs.size:=by rw[oK];show b7 (GQ hb)
      show hm.heap b o (by simp only[List.mem_cons,List.not_mem_nil,or_false,not_or];show⟨b1,b2⟩) (bM _ (bM _ e))
   ·cases r₂ with
    |error e=>show hr₂
    |ok fl₂ =>
     cases fl₂ with
     |ret r =>
      let⟨rfl,h',tk,L,rfl,q1,q2,q3,q4⟩:=hr₂;repeat (any_goals (first|assumption|wp_step))
      show h _ _ L q1 q2 q3 q4
     |_=>show hr₂.elim
  |_=>show hr.elim
end
end Sm
namespace L2
open PyProof.Rows Sm
def Rb(w:World)(a:Addr)(d:Bool)(L:ay):HO:=.ext λh=>jw (oF w) h a L/\(d=true->qi h a)
def Small(ns:ae):Prop:=∀n∈ns,0<=n/\n<16
noncomputable def Qo(p:Int->Bool):ae:=((List.range 16).map λi=>((i:Nat):Int)).filter p
def a4i(p:Int->Bool):(Qo p).Pairwise (· < ·):=by
 unfold Qo;show GK _ ?_;rw[wN];show List.pairwise_lt_range.imp λh=>by omega
def yd{p:Int->Bool}{v:Int}:v∈Qo p↔0<=v/\v<16/\p v=true:=by
 unfold Qo;rw[jg,fD];constructor
 ·grind
 ·rintro⟨h0,h1,h⟩;show⟨⟨v.toNat,gA.mpr (),()⟩,h⟩
theorem up_eq:∀{xs ys:ae},xs.Pairwise (· < ·)->ys.Pairwise (· < ·)->(∀v,v∈xs↔v∈ys)->xs=ys
 | [],[],_,_,_=>rfl
 | [],y::ys,_,_,h=>absurd ((h y).mpr aZ) fj
 |x::xs,[],_,_,h=>absurd ((h x).mp aZ) fj
 |x::xs,y::ys,hx,hy,h=>by
  let⟨x1,x2⟩:=uc.mp hx
  let⟨y1,y2⟩:=uc.mp hy
  let e:x=y:=by
   rcases bT.mp ((h x).mp aZ)with e|e
   ·show e
   ·rcases bT.mp ((h y).mpr aZ)with f|f
    ·show f.symm
    ·let a:=y1 x e
     let b:=x1 y f
     omega
  subst e
  congr 1
  show up_eq x2 y2 λv=>?_
  constructor
  ·intro q
   rcases bT.mp ((h v).mp (bH _ q))with e|e
   ·subst e;let:=x1 v q;omega
   ·show e
  ·intro q
   rcases bT.mp ((h v).mpr (bH _ q))with e|e
   ·subst e;let:=y1 v q;omega
   ·show e
inductive a6s(w:World)(K:aH)(xs:af)(H:Hp)(Q:VK):Prop
 |mk (l ns:_) (_:xs=[.ref l]) (_:bB K H l (List.map V.int ns)) (_:Small ns) (_:∀p L H',iH H p (Rb w p true L) H'->(∀u:Nat,u∈L↔(u:Int)∈ns)->Q (.ref p) H')
inductive a8h(w:World)(x:V)(y:V)(H:Hp)(Q:VK):Prop
 |mk (a b L1 L2:_) (_:x=.ref a) (_:y=.ref b) (_:a≠b) (_:H a=some (Rb w a true L1)) (_:H b=some (Rb w b true L2)) (_:∀p L H',iH H p (Rb w p false L) H'->(∀u:Nat,u∈L↔u∈L1\/u∈L2)->Q (.ref p) H')
inductive a4j(w:World)(xs:af)(H:Hp)(Q:VK):Prop
 |mk (a d L:_) (_:xs=[.ref a]) (_:H a=some (Rb w a d L)) (_:∀p H',iH H p (.lst ((Qo λv=>decide (v.toNat∈L)).map V.int)) H'->Q (.ref p) H')
inductive a4k(K:aH)(xs:af)(H:Hp)(Q:VK):Prop
 |mk (l ns:_) (_:xs=[.ref l]) (_:bB K H l (List.map V.int ns)) (_:ns.length<64) (_:∀p H' zs,iH H p (.lst (List.map V.int zs)) H'->zs.Perm ns->zs.Pairwise (· <= ·)->Q (.ref p) H')
def Dt:∀{vs:aw}{ns:ae},IntsAre vs ns->cN (ns.map V.int) vs
 |_,_,.nil=>.nil
 |_,_,.cons n t r=>.cons ⟨t,Z⟩ (Dt r)
def ľ{xs:ae}{L:ay}(pm:xs.Perm (L.map λv=>((v:Nat):Int)))(nd:L.Nodup)(lt:∀v∈L,v<16)(le:xs.Pairwise (· <= ·)):xs=Qo λv=>decide (v.toNat∈L):=by
 let Zx:xs.Nodup:=pm.nodup_iff.mpr (by
  unfold List.Nodup;rw[wN];show nd.imp λh e=>h ())
 let lt2:xs.Pairwise (· < ·):=by
  unfold List.Nodup at Zx;show(le.and Zx).imp λh=>by omega
 show up_eq lt2 (a4i _) λv=>?_;rw[pm.mem_iff,yd,fD];constructor
 ·rintro⟨u,hu,rfl⟩;let:=lt u hu;show⟨(),(),bh (by rw[jf];show hu)⟩
 ·rintro⟨h0,h1,h⟩;show⟨v.toNat,dB h,()⟩
section
variable{X:Cx}{K:aH}{w:World}
def Yi{H:Hp}{h:Heap}{a:Addr}{d:Bool}{L:ay}{P:Program}{w':World}(S:jw (oF w) h a L)(D:d=true->qi h a):fB P w' H h a (Rb w a d L):=by
 show⟨⟨S,D⟩,?_,?_⟩
 ·let⟨_,_,_,ho,_⟩:=S;grind
 ·rintro h1 h2 ⟨s1,d1⟩ k;show⟨s1.keep k,λe=>(d1 e).keep k⟩
def KH(ek:X.K=K)(ew:X.w=w)(cm:X.calm=true):jE X (.type "set") (a6s w K):=by
 subst ek;subst ew;intro Y s σ H xs us Q I r h;let⟨l,ns,rfl,hL,sm,q⟩:=h;let⟨u,rfl,rx⟩:=vals1 r;cases rx;let⟨bY,r',pl,hz⟩:=I.list hL;let hi:=ints_of r';let e:(ns.map Int.toNat).map (λv=>((v:Nat):Int))=ns:=by
  rw[lV];let:∀n∈ns,((λv=>((v:Nat):Int))∘Int.toNat) n=id n:=λn hn=>by
   let:=(sm n hn).1;show((n.toNat:Nat):Int)=n;omega
  rw[vA this,List.map_id]
 show a4h (vals:=ns.map Int.toNat) (I.ok.hd cm) pl.isList () (λv hv=>?_) λh' tk L S D mem k=>?_
 ·let⟨n,hn,rfl⟩:=fD.mp hv;let:=sm n hn;omega
 ·let hf:H s⁻¹=none:=I.hok.fresh (aK _);show⟨.ref s⁻¹,_,I.laid (t':=tk) (o:=Rb X.w s⁻¹ true L) (λb o eo=>k b o (bw eo) eo) (aK _) (Yi S λ_=>D),Z,q _ L _ (iH.nC hf) λu=>?_⟩;rw[mem u,fD];constructor
  ·rintro⟨n,hn,rfl⟩;let:=(sm n hn).1;let e2:((n.toNat:Nat):Int)=n:=()
   rw[e2];show hn
  ·intro hn;show⟨_,hn,()⟩
def a4l(ew:X.w=w):qQ X (binaryOp .BitOr) (a8h w):=by
 subst ew;intro Y s σ H x y v u Q I rx ry h;let⟨a,b,L1,L2,rfl,rfl,ne,hA,hB,q⟩:=h;cases rx;cases ry;let⟨⟨S1,D1⟩,_⟩:=I.hok a _ hA;let⟨⟨S2,D2⟩,_⟩:=I.hok b _ hB;show a6q ne S1 (D1 Z) S2 (D2 Z) λh' L k S mem=>?_;let hf:H s⁻¹=none:=I.hok.fresh (aK _);show⟨.ref s⁻¹,_,I.laid (t':=s.toks) (o:=Rb X.w s⁻¹ false L) (λb o eo=>k b o eo) (aK _) (Yi S λe=>by cases e),Z,q _ L _ (iH.nC hf) mem⟩
def O8(ew:X.w=w)(cm:X.calm=true):jE X (.builtin "sorted") (a4j w):=by
 subst ew;intro Y s σ H xs us Q I r h;let⟨a,d,L,rfl,hA,q⟩:=h;let⟨u,rfl,rx⟩:=vals1 r;cases rx;let⟨⟨S,_⟩,_⟩:=I.hok a _ hA;let⟨_,_,t,_,_,T⟩:=id S;show Wm (I.ok.hd cm) S λh' tk p vs n ns k hp ho hi pm le=>?_;let e:=ľ pm T.nd T.lt le;subst e;let l16:(Qo λv=>decide (v.toNat∈L)).length<=16:=by rw[pm.length_eq,aJ];show T.len
 let hf:H p=none:=I.hok.fresh hp;show⟨.ref p,_,I.laid (t':=tk) (o:=.lst ((Qo λv=>decide (v.toNat∈L)).map V.int)) k hp ⟨?_,vs,n,Dt hi,ho⟩,Z,q p _ (iH.nC hf)⟩;rw[aJ,gK];omega
def Ba(e:X.K=K):jE X (.builtin "sorted") (a4k K):=by
 subst e;intro Y s σ H xs us Q I r h;let⟨l,ns,rfl,hL,h64,q⟩:=h;let⟨u,rfl,rx⟩:=vals1 r;cases rx;let⟨bY,r',pl,hz⟩:=I.list hL;let hlen:=r'.length;rw[aJ]at hlen;show sorted_ints (ns:=ns) pl.isList (ints_of r') () λout zs hi pm le=>?_;let⟨c,hc⟩:=sortedAll_at s.heap bY out;show⟨.ref (s⁻¹+1),_,I.laid (t':=s.toks) (o:=.lst (zs.map V.int)) (λb o eo=>sortedAll_old eo) (vJ _) ⟨?_,out.toList,c,Dt hi,by simpa using hc⟩,Z,q _ _ zs (iH.nC (I.hok.fresh (vJ _))) pm le⟩;rw[aJ,pm.length_eq,gK];omega
end
end L2
namespace L2
open PyProof.Rows
section
variable{K:aH}{a:Addr}{xs:af}{ix:List (Option Nat)}{g:TG}{tt:TT}{te:TE}{σ:St}{H1:Hp}{Q:VK}
def a1a(f:V->Option V)(hx:cO K H1 a xs)(hz:xs.length<=1000)
  (hs:∀x H (N:Option V->Hp->Prop),x∈xs->aL H1 H->(∀H',aL H1 H'->N (f x) H')->g x (qg ix σ) H λσ2 H2=>tt σ2 H2 λb H3=>if b=true then te σ2 H3 λv H4=>N (some v) H4 else N none H3)
  (hd:∀H p H',aL H1 H->iH H p (.lst (xs.filterMap f)) H'->Q (.ref p) H'):lY ix g tt te σ H1 Q (Itt K a):=by
 show⟨λi m ys H=>m=xs.length-i/\i<=xs.length/\ys=(xs.take i).filterMap f/\aL H1 H,⟨xs.length,by simp,dG _,Z,aL.refl _⟩,?_⟩;rintro i m ys H ⟨rfl,hi,e,s⟩;let q:=s.vP hx;let z:ys.length<=sizeLine:=by
  subst e;show cC (Ua _ _) (cC ?_ (fC (dz hz)));rw[dN];show U8 _ _
 by_cases hlt:i<xs.length
 ·show .inr ⟨⟨xs,xs[i],q,by simp[hlt]⟩,z,λys' H'=>ys'=(xs.take (i+1)).filterMap f/\aL H1 H',λys' H' p'=>⟨xs.length-(i+1),(),Z,hlt,p'⟩,λx H' y=>?_⟩;let⟨e',y⟩:=y;subst e';let hx':=y xs q;let hm:x∈xs:=gU hx';let⟨hil,hix⟩:=dY.mp hx';let et:xs.take (i+1)=xs.take i++[x]:=by rw[yK hil,hix]
  show hs x _ (λo H'=>match o with|some v=>(ys++[v]=(xs.take (i+1)).filterMap f/\aL H1 H')|none=>(ys=(xs.take (i+1)).filterMap f/\aL H1 H')) hm s λH' s'=>?_;cases ef:f x with
  |some v=>show⟨by rw[e,et,wM];simp[ef],s'⟩
  |none=>show⟨by rw[e,et,wM];simp[ef],s'⟩
 ·let ei:i=xs.length:=()
  subst ei;show .inl ⟨⟨xs,q,aK _⟩,z,λp hp=>?_⟩;subst e;rw[gJ];show hd H p _ s (iH.nC hp)
end
section
variable{X:Cx}{K:aH}
inductive a6t(K:aH)(x:V)(lo:Option Int)(hi:Option Int)(H:Hp)(Q:VK):Prop
 |mk (a xs:_) (_:x=.ref a) (_:cO K H a xs) (_:¬(HT.kh xs.length 0 lo=0/\HT.kh xs.length xs.length hi=xs.length)) (_:∀p H',iH H p (.tup (su xs lo hi)) H'->Q (.ref p) H')
def Gj(e:X.K=K):SlR X (a6t K):=by
 subst e;show λY s σ H x v vl vu lo hi sl Q I rx hs pl pu ⟨a,xs,e,h,hw,q⟩=>ē Y s σ H x v vl vu lo hi sl Q I rx hs pl pu ⟨a,xs,e,h,hw,λp hp=>q p _ (iH.nC hp)⟩
end
end L2
namespace L2
open PyProof.Rows
def Yj(us:ae)(i j:Nat):su (us.map V.int) (some (i:Int)) (some ((i+j:Nat):Int))=((us.drop i).take j).map V.int:=by
 unfold su;rw[HT.Ad,HT.Ad,aJ,<-N7,<-Hj];congr 1;rcases um us.length i with c|c
 ·let e1:min i us.length=us.length:=()
  rw[e1,GD (aK _),GD ()];simp
 ·let e1:min i us.length=i:=()
  rw[e1];rcases um us.length (i+j)with d|d
  ·let e2:min (i+j) us.length=us.length:=()
   rw[e2,yP (by rw[gw];omega),yP (by rw[gw];omega)]
  ·let e2:min (i+j) us.length=i+j:=()
   rw[e2];congr 1;omega
end L2
namespace L2
open PyProof.Rows
variable{H H':Hp}{X:Cx}{w:World}{J:List (aS×V)}{u:Value}{y:V}{P:Program}{a b:Addr}{pos:Pos}{Q E:∅}{o:Option V}{h:Heap}{Y:aE}{σ:St}{A:Around}
section
variable{κ:Type} [DecidableEq κ]
noncomputable def dI(J:List (κ×V))(k:κ):Option V:=(J.find? λkv=>decide (kv.1=k)).map (·.2)
noncomputable def putK(J:List (κ×V))(k:κ)(v:V):List (κ×V) :=
 if(J.any λkv=>decide (kv.1=k))=true then J.map (λkv=>if kv.1=k then(kv.1,v)else kv)else J++[(k,v)]
def kE{p:κ×V}{r:List (κ×V)}{k:κ}(e:p.1=k):dI (p::r) k=some p.2:=by simp[dI,List.find?_cons,e]
def kI{p:κ×V}{r:List (κ×V)}{k:κ}(e:¬p.1=k):dI (p::r) k=dI r k:=by simp[dI,List.find?_cons,e]
theorem w6(k:κ):∀J:List (κ×V),(J.any λkv=>decide (kv.1=k))=(dI J k).isSome
 | []=>rfl
 |p::r=>by
  rw[oM]
  by_cases e:p.1=k
  ·simp only[kE e,decide_eq_true e,Bool.true_or,Option.isSome_some]
  ·rw[kI e,cG e,Bool.false_or];show w6 k r
theorem Rc(k j:κ)(y:V):∀J:List (κ×V),dI (J.map λkv=>if kv.1=k then(kv.1,y)else kv) j=(dI J j).map λx=>if j=k then y else x
 | []=>rfl
 |p::r=>by
  let ih:=Rc k j y r
  rw[cA]
  by_cases h:p.1=k
  ·rw[aD h]
   by_cases e:p.1=j
   ·rw[kE (p:=(p.1,y)) e,kE e,Hg,aD (e.symm.trans h)]
   ·rw[kI (p:=(p.1,y)) e,kI e,ih]
  ·rw[aA h]
   by_cases e:p.1=j
   ·rw[kE (p:=p) e,kE e,Hg,aA (λz=>h (e.trans z))]
   ·rw[kI (p:=p) e,kI e,ih]
theorem rD(k j:κ)(y:V):∀J:List (κ×V),dI J k=none->dI (J++[(k,y)]) j=if j=k then some y else dI J j
 | [],_=>by
  by_cases e:k=j
  ·rw[aD e.symm];show kE (p:=(k,y)) e
  ·rw[aA (λz=>e z.symm)];show kI (p:=(k,y)) e
 |p::r,hn=>by
  rw[List.cons_append]
  let hk:¬p.1=k:=λz=>by rw[kE z]at hn;cases hn
  rw[kI hk]at hn
  let ih:=rD k j y r hn
  by_cases e:p.1=j
  ·rw[kE e,kE e,aA (λz=>hk (e.trans z))]
  ·rw[kI e,kI e,ih]
def Ŀ(J:List (κ×V))(k j:κ)(y:V):dI (putK J k y) j=if j=k then some y else dI J j:=by
 unfold putK;by_cases a:(J.any λkv=>decide (kv.1=k))=true
 ·rw[aD a,Rc];rw[w6]at a;by_cases e:j=k
  ·let⟨x,hx⟩:=ý.mp a;rw[aD e,e,hx,Hg,aD rfl]
  ·rw[aA e];cases dI J j with
   |none=>rfl
   |some x=>rw[Hg,aA e]
 ·rw[aA a];show rD k j y J ?_;rw[w6]at a;cases q:dI J k with
  |none=>rfl
  |some x=>rw[q]at a;show(a Z).elim
def ql(J:List (κ×V))(k:κ)(v:V):(putK J k v).length<=J.length+1:=by
 unfold putK;split
 ·rw[aJ];omega
 ·rw[bK,iM,List.length_nil];omega
def ŀ{J:List (κ×V)}{k:κ}(v:V)(h:dI J k=none):putK J k v=J++[(k,v)]:=by
 unfold putK;rw[w6,h];show aA ()
def oN.Du{u:Option Value}(r:oN o u):o.isSome=u.isSome:=by
 cases o with
 |none=>cases u with
  |none=>rfl
  |some _=>show(show False from r).elim
 |some _=>cases u with
  |none=>show(show False from r).elim
  |some _=>rfl
def oN.getD{o:Option V}{u:Option Value}{d:V}{d':Value}(r:oN o u)(rd:cZ d d'):cZ (o.getD d) (u.getD d'):=by
 cases o with
 |none=>cases u with
  |none=>show rd
  |some _=>show(show False from r).elim
 |some _=>cases u with
  |none=>show(show False from r).elim
  |some _=>show r
def KV.val{J:List (κ×V)}{vs:List (κ×Value)}(r:KV J vs)(k:κ):oN (dI J k) (valueAt vs k):=by
 unfold KV at r
 induction r with
 |nil=>show lW
 | @cons p q ps qs h t ih =>
  let⟨h1,h2⟩:=h;by_cases e:p.1=k
  ·let e':q.1=k:=h1.symm.trans e;let b:valueAt (q::qs) k=some q.2:=by simp[valueAt,List.find?_cons,e']
   rw[kE e,b];show h2
  ·let e':¬q.1=k:=λz=>e (h1.trans z);let b:valueAt (q::qs) k=valueAt qs k:=by simp[valueAt,List.find?_cons,e']
   rw[kI e,b];show ih
def KV.any{J:List (κ×V)}{vs:List (κ×Value)}(r:KV J vs)(k:κ):(J.any λkv=>decide (kv.1=k))=vs.any λkv=>decide (kv.1=k):=by
 unfold KV at r
 induction r with
 |nil=>rfl
 |cons h t ih=>rw[oM,oM,ih,h.1]
def KV.repl{J:List (κ×V)}{vs:List (κ×Value)}(r:KV J vs)(k:κ)(ry:cZ y u) :
  KV (J.map λkv=>if kv.1=k then(kv.1,y)else kv) (vs.map λkv=>if kv.1=k then(kv.1,u)else kv):=by
 unfold KV at r ⊢
 induction r with
 |nil=>show .nil
 | @cons p q ps qs h t ih =>
  rw[cA,cA];show .cons ?_ ih;let⟨h1,h2⟩:=h;by_cases e:p.1=k
  ·rw[aD e,aD (h1.symm.trans e)];show⟨h1,ry⟩
  ·rw[aA e,aA (λz=>e (h1.trans z))];show⟨h1,h2⟩
def KV.put{J:List (κ×V)}{vs:List (κ×Value)}(r:KV J vs)(k:κ)(ry:cZ y u):KV (putK J k y) (stored vs k u):=by
 unfold putK stored;rw[r.any k];by_cases e:(vs.any λkv=>decide (kv.1=k))=true
 ·rw[aD e,aD e];show r.repl k ry
 ·rw[aA e,aA e];show Paired.snoc r ⟨Z,ry⟩
def KV.length{J:List (κ×V)}{vs:List (κ×Value)}(r:KV J vs):J.length=vs.length:=aU r
end
def Ia{k:Key}(r:cZ (kV k) u):(eX P w).is k u=true:=by
 cases k with
 |inl i=>let⟨t,e⟩:=(show ∃t,u=Value.int i t from r);subst e;show Qs P w i t
 |inr x=>let⟨t,e⟩:=(show ∃t,u=Value.str x t from r);subst e;show gC P w x t
theorem KJ{P:Program}{w:World}:∀{ks:aS}{us:aw},cN (ks.map kV) us->ItemsAre (eX P w) ks us
 | [],_,r=>by rw[List.map_nil]at r;cases r;show .nil
 |k::ks,_,r=>by
  rw[cA]at r
  cases r with
  |cons h t=>show .cons (Ia h) (KJ t)
abbrev KT(H:Hp):List (aS×V)->List (aS×Addr×Value)->Prop:=Paired λp q=>p.1=q.1/\H q.2.1= ~~~(p.1.map kV)/\cZ p.2 q.2.2
def KT.val{xs:List (aS×Addr×Value)}(r:KT H J xs)(k:aS):oN (dI J k) ((atKey xs k).map (·.2)):=by
 induction r with
 |nil=>show lW
 | @cons p q ps qs h t ih =>
  let⟨h1,_,h2⟩:=h;by_cases e:p.1=k
  ·let e':q.1=k:=h1.symm.trans e;let b:atKey (q::qs) k=some q.2:=by simp[atKey,List.find?_cons,e']
   rw[kE e,b];show h2
  ·let e':¬q.1=k:=λz=>e (h1.trans z);let b:atKey (q::qs) k=atKey qs k:=by simp[atKey,List.find?_cons,e']
   rw[kI e,b];show ih
def KT.repl{xs:List (aS×Addr×Value)}(r:KT H J xs)(k:aS)(ry:cZ y u) :
  KT H (J.map λkv=>if kv.1=k then(kv.1,y)else kv) (xs.map (putAt k u)):=by
 induction r with
 |nil=>show .nil
 | @cons p q ps qs h t ih =>
  rw[cA,cA];show .cons ?_ ih;let⟨h1,h2,h3⟩:=h;unfold putAt;by_cases e:p.1=k
  ·rw[aD e,aD (h1.symm.trans e)];show⟨h1,h2,ry⟩
  ·rw[aA e,aA (λz=>e (h1.trans z))];show⟨h1,h2,h3⟩
def KT.put{xs:List (aS×Addr×Value)}(r:KT H J xs)(k:aS)(hb:H b= ~~~(k.map kV))(ry:cZ y u) :
  KT H (putK J k y) (storedH xs k b u):=by
 let e:(J.any λkv=>decide (kv.1=k))=(atKey xs k).isSome:=by
  rw[w6,(r.val k).Du,Option.isSome_map]
 unfold putK storedH;rw[e];by_cases q:(atKey xs k).isSome=true
 ·rw[aD q,aD q];show r.repl k ry
 ·rw[aA q,aA q];show Paired.snoc r ⟨Z,hb,ry⟩
def KT.keeps{xs:List (aS×Addr×Value)}(r:KT H J xs)(ht:∀b ys,H b= ~~~ys->H' b= ~~~ys):KT H' J xs :=
 Paired.cD r λ_ _ z=>⟨z.1,ht _ _ z.2.1,z.2.2⟩
def a2N{u:HO}(ok:xW P w H h)(e:Rd H a u):fB P w H h a u:=e.ok ok
def Rf{J:List (Key×V)}(ok:xW P w H h)(e:Rd H a (.dK J)):J.length<=sizeLine/\(a==sysModules)=false/\∃vs,KV J vs/\h.DictOf (eX P w) a vs :=
 show fB P w H h a (.dK J)from a2N ok e
def Ł{J:List (Key×V)}(ok:xW P w H h)(e:H a=some (.dK J)):J.length<=sizeLine/\(a==sysModules)=false/\∃vs,KV J vs/\h.DictOf (eX P w) a vs:=Rf ok (.inl e)
def xg{ks:aS}(ok:xW P w H h)(e:H a= ~~~(ks.map kV)):(tupleKind (eX P w)).is h ks a:=by
 let⟨_,bY,r,o,h1,h2,n,h3⟩:=(show fB P w H h a (.tup (ks.map kV))from ok a _ e);show⟨o,bY.toArray,n,h1,h2,h3,by simpa using KJ r⟩
def Yk(ok:xW P w H h)(e:Rd H a (.dT J)):J.length<=sizeLine/\(a==sysModules)=false/\
  ∃xs,KT H J xs/\h.DictOfH (tupleKind (eX P w)) a xs:=by
 let⟨z,y,xs,r,o,es,ep,h1,h2,h3,h4,h5⟩:=(show fB P w H h a (.dT J)from a2N ok e);show⟨z,y,xs,r,o,es,ep,h1,h2,h3,h4,λx hx=>?_,h5⟩;let all:∀{l:List (aS×V)}{m:List (aS×Addr×Value)},KT H l m->∀x∈m,(tupleKind (eX P w)).is h x.1 x.2.1:=by
  intro l m q
  induction q with
  |nil=>intro x hx;show nomatch hx
  | @cons p q ps qs hq t ih =>
   intro x hx;rcases bT.mp hx with e|hx
   ·subst e;show xg ok (by rw[<-hq.1];show hq.2.1)
   ·show ih x hx
 show all r x hx
def Bb(ok:xW P w H h)(e:H a=some (.dT J)):J.length<=sizeLine/\(a==sysModules)=false/\
  ∃xs,KT H J xs/\h.DictOfH (tupleKind (eX P w)) a xs:=Yk ok (.inl e)
def Fv(H:Hp)(a:Addr)(y:V)(r:Option V):Prop :=
 (∃J k,Rd H a (.dK J)/\y=kV k/\r=dI J k)\/∃J k b,Rd H a (.dT J)/\y=.ref b/\H b= ~~~(k.map kV)/\r=dI J k
def a1b(H:Hp)(a:Addr)(y v:V)(H':Hp):Prop :=
 (∃J k,H a=some (.dK J)/\y=kV k/\J.length<sizeLine/\H'=cX H a (.dK (putK J k v)))\/
 ∃J k b,H a=some (.dT J)/\y=.ref b/\H b= ~~~(k.map kV)/\J.length<sizeLine/\H'=cX H a (.dT (putK J k v))
def Fv.t{k:aS}(e:H a=some (.dT J))(eb:H b= ~~~(k.map kV)):Fv H a (.ref b) (dI J k):=.inr ⟨J,k,b,.inl e,Z,eb,Z⟩
def a1b.t{k:aS}{v:V}(e:H a=some (.dT J))(eb:H b= ~~~(k.map kV))(hl:J.length<sizeLine) :
  a1b H a (.ref b) v (cX H a (.dT (putK J k v))):=.inr ⟨J,k,b,e,Z,eb,hl,Z⟩
section
variable{s:Shared}{v:V}{r:Value}
def bF.big(I:bF X Y σ H s):sysModules<s⁻¹:=by
 let h:mainGlobals<s⁻¹:=(I.mod.glob.keeps I.bk).lt;show rR () h
def Zy(hu:A.units+1<cLine)(I:bF X Y σ H s)(g:Fv H a y (some v))(ry:cZ y u)(h:∀w' s',bF X Y σ H s'->cZ v w'->Q w' s') :
  wpAny (model X.prog X.w) A (getItem (.ref a) u) Q E s:=by
 rcases g with⟨J,k,e,ey,l⟩|⟨J,k,b,e,ey,eb,l⟩
 ·subst ey;let⟨z,hd,vs,rel,dd⟩:=Rf I.hok e;let⟨w',hw,VP⟩:=oN.some_of (v:=v) (o:=valueAt vs k) (by rw[l];show rel.val k);show wpAny_getItem_of (Ia ry) dd.mapOf hw (h w' _ (I.tok _) VP)
 ·subst ey;cases(show u=Value.ref b from ry);let⟨z,hd,xs,rel,dd⟩:=Yk I.hok e;let⟨w',hw,VP⟩:=oN.some_of (v:=v) (o:=(atKey xs k).map (·.2)) (by rw[l];show rel.val k);let⟨p,hp,hp2⟩:=j4.mp hw;show wpAny_getItem_heap (yU hu) (xg I.hok eb) dd hp ?_;rw[hp2];show h w' _ (I.tok _) VP
def a8i(hu:A.units+1<cLine)(I:bF X Y σ H s)(g:Fv H a y o)(ry:cZ y u)(h:∀s',bF X Y σ H s'->Q (.bool o.isSome) s') :
  wpAny (model X.prog X.w) A (compareOp .In u (.ref a)) Q E s:=by
 rcases g with⟨J,k,e,ey,l⟩|⟨J,k,b,e,ey,eb,l⟩
 ·subst ey;let⟨z,hd,vs,rel,dd⟩:=Rf I.hok e;show wpAny_in_of (Ia ry) hd dd.mapOf ?_;rw[<-(rel.val k).Du,<-l];show h _ (I.tok _)
 ·subst ey;cases(show u=Value.ref b from ry);let⟨z,hd,xs,rel,dd⟩:=Yk I.hok e;show wpAny_in_heap (yU hu) (xg I.hok eb) hd dd ?_;let q:=(rel.val k).Du;rw[Option.isSome_map]at q;rw[<-q,<-l];show h _ (I.tok _)
def Bc{h':Heap}{t':Nat}{ob:HO}(I:bF X Y σ H s)(mu:Mut (H a))(hs:Heap.SameBut a s.heap h')(he:∃q,h'.get? a=some q)(new:fB X.prog X.w (cX H a ob) h' a ob) :
  bF X Y σ (cX H a ob) { s with heap:=h',toks:=t'} :=
 I.write (x:=a) (e:=a) mu (.inl Z) (λb q hb z=>(hs.2 b hb).trans z) he new
def ł{h':Heap}{J:List (Key×V)}{vs:List (Key×Value)}(z:J.length<=sizeLine)(hd:(a==sysModules)=false)(rel:KV J vs)(dd:h'.DictOf (eX P w) a vs) :
  fB P w H' h' a (.dK J):=⟨z,hd,vs,rel,dd⟩
def Zz{Q:Unit->Shared->Prop}(hu:A.units+1<cLine)(I:bF X Y σ H s)(g:a1b H a y v H')(ry:cZ y u)(rv:cZ v r)(h:∀s',bF X Y σ H' s'->Q ⟨⟩ s') :
  wpAny (model X.prog X.w) A (setItem (.ref a) u r) Q E s:=by
 rcases g with⟨J,k,e,ey,l,eH⟩|⟨J,k,b,e,ey,eb,l,eH⟩
 ·subst ey eH;let⟨z,hd,vs,rel,dd⟩:=Ł I.hok e;let hz:vs.length<=sizeLine:=by rw[<-rel.length];show z
  let hl:(putK J k v).length<=sizeLine:=by let:=ql J k v;omega
  show wpAny_setItem_pairs (hsz:=hz) (Ia ry) dd λh' ä hs=>h _ ?_;let he:∃q,h'.get? a=some q:=let⟨q,_,_,hq,_⟩:=ä;⟨q,hq⟩
  show Bc I (by rw[e];show lW) hs he (ł hl hd (rel.put k rv) ä)
 ·subst ey eH;cases(show u=Value.ref b from ry);let⟨z,hd,xs,rel,dd⟩:=Bb I.hok e;let hz:xs.length<=sizeLine:=by rw[<-aU rel];show z
  let hl:(putK J k v).length<=sizeLine:=by let:=ql J k v;omega
  show wpAny_setItem_heap (hsz:=hz) (yU hu) (xg I.hok eb) dd λh' ä hs=>h _ ?_;let⟨q,es,ep,hq,h2,h3,h4,_,h5⟩:=ä;show Bc I (by rw[e];show lW) hs ⟨q,hq⟩ ⟨hl,hd,_,(rel.put k eb rv).keeps λc ys ec=>?_,q,es,ep,hq,h2,h3,h4,h5⟩;rw[aQ (Xr ec e λz=>nomatch z)];show ec
end
section
variable{s:Shared}{J:List (Key×V)}{k:Key}
def a6u(I:bF X Y σ H s)(e:Rd H a (.dK J))(h:∀t s',bF X Y σ H s'->Q (.int J.length t) s'):wpAny (model X.prog X.w) A (call (.builtin "len") [.ref a]) Q E s:=by
 let⟨z,hd,vs,rel,dd⟩:=Rf I.hok e;show call_len_dict hd dd (by rw[<-rel.length];rw[gK]at z;omega) ?_;rw[<-rel.length];show h _ _ (I.tok _)
end
def a4m(i:Expr):Prop:=∀ov iv,subscripted i false ov iv=operate [ov,iv] (getItem ov iv)
def Yl{prog:Program}{s:Shared}{env:Env}{value slice:Expr}{T id:String}
  (hl:typeLookup (.type T) "__getitem__" = pure (some (.builtin id))) (hs:a4m slice)
  (h:∎ (eval value env) (λo s₁=>∎ (eval slice env) (λi s₂=>s₂.TypeIs o T/\∎ (getItem o i) Q E s₂) E s₁) E s) :
  ∎ (eval (.Subscript value slice pos) env) Q E s:=by
 show Subscript_ (iJ h (λo s₁ h₁=>iJ h₁ (λi s₂ h₂=>?_) λ_ _ x=>x) λ_ _ x=>x);let⟨hT,h₂⟩:=h₂;unfold subscriptTail;show M ?_;rw[getitemInPython_of_ne hT.not_modules];show M (Hf hT hl ?_);let fin:∎ (subscripted slice false o i) (λr s₃=>∎ (letTemporaryGo value o r >>= λ_=>pure r) Q E s₃) E s₂:=by
  rw[hs o i];show wpAny_operating (iJ h₂ (λr s₃ h₃=>M (wpAny_letTemporaryGo (ao h₃))) λ_ _ x=>x)
 first
  |exact ao (M fin)
  |exact M (ao (M fin))
  |exact M fin
def Rg{s:Shared}(I:bF X Y σ H s)(g:Fv H a y o):s.TypeIs (.ref a) "dict" := by
 rcases g with⟨J,k,e,_,_⟩|⟨J,k,b,e,_,_,_⟩
 ·let⟨_,_,vs,_,dd⟩:=Rf I.hok e;show dd.typeIs
 ·let⟨_,_,xs,_,dd⟩:=Yk I.hok e;show dd.typeIs
def a6v(td ty:TE):TE:=λσ H Q=>td σ H λx H1=>ty σ H1 λy H2=>∃a v,x=.ref a/\Fv H2 a y (some v)/\Q v H2
section
variable{o i e value:Expr}{pos' tpos:Pos}{td ty tv:TE}
def Bd(hu:X.A.units+1<cLine)(ho:PE X o td)(hi:PE X i ty)(hs:a4m i):PE X (.Subscript o i pos) (a6v td ty):=by
 intro Y s σ H Q I h;show Yl PySem.F.slot_dict_getitem.lookup hs (jr (ho Y s σ H _ I h) λu s1 ⟨x,H1,I1,rx,q1⟩=>jr (hi Y s1 σ H1 _ I1 q1) λiv s2 ⟨y,H2,I2,ry,a,v,ex,g,q2⟩=>?_);subst ex;obtain rfl:u=Value.ref a:=rx;show⟨Rg I2 g,Zy hu I2 g ry λw' s3 I3 VP=>⟨v,H2,I3,VP,q2⟩⟩
end
def Ń(h:Heap)(hb:sysModules<h.objs.size):fB P w H (h.push { cls:=.type "dict",data:=.dict #[]}) h.objs.size (.dK []) :=
 ⟨dG _,qC.mpr (Ne.symm (b7 hb)),[],.nil,Heap.DictOf.new h⟩
def Rh(h:Heap)(hb:sysModules<h.objs.size):fB P w H (h.push { cls:=.type "dict",data:=.dict #[]}) h.objs.size (.dT []) :=
 ⟨dG _,qC.mpr (Ne.symm (b7 hb)),[],.nil,_,#[],0,cB _ Z,⟨Z,Z,Z⟩,Z,Z,vH⟩
def a4n:TE:=λ_ H Q=>∀p,H p=none->Q (.ref p) (cX H p (.dK []))
def a4o:TE:=λ_ H Q=>∀p,H p=none->Q (.ref p) (cX H p (.dT []))
def Ri:PE X (.Dict [] [] pos) a4n:=λY s σ H Q I h =>
 wpAny_Dict_empty ⟨.ref s⁻¹,_,I.laid (a:=s⁻¹) (o:=.dK []) (t':=s.toks) (λ_ _ q=>bM _ q) (aK _) (Ń s.heap I.big),Z,h _ (I.hok.fresh (aK _))⟩
def Bf:PE X (.Dict [] [] pos) a4o:=λY s σ H Q I h =>
 wpAny_Dict_empty ⟨.ref s⁻¹,_,I.laid (a:=s⁻¹) (o:=.dT []) (t':=s.toks) (λ_ _ q=>bM _ q) (aK _) (Rh s.heap I.big),Z,h _ (I.hok.fresh (aK _))⟩
noncomputable def Wn:List (TE×TE)->St->Hp->(List (V×V)->Hp->Prop)->Prop
 | [],_,H,Q=>Q [] H
 |(tk,tv)::r,σ,H,Q=>tk σ H λx H1=>tv σ H1 λy H2=>Wn r σ H2 λps H3=>Q ((x,y)::ps) H3
abbrev VV:List (V×V)->List (Value×Value)->Prop:=Paired λp q=>cZ p.1 q.1/\cZ p.2 q.2
def PPs(X:Cx)(pos:Pos)(keys:List (Option Expr))(values:ba)(Rj:List (TE×TE)):Prop :=
 ∀(Y:aE) (s:Shared) (σ:St) (H:Hp) (Q:List (V×V)->Hp->Prop),bF X Y σ H s->Wn Rj σ H Q->
  wpAny (model X.prog X.w) X.A (evalPairs (pairTrees keys values X.env pos)) (λvs s'=>∃ps H',bF X Y σ H' s'/\VV ps vs/\Q ps H') X.xe s
def a1c:PPs X pos [] [] []:=λY s σ H Q I h=>pairTrees_nil_walk ⟨[],H,I,.nil,h⟩
def ń{k v:Expr}{ks:List (Option Expr)}{vs:ba}{tk tv:TE}{Rj:List (TE×TE)}(hk:PE X k tk)(hv:PE X v tv)(hr:PPs X pos ks vs Rj) :
  PPs X pos (some k::ks) (v::vs) ((tk,tv)::Rj):=λY s σ H Q I h =>
 pairTrees_cons_walk (jr (hk Y s σ H _ I h) λu s1 ⟨x,H1,I1,rx,q1⟩=>jr (hv Y s1 σ H1 _ I1 q1) λw2 s2 ⟨y,H2,I2,ry,q2⟩ =>
  jr (hr Y s2 σ H2 _ I2 q2) λws s3 ⟨ps,H3,I3,rel,q3⟩=>⟨(x,y)::ps,H3,I3,.cons ⟨rx,ry⟩ rel,q3⟩)
inductive a6w(x:V)(vs:af)(H:Hp)(Q:VK):Prop
 |mk (l xs y:_) (_:x=.ref l) (_:vs=[]) (_:H l=↥(xs++[y])) (_:∀H',tH H l (.lst xs) H'->Q y H')
def Bh:Ow X "list.pop" a6w:=a3N.weak λx vs H Q ⟨l,xs,y,e1,e2,h,q⟩=>⟨l,xs++[y],y,e1,e2,h,(by simp),(by
 let:=q _ (tH.nC (H:=H) (l:=l) (o:=.lst xs));grind)⟩
noncomputable def Ey:List (Key×V):=[(.inr "leaf",.int 0),(.inr "in",.int 1),(.inr "tie",.int 1),(.inr "out",.int 1),(.inr "join",.int 2)]
set_option genInjectivity false in
structure Used(w:World)(K:aH)(mg:Str->Option Value) where
 d:Addr
 m:mg "USED" =⇑d
 es:Array DictEntry
 ep:Nat
 l:K.lookup d=some ⟨.type "dict",none,.dict es ep,#[]⟩
 ks:∃t0 t1 t2 t3 t4 t5 t6 t7 t8 t9:Tok,es = #[⟨PyData.keyHash w.params "leaf",.str "leaf" t0,.int 0 t1⟩,⟨PyData.keyHash w.params "in",.str "in" t2,.int 1 t3⟩,⟨PyData.keyHash w.params "tie",.str "tie" t4,.int 1 t5⟩,⟨PyData.keyHash w.params "out",.str "out" t6,.int 1 t7⟩,⟨PyData.keyHash w.params "join",.str "join" t8,.int 2 t9⟩]
def a1d{K:aH}{mg:Str->Option Value}{d:Addr}{es:Array DictEntry}{ep:Nat}(X:K.In h)(G:h.Ns mainGlobals mg)
  (a:nsIn K mainGlobals "USED" = some ⇑d) (l:K.lookup d=some ⟨.type "dict",none,.dict es ep,#[]⟩)
  (ks:∃t0 t1 t2 t3 t4 t5 t6 t7 t8 t9:Tok,es = #[⟨PyData.keyHash w.params "leaf",.str "leaf" t0,.int 0 t1⟩,⟨PyData.keyHash w.params "in",.str "in" t2,.int 1 t3⟩,⟨PyData.keyHash w.params "tie",.str "tie" t4,.int 1 t5⟩,⟨PyData.keyHash w.params "out",.str "out" t6,.int 1 t7⟩,⟨PyData.keyHash w.params "join",.str "join" t8,.int 2 t9⟩]):Nonempty (Used w K mg) :=
 ⟨⟨d,N5 X G a,es,ep,l,ks⟩⟩
def Used.dict{K:aH}{mg:Str->Option Value}(U:Used w K mg)(X:K.In h):∃vs,KV Ey vs/\h.DictOf (eX P w) U.d vs:=by
 let⟨t0,t1,t2,t3,t4,t5,t6,t7,t8,t9,e⟩:=U.ks;show⟨[(.inr "leaf",.int 0 t1),(.inr "in",.int 1 t3),(.inr "tie",.int 1 t5),(.inr "out",.int 1 t7),(.inr "join",.int 2 t9)],?_,_,U.es,U.ep,X _ _ U.l,⟨Z,Z,Z⟩,Z,?_,?_,?_⟩
 ·show .cons ⟨Z,t1,Z⟩ (.cons ⟨Z,t3,Z⟩ (.cons ⟨Z,t5,Z⟩ (.cons ⟨Z,t7,Z⟩ (.cons ⟨Z,t9,Z⟩ .nil))))
 ·rw[e];intro x hx;simp only[Array.mem_def,List.mem_cons,List.not_mem_nil,or_false]at hx;rcases hx with rfl|rfl|rfl|rfl|rfl
  ·show⟨.inr "leaf",gC P w _ _,Z⟩
  ·show⟨.inr "in",gC P w _ _,Z⟩
  ·show⟨.inr "tie",gC P w _ _,Z⟩
  ·show⟨.inr "out",gC P w _ _,Z⟩
  ·show⟨.inr "join",gC P w _ _,Z⟩
 ·rw[e];show .cons (gC P w _ _) Z (.cons (gC P w _ _) Z (.cons (gC P w _ _) Z (.cons (gC P w _ _) Z (.cons (gC P w _ _) Z .nil))))
 ·show([.inr "leaf",.inr "in",.inr "tie",.inr "out",.inr "join"]:aS).Nodup;decide
def a6x(ty:TE):TE:=λσ H Q=>ty σ H λy H1=>∃k v,y=kV k/\dI Ey k=some v/\Q v H1
section
variable{i:Expr}{np:Pos}{ty:TE}
def a1e(U:Used X.w X.K X.mg)(hg:Gl X "USED")(hi:PE X i ty)(hs:a4m i):PE X (.Subscript (.Name "USED" np) i pos) (a6x ty):=by
 intro Y s σ H Q I h;show Yl PySem.F.slot_dict_getitem.lookup hs (zZ I hg U.m (jr (hi Y s σ H _ I h) λiv s2 ⟨y,H2,I2,ry,k,v,ey,hv,q2⟩=>?_));subst ey;let⟨vs,rel,dd⟩:=U.dict (P:=X.prog) I2.Cq;let⟨w',hw,VP⟩:=oN.some_of (v:=v) (o:=valueAt vs k) (by rw[<-hv];show rel.val k);show⟨dd.typeIs,wpAny_getItem_of (Ia ry) dd.mapOf hw ⟨v,H2,I2.tok _,VP,q2⟩⟩
end
end L2
namespace L2
open PyProof.Rows
section
variable{X:Cx}
inductive ZC(x:V)(vs:af)(H:Hp)(Q:VK):Prop
 |mk (l xs:_) (_:x=.ref l) (_:vs=[]) (_:H l=↥xs) (_:∀H',tH H l (.lst xs.reverse) H'->Q .non H')
def Rk:Ow X "list.reverse" ZC:=V2.weak λx vs H Q ⟨l,xs,e1,e2,h,q⟩=>⟨l,xs,e1,e2,h,q _ tH.nC⟩
end
end L2
namespace L2
open PyProof.Rows Bg X7
def Wo(K:aH)(H:Hp)(v:V)(ns:ae):Prop:=∃p,v=.ref p/\bB K H p (ns.map V.int)
end L2
namespace L2
open PyProof.Rows
structure Dm(K:aH)(C:Addr)(m qual:Str)(st:Stmt)(ps:ag) where
 f:Addr
 fd:FuncData
 F:Fun K m qual st f fd
 b:Binds K fd ps []
 mt:Meth K C m f
def a6y{K:aH}{C:Addr}{m qual:Str}{st:Stmt}{ps:ag}{f:Addr}{oc:Value}{od an:Option Addr}{osl:Array (Option Value)}{kV doc pm dZ ct:Value}
  (a:findIn K (.ref C) m=some ⇑f) (i:isFn K (.ref f)=true)
  (l:K.lookup f=some ⟨oc,od,.func (fnOf m qual (gY st) (gj st) (aG st) .none kV doc pm an dZ ct),osl⟩) (c:codeIn K dZ qual=true) (k:keepIn K (.ref f)=true)
  (h:∀(kV doc pm:Value) (an:Option Addr) (dZ ct:Value) (us:aw),us.length=ps.length->bindArgs (fnOf m qual (gY st) (gj st) (aG st) .none kV doc pm an dZ ct) ⟨us,[]⟩=pure (ps.zip us)):Dm K C m qual st ps :=
 { f:=f,fd:=_,F:=V3 (st:=st) l c k,b:=(V3 (st:=st) l c k).binds h,mt:=⟨a,i,k⟩}
end L2
namespace L2
open PyProof.Rows
structure a6z(K:aH)(C:Addr)(m:Str)(f:Addr):Prop where
 ga:PySem.W.specialIn K (.ref C) "__getattribute__" = some (some (.builtin "type.__getattribute__"))
 rd:∃mc,PySem.W.readsIn K C mc=true/\PySem.W.findCls K (.ref C) mc m=some (.val (.ref f))
 kp:keepIn K (.ref f)=true
section
variable{X:Cx}{CX:TF}{k:Nat}{f C:Addr}{fd:FuncData}{ps:ag}{sp:Sp}{JL:af}{ds:aw}{E:XK}{x m:Str}{p pos apos:Pos}{e:Expr}{es:ba}{t:TA}
def a1f{pl:Sem Bool}(hg:Gl X x)(hm:X.mg x=⇑C)(c:a6z X.K C m f)(F:bG X.prog X.w X.K X.mg X.base CX k f fd ps sp)(hr:qR k X.A)(hb:Binds X.K fd ps ds)(hd:cN JL ds)(hx:zx CX X E)(ha:PA X (e::es) t)
  (hdb:@&((x==("__debug__" : Str))=false)) (hst:@&(starEach (e::es) X.env=(false,eval e X.env)::starEach es X.env)) (hpl:@&((backTo pos (starEach es X.env)).any (·.1)=false))
  (ht:@&(eval (.Call (.Attribute (.Name x p) m apos) (e::es) [] pos) X.env=(do
   let ov <-eval (.Name x p) X.env
   standAt apos.atName
   let(f,first) <-holding [ov] (getMethod ov m pl)
   callWith pos f first (backTo pos (starEach (e::es) X.env)) (backToKw pos (keywordEach [] X.env))))) :
  PE X (.Call (.Attribute (.Name x p) m apos) (e::es) [] pos) (a2J sp JL E t):=by
 intro Y s σ H Q I h;show PySem.W.methodCall_KW (pl:=pl) (zZ I hg hm ?_ hdb) ht;let⟨mc,hrd,hf⟩:=c.rd;show PySem.W.method_cls I.Cq c.ga (PySem.W.cls_value I.Cq hrd hf Z ?_);let I1:bF X Y σ H { s with toks:=s.toks+1}:=I.tok _;show M7 (first:=[]) (h₀:=X.base) I.ok.mod.kin c.kp (jr (ha pos Y _ σ H _ I1 h) λus s2 ⟨vs,H2,I2,r,q2⟩=>⟨I2.Cq,VG F hr hb hd hx I2 r q2⟩) hst hpl
end
noncomputable def pK(t:Int×Int):aS:=[.inl t.1,.inl t.2]
def Ņ{s t:Int×Int}(h:pK s=pK t):s=t:=by
 unfold pK at h;injection h with h1 h2
 injection h2 with h2 _
 injection h1 with h1
 injection h2 with h2
 show Prod.ext h1 h2
end L2
namespace Dy
open PyProof.Rows
variable{prog:Program}{w:World}{A:Around}
def vU:entryFor table "dict.update.loop" = some Builtin.«dict.update.loop» := entryFor_of_tree (by kernel_rfl)
def kJ:plainId "dict.update.loop" = true:=by decide
def ZD:typeLookup (.type "list") "keys" = pure none:=Vh (by kernel_rfl)
section
variable{E:∅}{s:Shared}
def ZF{a:Addr}{o:Obj}{xs:Array Value}{k:Nat}{Q:Option Value->Shared->Prop}(hx:s^^^a=some o)(hc:o.cls=.type "list")(hdat:o.data=.seq xs k)(hd:o.dict=none)(hA:A.handled=none)
  (h:∀h' tk,(∀b o,s^^^b=some o->h'.get? b=some o)->Q none { s with heap:=h',toks:=tk}):∎ (getAttr? (.ref a) "keys") Q E s:=by
 let⟨c,dct,dat,sl⟩:=o;simp only at hc hdat hd;subst hc hdat hd;let⟨hp,g,d,tk,os⟩:=s;let hT:∀tk',(⟨hp,g,d,tk',os⟩:Shared).TypeIs (.ref a) "list" := λ_=>⟨_,hx,Z⟩;let f1:=sub_AttributeError;let f3:=F.slot_list_getattribute.lookup;let f4:=F.slot_list_getattribute.bind (.ref a);let f5:=am_list_getattr_none;unfold getAttr? getAttrBy? getAttrBy;repeat (any_goals (first|assumption|exact hT _|((with_reducible show wpAny _ _ (call (Value.builtin "list.__getattribute__") _ _) _ _ _);show zp F.slot_list_getattribute (hT _) am_entry_list_getattribute (F.args_list_getattribute_2 _ _) (meets_getattribute_miss_list a xs k sl "keys" _ ZD ()) ⟨hx,hA,λh' tk' e hx'=>?_⟩)|wp_step))
 let⟨t',u',he⟩:=hx'.there;show wpAny _ _ (getattributeRaised _ _ _ _ _ _ _) _ _ _;unfold getattributeRaised;repeat (any_goals (first|assumption|wp_step))
 show h _ _ hx'.of.keeps
end
section
variable{R:Result->Shared->Prop}{I:Addr}{fp wr:aI}{G:Array GenState->Array GenState->Prop}{n:Nat}{P:Nat->Value->Prop}{St:Nat->Shared->Prop}{κ:Type} [DecidableEq κ] {knd:HeapKind prog w κ}
def Ib{L:List (κ×Addr×Value)}(nd:(L.map (·.1)).Nodup){i:Nat}{x:κ×Addr×Value}(hx:L[i]?=some x):atKey (L.take i) x.1=none:=by
 unfold atKey;let:(L.take i).find? (λy=>decide (y.1=x.1))=none:=by
  rw[CN];intro y hy;simp only[decide_eq_true_eq];intro e;let⟨j,hj⟩:=Ul.mp hy;rw[List.getElem?_take]at hj;by_cases q:j<i
  ·rw[aD q]at hj;let:=idxH_unique (xs:=L) nd (i:=j) (j:=i) (k:=x.1) (p:=y.2) (q:=x.2) () (by rw[hx]);omega
  ·rw[aA q]at hj;show nomatch hj
 rw[this];rfl
def fill(W:WalksS prog w A.in1 I fp wr G n P St)(d:Addr)(nf:d∉fp)(L:List (κ×Addr×Value))(hn:L.length=n)(nd:(L.map (·.1)).Nodup)(bs:Nat->Addr)(hv:∀i v,i<n->P i v->v=.ref (bs i))
  (Kp:Heap->Prop) (kpS:∀h h',Kp h->Heap.SameBut d h h'->Kp h') (kpM:∀s s':Shared,Kp s.heap->Moved wr G s s'->Kp s'.heap)
  (hT:∀h i x,Kp h->L[i]?=some x->knd.is h x.1 x.2.1/\IsTup h (bs i) #[.ref x.2.1,x.2.2]) (hu:knd.room A.in1) (hz:n<=sizeLine) :
  ∀(k i:Nat) (s:Shared) (j:Int) (t:Tok),n-i=k->i<=n->St i s->s.heap.DictOfH knd d (L.take i)->Kp s.heap->
   (∀s',Moved (d::wr) G s s'->s'.heap.DictOfH knd d L->Kp s'.heap->R (.ok (.ret .none)) s')->
   codeAny (model prog w) A (.builtin "dict.update.loop" ⟨[.ref d,.ref I,.int j t,.none],[]⟩) R s:=by
 let nw:d∉wr:=λh=>nf (W.sub _ h);let up:∀b∈wr,b∈d::wr:=λb hb=>bH _ hb;let a2O:∀(s s':Shared) (i:Nat),Moved wr G s s'->Kp s'.heap->s.heap.DictOfH knd d (L.take i)->s'.heap.DictOfH knd d (L.take i):=λs s' i hm kp z=>by
  let⟨o,es,ep,ho,hc,hd,he,his,hnn⟩:=z;show⟨o,es,ep,hm.heap d o nw ho,hc,hd,he,λx hx=>by
   let⟨j,hj⟩:=Ul.mp (j6 hx);show(hT _ j x kp hj).1,hnn⟩
 intro k
 induction k with
 |zero =>
  intro i s j t hk hi st hD kp hR;obtain rfl:i=n:=()
  show jU vU ?_;rw[j5 kJ _];show wpAny _ A.in1 (pyNext (.ref I) >>= _) _ _ s;show M (W.done s _ _ st λs' hm=>?_);let kp':=kpM _ _ kp hm;let hD':=a2O _ _ _ hm kp' hD;rw[<-hn,gJ]at hD';show wpAny _ _ (Builtin.Dict.addKeywords d [] >>= _) _ _ _;show M (ao (ao (hR s' (hm.mono up) hD' kp')))
 |succ k ih =>
  intro i s j t hk hi st hD kp hR;let li:i<n:=()
  obtain⟨x,hx⟩:∃x,L[i]?=some x:=⟨L[i]'(),bO _⟩;show jU vU ?_;rw[j5 kJ _];show wpAny _ A.in1 (pyNext (.ref I) >>= _) _ _ s;show M (W.item i s _ _ li st λv s' hP st' hm=>?_);obtain rfl:=hv i v li hP;let kp':=kpM _ _ kp hm;let hD':=a2O _ _ _ hm kp' hD;let⟨hk1,hk2⟩:=hT _ i x kp' hx;let⟨ob,hb,hcl,m,hdat⟩:=id hk2;let hTy:s'.TypeIs (.ref (bs i)) "tuple" :=⟨_,hb,hcl⟩;show M (eG (M (wpAny_tryCatch ?_)));unfold Builtin.Dict.pairItems;show M (rQ hTy ?_);let e1:((Value.type "tuple" == Value.type "list")||(Value.type "tuple" == Value.type "tuple"))=true:=()
  rw[aD e1];show M (qG hb hdat (ao ?_));show wpAny _ _ (holding [Value.ref x.2.1,x.2.2] (dictSet d (.ref x.2.1) x.2.2)) _ _ _;show eG (UW (hsz:=by rw[dN];omega) hu hk1 hD' λh' hD2 sb=>?_);let hD3:h'.DictOfH knd d (L.take (i+1)):=by
   rw[storedH_new (Ib nd hx)]at hD2;rw[List.take_add_one,hx];show hD2
  show ao ⟨lU kJ _,ih (i+1) _ _ _ () li (W.frame _ s' _ _ st' (GZ _ _) λc hc o e=>?_) hD3 (kpS _ _ kp' sb) λs2 hm2 h2 h3=>hR s2 (Moved.trans W.gtrans ((hm.mono up).then_heap (GZ _ _) λc o hc e=>?_) hm2) h2 h3⟩
  ·rw[sb.2 c (λq:c=d=>nf ())];show e
  ·rw[sb.2 c (λq:c=d=>hc ())];show e
end
section
variable{E:∅}{s:Shared}{κ:Type} [DecidableEq κ] {knd:HeapKind prog w κ}
def ZG(h:Heap):(h.push { cls:=.type "dict",data:=.dict #[]}).DictOfH knd h.objs.size [] :=
 ⟨_,#[],_,cB _ Z,⟨Z,Z,Z⟩,Z,Z,λx hx=>absurd hx (by simp),vH⟩
def a1g{l:Addr}{o:Obj}{items:Array Value}{m:Nat}{L:List (κ×Addr×Value)}{bs:Nat->Addr}{Q:∅}(hh:A.handled=none)(hu:knd.room A.in1.in1)
  (hx:s^^^l=some o) (hc:o.cls=.type "list") (hdat:o.data=.seq items m) (hd:o.dict=none) (hn:L.length=items.size) (nd:(L.map (·.1)).Nodup) (hz:items.size<=sizeLine)
  (hv:∀(i:Nat) (v:Value),items[i]?=some v->v=.ref (bs i))
  (hT:∀(h:Heap) (i:Nat) (x:κ×Addr×Value),(∀b ob,s^^^b=some ob->h.get? b=some ob)->L[i]?=some x->knd.is h x.1 x.2.1/\IsTup h (bs i) #[.ref x.2.1,x.2.2])
  (h:∀(h':Heap) (tk:Nat),h'.DictOfH knd s⁻¹ L->(∀b ob,s^^^b=some ob->h'.get? b=some ob)->Q (.ref s⁻¹) { s with heap:=h',toks:=tk}) :
  ∎ (call (.type "dict") [.ref l]) Q E s:=by
 show callType_codes (Q₁:=λobj s₁=>obj=.ref s⁻¹/\s₁=(s•s.heap.push { cls:=.type "dict",data:=.dict #[]})) PySem.F.kt_called_dict (ø _) PySem.F.entry_dict_init (kt_code_dict_new _ ⟨rfl,rfl⟩) ?_;rintro obj s₁ ⟨rfl,rfl⟩;let hnew:(s.heap.push { cls:=.type "dict",data:=.dict #[]}).DictOfH knd s⁻¹ []:=ZG s.heap;let hTd:Shared.TypeIs (s•s.heap.push { cls:=.type "dict",data:=.dict #[]}) (.ref s⁻¹) "dict" :=⟨_,cB _ rfl,rfl⟩;let hx1:(s.heap.push { cls:=.type "dict",data:=.dict #[]}).get? l=some o:=bM _ hx;let hTl:Shared.TypeIs (s•s.heap.push { cls:=.type "dict",data:=.dict #[]}) (.ref l) "list" :=⟨_,hx1,hc⟩;show⟨hTd,ÿ _ _,?_⟩;unfold Builtin.«dict.__init__»;show M ?_;unfold Builtin.Dict.selfAndRest;show M (Cz hTd ?_);show wpAny _ _ (pure (s⁻¹,[Value.ref l])) _ _ _;show ao ?_;show wpAny _ _ (Builtin.Dict.updateFrom "dict.__init__" s⁻¹ (.ref l) [] .none) _ _ _;unfold Builtin.Dict.updateFrom;show M (rQ hTl ?_);rw[aD ()];show M (ZF hx1 hc hdat hd (by simp[hh]) λh1 tk1 k1=>?_);simp only[Option.isNone_none,if_true];show M (j9 ?_);let ll:l<s⁻¹:=bw hx;let g1:h1.get? s⁻¹=some { cls:=.type "dict",data:=.dict #[]}:=k1 _ _ (cB _ Z);let g2:h1.get? l=some o:=k1 _ _ hx1;let dl:s⁻¹<h1.objs.size:=bw g1;let hl1:h1.IsList l items:=⟨_,g2,hc,m,hdat⟩;show M (vC (s:={ s with heap:=h1,toks:=tk1}) hl1 ?_);let hh3:A.in1.in1.handled=none:=by simp[hh]
 let ni:l≠h1.objs.size:=b7 (rR ll dl);let nf:s⁻¹∉[h1.objs.size,l]:=by
  simp only[List.mem_cons,List.not_mem_nil,or_false,not_or];show⟨b7 dl,iU ll⟩
 show ao ⟨lU kJ _,?_⟩;show fill (knd:=knd) (n:=items.size) ((Walks.list hh3 _ l ni items).toS) s⁻¹ nf L hn nd bs (λi v _ hp=>hv i v hp)
  (λh2=>∀b ob,s^^^b=some ob->h2.get? b=some ob) (λh2 h3 kp sb b ob e=>?_) (λs2 s3 kp hm b ob e=>?_) (λh2 i x kp e=>hT h2 i x kp e) hu hz items.size 0 _ _ _ () (dG _)
  ⟨⟨_,cB _ Z,Z,Z⟩,(hl1.push _)⟩ ?_ ?_ ?_
 ·rw[sb.2 b (b7 (bw e))];show kp b ob e
 ·show hm.heap b ob ?_ (kp b ob e);simp only[List.mem_cons,List.not_mem_nil,or_false];show λq=>absurd q (b7 (rR (bw e) dl))
 ·show⟨_,#[],_,bM _ g1,⟨Z,Z,Z⟩,Z,by rw[NQ];rfl,λx hx=>absurd hx (by simp),by rw[NQ];show vH⟩
 ·show λb ob e=>bM _ (k1 b ob (bM _ e))
 ·intro s' hm hD kp;let⟨h',g',d',tk',os'⟩:=s';let eg:g'=s.gens:=hm.gens;let ed:d'=s.drawn:=hm.drawn;let eo:os'=s.os:=hm.os;subst eg;subst ed;subst eo;show⟨Z,h h' tk' hD kp⟩
end
end Dy
namespace L2
open PyProof.Rows
def a6A{c:Prop} [Decidable c] {a b:Prop} (hc:c) (h:a):if c then a else b:=by grind
def xj{c:Prop} [Decidable c] {a b:Prop} (hc:¬c) (h:b):if c then a else b:=by grind
def Dv{prog:Program}{w:World}{A:Around}{E:∅}{s:Shared}{l:Addr}{items:Array Value}{Q:aw->Shared->Prop}(hd:A.handled=none)(hl:s.heap.IsList l items)
  (h:∀h',(∀b o,b≠s⁻¹->s^^^b=some o->h'.get? b=some o)->Q items.toList (s•h')):∎ (unpackItems (.ref l) items.size none) Q E s:=by
 let hl0:=hl;let⟨o,e,c,d⟩:=hl;unfold unpackItems notIterableAtAll;show M (M (Hf (T:="list") ⟨_,e,c⟩ F.slot_list_iter.lookup (jG (a6A Z (ao (jG (xj cL (M (eG (vC hl0 ?_))))))))));lk;show M (eG ?_);let hn:l≠s⁻¹:=λz=>by
  let hlt:=bw e;show absurd z (b7 hlt)
 let e1:∀(h':Heap),(∀b o,b≠s⁻¹->s^^^b=some o->h'.get? b=some o)->h'.IsList l items:=λh' k=>⟨o,k _ _ hn e,c,d⟩;show PySem.W.kun_draw hn items.size 0 _ _ ⟨_,cB _ Z,Z,Z⟩ (e1 _ λb o _ z=>bM _ z) () λh' st sb=>?_;let k1:∀b o,b≠s⁻¹->s^^^b=some o->h'.get? b=some o:=λb o hb z=>(sb.2 b hb).trans (bM _ z);let et:List.take items.size (List.drop 0 items.toList)=items.toList:=by rw[Vl];show yP (by simp)
 rw[et];show jG (xj (by simp) (M (eG (wpAny_pyNext_list_end hd st (e1 _ k1) (by simp) λh2 eb=>jG (xj (by simp) (ao (h h2 λb o hb z=>eb b o hb (k1 b o hb z))))))))
section
variable{X:Cx}{pos:Pos}
inductive a2P(K:aH)(n:Nat)(t:Ć)(v:V)(σ:St)(H:Hp)(Q:St->Hp->Prop):Prop
 |mk (a xs:_) (_:v=.ref a) (_:bB K H a xs) (_:xs.length=n) (_:t xs σ H Q)
def a1h{es:ba}{k:Nat}{t:Ć}{n:Nat}(hc:X.calm=true)(h:PGs X es t)
  (hn:@&((assignEach es X.env).length=n)) (hst:@&((assignEach es X.env).findIdx? (·.1)=none)):PG X (.Tuple es k pos) (a2P X.K n t):=by
 intro Y s σ H v u Q I r hw;let⟨a,xs,e1,hq,hl,hw⟩:=hw;subst e1;cases r;let⟨bY,rv,p,hz⟩:=I.list hq;rw[assign_Tuple];show M (NT ?_);unfold unpack;show M (eG ?_);let e2:(assignEach es X.env).length=bY.toArray.size:=by simp[hn,<-hl,rv.length]
 rw[hst,e2];show Dv (I.ok.hd hc) p.isList λh' k=>?_;let hi:=I.Fq (aK s⁻¹) (I.hok.fresh (aK _));let⟨f0,f1,f2,f3,f4,f5⟩:=hi;let I1:bF X Y σ H (s•h'):=I.turned (t':=s.toks) k f0 f1 f3 f4 f5;show h Y _ σ H xs _ Q I1 (by simpa using rv) hw
def Rm{K:aH}{es:ba}{k:Nat}{t:Ć}{n:Nat}(e:X.K=K)(hc:X.calm=true)(h:PGs X es t)
  (hn:@&((assignEach es X.env).length=n)) (hst:@&((assignEach es X.env).findIdx? (·.1)=none)):PG X (.Tuple es k pos) (a2P K n t):=by subst e;show a1h hc h hn hst
end
end L2
namespace Dq
open PyProof.Rows
variable{I:Addr}{o:Obj}{es:Array DictEntry}{ep:Nat}
variable{prog:Program}{w:World}{A:Around}{E:∅}{s:Shared}
abbrev kO(d:Addr)(i n ep:Nat):Obj:={ cls:=.type "dict_keyiterator",data:=.fields #[.ref d,.int (i:Nat) 0,.int (n:Nat) 0,.int (ep:Nat) 0]}
def args_next(a:Value):argsOk "dict_keyiterator.__next__" ⟨[a],[]⟩:=by unfold argsOk;kernel_rfl
def Ym:∃l,mroOf (.type "dict_keyiterator")=pure l/\(["dict_reversekeyiterator","dict_reversevalueiterator","dict_reverseitemiterator"].any λt=>l.contains (Value.type t))=false/\(["dict_keyiterator","dict_reversekeyiterator"].any λt=>l.contains (Value.type t))=true:=⟨_,Z,(),()⟩
def ņ{Q:Bool->Shared->Prop}(hT:s.TypeIs (.ref I) "dict_keyiterator")(h:Q false s):∎ (Builtin.Dict_items.isOneOf (.ref I) ["dict_reversekeyiterator","dict_reversevalueiterator","dict_reverseitemiterator"]) Q E s:=by
 let⟨l,e,n,_⟩:=Ym;unfold Builtin.Dict_items.isOneOf;show M (rQ hT ?_);rw[e];show M (ao (ao ?_));rw[n];show h
def ZJ{Q:Bool->Shared->Prop}(hT:s.TypeIs (.ref I) "dict_keyiterator")(h:Q true s):∎ (Builtin.Dict_items.isOneOf (.ref I) ["dict_keyiterator","dict_reversekeyiterator"]) Q E s:=by
 let⟨l,e,_,n⟩:=Ym;unfold Builtin.Dict_items.isOneOf;show M (rQ hT ?_);rw[e];show M (ao (ao ?_));rw[n];show h
def item_at{d:Addr}{i:Nat}{e:DictEntry}{Q:Option Value->Shared->Prop}(ne:d≠I)(ho:s^^^d=some o)(hd:o.data=.dict es ep)(hI:s^^^I=some (kO d i es.size ep))(hx:es[i]?=some e)
  (h:∀h',h'.get? I=some (kO d (i+1) es.size ep)->Heap.SameBut I s.heap h'->Q (some e.key) (s•h')):∎ (pyNext (.ref I)) Q E s:=by
 let hT:s.TypeIs (.ref I) "dict_keyiterator" :=⟨_,hI,Z⟩;unfold pyNext;show M (uh (nD (name:=Str.ofString "__next__") hT Mr (gG Mr hT ð ?_ (args_next _))));unfold Builtin.«dict_keyiterator.__next__»;show M (m:=Builtin.Dict_items.slot0 "__next__" _) (ao ?_);lk;show M (M (M (m:=typeNameOfWhole _) (Mp hT ?_)));rw[show(if Builtin.Dict_items.ownsTuple "dict_keyiterator" = true then 2 else 0)=0 from rfl];show ao (M (CV hI Z ?_));show wpAny _ _ (if(Value.ref d==Value.none)=true then _ else _) _ _ _;show jG (L2.xj (by simp) (M (m:=Builtin.Dict_items.addrOf _) (ao (M (rN ho hd (jG (L2.xj (by simp) (M (m:=Builtin.Dict_items.addrOf _) (ao (M (wV ho hd (jG (L2.xj (by simp) (ao ?_))))))))))))));lk;let e1:(if(i:Int)<0 then none else es[(i:Int).toNat]?)=some e:=by
  rw[aA (),jf];show hx
 rw[e1];lk;show M (M (m:=typeNameOfWhole _) (Mp hT ?_));rw[show(if Builtin.Dict_items.ownsTuple "dict_keyiterator" = true then 2 else 0)=0 from rfl];show ao (M (ņ hT (M (j8 hI (by simp) λh1 hI1 Q7=>?_))));let hT1:Shared.TypeIs (s•h1) (.ref I) "dict_keyiterator" :=⟨_,hI1,rfl⟩;show M (eG (M (ZJ hT1 (jG (L2.a6A Z (ao (ao ⟨_,Z,ao (h h1 ?_ Q7)⟩)))))));rw[hI1];simp[rawInt]
def HY{d:Addr}{Q:Option Value->Shared->Prop}(hh:A.handled=none)(ne:d≠I)(ho:s^^^d=some o)(hd:o.data=.dict es ep)(hI:s^^^I=some (kO d es.size es.size ep))
  (h:∀h',Heap.ExtBut I s.heap h'->Q none (s•h')):∎ (pyNext (.ref I)) Q E s:=by
 let hT:s.TypeIs (.ref I) "dict_keyiterator" :=⟨_,hI,Z⟩;unfold pyNext;show M (uh (nD (name:=Str.ofString "__next__") hT Mr (gG Mr hT ð ?_ (args_next _))));unfold Builtin.«dict_keyiterator.__next__»;show M (m:=Builtin.Dict_items.slot0 "__next__" _) (ao ?_);lk;show M (M (M (m:=typeNameOfWhole _) (Mp hT ?_)));rw[show(if Builtin.Dict_items.ownsTuple "dict_keyiterator" = true then 2 else 0)=0 from rfl];show ao (M (CV hI Z ?_));show wpAny _ _ (if(Value.ref d==Value.none)=true then _ else _) _ _ _;show jG (L2.xj (by simp) (M (m:=Builtin.Dict_items.addrOf _) (ao (M (rN ho hd (jG (L2.xj (by simp) (M (m:=Builtin.Dict_items.addrOf _) (ao (M (wV ho hd (jG (L2.xj (by simp) (ao ?_))))))))))))));lk;let e1:(if(es.size:Int)<0 then none else es[(es.size:Int).toNat]?)=none:=by
  rw[aA (),jf];simp
 rw[e1];lk;show M (M (m:=typeNameOfWhole _) (Mp hT ?_));rw[show(if Builtin.Dict_items.ownsTuple "dict_keyiterator" = true then 2 else 0)=0 from rfl];show ao (M (j8 hI (by simp) λh1 hI1 Q7=>M ?_));simp only[newExc,newTuple];show M (jT ?_ (by size_fits));show M (m:=firstArgMember _ _) (Hq (a:=Value.none) (by first|rfl|(simp only[firstArgMember];rfl)) ?_);show jT ?_ (by size_fits);simp only[raiseNew];show M (N6 ?_);rw[show A.in1.handled=none from hh];show M (ao (Oe ?_));show M (vG (U:="StopIteration") (T:="StopIteration") (b:=true) ⟨_,cB _ Z,Z⟩ Hh (ao (h _ ((Q7.extBut.push _).push _))))
def Az{d:Addr}{Q:∅}(hs:(d==sysModules)=false)(ho:s^^^d=some o)(hx:o.ExactDict)(hd:o.data=.dict es ep)
  (h:Q (.ref s⁻¹) (s•s.heap.push (kO d 0 es.size ep))):∎ (pyIter (.ref d)) Q E s:=by
 let hT:s.TypeIs (.ref d) "dict" :=⟨_,ho,hx.1⟩;show Nh hT F.slot_dict_iter (gG F.slot_dict_iter hT F.entry_dict_iter ?_ (F.args_dict_iter_1 _));unfold Builtin.«dict.__iter__»;show M ?_;unfold Builtin.Dict.dictSlotNone;show M (Cz hT (M (m:=slotArgs "__iter__" 0 _) (ao (ao (M (m:=Builtin.Dict.addrOf _) (ao (M ?_)))))));unfold Builtin.Dict.showsAll;show jG (L2.xj () (ao (M (rN ho hd (M (wV ho hd (M ?_)))))));unfold newFields;show jT (ao ⟨_,Z,"dict_keyiterator",_,⟨_,cB _ Z,Z⟩,F.slot_dict_keyiterator_next.lookup,h⟩)
end Dq
namespace L2
open PyProof.Rows
section
variable{X:Cx}{Y:aE}{σ:St}{H:Hp}{s:Shared}{d:Addr}{J:List (Key×V)}
def bF.O9{o o':HO}(I:bF X Y σ H s)(e:H d=some o)(nt:∀xs,o≠.tup xs)(no:∀y,o≠.own y)(nb:∀ps,o≠.tbl ps)(nf:∀b u,X.H₀ d≠some (.iw b u))(q:fB X.prog X.w H s.heap d o'):bF X Y σ (cX H d o') s:=by
 let ne:∀b,H b=none->b≠d:=λb n z=>by rw[z,e]at n;cases n
 let nn:∀b,H b=none->cX H d o' b=none:=λb n=>by rw[aQ (ne b n)];show n
 let ho:∀b c,H b=some (.own c)->cX H d o' b=some (.own c):=λb c r=>by
  rw[aQ]
  ·show r
  ·intro z;rw[z,e]at r;show no c (dO r)
 let ht:∀b xs,H b= ~~~xs->cX H d o' b= ~~~xs:=λb xs r=>by
  rw[aQ]
  ·show r
  ·intro z;rw[z,e]at r;show nt xs (dO r)
 show⟨I.ok,I.os,I.bare,⟨I.base.keep,I.base.slot,λb ob q1 q2 q3=>nn b (I.base.free b ob q1 q2 q3),I.base.there,λb xs r=>ht b xs (I.base.tups b xs r),λb ob u r=>?_,λb ps r=>?_⟩,I.loc,I.cell,nn _ I.free,λx c r=>nn c (I.rT x c r),λp hp=>?_,λb u r=>?_,I.len⟩
 ·rw[aQ]
  ·show I.base.Hu b ob u r
  ·intro z;rw[z]at r;show nf ob u r
 ·let⟨m,r1⟩:=I.base.Oh b ps r;show⟨m,?_⟩;rw[aQ]
  ·show r1
  ·intro z;rw[z,e]at r1;show nb _ (dO r1)
 ·let⟨p1,p2,p3⟩:=I.pin p hp;show⟨p1,nn _ p2,p3⟩
 ·by_cases c:b=d
  ·subst c;rw[dw]at r;cases r;show q.stay (λ_ _ _ z=>z) (λc r=>ho c b r) ht
  ·rw[aQ c]at r;show(I.hok b u r).stay (λ_ _ _ z=>z) (λc r=>ho c b r) ht
def bF.Rn{o:HO}(I:bF X Y σ H s)(e:H d=some o)(nf:∀b u,o≠.iw b u):∀b u,X.H₀ d≠some (.iw b u):=λb u z=>by
 let:=I.base.Hu d b u z;grind
def bF.Pa{o:Obj}{u:HO}(I:bF X Y σ H s)(nf:∀b u,X.H₀ d≠some (.iw b u))(e:H d=some (.iw o u)):bF X Y σ (cX H d u) s:=by
 let⟨_,q⟩:=I.hok d _ e;show I.O9 e (λ_ z=>by cases z) (λ_ z=>by cases z) (λ_ z=>by cases z) nf q
end
end L2
namespace L2
open PyProof.Rows Bg
noncomputable def Itp(o:Obj)(d:Addr)(u:HO)(as:aI):It :=
 ⟨λi H=>H d=some (.iw o u)/\i<as.length,λi H x H'=>H'=H/\(as.map V.ref)[i]?=some x,λi H=>H d=some (.iw o u)/\i=as.length⟩
def Wq{P:Program}{w:World}{K:aH}{tg:Expr}{o:Obj}{u:HO}(d it:Addr){as:aI}{es:Array DictEntry}{ep:Nat}(hd:o.data=.dict es ep)(ek:es.toList.map (·.key)=as.map Value.ref) :
  Turn P w K tg (Itp o d u as) [it] it (λi h=>h.get? it=some (Dq.kO d i es.size ep)) where
 mem:=by simp
 obj:=λi h st b hb=>by
  grind
 keep:=λi h h' st k=>k it (by simp) _ st
 item:=by
  intro X hP hw hK hc i Y s σ H E I hf st hg
  subst hP hw hK
  let⟨hq,hi⟩:=hg
  let⟨hd1,_⟩:=I.hok d _ hq
  let⟨f0,f1,f2,f3,f4,f5⟩:=hf it (by simp)
  let ne:d≠it:=λz=>by grind
  let lz:es.size=as.length:=by let:=congrArg List.length ek;grind
  let he:es[i]?=some (es[i]'()):=yN ()
  let a4p:(es[i]'()).key=Value.ref as[i]:=by
   let:=congrArg (λl=>l[i]?) ek
   try dsimp only at this
   rw[cV,cV,GJ,he,bO hi]at this
   show dO this
  show Dq.item_at ne hd1 hd st he λh' hI sb=>?_
  let I1:bF X Y σ H (s•h'):=I.turned (t':=s.toks) (λb o hb e=>(sb.2 b hb).trans e) f0 f1 f3 f4 f5
  show⟨_,Z,Xx (s:=(s•h')) hI rfl rfl () ⟨.ref as[i],H,I1,a4p,⟨rfl,by rw[cV,bO hi];rfl⟩,hI,λb hb=>(hf b hb).1⟩⟩
 done:=by
  intro X hP hw hK hc i Y s σ H E I hf st hg
  subst hP hw hK
  let⟨hq,hx⟩:=hg
  let⟨hd1,_⟩:=I.hok d _ hq
  let⟨f0,f1,f2,f3,f4,f5⟩:=hf it (by simp)
  let ne:d≠it:=λz=>by grind
  let lz:es.size=as.length:=by let:=congrArg List.length ek;grind
  rw[hx,<-lz]at st
  show Dq.HY (I.ok.hd hc) ne hd1 hd st λh' eb=>⟨Z,I.turned (t':=s.toks) (λb o hb e=>eb b o hb e) f0 f1 f3 f4 f5⟩
 self:=λ_ _ _ _ _ st h=>wpAny_pyIter_keyiter ⟨_,st,Z,Z⟩ h
end L2
namespace L2
open PyProof.Rows Bg X7
section
variable{X:Cx}
inductive a8j(x:V)(y:V)(H:Hp)(Q:VK):Prop
 |mk (b a:Addr) (k:aS) (J:List (aS×V)) (_:x=.ref b) (_:y=.ref a) (_:H b= ~~~(k.map kV)) (_:H a=some (.dT J)) (_:Q (.bl (dI J k).isSome) H)
def Ň(hu:X.A.units+1<cLine):qQ X (compareOp .In) a8j:=by
 intro Y s σ H x y v u Q I rx ry h;let⟨b,a,t,ts,rfl,rfl,hb,e,q⟩:=h;obtain rfl:u=Value.ref a:=ry;show a8i hu I (Fv.t e hb) rx λs3 I3=>⟨.bl _,H,I3,Z,q⟩
inductive a6B(o:V)(i:V)(v:V)(H:Hp)(Q:Hp->Prop):Prop
 |mk (a b:Addr) (k:aS) (J:List (aS×V)) (_:o=.ref a) (_:i=.ref b) (_:H b= ~~~(k.map kV)) (_:H a=some (.dT J)) (_:J.length<=5000) (_:∀H',tH H a (.dT (putK J k v)) H'->Q H')
def uU(hu:X.A.units+1<cLine):a5M X a6B:=by
 intro Y s σ H o i v ov iv u Q I ro ri rv h;let⟨a,b,t,ts,rfl,rfl,hb,e,z,q⟩:=h;obtain rfl:ov=Value.ref a:=ro;show Zz hu I (a1b.t e hb (M9 z ())) ri rv λs' I'=>⟨_,I',q _ tH.nC⟩
def ň{P:Program}{w:World}{H':Hp}{h':Heap}{a:Addr}{J:List (aS×V)}{xs:List (aS×Addr×Value)}(z:J.length<=sizeLine)(hd:(a==sysModules)=false)(rel:KT H' J xs)(dd:h'.DictOfH (tupleKind (eX P w)) a xs) :
  fB P w H' h' a (.dT J):=by
 let⟨o,es,ep,h1,h2,h3,h4,_,h5⟩:=dd;show⟨z,hd,xs,rel,o,es,ep,h1,h2,h3,h4,h5⟩
end
section
variable{X:Cx}{tg:Expr}
def a4q(t:TE):TE:=λσ H Q=>t σ H λv H1=>∃d o J kvs',H d=some (.dT kvs')/\H1 d=some (.iw o (.dT J))/\Q v (cX H1 d (.dT J))
def Ŋ{e:Expr}{t:TE}(h:PE X e t):PE X e (a4q t):=by
 intro Y s σ H Q I q;show jr (h Y s σ H _ I q) λv s1 z=>?_;let⟨x,H1,I1,r1,d,o,ts,ts',e0,e1,q1⟩:=z;show⟨x,_,I1.Pa (I.Rn e0 λ_ _ z=>by cases z) e1,r1,q1⟩
def a1i(t:TS):TS:=λD σ H=>t { D with nx:=λσ1 H1=>∃d o J kvs',H d=some (.dT kvs')/\H1 d=some (.iw o (.dT J))/\D.nx σ1 (cX H1 d (.dT J))} σ H
def uV{st:Stmt}{t:TS}(h:PS X st t):PS X st (a1i t):=by
 intro Y s σ H D I q;show jr (h Y s σ H _ I q) λf s1 z=>?_;cases f with
 |next =>
  let⟨σ1,H1,I1,d,o,J,kvs',e0,e1,q1⟩:=z;show⟨σ1,_,I1.Pa (I.Rn e0 λ_ _ z=>by cases z) e1,q1⟩
 |ret u=>show z
 |brk=>show z
 |cont=>show z
inductive PrL(H:Hp)(v:V)(kv:aS×V):Prop
 |mk (p kp:_) (_:v=.ref p) (_:H p= ~~~[.ref kp,kv.2]) (_:H kp= ~~~(kv.1.map kV))
inductive a4r(K:aH)(xs:af)(H:Hp)(Q:VK):Prop
 |mk (l:Addr) (vs:af) (J:List (aS×V)) (_:xs=[.ref l]) (_:H l=↥vs) (_:Paired (PrL H) vs J) (_:(J.map (·.1)).Nodup) (_:∀p H',iH H p (.dT J) H'->Q (.ref p) H')
def a4s{P:Program}{w:World}{H:Hp}{h:Heap}(hok:xW P w H h):∀{vs:af}{J:List (aS×V)}{bY:aw},Paired (PrL H) vs J->cN vs bY->
  ∃(L:List (aS×Addr×Value)) (bs:aI),bY=bs.map Value.ref/\KT H J L/\Paired (λ(b:Addr) (x:aS×Addr×Value)=>IsTup h b #[.ref x.2.1,x.2.2]) bs L:=by
 intro vs J bY hp
 induction hp generalizing bY with
 |nil=>intro hv;cases hv;show⟨[],[],Z,.nil,.nil⟩
 | @cons v kv vs J a t ih =>
  intro hv;cases hv with
  | @cons _ u _ us ru rus =>
   let⟨L,bs,e,kt,pt⟩:=ih rus;let⟨p,kp,rfl,hp,hk⟩:=a;obtain rfl:u=Value.ref p:=ru;let⟨_,its2,r2,tp⟩:=(show fB P w H h p (.tup [.ref kp,kv.2])from hok p _ hp);cases r2 with
   | @cons _ u1 _ us1 q1 q2 =>
    obtain rfl:u1=Value.ref kp:=q1;cases q2 with
    | @cons _ u2 _ us2 q3 q4 =>
     cases q4;show⟨(kv.1,kp,u2)::L,p::bs,by rw[e];rfl,.cons ⟨Z,hk,q3⟩ kt,.cons tp pt⟩
def Wr{K:aH}(ek:X.K=K)(cm:X.calm=true)(hu:X.A.units+2<cLine):jE X (.type "dict") (a4r K):=by
 subst ek;intro Y s σ H xs us Q I r h;let⟨l,vs,J,rfl,hL,pr,nd,q⟩:=h;let⟨u,rfl,rx⟩:=vals1 r;cases rx;let⟨z,bY,n,rv,ol⟩:=(show fB X.prog X.w H s.heap l (.lst vs)from I.hok l _ hL);let⟨L,bs,rfl,kt,pt⟩:=a4s I.hok pr rv;let ln:L.length=bs.length:=(aU pt).symm;let lv:vs.length=bs.length:=by let:=rv.length;grind
 let lk:J.length=vs.length:=(aU pr).symm;let ek:J.map (·.1)=L.map (·.1):=by
  clear nd pr pt ln lk q
  induction kt with
  |nil=>rfl
  |cons a b ih=>grind
 let hr:(tupleKind (eX X.prog X.w)).room X.A.in1.in1:=by
  show X.A.in1.in1.units<cLine;show X.A.units+1+1<cLine;show hu
 show Dy.a1g (knd:=tupleKind (eX X.prog X.w)) (L:=L) (bs:=λi=>bs.getD i 0) (I.ok.hd cm) hr ol Z Z Z (by rw[gV,aJ];show ln) (by rw[<-ek];show nd) (by rw[gV,aJ];omega) (λi v hv=>?_) (λh i x kp hx=>?_) λh' tk dd kp=>?_
 ·rw[Um,cV]at hv;cases c:bs[i]? with
  |none=>rw[c]at hv;show nomatch hv
  |some b =>
   rw[c]at hv;rw[gB,c];show(dO hv).symm
 ·constructor
  ·let⟨kv,hkv,a1,a2,a3⟩:=cI kt hx;let⟨o,bY,n,h1,h2,h3,h4⟩:=xg I.hok a2;rw[<-a1];show⟨o,bY,n,kp _ _ h1,h2,h3,h4⟩
  ·let⟨b,hb,o,h1,h2⟩:=cI pt hx;rw[gB,hb];show⟨o,kp _ _ h1,h2⟩
 ·let hf:H s⁻¹=none:=I.hok.fresh (aK _);let hs:(s⁻¹==sysModules)=false:=qC.mpr (Ne.symm (b7 I.big));show⟨.ref s⁻¹,_,I.laid (t':=tk) (o:=.dT J) (λb o e=>kp b o e) (aK _) (ň () hs (kt.keeps λc ys ec=>?_) dd),Z,q _ _ (iH.nC hf)⟩;rw[aQ (dR ec hf)];show ec
end
end L2
namespace L2
open PyProof.Rows
def Gk{X:Cx}{Y:aE}{σ:St}{H:Hp}{s:Shared}(I:bF X Y σ H s){h2:Heap}(ch:aI)(fk:∀b∈ch,Dd X Y H b)
  (kp:∀b o,b∉ch->s^^^b=some o->h2.get? b=some o):bF X Y σ H (s•h2):=by
 show I.step (t':=s.toks) (g':=s.gens) (d':=s.drawn) (H':=H) (ch:=ch) (λb hb=>?_) (λb o _ _ hc q _=>kp b o hc q) (λb o _ _ hc q _=>⟨o.slots,kp b o hc q⟩) (λ_ _ _ _ n=>n)
  (λb o hc q=>⟨o,kp b o hc q⟩) (λ_ _ q=>q) (λ_ _ _ q=>q) (λb ps q=>⟨#[],by rw[q];simp⟩) (λm hm=>?_) (λb o q=>?_) I.bare
 ·let⟨f0,f1,f2,f3,f4,f5⟩:=fk b hb;show⟨f3,f1,f4,f5⟩
 ·let⟨o,es,ep,q,r⟩:=hm;show⟨o,es,ep,kp _ o (λz=>(fk _ z).2.1 Z) q,r⟩
 ·let nb:∀c v,H c=some v->c∉ch:=λc v q z=>dR q (fk c z).1 rfl;show(I.hok b o q).stay (λc v hcc r=>kp c v ?_ r) (λ_ q=>q) λ_ _ q=>q;grind
section
variable{X:Cx}{K:aH}
def boot_zip:bootBuiltins "zip" = some (.type "zip"):=by decide
end
end L2
namespace Zd
open PyProof.Rows
def Dw:typeLookup (.type "zip") "__getattr__" = pure none:=Vh (by kernel_rfl)
def JR:typeLookup (.type "zip") "keys" = pure none:=Vh (by kernel_rfl)
def ŋ:entryFor table "zip.__getattribute__" = some Builtin.«object.__getattribute__» := NP (id':="object.__getattribute__") (by kernel_rfl) () () (by kernel_rfl)
def Ws(a:Addr)(fs:Array Value)(u:Tok):Meets (Builtin.«object.__getattribute__» ⟨[.ref a,.str "keys" u],[]⟩) (λA R s=>s^^^a=some { cls:=.type "zip",dict:=none,data:=.fields fs,slots:=#[]}/\raisesAttr (.ref a) "keys" A R s) :=
 Meets.of_wp λprog w A R s hs=>by
  let⟨hp,g,d,tk,os⟩:=s;let⟨hx,hs⟩:=hs;let hT:(⟨hp,g,d,tk,os⟩:Shared).TypeIs (.ref a) "zip" :=⟨_,hx,Z⟩;let hm:=JR;let hname:(["__module__","__name__","__qualname__","__doc__","__annotations__"]:ag).contains "keys" = false:=()
  unfold Builtin.«object.__getattribute__»;repeat (any_goals (first|assumption|wp_step))
  show wpAny_raiseAttrError hs.1 hs.2 (attrMsg_fits () (by size_fits))
section
variable{prog:Program}{w:World}{A:Around}{E:∅}{s:Shared}
def a1j{a:Addr}{fs:Array Value}{Q:Option Value->Shared->Prop}(hx:s^^^a=some { cls:=.type "zip",dict:=none,data:=.fields fs,slots:=#[]})(hA:A.handled=none)
  (h:∀h' tk,(∀b o,s^^^b=some o->h'.get? b=some o)->Q none { s with heap:=h',toks:=tk}):∎ (getAttr? (.ref a) "keys") Q E s:=by
 let⟨hp,g,d,tk,os⟩:=s;let hT:∀tk',(⟨hp,g,d,tk',os⟩:Shared).TypeIs (.ref a) "zip" := λ_=>⟨_,hx,Z⟩;let f1:=sub_AttributeError;let f3:=F.slot_zip_getattribute.lookup;let f4:=F.slot_zip_getattribute.bind (.ref a);let f5:=Dw;unfold getAttr? getAttrBy? getAttrBy;repeat (any_goals (first|assumption|exact hT _|((with_reducible show wpAny _ _ (call (Value.builtin "zip.__getattribute__") _ _) _ _ _);show zp F.slot_zip_getattribute (hT _) ŋ (F.args_zip_getattribute_2 _ _) (Ws a fs _) ⟨hx,hA,λh' tk' e hx'=>?_⟩)|wp_step))
 let⟨t',u',he⟩:=hx'.there;show wpAny _ _ (getattributeRaised _ _ _ _ _ _ _) _ _ _;unfold getattributeRaised;repeat (any_goals (first|assumption|wp_step))
 show h _ _ hx'.of.keeps
end
end Zd
namespace Zd
open PyProof.Rows
variable{n T:Nat}{b:Bool}{oT:Obj}
abbrev Out(h:Heap)(n T:Nat)(b:Bool):Prop:=h.get? (n+4)=some { cls:=.type "zip",dict:=none,data:=.fields #[rawInt T,.bool b,.bool false,.ref (n+2),.ref (n+3)],slots:=#[]}
section
variable{prog:Program}{w:World}{A:Around}{E:∅}{s:Shared}
def Ro{Q:Bool->Shared->Prop}(hz:Out s.heap n T b)(hT:s^^^T=some oT)(h:∀h',Out h' n T true->Heap.SameBut (n+4) s.heap h'->Q false (s•h')) :
  ∎ (Builtin.SmallTypes.ownedTupleIsFree (.ref (n+4))) Q E s:=by
 unfold Builtin.SmallTypes.ownedTupleIsFree;show M (gM hz Z (x:=rawInt T) Z ?_);show wpAny _ _ (loadIfAlive ((T:Int).toNat) >>= _) _ _ _;rw[jf];show M (PySem.W.kdx_alive hT ?_);simp only[Option.isNone_some,if_false,Bool.false_eq_true];show M (gM hz Z (x:=.bool b) Z ?_);cases b with
 |true =>
  let e:(Value.bool true != Value.bool true)=false:=()
  rw[e];simp only[if_false,Bool.false_eq_true];show ao (h s.heap hz ⟨Z,λ_ _=>rfl⟩)
 |false =>
  let e:(Value.bool false != Value.bool true)=true:=()
  rw[e];simp only[if_true];show M (j8 hz (by simp) λh1 hz1 s1=>ao (h h1 hz1 s1))
def ZK{l1 l2 k:Nat}{xs ys:Array Value}{x y:Value}{Q:Option Value->Shared->Prop}(q1:l1<n)(q2:l2<n)(hz:Out s.heap n T b)(hT:s^^^T=some oT)
  (hTI:IsPair s.heap (n+2) (.ref n) (.ref (n+1))) (h1:s.heap.IsListIter n l1 k) (h2:s.heap.IsListIter (n+1) l2 k) (hl1:s.heap.IsList l1 xs) (hl2:s.heap.IsList l2 ys) (hx:xs[k]?=some x) (hy:ys[k]?=some y)
  (hQ:∀h',Out h' n T true->h'.IsListIter n l1 (k+1)->h'.IsListIter (n+1) l2 (k+1)->IsPair h' s⁻¹ x y->(∀e o,e≠n->e≠n+1->e≠n+4->s^^^e=some o->h'.get? e=some o)->Q ⇑(s⁻¹) (s•h')) :
  ∎ (pyNext (.ref (n+4))) Q E s:=by
 let hTy:s.TypeIs (.ref (n+4)) "zip" :=⟨_,hz,Z⟩;let d40:(n+4:Nat)≠n:=()
 let d41:(n+4:Nat)≠n+1:=()
 let d10:(n+1:Nat)≠n:=()
 let d01:(n:Nat)≠n+1:=()
 unfold pyNext;show M (uh (nD (name:=Str.ofString "__next__") hTy wW (gG wW hTy Nu ?_ (Ni _))));show wpAny _ _ (field (.ref (n+4)) 2 >>= _) _ _ _;show M (gM hz Z (x:=.bool false) Z ?_);show wpAny _ _ (field (.ref (n+4)) 3 >>= _) _ _ _;show M (gM hz Z (x:=.ref (n+2)) Z (M (qG hTI Z ?_)));show wpAny _ _ (Builtin.SmallTypes.ownedTupleIsFree (.ref (n+4)) >>= _) _ _ _;show M (Ro hz hT λg1 z1 s1=>?_);let k1:∀e o,e≠n+4->s^^^e=some o->g1.get? e=some o:=λe o he q=>s1.extBut e o he q;simp only[if_false,Bool.false_eq_true];show M ?_;try rw[<-UL]
 simp only[List.forIn_cons,List.forIn_nil];show M (M (eG ?_));show wpAny _ _ (Builtin.SmallTypes.nextOf (.ref n) >>= _) _ _ _;show M (GF (h1.at λo q=>k1 _ o () q) (hl1.at λo q=>k1 _ o () q) hx λg2 i2 s2=>ao (ao ?_));let k2:∀e o,e≠n+4->e≠n->s^^^e=some o->g2.get? e=some o:=λe o he h0 q=>s2.extBut e o h0 (k1 e o he q);show M (M (eG ?_));show wpAny _ _ (Builtin.SmallTypes.nextOf (.ref (n+1)) >>= _) _ _ _;show M (GF (h2.at λo q=>k2 _ o () () q) (hl2.at λo q=>k2 _ o () () q) hy λg3 i3 s3=>ao (ao (ao ?_)));let k3:∀e o,e≠n->e≠n+1->e≠n+4->s^^^e=some o->g3.get? e=some o:=λe o a0 a1 a4 q=>s3.extBut e o a1 (k2 e o a4 a0 q);let z3:Out g3 n T true:=s3.extBut (n+4) _ d41 (s2.extBut (n+4) _ d40 z1);let i2':g3.IsListIter n l1 (k+1):=i2.at λo q=>s3.extBut n _ d01 q;let sz:g3.objs.size=s⁻¹:=by rw[s3.1,s2.1,s1.1]
 lk;show M (NK ?_ (by show 2<=sizeLine;rw[gK];decide));show ao ⟨_,Z,ao ?_⟩;let up:∀{c:Nat}{o:Obj},g3.get? c=some o->(g3.push { cls:=.type "tuple",data:=.seq #[x,y]}).get? c=some o:=λe=>bM _ e;let hp:IsPair (g3.push { cls:=.type "tuple",data:=.seq #[x,y]}) g3.objs.size x y:=cB _ rfl;rw[sz]at hp ⊢;show hQ _ (up z3) (i2'.at λo q=>up q) (i3.at λo q=>up q) hp λe o a0 a1 a4 q=>up (k3 e o a0 a1 a4 q)
def Ō{l1 k:Nat}{xs:Array Value}{Q:Option Value->Shared->Prop}(hh:A.handled=none)(q1:l1<n)(hz:Out s.heap n T b)(hT:s^^^T=some oT)
  (hTI:IsPair s.heap (n+2) (.ref n) (.ref (n+1))) (h1:s.heap.IsListIter n l1 k) (hl1:s.heap.IsList l1 xs) (hx:xs[k]?=none)
  (hQ:∀h',(∀e o,e≠n->e≠n+4->s^^^e=some o->h'.get? e=some o)->Q none (s•h')) :
  ∎ (pyNext (.ref (n+4))) Q E s:=by
 let hTy:s.TypeIs (.ref (n+4)) "zip" :=⟨_,hz,Z⟩;unfold pyNext;show M (uh (nD (name:=Str.ofString "__next__") hTy wW (gG wW hTy Nu ?_ (Ni _))));show wpAny _ _ (field (.ref (n+4)) 2 >>= _) _ _ _;show M (gM hz Z (x:=.bool false) Z ?_);show wpAny _ _ (field (.ref (n+4)) 3 >>= _) _ _ _;show M (gM hz Z (x:=.ref (n+2)) Z (M (qG hTI Z ?_)));show wpAny _ _ (Builtin.SmallTypes.ownedTupleIsFree (.ref (n+4)) >>= _) _ _ _;show M (Ro hz hT λg1 z1 s1=>?_);let k1:∀e o,e≠n+4->s^^^e=some o->g1.get? e=some o:=λe o he q=>s1.extBut e o he q;simp only[if_false,Bool.false_eq_true];show M ?_;try rw[<-UL]
 simp only[List.forIn_cons,List.forIn_nil];show M (M (eG ?_));show wpAny _ _ (Builtin.SmallTypes.nextOf (.ref n) >>= _) _ _ _;show M (wpAny_nextOf_list_end (by simpa using hh) (h1.at λo q=>k1 _ o () q) (hl1.at λo q=>k1 _ o () q) hx λg2 e s2 he=>?_);let⟨oe,hoe,hce⟩:=he;show M (vG (U:="StopIteration") (T:="StopIteration") (b:=true) ⟨oe,hoe,hce⟩ Hh (ao (hQ _ λc o c0 c4 q=>s2 c o c0 (k1 c o c4 q))))
end
end Zd
namespace Zd
open PyProof.Rows
variable{n l1 l2:Nat}
section
variable{prog:Program}{w:World}{A:Around}{R:Result->Shared->Prop}{κ:Type} [DecidableEq κ] {knd:HeapKind prog w κ}
def ZSt(n d i:Nat)(h:Heap):Prop:=(i=0/\IsZip h (n+4) (n+2) (n+3) .none/\∃a b,IsPair h (n+3) a b)\/(∃(T:Nat) (b:Bool) (oT:Obj),Out h n T b/\h.get? T=some oT/\T≠d/\T≠n/\T≠n+1/\T≠n+4)
def apart(q1:l1<n)(q2:l2<n):ZipApart (n+4) (n+2) (n+3) n (n+1) l1 l2:=by
 constructor<;>(intro z;let z':(_:Nat)=_:=z;omega)
def turn{d i:Nat}{xs ys:Array Value}{x y:Value}{s:Shared}{E:∅}{Q:Option Value->Shared->Prop}(q1:l1<n)(q2:l2<n)(st:ZSt n d i s.heap)(nd:n+4<d)(ds:d<s⁻¹)
  (hTI:IsPair s.heap (n+2) (.ref n) (.ref (n+1))) (h1:s.heap.IsListIter n l1 i) (h2:s.heap.IsListIter (n+1) l2 i) (hl1:s.heap.IsList l1 xs) (hl2:s.heap.IsList l2 ys) (hx:xs[i]?=some x) (hy:ys[i]?=some y)
  (hQ:∀h',ZSt n d (i+1) h'->IsPair h' (n+2) (.ref n) (.ref (n+1))->h'.IsListIter n l1 (i+1)->h'.IsListIter (n+1) l2 (i+1)->IsPair h' s⁻¹ x y->(∀e o,e<n->s^^^e=some o->h'.get? e=some o)->(∀o,s^^^d=some o->h'.get? d=some o)->Q ⇑(s⁻¹) (s•h')) :
  ∎ (pyNext (.ref (n+4))) Q E s:=by
 rcases st with⟨rfl,hz,a,b,hTO⟩|⟨T,b,oT,hz,hT,nT,nT0,nT1,nT4⟩
 ·show wpAny_pyNext_zip_item (apart q1 q2) hz hTI hTO h1 h2 hl1 hl2 hx hy λh' a1 a2 a3 a4 a5 a6 hk0=>?_;let hk:∀(c:Nat) (o:Obj),c≠n+4->c≠n+3->c≠n->c≠n+1->s^^^c=some o->h'.get? c=some o:=hk0;show hQ h' (.inr ⟨s⁻¹,false,_,a1,a5,(),(),(),()⟩) (hk (n+2) _ () () () () hTI) a3 a4 a5 (λe o he q=>hk e o () () () () q) λo q=>hk d o () () () () q
 ·show ZK q1 q2 hz hT hTI h1 h2 hl1 hl2 hx hy λh' a1 a3 a4 a5 hk=>hQ h' (.inr ⟨T,true,oT,a1,hk T _ nT0 nT1 nT4 hT,nT,nT0,nT1,nT4⟩) (hk (n+2) _ () () () hTI) a3 a4 a5 (λe o he q=>hk e o () () () q) λo q=>hk d o () () () q
def a6C{d:Nat}{base:Heap}{xs ys:Array Value}(hh:A.handled=none)(hu:knd.room A.in1)(q1:l1<n)(q2:l2<n)(nd4:n+4<d)(hb:base.objs.size=n)(L:List (κ×Addr×Value))(nd:(L.map (·.1)).Nodup)(hz:L.length<=sizeLine)
  (hxs:xs.size=L.length) (hX:∀(i:Nat) (x:κ×Addr×Value),L[i]?=some x->xs[i]?=⇑(x.2.1)/\ys[i]?=some x.2.2) (hl1:base.IsList l1 xs) (hl2:base.IsList l2 ys) (hK:∀h x,x∈L->(∀b ob,base.get? b=some ob->h.get? b=some ob)->knd.is h x.1 x.2.1) :
  ∀(k i:Nat) (s:Shared) (j:Int) (t:Tok),L.length-i=k->i<=L.length->(∀b ob,base.get? b=some ob->s^^^b=some ob)->d<s⁻¹->ZSt n d i s.heap->IsPair s.heap (n+2) (.ref n) (.ref (n+1))->s.heap.IsListIter n l1 i->s.heap.IsListIter (n+1) l2 i->s.heap.DictOfH knd d (L.take i)->
   (∀h' tk,h'.DictOfH knd d L->(∀b ob,base.get? b=some ob->h'.get? b=some ob)->R (.ok (.ret .none)) { s with heap:=h',toks:=tk})->
   codeAny (model prog w) A (.builtin "dict.update.loop" ⟨[.ref d,.ref (n+4),.int j t,.none],[]⟩) R s:=by
 intro k
 induction k with
 |zero =>
  intro i s j t hk hi kp ds st hTI h1 h2 hD hR;obtain rfl:i=L.length:=()
  rw[gJ]at hD;let e1:xs[L.length]?=none:=by rw[<-hxs];simp
  let L1:=hl1.at λo q=>kp _ o q;let fin:∀h',(∀e o,e≠n->e≠n+3->e≠n+1->e≠n+4->s^^^e=some o->h'.get? e=some o)->R (.ok (.ret .none)) (s•h'):=λh' kk=>by
   let⟨o,es,ep,ho,hc,hd,he,his,hn⟩:=hD;let kb:∀(b:Nat) ob,base.get? b=some ob->h'.get? b=some ob:=λb ob q=>by
    let lb:(b:Nat)<n:=by rw[<-hb];show bw q
    show kk b ob () () () () (kp b ob q)
   show hR h' s.toks ⟨o,es,ep,kk d o () () () () ho,hc,hd,he,λx hx=>hK _ x hx kb,hn⟩ kb
  show jU Dy.vU ?_;rw[j5 Dy.kJ _];show wpAny _ A.in1 (pyNext (.ref (n+4)) >>= _) _ _ s;rcases st with⟨i0,hz0,a,b,hTO⟩|⟨T,b,oT,hz0,hT,nT,nT0,nT1,nT4⟩
  ·show M (wpAny_pyNext_zip_end (by simpa using hh) (apart q1 q2) hz0 hTI hTO h1 h2 L1 (hl2.at λo q=>kp _ o q) (.inl e1) λh' kk=>?_);show wpAny _ _ (Builtin.Dict.addKeywords d [] >>= _) _ _ _;show M (ao (ao (fin h' λe o a0 a3 a1 a4 q=>kk e o a4 a3 a0 a1 q)))
  ·show M (Ō (by simpa using hh) q1 hz0 hT hTI h1 L1 e1 λh' kk=>?_);show wpAny _ _ (Builtin.Dict.addKeywords d [] >>= _) _ _ _;show M (ao (ao (fin h' λe o a0 _ _ a4 q=>kk e o a0 a4 q)))
 |succ k ih =>
  intro i s j t hk hi kp ds st hTI h1 h2 hD hR;let li:i<L.length:=()
  obtain⟨x,hx⟩:∃x,L[i]?=some x:=⟨L[i],bO li⟩;let⟨hx1,hx2⟩:=hX i x hx;show jU Dy.vU ?_;rw[j5 Dy.kJ _];show wpAny _ A.in1 (pyNext (.ref (n+4)) >>= _) _ _ s;show M (turn q1 q2 st nd4 ds hTI h1 h2 (hl1.at λo q=>kp _ o q) (hl2.at λo q=>kp _ o q) hx1 hx2 λh' st' a8k h1' h2' hP kk kd=>?_);let kb:∀(b:Nat) ob,base.get? b=some ob->h'.get? b=some ob:=λb ob q=>by
   let lb:(b:Nat)<n:=by rw[<-hb];show bw q
   show kk b ob lb (kp b ob q)
  let hTy:Shared.TypeIs (s•h') (.ref s⁻¹) "tuple" :=⟨_,hP,rfl⟩;let hk1:=hK h' x (gU hx) kb;let hD':h'.DictOfH knd d (L.take i):=by
   let⟨o,es,ep,ho,hc,hd,he,his,hn⟩:=hD;show⟨o,es,ep,kd o ho,hc,hd,he,λy hy=>hK _ y (j6 hy) kb,hn⟩
  show M (eG (M (wpAny_tryCatch ?_)));unfold Builtin.Dict.pairItems;show M (rQ hTy ?_);let e1:((Value.type "tuple" == Value.type "list")||(Value.type "tuple" == Value.type "tuple"))=true:=()
  rw[aD e1];show M (qG hP Z (ao ?_));show wpAny _ _ (holding [Value.ref x.2.1,x.2.2] (dictSet d (.ref x.2.1) x.2.2)) _ _ _;show eG (UW (hsz:=by rw[dN];omega) hu hk1 hD' λg2 hD2 sb=>?_);let hD3:g2.DictOfH knd d (L.take (i+1)):=by
   rw[storedH_new (Dy.Ib nd hx)]at hD2;rw[List.take_add_one,hx];show hD2
  let up:∀(c:Nat) (o:Obj),c≠d->h'.get? c=some o->g2.get? c=some o:=λc o hc q=>by rw[sb.2 c hc];show q
  show ao ⟨lU Dy.kJ _,ih (i+1) _ _ _ () li (λb ob q=>?_) ?_ ?_ ?_ ?_ ?_ hD3 λh3 tk hD4 kb3=>hR h3 tk hD4 kb3⟩
  ·let lb:b<n:=by rw[<-hb];show bw q
   let bd:(b:Nat)≠d:=b7 (rR lb (M9 (GZ n 4) nd4));show up b ob bd (kb b ob q)
  ·show d<g2.objs.size;let⟨o,_,_,ho,_⟩:=hD3;show bw ho
  ·rcases st' with⟨z,_⟩|⟨T,b,oT,hz0,hT,nT,nT0,nT1,nT4⟩
   ·omega
   ·show .inr ⟨T,b,oT,up (n+4) _ () hz0,up T _ nT hT,nT,nT0,nT1,nT4⟩
  ·show up (n+2) _ () a8k
  ·show h1'.at λo q=>up n o () q
  ·show h2'.at λo q=>up (n+1) o () q
end
end Zd
namespace Zd
open PyProof.Rows
section
variable{prog:Program}{w:World}{A:Around}{E:∅}{s:Shared}{κ:Type} [DecidableEq κ] {knd:HeapKind prog w κ}
def a4t{n l1 l2:Nat}{base:Heap}{xs ys:Array Value}{L:List (κ×Addr×Value)}{Q:∅}(hh:A.handled=none)(hu:knd.room A.in1.in1)(q1:l1<n)(q2:l2<n)(hb:base.objs.size=n)(nd:(L.map (·.1)).Nodup)(hz:L.length<=sizeLine)
  (hxs:xs.size=L.length) (hX:∀(i:Nat) (x:κ×Addr×Value),L[i]?=some x->xs[i]?=⇑(x.2.1)/\ys[i]?=some x.2.2) (hl1:base.IsList l1 xs) (hl2:base.IsList l2 ys) (hK:∀h x,x∈L->(∀b ob,base.get? b=some ob->h.get? b=some ob)->knd.is h x.1 x.2.1)
  (kp:∀b ob,base.get? b=some ob->s^^^b=some ob) (z:IsZip s.heap (n+4) (n+2) (n+3) .none) (hTI:IsPair s.heap (n+2) (.ref n) (.ref (n+1))) (hTO:IsPair s.heap (n+3) .none .none) (h1:s.heap.IsListIter n l1 0) (h2:s.heap.IsListIter (n+1) l2 0)
  (h:∀(h':Heap) (tk:Nat),h'.DictOfH knd s⁻¹ L->(∀b ob,base.get? b=some ob->h'.get? b=some ob)->Q (.ref s⁻¹) { s with heap:=h',toks:=tk}) :
  ∎ (call (.type "dict") [.ref (n+4)]) Q E s:=by
 show callType_codes (Q₁:=λobj s₁=>obj=.ref s⁻¹/\s₁=(s•s.heap.push { cls:=.type "dict",data:=.dict #[]})) PySem.F.kt_called_dict (ø _) PySem.F.entry_dict_init (kt_code_dict_new _ ⟨rfl,rfl⟩) ?_;rintro obj s₁ ⟨rfl,rfl⟩;let up:∀{c:Nat}{o:Obj},s^^^c=some o->(s.heap.push { cls:=.type "dict",data:=.dict #[]}).get? c=some o:=λe=>bM _ e;let hTd:Shared.TypeIs (s•s.heap.push { cls:=.type "dict",data:=.dict #[]}) (.ref s⁻¹) "dict" :=⟨_,cB _ rfl,rfl⟩;let z1:IsZip (s.heap.push { cls:=.type "dict",data:=.dict #[]}) (n+4) (n+2) (n+3) .none:=up z;let hTz:Shared.TypeIs (s•s.heap.push { cls:=.type "dict",data:=.dict #[]}) (.ref (n+4)) "zip" :=⟨_,z1,rfl⟩;show⟨hTd,ÿ _ _,?_⟩;unfold Builtin.«dict.__init__»;show M ?_;unfold Builtin.Dict.selfAndRest;show M (Cz hTd ?_);show wpAny _ _ (pure (s⁻¹,[Value.ref (n+4)])) _ _ _;show ao ?_;show wpAny _ _ (Builtin.Dict.updateFrom "dict.__init__" s⁻¹ (.ref (n+4)) [] .none) _ _ _;unfold Builtin.Dict.updateFrom;show M (rQ hTz ?_);rw[aD ()];show M (a1j z1 (by simp[hh]) λg1 tk1 k1=>?_);simp only[Option.isNone_none,if_true];show M (j9 ?_);let nz:n+4<s⁻¹:=bw z;let z2:IsZip g1 (n+4) (n+2) (n+3) .none:=k1 _ _ z1;let gd:g1.get? s⁻¹=some { cls:=.type "dict",data:=.dict #[]}:=k1 _ _ (cB _ Z);let dl:s⁻¹<g1.objs.size:=bw gd;show M (Vb (s:={ s with heap:=g1,toks:=tk1}) z2 (ao ⟨lU Dy.kJ _,a6C (knd:=knd) (n:=n) (d:=s⁻¹) (base:=base) (xs:=xs) (ys:=ys) (by simp[hh]) hu q1 q2 nz hb L nd hz hxs hX hl1 hl2 hK L.length 0 _ _ _ () (dG _) (λb ob q=>k1 _ _ (up (kp b ob q))) dl (.inl ⟨Z,z2,_,_,k1 _ _ (up hTO)⟩) (k1 _ _ (up hTI)) (h1.at λo q=>k1 _ _ (up q)) (h2.at λo q=>k1 _ _ (up q)) ?_ ?_⟩))
 ·rw[NQ];show⟨_,#[],_,gd,⟨Z,Z,Z⟩,Z,Z,λx hx=>absurd hx (by simp),vH⟩
 ·intro g2 tk2 hD kb;show⟨Z,h g2 tk2 hD kb⟩
end
end Zd
namespace L2
open PyProof.Rows Bg
def Wt:bootBuiltins "dict" = some (.type "dict"):=by decide
def KyL(H:Hp)(v:V)(k:aS):Prop:=∃p,v=.ref p/\H p= ~~~(k.map kV)
def a4u(ta:TA):TE:=λσ H Q=>ta σ H λvs H1=>∃(a b:Addr) (xs ys:af) (ks:List (aS)),vs=[.ref a,.ref b]/\H1 a=↥xs/\H1 b=↥ys/\Paired (KyL H1) xs ks/\ks.length=ys.length/\ks.Nodup/\ks.length<=5000/\∀p H',iH H1 p (.dT (ks.zip ys)) H'->Q (.ref p) H'
def a4v{P:Program}{w:World}{H:Hp}{h:Heap}(hok:xW P w H h):∀{xs ys:af}{ks:List (aS)}{us vs:aw},Paired (KyL H) xs ks->cN xs us->cN ys vs->ks.length=ys.length->
  ∃L:List (aS×Addr×Value),KT H (ks.zip ys) L/\L.map (·.1)=ks/\us=L.map (λx=>Value.ref x.2.1)/\vs=L.map (λx=>x.2.2):=by
 intro xs ys ks us vs hp
 induction hp generalizing ys us vs with
 |nil =>
  intro hu hv hl;cases hu;cases ys with
  |nil=>cases hv;show⟨[],.nil,Z,Z,Z⟩
  |cons=>cases hl
 | @cons x k xs ks a t ih =>
  intro hu hv hl;cases hu with
  | @cons _ u _ us ru rus =>
   cases hv with
   |nil=>cases hl
   | @cons y v _ vs rv rvs =>
    let⟨L,kt,e1,e2,e3⟩:=ih rus rvs (Nat.succ.inj hl);let⟨p,rfl,hp⟩:=a;obtain rfl:u=Value.ref p:=ru;show⟨(k,p,v)::L,.cons ⟨Z,hp,rv⟩ kt,(),(),()⟩
section
variable{X:Cx}
def ō{l m:Expr}{ta:TA}{p p2 pos pos2:Pos}(cm:X.calm=true)(hu:X.A.units+2<cLine)(hgd:Gl X "dict")(hmd:X.mg "dict" = none)(hg:Gl X "zip")(hm:X.mg "zip" = none)(ha:PA X [l,m] ta)
  (hs:@&(starEach [l,m] X.env=[(false,eval l X.env),(false,eval m X.env)])) (hs2:@&(starEach [m] X.env=[(false,eval m X.env)]))
  (hs3:@&(starEach [Expr.Call (.Name "zip" p2) [l,m] [] pos2] X.env=[(false,eval (.Call (.Name "zip" p2) [l,m] [] pos2) X.env)])) :
  PE X (.Call (.Name "dict" p) [.Call (.Name "zip" p2) [l,m] [] pos2] [] pos) (a4u ta):=by
 intro Y s σ H Q I h;show vB (uo I hgd hmd Wt ?_);show wJ ?_ (by rw[hs3];rfl) (by rfl);rw[hs3];show wpAny _ _ (spliced [(false,eval (.Call (.Name "zip" p2) [l,m] [] pos2) X.env)]) _ _ _;show Calls.spliced_cons (vB (uo I hg hm boot_zip ?_));show wJ (jr (ha pos2 Y s σ H _ I h) λus s1 ⟨vs,H1,I1,r1,q1⟩=>?_) (by rw[hs,hs2]) (by rw[hs2];rfl);let⟨a,b,xs,ys,ks,e,hA,hB,pk,lk,nd,l5,q⟩:=q1;subst e;let⟨u1,u2,rfl,r1,r2⟩:=vals2 r1;cases r1;cases r2;let⟨z1,a4w,n1,rv1,o1⟩:=(show fB X.prog X.w H1 s1.heap a (.lst xs)from I1.hok a _ hA);let⟨z2,its2,n2,rv2,o2⟩:=(show fB X.prog X.w H1 s1.heap b (.lst ys)from I1.hok b _ hB);let⟨L,kt,e1,rfl,rfl⟩:=a4v I1.hok pk rv1 rv2 lk;let L1:s1.heap.IsList a (L.map λx=>Value.ref x.2.1).toArray:=⟨_,o1,Z,_,Z⟩;let L2':s1.heap.IsList b (L.map λx=>x.2.2).toArray:=⟨_,o2,Z,_,Z⟩;let la:a<s1⁻¹:=bw o1;let lb:b<s1⁻¹:=bw o2;let lL:L.length=ks.length:=()
 show call_zip_2 L1 L2' λh' hz hTI hTO h1 h2 hsz hk=>Calls.spliced_nil ?_;let hr:(tupleKind (eX X.prog X.w)).room X.A.in1.in1:=hu;show Zd.a4t (s:=(s1•h')) (knd:=tupleKind (eX X.prog X.w)) (n:=s1⁻¹) (base:=s1.heap) (L:=L) (I1.ok.hd cm) hr la lb rfl (by rw[e1];show nd) (by rw[gK];omega) (by simp) (λi x hx=>?_) L1 L2' (λg x hx kb=>?_) hk hz hTI hTO h1 h2 λg tk dd kb=>?_
 ·rw[Um,Um,cV,cV,hx];show⟨Z,Z⟩
 ·let⟨i,hi⟩:=Ul.mp hx;let⟨kv,hkv,a1,a2,a3⟩:=cI kt hi;let⟨o,bY,n,g1,g2,g3,g4⟩:=xg I1.hok a2;rw[<-a1];show⟨o,bY,n,kb _ _ g1,g2,g3,g4⟩
 ·let lt:s1⁻¹<=h'.objs.size:=by rw[hsz];show GZ _ _
  let hf:H1 h'.objs.size=none:=I1.hok.fresh lt;let hs:(h'.objs.size==sysModules)=false:=qC.mpr (Ne.symm (b7 (je I1.big lt)));show⟨.ref h'.objs.size,_,I1.laid (t':=tk) (o:=.dT (ks.zip ys)) (λc o e=>kb c o e) lt (ň () hs (kt.keeps λc zs ec=>?_) dd),Z,q _ _ (iH.nC hf)⟩;rw[aQ (dR ec hf)];show ec
end
end L2
namespace L2
open PySem.Calls PyProof.Rows
structure a4x(K:aH)(x qual:Str)(st:Stmt)(f:Addr)(fd:FuncData):Prop where
 ex:∃(oc:Value) (od:Option Addr) (dV kV doc pm:Value) (an:Option Addr) (dZ ct:Value) (osl:Array (Option Value)),
  fd=fnOf x qual (gY st) (gj st) (aG st) dV kV doc pm an dZ ct/\K.lookup f=some ⟨oc,od,.func fd,osl⟩/\codeIn K dZ qual=true
 kp:keepIn K (.ref f)=true
section
variable{P:Program}{w:World}{K:aH}{mg:Str->Option Value}{base:Heap}{x qual:Str}{st:Stmt}{f:Addr}{fd:FuncData}{N ps:ag}{k:Nat}{sp:Sp}
def a4x.ok(F:a4x K x qual st f fd)(S:bR N ps (aG st))(len:∀vs H Q E,sp vs H Q E->vs.length=ps.length)
  (hb:∀(dZ:Value) (A:Around) (outer:List Env) (s:Shared) (H:Hp) (vs:af) (Q:VK) (E:XK),qR k (A.deeper (envOfC qual (aG st) s⁻¹ f dZ))->sp vs H Q E->
   ∃t,Qv (VH gh P w K mg base N qual (aG st) f dZ A outer s H E).nox (gj st) t/\t { nx:=λ_ H'=>Q .non H',rt:=Q} (start N vs) H):⋯ (k+1) f fd ps sp:=by
 let⟨_,_,_,_,_,_,_,dZ,_,_,rfl,lk,hcd⟩:=F.ex;show a2K lk hcd S len λA outer s H vs Q E hr hsp=>(hb dZ A outer s H vs Q E hr hsp).imp λt h=>⟨h.1.nox,h.2⟩
end
structure DmD(K:aH)(C:Addr)(m qual:Str)(st:Stmt)(ps:ag) where
 f:Addr
 fd:FuncData
 F:a4x K m qual st f fd
 b:Binds K fd ps []
 b1:Binds K fd ps [.none]
 mt:Meth K C m f
def a4y{K:aH}{C:Addr}{m qual:Str}{st:Stmt}{ps:ag}{f T:Addr}{oc oT:Value}{od an dT:Option Addr}{osl sT:Array (Option Value)}{kV doc pm dZ ct:Value}{nT:Nat}
  (a:findIn K (.ref C) m=some ⇑f) (i:isFn K (.ref f)=true)
  (l:K.lookup f=some ⟨oc,od,.func (fnOf m qual (gY st) (gj st) (aG st) (.ref T) kV doc pm an dZ ct),osl⟩) (c:codeIn K dZ qual=true) (k:keepIn K (.ref f)=true)
  (lT:K.lookup T=some ⟨oT,dT,.seq #[.none] nT,sT⟩)
  (h:∀(kV doc pm:Value) (an:Option Addr) (dZ ct:Value) (us:aw),us.length=ps.length->∃g,bindArgs (fnOf m qual (gY st) (gj st) (aG st) (.ref T) kV doc pm an dZ ct) ⟨us,[]⟩=seqItems? (.ref T) >>= g/\g (some #[.none])=pure (ps.zip us))
  (h1:∀(kV doc pm:Value) (an:Option Addr) (dZ ct:Value) (us:aw),us.length+1=ps.length->∃g,bindArgs (fnOf m qual (gY st) (gj st) (aG st) (.ref T) kV doc pm an dZ ct) ⟨us,[]⟩=seqItems? (.ref T) >>= g/\g (some #[.none])=pure (ps.zip (us++[.none]))):DmD K C m qual st ps :=
 {
  f:=f,fd:=_,F:=⟨⟨_,_,_,_,_,_,_,_,_,_,Z,l,c⟩,k⟩,
  b:=λs us X hl=>by
   rw[jB]at hl ⊢
   let⟨g,e1,e2⟩:=h kV doc pm an dZ ct us hl
   show BindsTo.of_defaults Z (X _ _ lT) Z e1 e2,
  b1:=λs us X hl=>by
   let⟨g,e1,e2⟩:=h1 kV doc pm an dZ ct us (by rw[bK]at hl;show hl)
   show BindsTo.of_defaults Z (X _ _ lT) Z e1 e2,
  mt:=⟨a,i,k⟩}
end L2
namespace Dy
open PyProof.Rows
section
variable{prog:Program}{w:World}{A:Around}{E:∅}{s:Shared}{κ:Type} [DecidableEq κ] {knd:HeapKind prog w κ}
def Rp{d a:Addr}{xs:List (κ×Addr×Value)}{k:κ}{v:Value}{Q:∅}(hu:knd.room A)(hkey:knd.is s.heap k a)(hm:s.heap.DictOfH knd d xs)(hz:xs.length<=sizeLine)
  (old:∀p tk,atKey xs k=some p->Q p.2 { s with toks:=tk}) (new:∀h' tk,atKey xs k=none->h'.DictOfH knd d (xs++[(k,a,v)])->Heap.SameBut d s.heap h'->Q v { s with heap:=h',toks:=tk}) :
  ∎ (dictSetDefault d (.ref a) v) Q E s:=by
 let⟨o,es,ep,ho,hc,hd,he,his,hn⟩:=hm;let hes:es.size<=sizeLine:=by let e:=Vi he;omega
 unfold dictSetDefault;try with_reducible show eG ?_
 show M (knd.pyHash hu hkey ?_);show M (wpAny_dictFind_heap (s:={ s with toks:=s.toks+knd.draws k}) hu hkey ho hd he his hn ?_ ?_)
 ·intro hno;let none_:=atKey_none_of_get hno;let hnot:k∉xs.map (·.1):=not_mem_keys_of_get hno;show M (j9 (M (wpAny_updateDictKeys (hz:=hes) (s:={ s with toks:=s.toks+knd.draws k}) ho hd (ao (new _ _ none_ ⟨_,_,ep+1,Cy _ ho (Obj.isFreed_of_dict (Obj.data_mapDictKeys hd _)),hc.mapDictKeys _,Obj.data_mapDictKeys hd _,?_,?_,?_⟩ (qF ..))))))
  ·simp[he,entryOfKey]
  ·intro x hx;rcases cM.mp hx with hx|hx
   ·show knd.keeps (his x hx) ho hd (qF ..)
   ·rw[bQ.mp hx];show knd.keeps hkey ho hd (qF ..)
  ·rw[cW];show uf.mpr ⟨hn,wL _ _,λx hx y hy e=>hnot (by rw[<-show y=k from bQ.mp hy,<-e];show hx)⟩
 ·intro j q hj;let hej:es[j]?=some (entryOfKey knd (k,q)):=by rw[entry_at he j,hj];rfl
  show M (rN (s:={ s with toks:=s.toks+knd.draws k}) ho hd ?_);rw[hej];show M (j9 (ao (old q _ (atKey_of_get hn hj))))
def Dz{d a:Addr}{k:κ}{v:Value}(hs:(d==sysModules)=false):MeetsIn prog w (Builtin.«dict.setdefault» ⟨[.ref d,.ref a,v],[]⟩) (λA R s=>knd.room A.in1/\∃xs,knd.is s.heap k a/\s.heap.DictOfH knd d xs/\xs.length<=sizeLine/\
   (∀p tk,atKey xs k=some p->R (.ok (.ret p.2)) { s with toks:=tk})/\∀h' tk,atKey xs k=none->h'.DictOfH knd d (xs++[(k,a,v)])->Heap.SameBut d s.heap h'->R (.ok (.ret v)) { s with heap:=h',toks:=tk}) :=
 .of_wp λA R s h=>by
  let⟨hu,xs,hkey,hm,hz,old,new⟩:=h;let⟨o,es,ep,ho,hc,hd,he,his,hn⟩:=id hm;let hT:s.TypeIs (.ref d) "dict" :=⟨_,ho,hc.1⟩;unfold Builtin.«dict.setdefault»;show M ?_;unfold Builtin.Dict.keyAndDefault;show M (Cz hT ?_);show wpAny _ _ (pure (d,Value.ref a,some v)) _ _ s;show ao ?_;lk;rw[hs];simp only[Bool.false_eq_true,if_false];show M (Rp hu hkey hm hz (λp tk e=>ao ⟨_,Z,old p tk e⟩) λh' tk e hD sb=>ao ⟨_,Z,new h' tk e hD sb⟩)
end
end Dy
namespace L2
open PyProof.Rows Bg
section
variable{X:Cx}
inductive a6D(x:V)(vs:af)(H:Hp)(Q:VK):Prop
 |mk (a b:Addr) (k:aS) (J:List (aS×V)) (v:V) (_:x=.ref a) (_:vs=[.ref b,v]) (_:H b= ~~~(k.map kV)) (_:H a=some (.dT J)) (_:Q ((dI J k).getD v) H)
def a1k(hu:X.A.units+1<cLine):Ow X "dict.get" a6D:=by
 intro Y s σ H x xs v us Q I rx rs h;let⟨a,b,k,J,y,rfl,rfl,hb,e,q⟩:=h;obtain rfl:v=Value.ref a:=rx;let⟨u,u2,rfl,ru,ZL⟩:=vals2 rs;obtain rfl:u=Value.ref b:=ru;let⟨z,hd,xs,rel,dd⟩:=Bb I.hok e;show Hl CG dd.typeIs Ui (Uc _ _ _) (meetsH_dict_get_default (tupleKind (eX X.prog X.w)) a b hd u2) ⟨yU hu,k,xs,xg I.hok hb,dd,⟨_,H,I.tok _,(rel.val k).getD ZL,q⟩⟩
end
end L2
namespace Dk
open PyProof.Rows
variable{b:Bool}
noncomputable def a6E(b:Bool)(v:Value):Bool:=match v with
 |.bool c=>c==b
 |_=>false
def oV{v:Value}(h:a6E b v=true):v=.bool b:=by
 cases v with
 |bool c=>show congrArg Value.bool (eq_of_beq h)
 |_=>cases h
section
variable{prog:Program}{w:World}{A:Around}{E:∅}{s:Shared}
def ZM{Q : Int → Shared → Prop}(h : Q (if b then 1 else 0) { s with toks := s.toks + 1 }) : ∎ (pyHash (.bool b)) Q E s := by
  unfold pyHash;let hv : [Value.bool b].any Value.onHeap = false := rfl;show M ?_;rw [cRoomFor, aA ()]; show ao ?_;show M (Hf (CQ s b) F.slot_bool_hash.lookup ?_);show wpAny _ _ (if (some (Value.builtin "int.__hash__") == some Value.none) = true then _ else _) Q E s;rw [aA ()];show M (Hf (CQ s b) F.slot_bool_hash.lookup ?_);show wpAny _ _ (callSpecialIfBoundUnlessNone? (.bool b) "__hash__" _ >>= _) Q E s;cases b
  · show M (ê (CQ s false) Nv
      (gG Nv (CQ s false) entry_int_hash
        (show wpAny _ _ (do ret (← mkInt 0)) _ _ s from wpAny_ret_mkInt ?_) (args_int_hash _)))
    show ao h
  · show M (ê (CQ s true) Nv
      (gG Nv (CQ s true) entry_int_hash
        (show wpAny _ _ (do ret (← mkInt 1)) _ _ s from wpAny_ret_mkInt ?_) (args_int_hash _)))
    show ao h
def Ŏ{a:Bool}{Q:Bool->Shared->Prop}(h:Q (decide (a=b)) s):∎ (eqBool (.bool a) (.bool b)) Q E s:=by
 unfold eqBool;show wpAny _ _ (if(Value.bool a==Value.bool b)=true then _ else _) Q E s;by_cases hab:(Value.bool a==Value.bool b)=true
 ·rw[aD hab];let e:a=b:=()
  subst e;show M (j9 (ao (by simpa using h)))
 ·rw[aA hab];show M (eq_bool (CP ?_));grind
end
def Ie(prog:Program)(w:World):KeyKind prog w Bool where
 is:=a6E
 hash:=λb=>if b then 1 else 0
 inj:=λv a b h h'=>by
  let e:=oV h
  let e':=oV h'
  rw[e]at e'
  injection e'
 byValue:=λk v h=>by rw[oV h];rfl
 pyHash:=λhv h=>by rw[oV hv];show ZM h
 eqBool:=λhu hv h=>by rw[oV hu,oV hv];show Ŏ h
 «strs» := λk x t v h=>by cases h
end Dk
namespace L2
open PyProof.Rows Bg
section
variable{P:Program}{w:World}{κ:Type} [DecidableEq κ]
inductive ZP(knd:KeyKind P w κ)(H:Hp)(b:Addr)(k:List κ):Prop
 |mk (vs:_) (_:H b= ~~~vs) (_:Paired (λv x=>∀u,cZ v u->knd.is x u=true) vs k)
def ZP.same{knd:KeyKind P w κ}{H H':Hp}{b:Addr}{k:List κ}(e:∀c ys,H c= ~~~ys->H' c= ~~~ys)(h:ZP knd H b k):ZP knd H' b k:=by
 let⟨vs,h1,h2⟩:=h;show⟨vs,e _ _ h1,h2⟩
def a4z{knd:KeyKind P w κ}{vs:af}{k:List κ}{us:aw}(p:Paired (λv x=>∀u,cZ v u->knd.is x u=true) vs k)(q:cN vs us):ItemsAre knd k us:=by
 induction p generalizing us with
 |nil=>cases q;show .nil
 |cons h _ ih =>
  cases q with
  |cons r s=>show .cons (h _ r) (ih s)
def Pb{knd:KeyKind P w κ}{H:Hp}{h:Heap}{b:Addr}{k:List κ}(ok:xW P w H h)(e:ZP knd H b k):(tupleKind knd).is h k b:=by
 let⟨vs,e1,e2⟩:=e;let⟨_,bY,r,o,h1,h2,n,h3⟩:=(show fB P w H h b (.tup vs)from ok b _ e1);show⟨o,bY.toArray,n,h1,h2,h3,by simpa using a4z e2 r⟩
def ŏ(knd:KeyKind P w κ)(a:Addr)(xs:List (List κ×Addr×Value)):Heap->Prop:=λh=>(a==sysModules)=false/\∃o es ep,h.get? a=some o/\o.ExactDict/\o.data=.dict es ep/\es.toList=xs.map (entryOfKey (tupleKind knd))/\(xs.map (·.1)).Nodup
def DX(knd:KeyKind P w κ)(H:Hp)(a:Addr)(J:List (List κ×V)):Prop:=J.length<=5000/\((J=[]/\H a=some (.dT []))\/∃xs:List (List κ×Addr×Value),H a=some (.ext (ŏ knd a xs))/\Paired (λp q=>p.1=q.1/\ZP knd H q.2.1 p.1/\cZ p.2 q.2.2) J xs)
def DX.same{knd:KeyKind P w κ}{H H':Hp}{a:Addr}{J:List (List κ×V)}(e:aL H H')(h:DX knd H a J):DX knd H' a J:=by
 obtain⟨z,h|⟨xs,h1,h2⟩⟩:=h
 ·show⟨z,.inl ⟨h.1,e _ _ h.2⟩⟩
 ·show⟨z,.inr ⟨xs,e _ _ h1,Paired.cD h2 λ_ _ ⟨a,b,c⟩=>⟨a,b.same λ_ _ q=>e _ _ q,c⟩⟩⟩
def DX.a3q{knd:KeyKind P w κ}{H:Hp}{a:Addr}{J:List (List κ×V)}(h:DX knd H a J){ys:af}:H a≠~~~ys:=λe=>by
 obtain⟨z,h|⟨xs,h1,h2⟩⟩:=h
 ·grind
 grind
def DX.new{knd:KeyKind P w κ}{H:Hp}{a:Addr}(h:H a=some (.dT [])):DX knd H a []:=⟨dG _,.inl ⟨Z,h⟩⟩
def Ő{knd:KeyKind P w κ}{H:Hp}{h:Heap}{a:Addr}{J:List (List κ×V)}(ok:xW P w H h)(d:DX knd H a J):(a==sysModules)=false/\∃xs,Paired (λp q=>p.1=q.1/\ZP knd H q.2.1 p.1/\cZ p.2 q.2.2) J xs/\h.DictOfH (tupleKind knd) a xs:=by
 obtain⟨z,⟨rfl,h1⟩|⟨xs,h1,h2⟩⟩:=d
 ·let⟨_,hs,xs,r,o,es,ep,e1,e2,e3,e4,e5⟩:=(show fB P w H h a (.dT [])from ok a _ h1);cases r;show⟨hs,[],.nil,o,es,ep,e1,e2,e3,e4,(λx hx=>absurd hx fj),vH⟩
 ·let⟨⟨hs,o,es,ep,e1,e2,e3,e4,e5⟩,_⟩:=(show fB P w H h a (.ext (ŏ knd a xs))from ok a _ h1);show⟨hs,xs,h2,o,es,ep,e1,e2,e3,e4,?_,e5⟩;let all:∀{l:List (List κ×V)}{m:List (List κ×Addr×Value)},Paired (λp q=>p.1=q.1/\ZP knd H q.2.1 p.1/\cZ p.2 q.2.2) l m->∀x∈m,(tupleKind knd).is h x.1 x.2.1:=by
   intro l m q
   induction q with
   |nil=>grind
   |cons z _ ih =>
    intro x hx;rcases bT.mp hx with rfl|hx
    ·rw[<-z.1];show Pb ok z.2.1
    ·show ih x hx
  show all h2
def a1l{knd:KeyKind P w κ}{H':Hp}{h':Heap}{a:Addr}{xs:List (List κ×Addr×Value)}(hs:(a==sysModules)=false)(dd:h'.DictOfH (tupleKind knd) a xs):fB P w H' h' a (.ext (ŏ knd a xs)):=by
 let⟨o,es,ep,h1,h2,h3,h4,_,h5⟩:=dd;show⟨⟨hs,o,es,ep,h1,h2,h3,h4,h5⟩,⟨o,h1⟩,λg1 g2 q k=>?_⟩;let⟨hs,o,es,ep,h1,h2,h3,h4,h5⟩:=q;show⟨hs,o,es,ep,k _ h1,h2,h3,h4,h5⟩
def a6F{knd:KeyKind P w κ}{H:Hp}(k:List κ){J:List (List κ×V)}{xs:List (List κ×Addr×Value)}(h:Paired (λp q=>p.1=q.1/\ZP knd H q.2.1 p.1/\cZ p.2 q.2.2) J xs):oN (dI J k) ((atKey xs k).map (·.2)):=by
 induction h with
 |nil=>show lW
 | @cons p q J xs h t ih =>
  let⟨k1,v1⟩:=p;let⟨k2,a2,u2⟩:=q;let⟨e,_,r⟩:=h;let e:k1=k2:=e;subst e;unfold dI atKey at ih ⊢;by_cases c:k1=k
  ·rw[vy (),vy ()];show r
  ·rw[vz (by simpa using c),vz (by simpa using c)];show ih
end
section
variable{X:Cx}{κ:Type} [DecidableEq κ]
inductive ő{P:Program}{w:World}(knd:KeyKind P w κ)(x:V)(vs:af)(H:Hp)(Q:VK):Prop
 |mk (a b:Addr) (k:List κ) (J:List (List κ×V)) (v:V) (_:x=.ref a) (_:vs=[.ref b,v]) (_:ZP knd H b k) (_:DX knd H a J) (_:J.length<=4000) (_:(∀y,dI J k=some y->Q y H)) (_:(dI J k=none->∀H',(∀c,c≠a->H' c=H c)->DX knd H' a (J++[(k,v)])->Q v H'))
def Ig(knd:KeyKind X.prog X.w κ)(hu:X.A.units+1<cLine):Ow X "dict.setdefault" (ő knd):=by
 intro Y s σ H x xs v us Q I rx rs h;let⟨a,b,k,J,y,rfl,rfl,hb,e,l5,old,new⟩:=h;obtain rfl:v=Value.ref a:=rx;let⟨u,u2,rfl,ru,ZL⟩:=vals2 rs;obtain rfl:u=Value.ref b:=ru;let⟨hd,xs,rel,dd⟩:=Ő I.hok e;let lx:xs.length=J.length:=(aU rel).symm;let rv:=a6F k rel;let hr:(tupleKind knd).room X.A.in1:=yU hu;show Hl Ms dd.typeIs ò (î _ _ _) (Dy.Dz (knd:=tupleKind knd) (k:=k) hd) ⟨hr,xs,Pb I.hok hb,dd,by rw[gK];omega,λp tk ep=>?_,λh' tk en ä hs=>?_⟩
 ·let ev:(atKey xs k).map (·.2)=some p.2:=by rw[ep];rfl
  cases c:dI J k with
  |none =>
   rw[c]at rv;let:=oN.none_of rv;grind
  |some y0 =>
   rw[c]at rv;let⟨w',hw,VP⟩:=oN.some_of rv;rw[ev]at hw;cases hw;show⟨y0,H,I.tok tk,VP,old y0 c⟩
 ·let he:∃q,h'.get? a=some q:=by
   let⟨q,_,_,hq,_⟩:=ä;show⟨q,hq⟩
  let cn:dI J k=none:=by
   cases c:dI J k with
   |none=>rfl
   |some y0 =>
    rw[c]at rv;let⟨w',hw,_⟩:=oN.some_of rv;grind
  let mu:Mut (H a):=by
   obtain⟨_,h|⟨xs,h1,_⟩⟩:=e
   ·rw[h.2];show lW
   ·rw[h1];show lW
  let nt:=λys=>e.a3q (ys:=ys);let keep:∀c ys,H c= ~~~ys->cX H a (.ext (ŏ knd a (xs++[(k,b,u2)]))) c= ~~~ys:=λc ys hc=>by
   rw[aQ (λz=>nt ys ())];show hc
  show⟨y,_,Bc I mu hs he (a1l hd ä),ZL,new cn _ (λc hc=>aQ hc) ⟨(),.inr ⟨_,dw,?_⟩⟩⟩;let go:∀{ks:List (List κ×V)}{ys:List (List κ×Addr×Value)},Paired (λp q=>p.1=q.1/\ZP knd H q.2.1 p.1/\cZ p.2 q.2.2) ks ys->Paired (λp q=>p.1=q.1/\ZP knd (cX H a (.ext (ŏ knd a (xs++[(k,b,u2)])))) q.2.1 p.1/\cZ p.2 q.2.2) (ks++[(k,y)]) (ys++[(k,b,u2)]):=λ{ks ys} r=>by
   induction r with
   |nil=>show .cons ⟨Z,hb.same keep,ZL⟩ .nil
   |cons a _ ih=>show .cons ⟨a.1,a.2.1.same keep,a.2.2⟩ ih
  show go rel
inductive a6G{P:Program}{w:World}(knd:KeyKind P w κ)(x:V)(vs:af)(H:Hp)(Q:VK):Prop
 |mk (a b:Addr) (k:List κ) (J:List (List κ×V)) (v:V) (_:x=.ref a) (_:vs=[.ref b,v]) (_:ZP knd H b k) (_:DX knd H a J) (_:Q ((dI J k).getD v) H)
def a1m(knd:KeyKind X.prog X.w κ)(hu:X.A.units+1<cLine):Ow X "dict.get" (a6G knd):=by
 intro Y s σ H x xs v us Q I rx rs h;let⟨a,b,k,J,y,rfl,rfl,hb,e,q⟩:=h;obtain rfl:v=Value.ref a:=rx;let⟨u,u2,rfl,ru,ZL⟩:=vals2 rs;obtain rfl:u=Value.ref b:=ru;let⟨hd,xs,rel,dd⟩:=Ő I.hok e;show Hl CG dd.typeIs Ui (Uc _ _ _) (meetsH_dict_get_default (tupleKind knd) a b hd u2) ⟨yU hu,k,xs,Pb I.hok hb,dd,⟨_,H,I.tok _,(a6F k rel).getD ZL,q⟩⟩
def tBX{P:Program}{w:World}(knd:KeyKind P w κ)(r:V->af->Hp->VK->Prop)(to:TE)(t:TA):TE:=λσ H Q=>to σ H λx H1=>(∃a J,x=.ref a/\DX knd H1 a J)/\t σ H1 λxs H2=>r x xs H2 Q
def Œ{o e:Expr}{es:ba}{to:TE}{t:TA}{name:Str}{apos cpos:Pos}{id:String}{r:V->af->Hp->VK->Prop}(knd:KeyKind X.prog X.w κ)(pa:PlainAttrs "dict")(slot:Slot "dict" name id)(hty:typeOf (.builtin id)=pure (.type "method_descriptor"))(hm:Ow X id r)(ho:PE X o to)(ha:PA X (e::es) t)
  (hbase:@&(attributeBase o name X.env (eval o X.env)=eval o X.env))
  (hfew:@&(((backTo cpos (starEach (e::es) X.env)).all (λx=>!x.1)&&(backToKw cpos (keywordEach [] X.env)).all (λx=>x.1.isSome)
   && decide ((e::es).length+([]:List Keyword).length+(if([]:List Keyword).isEmpty then 0 else 1)<30))=true))
  (hline:@&((apos.endLine==cpos.line)=true)) (hs:@&(starEach (e::es) X.env=(false,eval e X.env)::starEach es X.env)) (hplain:@&((backTo cpos (starEach es X.env)).any (·.1)=false)) :
  PE X (.Call (.Attribute o name apos) (e::es) [] cpos) (tBX knd r to t):=by
 intro Y s σ H Q I h;show wpAny_Call_method_late hbase hfew hline Z (jr (ho Y s σ H _ I h) λv s1 ⟨x,H1,I1,r1,⟨a,J,ex,dx⟩,q1⟩=>?_);subst ex;obtain rfl:v=Value.ref a:=r1;let⟨_,xs,_,dd⟩:=Ő I1.hok dx;show⟨"dict",id,pa,slot,hty,dd.typeIs,λb eb=>?_,?_⟩
 ·injection eb with eb
  subst eb;let⟨o,_,_,h1,h2,_⟩:=dd;show⟨o,h1,h2.2.1⟩
 let hA:=ha cpos Y s1 σ H1 _ I1 q1;rw[hs]at hA ⊢;show Ue (by show(false||(backTo cpos (starEach es X.env)).any (·.1))=false;rw[hplain]<;>rfl) (Calls.evalArgs_plain ?_);show jr hA λus s2 ⟨vs,H2,I2,r2,q2⟩=>hm Y s2 σ H2 (.ref a) vs _ us Q I2 Z r2 q2
end
end L2
namespace Di
open PyProof.Rows
variable{o:Obj}{es:Array DictEntry}{ep:Nat}
variable{prog:Program}{w:World}{A:Around}{E:∅}{s:Shared}
abbrev vO(d:Addr):Obj:={ cls:=.type "dict_items",data:=.fields #[.ref d]}
def œ{d:Addr}{Q:∅}(hs:(d==sysModules)=false)(ho:s^^^d=some o)(hx:o.ExactDict)
  (h:Q (.ref s⁻¹) (s•s.heap.push (vO d))):∎ (call (.builtin "dict.items") [.ref d]) Q E s:=by
 let hT:s.TypeIs (.ref d) "dict" :=⟨_,ho,hx.1⟩;show gG F.slot_dict_items hT F.entry_dict_items ?_ (F.args_dict_items_1 _);unfold Builtin.«dict.items»;show M ?_;unfold Builtin.Dict.noArgs;show M (Cz hT (ao ?_));show M ?_;unfold Builtin.Dict.showsAll;show jG (L2.xj () (ao ?_));show M (jT (ao ⟨_,Z,h⟩))
def Az{v d:Addr}{Q:∅}(hv:s^^^v=some (vO d))(ho:s^^^d=some o)(hd:o.data=.dict es ep)
  (h:∀h',IsItemIter h' s⁻¹ d 0 es.size ep .none .none->(∀b ob,s^^^b=some ob->h'.get? b=some ob)->Q (.ref s⁻¹) (s•h')):∎ (pyIter (.ref v)) Q E s:=by
 let hT:s.TypeIs (.ref v) "dict_items" :=⟨_,hv,Z⟩;show Nh hT F.slot_dict_items_iter (gG F.slot_dict_items_iter hT F.entry_dict_items_iter ?_ (F.args_dict_items_iter_1 _));unfold Builtin.«dict_items.__iter__»;show M (ao ?_);show M ?_;unfold Builtin.Dict_items.dictOf;show M (gM hv Z (x:=.ref d) Z (ao ?_));show M ?_;unfold Builtin.Dict_items.newIterator;show M (rN ho hd ?_);show M (wV ho hd ?_);let own:Builtin.Dict_items.ownsTuple "dict_itemiterator" = true:=()
 simp only[own,if_true];show jT ?_ (by simp only[sizeOk,sizeLine_eq,Builtin.Dict_items.ownedTupleFields,List.size_toArray,List.length_append,List.length_cons,List.length_nil];omega);show ao ⟨_,Z,"dict_itemiterator",_,⟨_,cB _ Z,Z⟩,F.slot_dict_itemiterator_next.lookup,h _ (cB _ Z) λb ob e=>bM _ e⟩
def item_at{it d:Addr}{i:Nat}{e:DictEntry}{ok ov:Value}{Q:Option Value->Shared->Prop}(ho:s^^^d=some o)(hd:o.data=.dict es ep)(hit:IsItemIter s.heap it d i es.size ep ok ov)(hx:es[i]?=some e)
  (h:∀h',IsItemIterOut h' it d (i+1) es.size ep e.key e.val s⁻¹->h'.get? s⁻¹=some { cls:=.type "tuple",data:=.seq #[e.key,e.val]}->h'.objs.size=s⁻¹+1->
   (∀b ob,b≠it->s^^^b=some ob->h'.get? b=some ob)->Q ⇑(s⁻¹) (s•h')):∎ (pyNext (.ref it)) Q E s:=by
 let hT:s.TypeIs (.ref it) "dict_itemiterator" :=⟨_,hit,Z⟩;let own:Builtin.Dict_items.ownsTuple "dict_itemiterator" = true:=()
 unfold pyNext;show M (uh (nD (name:=Str.ofString "__next__") hT Mq (gG Mq hT ï ?_ (í _))));show M (ao ?_);show M ?_;show M ?_;show M (m:=typeNameOfWhole _) (Ml hT (ao ?_));show M (CV hit Z ?_);rw[aD own];show wpAny _ _ (if(Value.ref d==Value.none)=true then _ else _) _ _ _;show jG (L2.xj (by simp) ?_);show M (m:=Builtin.Dict_items.addrOf _) (ao ?_);show M (rN ho hd ?_);show jG (L2.xj (by simp) ?_);show M (m:=Builtin.Dict_items.addrOf _) (ao ?_);show M (wV ho hd ?_);show jG (L2.xj (by simp) (ao ?_));lk;let e1:(if(i:Int)<0 then none else es[(i:Int).toNat]?)=some e:=by
  rw[aA (),jf];show hx
 rw[e1];lk;show M (M (m:=typeNameOfWhole _) (Ml hT (ao (M (Uj hT ?_)))));show wpAny _ _ (setField (.ref it) 3 (rawInt ((i:Int)+1)) >>= _) _ _ _;show M (j8 hit (by simp) λh1 he1 Q7=>?_);let q1:((i+1:Nat):Int)=(i:Int)+1:=()
 let a6H:IsItemIter h1 it d (i+1) es.size ep ok ov:=by unfold IsItemIter;rw[q1];simpa [rawInt]using he1
 let hT1:Shared.TypeIs (s•h1) (.ref it) "dict_itemiterator" :=⟨_,a6H,rfl⟩;let z1:h1.objs.size=s⁻¹:=Q7.1;let il:it<s⁻¹:=bw hit;show M (eG (M (Uj hT1 (M (Uj hT1 ?_)))));show wpAny _ _ (Builtin.Dict_items.pairFromOwner (.ref it) 6 e.key e.val) _ _ (s•h1);unfold Builtin.Dict_items.pairFromOwner;show M (NK ?_);let he2:IsItemIter (h1.push { cls:=.type "tuple",data:=.seq #[e.key,e.val]}) it d (i+1) es.size ep ok ov:=bM _ a6H;let t2:(h1.push { cls:=.type "tuple",data:=.seq #[e.key,e.val]}).get? s⁻¹=some { cls:=.type "tuple",data:=.seq #[e.key,e.val]}:=by rw[<-z1];show cB _ rfl
 let z2:(h1.push { cls:=.type "tuple",data:=.seq #[e.key,e.val]}).objs.size=s⁻¹+1:=by rw[oK,z1]
 let k2:∀b ob,b≠it->s^^^b=some ob->(h1.push { cls:=.type "tuple",data:=.seq #[e.key,e.val]}).get? b=some ob:=λb ob hb q=>bM _ (Q7.extBut b ob hb q);rw[z1];generalize h1.push { cls:=.type "tuple",data:=.seq #[e.key,e.val]}=h2 at he2 t2 z2 k2;show M ?_;unfold Builtin.Dict_items.ownedTupleIsFree;show M (gM he2 Z (x:=.none) Z (ao ?_));simp only[if_true];show M (gM he2 Z (x:=ok) Z (M (gM he2 Z (x:=ov) Z ?_)));show M (j8 he2 (by simp) λh3 he3 s3=>?_);let he3:IsItemIter h3 it d (i+1) es.size ep e.key ov:=he3;show M (j8 he3 (by simp) λh4 he4 s4=>?_);let he4:IsItemIter h4 it d (i+1) es.size ep e.key e.val:=he4;show M (j8 he4 (by simp) λh5 he5 s5=>?_);let he5:IsItemIterOut h5 it d (i+1) es.size ep e.key e.val s⁻¹:=he5;show M (j8 he5 (by simp) λh6 he6 s6=>?_);let he6:IsItemIterOut h6 it d (i+1) es.size ep e.key e.val s⁻¹:=he6;let up:∀b ob,b≠it->h2.get? b=some ob->h6.get? b=some ob:=λb ob hb q=>s6.extBut b ob hb (s5.extBut b ob hb (s4.extBut b ob hb (s3.extBut b ob hb q)));show M (zj (ao (ao ⟨_,Z,ao (h h6 he6 (up _ _ (iU il) t2) ?_ λb ob hb q=>up b ob hb (k2 b ob hb q))⟩)));show h6.objs.size=_;rw[s6.1,s5.1,s4.1,s3.1];show z2
def HY{it d:Addr}{ok ov:Value}{Q:Option Value->Shared->Prop}(hh:A.handled=none)(ho:s^^^d=some o)(hd:o.data=.dict es ep)(hit:IsItemIter s.heap it d es.size es.size ep ok ov)
  (h:∀h',Heap.ExtBut it s.heap h'->Q none (s•h')):∎ (pyNext (.ref it)) Q E s:=by
 let hT:s.TypeIs (.ref it) "dict_itemiterator" :=⟨_,hit,Z⟩;let own:Builtin.Dict_items.ownsTuple "dict_itemiterator" = true:=()
 unfold pyNext;show M (uh (nD (name:=Str.ofString "__next__") hT Mq (gG Mq hT ï ?_ (í _))));show M (ao ?_);show M ?_;show M ?_;show M (m:=typeNameOfWhole _) (Ml hT (ao ?_));show M (CV hit Z ?_);rw[aD own];show wpAny _ _ (if(Value.ref d==Value.none)=true then _ else _) _ _ _;show jG (L2.xj (by simp) ?_);show M (m:=Builtin.Dict_items.addrOf _) (ao ?_);show M (rN ho hd ?_);show jG (L2.xj (by simp) ?_);show M (m:=Builtin.Dict_items.addrOf _) (ao ?_);show M (wV ho hd ?_);show jG (L2.xj (by simp) (ao ?_));lk;let e1:(if(es.size:Int)<0 then none else es[(es.size:Int).toNat]?)=none:=by rw[aA (),jf];simp
 rw[e1];lk;show M (M (m:=typeNameOfWhole _) (Ml hT (ao ?_)));show wpAny _ _ (setField (.ref it) 2 .none >>= _) _ _ _;show M (j8 hit (by simp) λh1 hI1 Q7=>?_);show M ?_;simp only[newExc,newTuple];show M (jT ?_ (by size_fits));show M (m:=firstArgMember _ _) (Hq (a:=Value.none) (by first|rfl|(simp only[firstArgMember];rfl)) ?_);show jT ?_ (by size_fits);simp only[raiseNew];show M (N6 ?_);rw[show A.in1.handled=none from hh];show M (ao (Oe ?_));show M (vG (U:="StopIteration") (T:="StopIteration") (b:=true) ⟨_,cB _ Z,Z⟩ Hh (ao (h _ ((Q7.extBut.push _).push _))))
end Di
namespace L2
open PyProof.Rows Bg
variable{o:Obj}{u:HO}{as:aI}
noncomputable def Yn(p d:Addr):HO:=.ext (λh=>h.get? p=some (Di.vO d))
noncomputable def Iti(o:Obj)(d:Addr)(u:HO)(as:aI)(vs:af):It :=
 ⟨λi H=>H d=some (.iw o u)/\i<as.length,λi H x H'=>∃p a v,x=.ref p/\as[i]?=some a/\vs[i]?=some v/\iH H p (.tup [.ref a,v]) H',λi H=>H d=some (.iw o u)/\i=as.length⟩
def Wu{P:Program}{w:World}{K:aH}{elts:ba}{k:Nat}{pos:Pos}(d it:Addr){vs:af}{es:Array DictEntry}{ep:Nat}(hd:o.data=.dict es ep)(ek:es.toList.map (·.key)=as.map Value.ref)(ev:cN vs (es.toList.map (·.val))) :
  Turn P w K (.Tuple elts k pos) (Iti o d u as vs) [it] it (λi h=>∃ok ov,IsItemIter h it d i es.size ep ok ov) where
 mem:=by simp
 obj:=λi h st b hb=>by
  grind
 keep:=λi h h' ⟨ok,ov,st⟩ k=>⟨ok,ov,k it (by simp) _ st⟩
 item:=by
  intro X hP hw hK hc i Y s σ H E I hf st hg
  subst hP hw hK
  let⟨ok,ov,st⟩:=st
  let⟨hq,hi⟩:=hg
  let⟨hd1,_⟩:=I.hok d _ hq
  let⟨f0,f1,f2,f3,f4,f5⟩:=hf it (by simp)
  let ne:d≠it:=λz=>by grind
  let lz:es.size=as.length:=by let:=congrArg List.length ek;grind
  let he:es[i]?=some (es[i]'()):=yN ()
  let a4p:(es[i]'()).key=Value.ref as[i]:=by
   let:=congrArg (λl=>l[i]?) ek
   grind
  let lv:vs.length=as.length:=by
   let:=ev.length
   grind
  obtain⟨v,hv⟩:∃v,vs[i]?=some v:=⟨vs[i]'(),bO _⟩
  let⟨u1,hu1,ru1⟩:=ev.get hv
  let a8Z:(es[i]'()).val=u1:=by
   grind
  show Di.item_at hd1 hd st he λh' hI ht hz kp=>⟨_,Z,wpAny_letOwnedTupleGo_items hI λh3 hI3 sb3=>?_⟩
  let nit:s⁻¹≠it:=iU (bw st)
  let kp3:∀c oc,c∉[it]->s^^^c=some oc->h3.get? c=some oc:=λc oc hc q=>by
   let hc':c≠it:=()
   show(sb3.2 c hc').trans (kp c oc hc' q)
  let I1:bF X Y σ H (s•h3):=Gk I [it] (λc hc=>hf c hc) kp3
  let hfree:H s⁻¹=none:=I.hok.fresh (aK _)
  let ht3:h3.get? s⁻¹=some { cls:=.type "tuple",data:=.seq #[(es[i]'()).key,(es[i]'()).val]}:=(sb3.2 _ nit).trans ht
  let I2:bF X Y σ (cX H s⁻¹ (.tup [.ref as[i],v])) (s•h3):=by
   show bF.track I1 hfree I.sz (iU I.lt) (λy c q=>?_) (λp hp=>b7 (bw (I.pin p hp).1)) ?_
   ·let⟨v,oc,q1,_⟩:=I.cell y c q
    grind
   ·show⟨(by show 2<=sizeLine;decide),[(es[i]'()).key,(es[i]'()).val],.cons a4p (.cons () .nil),⟨_,ht3,Z,_,Z⟩⟩
  show⟨.ref s⁻¹,_,I2,Z,⟨_,as[i],v,Z,bO hi,hv,iH.nC hfree⟩,⟨_,_,hI3⟩,λc hc=>?_⟩
  let e:c=it:=()
  subst e
  rw[aQ (Ne.symm nit)]
  show f0
 done:=by
  intro X hP hw hK hc i Y s σ H E I hf st hg
  subst hP hw hK
  let⟨ok,ov,st⟩:=st
  let⟨hq,hx⟩:=hg
  let⟨hd1,_⟩:=I.hok d _ hq
  let⟨f0,f1,f2,f3,f4,f5⟩:=hf it (by simp)
  let lz:es.size=as.length:=by let:=congrArg List.length ek;grind
  rw[hx,<-lz]at st
  show Di.HY (I.ok.hd hc) hd1 hd st λh' eb=>⟨Z,I.turned (t':=s.toks) (λb o hb e=>eb b o hb e) f0 f1 f3 f4 f5⟩
 self:=λ_ _ _ _ _ ⟨ok,ov,st⟩ h=>PySem.W.kcp_self st h
section
variable{X:Cx}
inductive a1n(x:V)(vs:af)(H:Hp)(Q:VK):Prop
 |mk (d:Addr) (J:List (aS×V)) (_:x=.ref d) (_:vs=[]) (_:H d=some (.dT J)) (_:∀p H',iH H p (Yn p d) H'->Q (.ref p) H')
def rE:Ow X "dict.items" a1n:=by
 intro Y s σ H x xs v us Q I rx rs h;let⟨d,J,rfl,rfl,e,q⟩:=h;obtain rfl:v=Value.ref d:=rx;cases rs;let⟨_,hs,xs,rel,o,es,ep,ho,hx,hdt,hes,_,_⟩:=Bb I.hok e;show Di.œ hs ho hx ?_;let g:(s.heap.push (Di.vO d)).get? s⁻¹=some (Di.vO d):=cB _ rfl;show⟨.ref s⁻¹,_,I.laid (t':=s.toks) (o:=Yn s⁻¹ d) (λb ob eb=>bM _ eb) (aK _) ⟨g,⟨_,g⟩,λh1 h2 e1 k=>k _ e1⟩,Z,q _ _ (iH.nC (I.hok.fresh (aK _)))⟩
def a1o(tl:TE):TI:=λσ H R=>tl σ H λx H1=>∃p d J,x=.ref p/\H1 p=some (Yn p d)/\H1 d=some (.dT J)/\
 ∀o as,Paired (λa (kv:aS×V)=>(cX H1 d (.iw o (.dT J))) a= ~~~(kv.1.map kV)) as J->R (Iti o d (.dT J) as (J.map (·.2))) (cX H1 d (.iw o (.dT J)))
def rF{elts:ba}{k:Nat}{tpos:Pos}{l:Expr}{tl:TE}(hl:PE X l tl):PI X (.Tuple elts k tpos) l (a1o tl):=by
 intro Y s σ H R I h;show jr (hl Y s σ H _ I h) λv s1 ⟨x,H1,I1,r1,q1⟩=>?_;let⟨p,d,J,e,hp,hd,q⟩:=q1;subst e;cases r1;let⟨_,hs,xs,rel,o,es,ep,ho,hx,hdt,hes,_,_⟩:=Bb I1.hok hd;let hv:s1^^^p=some (Di.vO d):=(show fB X.prog X.w H1 s1.heap p (Yn p d)from I1.hok p _ hp).1;let I2:bF X Y σ (cX H1 d (.iw o (.dT J))) s1:=I1.O9 hd (λ_ z=>by cases z) (λ_ z=>by cases z) (λ_ z=>by cases z) (I1.Rn hd λ_ _ z=>by cases z) ⟨ho,I1.hok d _ hd⟩;let ek:es.toList.map (·.key)=(xs.map λx=>x.2.1).map Value.ref:=by rw[hes,lV,lV];rfl
 let ev:cN (J.map (·.2)) (es.toList.map (·.val)):=by
  rw[hes,lV];let go:∀{ks:List (aS×V)}{ys:List (aS×Addr×Value)},KT H1 ks ys->cN (ks.map (·.2)) (ys.map λx=>x.2.2):=λ{ks ys} r=>by
   induction r with
   |nil=>show .nil
   |cons a _ ih=>show .cons a.2.2 ih
  show go rel
 let pk:Paired (λa (kv:aS×V)=>(cX H1 d (.iw o (.dT J))) a= ~~~(kv.1.map kV)) (xs.map λx=>x.2.1) J:=by
  let go:∀{ks:List (aS×V)}{ys:List (aS×Addr×Value)},KT H1 ks ys->Paired (λa (kv:aS×V)=>(cX H1 d (.iw o (.dT J))) a= ~~~(kv.1.map kV)) (ys.map λx=>x.2.1) ks:=λ{ks ys} r=>by
   induction r with
   |nil=>show .nil
   | @cons kv y _ _ a _ ih =>
    show .cons ?_ ih;let nb:y.2.1≠d:=λz=>by grind
    rw[aQ nb];show a.2.1
  show go rel
 show Di.Az hv ho hdt λh' hI kp=>⟨s1⁻¹,[s1⁻¹],_,_,_,Z,I2.kept (t':=s1.toks) (λb ob e=>kp b ob e),Wu d _ hdt ek ev,⟨_,_,hI⟩,λb hb=>?_,q o _ pk⟩;let e:b=s1⁻¹:=()
 subst e;show I2.Fq (aK _) (I2.hok.fresh (aK _))
end
def sE{d:Addr}{vs:af}{g:TG}{tb:TS}{D:Ends}{σ:St}{H:Hp}(Pv:Nat->St->Hp->Prop)(h0:Pv 0 σ H)(hl:∀i σ H,i<=as.length->Pv i σ H->H d=some (.iw o u))
  (hs:∀(i:Nat) a v σ H p H',as[i]?=some a->vs[i]?=some v->Pv i σ H->iH H p (.tup [.ref a,v]) H'->g (.ref p) σ H' λσ2 H2=>tb { D with nx:=Pv (i+1),ct:=Pv (i+1),bk:=D.nx} σ2 H2) (hd:∀σ H,Pv as.length σ H->D.nx σ H) :
  ∃W:Nat->Nat->St->Hp->Prop,(∃m,W 0 m σ H)/\∀i m σ H,W i m σ H->
   ((Iti o d u as vs).stop i H/\D.nx σ H)\/((Iti o d u as vs).go i H/\∃N:St->Hp->Prop,(∀σ' H',N σ' H'->∃m',m'<m/\W (i+1) m' σ' H')/\∀x H',(Iti o d u as vs).Xw i H x H'->g x σ H' λσ2 H2=>tb { D with nx:=N,ct:=N,bk:=D.nx} σ2 H2):=by
 show⟨λi m σ H=>m=as.length-i/\i<=as.length/\Pv i σ H,⟨as.length,by simp,dG _,h0⟩,?_⟩;rintro i m σ H ⟨rfl,hi,p⟩;let q1:=hl i σ H hi p;by_cases hlt:i<as.length
 ·show .inr ⟨⟨q1,hlt⟩,Pv (i+1),λσ' H' p'=>⟨as.length-(i+1),(),Z,hlt,p'⟩,λx H' y=>?_⟩;let⟨pp,a,v,rfl,ea,ev,nw⟩:=y;show hs i a v σ H pp H' ea ev p nw
 ·let e:i=as.length:=()
  subst e;show .inl ⟨⟨q1,Z⟩,hd σ H p⟩
def ZQ{d:Addr}{vs:af}{ix:List (Option Nat)}{g:TG}{tt:TT}{te:TE}{σ:St}{H1:Hp}{Q:VK}(Pv:Nat->af->Hp->Prop)(h0:Pv 0 [] H1)(hl:∀i ys H,i<=as.length->Pv i ys H->H d=some (.iw o u)/\ys.length<=5000)
  (hs:∀i ys H a v p H',as[i]?=some a->vs[i]?=some v->Pv i ys H->iH H p (.tup [.ref a,v]) H'->g (.ref p) (qg ix σ) H' λσ2 H2=>tt σ2 H2 λb H3=>if b=true then te σ2 H3 λv H4=>Pv (i+1) (ys++[v]) H4 else Pv (i+1) ys H3)
  (hd:∀ys H p,Pv as.length ys H->H p=none->Q (.ref p) (cX H p (.lst ys))):lY ix g tt te σ H1 Q (Iti o d u as vs):=by
 show⟨λi m ys H=>m=as.length-i/\i<=as.length/\Pv i ys H,⟨as.length,by simp,dG _,h0⟩,?_⟩;rintro i m ys H ⟨rfl,hi,pp⟩;let⟨hx,z⟩:=hl i ys H hi pp;let z':ys.length<=sizeLine:=by rw[gK];omega
 by_cases hlt:i<as.length
 ·show .inr ⟨⟨hx,hlt⟩,z',λys' H'=>Pv (i+1) ys' H',λys' H' p'=>⟨as.length-(i+1),(),Z,hlt,p'⟩,λx H' y=>?_⟩;let⟨p,a,v,rfl,ea,ev,nw⟩:=y;show hs i ys H a v p H' ea ev pp nw
 ·let ei:i=as.length:=()
  subst ei;show .inl ⟨⟨hx,Z⟩,z',λp hp=>hd ys H p pp hp⟩
end L2
namespace Z3
open PyProof.Rows
variable{a b c x:Value}{k n l1 l2 l3:Nat}{xs ys zs:Array Value}
abbrev JS(h:Heap)(T:Addr)(a b c:Value):Prop:=h.get? T=some { cls:=.type "tuple",data:=.seq #[a,b,c]}
section
variable{prog:Program}{w:World}{A:Around}{E:∅}{s:Shared}
def put{T:Addr}{Q:Unit->Shared->Prop}(hT:JS s.heap T a b c)
  (h:∀h',h'.get? T=some { cls:=.type "tuple",data:=.seq ((#[a,b,c]:Array Value).setIfInBounds k x)}->Heap.SameBut T s.heap h'->Q ⟨⟩ (s•h')):∎ (updateSeq T (·.setIfInBounds k x)) Q E s:=by
 show Ny hT Z (h _ ?_ (qF ..));rw[Cy _ hT rfl];simp[Obj.mapSeq]
def next_item{y v:Value}{Q:∅}(q1:l1<n)(q2:l2<n)(q3:l3<n)
  (hz:IsZip s.heap (n+5) (n+3) (n+4) .none) (hTI:JS s.heap (n+3) (.ref n) (.ref (n+1)) (.ref (n+2))) (hTO:JS s.heap (n+4) a b c)
  (h1:s.heap.IsListIter n l1 k) (h2:s.heap.IsListIter (n+1) l2 k) (h3:s.heap.IsListIter (n+2) l3 k) (hl1:s.heap.IsList l1 xs) (hl2:s.heap.IsList l2 ys) (hl3:s.heap.IsList l3 zs) (hx:xs[k]?=some x) (hy:ys[k]?=some y) (hv:zs[k]?=some v)
  (hQ:∀h',IsZip h' (n+5) (n+3) (n+4) (rawInt s⁻¹)->JS h' (n+4) x y v->h'.IsListIter n l1 (k+1)->h'.IsListIter (n+1) l2 (k+1)->h'.IsListIter (n+2) l3 (k+1)->JS h' s⁻¹ x y v->
   (∀e o,e≠n->e≠n+1->e≠n+2->e≠n+4->e≠n+5->s^^^e=some o->h'.get? e=some o)->Q (.ref s⁻¹) (s•h')) :
  ∎ (Builtin.«zip.__next__» ⟨[.ref (n+5)],[]⟩) (λfin s'=>∃v,fin=.done (.ret v)/\Q v s') E s:=by
 let d41:((n+4):Nat)≠(n+1):=()
 let d42:((n+4):Nat)≠(n+2):=()
 let d54:((n+5):Nat)≠(n+4):=()
 let d52:((n+5):Nat)≠(n+2):=()
 let d51:((n+5):Nat)≠(n+1):=()
 let d50:((n+5):Nat)≠n:=()
 let d04:(n:Nat)≠(n+4):=()
 let d02:(n:Nat)≠(n+2):=()
 let d01:(n:Nat)≠(n+1):=()
 let d14:((n+1):Nat)≠(n+4):=()
 let d12:((n+1):Nat)≠(n+2):=()
 let d24:((n+2):Nat)≠(n+4):=()
 show wpAny _ _ (field (.ref (n+5)) 2 >>= _) _ _ _;show M (gM hz Z (x:=.bool false) Z ?_);show wpAny _ _ (field (.ref (n+5)) 3 >>= _) _ _ _;show M (gM hz Z (x:=.ref (n+3)) Z (M (qG hTI Z ?_)));show wpAny _ _ (Builtin.SmallTypes.ownedTupleIsFree (.ref (n+5)) >>= _) _ _ _;show M ?_;unfold Builtin.SmallTypes.ownedTupleIsFree;show M (gM hz Z (x:=.none) Z (ao ?_));simp only[if_true];show M (j9 (M (gM hz Z (x:=.ref (n+4)) Z ?_)));show M (j8 hz (by simp) λg1 z1 s1=>?_);let z1:IsZip g1 (n+5) (n+3) (n+4) .ellipsis:=z1;show M ?_;simp only[List.zipIdx_cons,List.zipIdx_nil,List.forIn_cons,List.forIn_nil];let k1:∀e o,e≠n+5->s^^^e=some o->g1.get? e=some o:=λe o he q=>s1.extBut e o he q;show M (M (N8 ?_));show wpAny _ _ (Builtin.SmallTypes.nextOf (.ref n) >>= _) _ _ _;show M (GF (h1.at λo q=>k1 _ o () q) (hl1.at λo q=>k1 _ o () q) hx λg2 i2 s2=>ao ?_);let k2:∀e o,e≠n+5->e≠n->s^^^e=some o->g2.get? e=some o:=λe o he h0 q=>s2.extBut e o h0 (k1 e o he q);let t2:JS g2 (n+4) a b c:=k2 _ _ () () hTO;show M (qG t2 Z (M (put t2 λg3 t3 s3=>?_)));let t3:JS g3 (n+4) x b c:=t3;show M (zj (ao ?_));let k3:∀e o,e≠n+5->e≠n->e≠n+4->s^^^e=some o->g3.get? e=some o:=λe o he h0 h4 q=>s3.extBut e o h4 (k2 e o he h0 q);show M (M (N8 ?_));show wpAny _ _ (Builtin.SmallTypes.nextOf (.ref (n+1)) >>= _) _ _ _;show M (GF (h2.at λo q=>k3 _ o () () () q) (hl2.at λo q=>k3 _ o () () () q) hy λg4 i4 s4=>ao ?_);let k4:∀e o,e≠n+5->e≠n->e≠n+4->e≠n+1->s^^^e=some o->g4.get? e=some o:=λe o he h0 h4 h5 q=>s4.extBut e o h5 (k3 e o he h0 h4 q);let t4:JS g4 (n+4) x b c:=s4.extBut (n+4) _ d41 t3;show M (qG t4 Z (M (put t4 λg5 t5 s5=>?_)));let t5:JS g5 (n+4) x y c:=t5;show M (zj (ao ?_));let k5:∀e o,e≠n+5->e≠n->e≠n+4->e≠n+1->s^^^e=some o->g5.get? e=some o:=λe o he h0 h4 h5 q=>s5.extBut e o h4 (k4 e o he h0 h4 h5 q);show M (M (N8 ?_));show wpAny _ _ (Builtin.SmallTypes.nextOf (.ref (n+2)) >>= _) _ _ _;show M (GF (h3.at λo q=>k5 _ o () () () () q) (hl3.at λo q=>k5 _ o () () () () q) hv λg6 i6 s6=>ao ?_);let t6:JS g6 (n+4) x y c:=s6.extBut (n+4) _ d42 t5;show M (qG t6 Z (M (put t6 λg7 t7 s7=>?_)));let t7:JS g7 (n+4) x y v:=t7;show M (zj (ao (ao ?_)));let k7:∀e o,e≠n->e≠n+1->e≠n+2->e≠n+4->e≠n+5->s^^^e=some o->g7.get? e=some o:=λe o a0 a1 a2 a4 a5 q=>s7.extBut e o a4 (s6.extBut e o a2 (k5 e o a5 a0 a4 a1 q));show M (qG t7 Z (M (NK ?_)));let sz:g7.objs.size=s⁻¹:=by rw[s7.1,s6.1,s5.1,s4.1,s3.1,s2.1,s1.1]
 let z7:IsZip g7 (n+5) (n+3) (n+4) .ellipsis:=s7.extBut (n+5) _ d54 (s6.extBut (n+5) _ d52 (s5.extBut (n+5) _ d54 (s4.extBut (n+5) _ d51 (s3.extBut (n+5) _ d54 (s2.extBut (n+5) _ d50 z1)))));let i2':g7.IsListIter n l1 (k+1):=i2.at λo q=>s7.extBut n _ d04 (s6.extBut n _ d02 (s5.extBut n _ d04 (s4.extBut n _ d01 (s3.extBut n _ d04 q))));let i4':g7.IsListIter (n+1) l2 (k+1):=i4.at λo q=>s7.extBut (n+1) _ d14 (s6.extBut (n+1) _ d12 (s5.extBut (n+1) _ d14 q));let i6':g7.IsListIter (n+2) l3 (k+1):=i6.at λo q=>s7.extBut (n+2) _ d24 q;let nl:n+5<g7.objs.size:=bw z7;show wpAny _ _ (Builtin.SmallTypes.ownedTupleHandOut (.ref (n+5)) (.ref g7.objs.size) >>= _) _ _ _;show M ?_;unfold Builtin.SmallTypes.ownedTupleHandOut;let z8:IsZip (g7.push { cls:=.type "tuple",data:=.seq #[x,y,v]}) (n+5) (n+3) (n+4) .ellipsis:=bM _ z7;show M (j8 z8 (by simp) λg9 z9 s9=>?_);let z9:IsZip g9 (n+5) (n+3) (n+4) (rawInt g7.objs.size):=z9;show j8 z9 (by simp) λg10 z10 s10=>?_;let z10:IsZip g10 (n+5) (n+3) (n+4) (rawInt g7.objs.size):=z10;let up:∀e o,e≠n+5->g7.get? e=some o->g10.get? e=some o:=λe o he q=>s10.extBut _ _ he (s9.extBut _ _ he (bM _ q));let ng:g7.objs.size≠n+5:=iU nl;let t10:JS g10 g7.objs.size x y v:=s10.extBut g7.objs.size _ ng (s9.extBut g7.objs.size _ ng (cB _ Z));rw[sz]at z10 t10;show ao ⟨_,Z,?_⟩;show Q (.ref g7.objs.size) _;rw[sz];show hQ g10 z10 (up _ _ () t7) (i2'.at λo q=>up _ o () q) (i4'.at λo q=>up _ o () q) (i6'.at λo q=>up _ o () q) t10 λe o a0 a1 a2 a4 a5 q=>up e o a5 (k7 e o a0 a1 a2 a4 a5 q)
def Rq{y v:Value}{Q:Option Value->Shared->Prop}(q1:l1<n)(q2:l2<n)(q3:l3<n)
  (hz:IsZip s.heap (n+5) (n+3) (n+4) .none) (hTI:JS s.heap (n+3) (.ref n) (.ref (n+1)) (.ref (n+2))) (hTO:JS s.heap (n+4) a b c)
  (h1:s.heap.IsListIter n l1 k) (h2:s.heap.IsListIter (n+1) l2 k) (h3:s.heap.IsListIter (n+2) l3 k) (hl1:s.heap.IsList l1 xs) (hl2:s.heap.IsList l2 ys) (hl3:s.heap.IsList l3 zs) (hx:xs[k]?=some x) (hy:ys[k]?=some y) (hv:zs[k]?=some v)
  (hQ:∀h',IsZip h' (n+5) (n+3) (n+4) (rawInt s⁻¹)->JS h' (n+4) x y v->h'.IsListIter n l1 (k+1)->h'.IsListIter (n+1) l2 (k+1)->h'.IsListIter (n+2) l3 (k+1)->JS h' s⁻¹ x y v->
   (∀e o,e≠n->e≠n+1->e≠n+2->e≠n+4->e≠n+5->s^^^e=some o->h'.get? e=some o)->Q ⇑(s⁻¹) (s•h')) :
  ∎ (pyNext (.ref (n+5))) Q E s:=by
 let hT:s.TypeIs (.ref (n+5)) "zip" :=⟨_,hz,Z⟩;unfold pyNext;show M (uh (nD (name:=Str.ofString "__next__") hT wW (gG wW hT Nu (next_item q1 q2 q3 hz hTI hTO h1 h2 h3 hl1 hl2 hl3 hx hy hv λh' a1 a2 a3 a4 a5 a6 a7=>ao (hQ h' a1 a2 a3 a4 a5 a6 a7)) (Ni _))))
def Wv{l2 l3:Nat}{a b c:Value}{Q:Option Value->Shared->Prop}(hh:A.handled=none)(q1:l1<n)
  (hz:IsZip s.heap (n+5) (n+3) (n+4) .none) (hTI:JS s.heap (n+3) (.ref n) (.ref (n+1)) (.ref (n+2))) (h1:s.heap.IsListIter n l1 k) (hl1:s.heap.IsList l1 xs) (hx:xs[k]?=none)
  (hQ:∀h',(∀e o,e≠n->e≠n+5->s^^^e=some o->h'.get? e=some o)->Q none (s•h')) :
  ∎ (pyNext (.ref (n+5))) Q E s:=by
 let hT:s.TypeIs (.ref (n+5)) "zip" :=⟨_,hz,Z⟩;let d50:(n+5:Nat)≠n:=()
 unfold pyNext;show M (uh (nD (name:=Str.ofString "__next__") hT wW (gG wW hT Nu ?_ (Ni _))));show wpAny _ _ (field (.ref (n+5)) 2 >>= _) _ _ _;show M (gM hz Z (x:=.bool false) Z ?_);show wpAny _ _ (field (.ref (n+5)) 3 >>= _) _ _ _;show M (gM hz Z (x:=.ref (n+3)) Z (M (qG hTI Z ?_)));show wpAny _ _ (Builtin.SmallTypes.ownedTupleIsFree (.ref (n+5)) >>= _) _ _ _;show M ?_;unfold Builtin.SmallTypes.ownedTupleIsFree;show M (gM hz Z (x:=.none) Z (ao ?_));simp only[if_true];show M (j9 (M (gM hz Z (x:=.ref (n+4)) Z ?_)));show M (j8 hz (by simp) λg1 z1 s1=>?_);let z1:IsZip g1 (n+5) (n+3) (n+4) .ellipsis:=z1;show M ?_;simp only[List.zipIdx_cons,List.zipIdx_nil,List.forIn_cons,List.forIn_nil];let k1:∀e o,e≠n+5->s^^^e=some o->g1.get? e=some o:=λe o he q=>s1.extBut e o he q;show M (M (N8 ?_));show wpAny _ _ (Builtin.SmallTypes.nextOf (.ref n) >>= _) _ _ _;show M (wpAny_nextOf_list_end () (h1.at λo q=>k1 _ o () q) (hl1.at λo q=>k1 _ o () q) hx λg2 e s2 he=>?_);let⟨oe,hoe,hce⟩:=he;let z2:IsZip g2 (n+5) (n+3) (n+4) .ellipsis:=s2 (n+5) _ d50 z1;let ne:e≠n+5:=λz=>by grind
 show j8 z2 (by simp) λg3 _ s3=>M (vG (U:="StopIteration") (T:="StopIteration") (b:=true) ⟨oe,s3.extBut e _ ne hoe,hce⟩ Hh (ao (hQ _ λc o c0 c5 q=>s3.extBut c o c5 (s2 c o c0 (k1 c o c5 q)))))
end
def ZR(a b c:Value):checkTypeCall "zip" ⟨[a,b,c],[]⟩=pure ⟨⟩:=by kernel_rfl
def Ŕ(a b c:Value):checkBuiltinCall "zip.__new__" ⟨[.type "zip",a,b,c],[]⟩=pure ⟨⟩:=by kernel_rfl
def Ww(a b c d:Value):argsOk "object.__init__" ⟨[a,b,c,d],[]⟩:=by unfold argsOk;rw[signature?_of (id:="object.__init__") (n:=['_','_','t','i','n','i','_','_']) (o:=['t','c','e','j','b','o']) (by kernel_rfl) F.owner_object];kernel_rfl
abbrev p1(h:Heap)(l1:Addr):Heap:=h.push { cls:=.type "list_iterator",data:=.fields #[.ref l1,.int 0 0]}
abbrev p2(h:Heap)(l1 l2:Addr):Heap:=p1 (p1 h l1) l2
abbrev p3(h:Heap)(l1 l2 l3:Addr):Heap:=p1 (p2 h l1 l2) l3
abbrev p4(h:Heap)(l1 l2 l3:Addr):Heap:=(p3 h l1 l2 l3).push { cls:=.type "tuple",data:=.seq #[.ref h.objs.size,.ref (p1 h l1).objs.size,.ref (p2 h l1 l2).objs.size]}
abbrev p5(h:Heap)(l1 l2 l3:Addr):Heap:=(p4 h l1 l2 l3).push { cls:=.type "tuple",data:=.seq #[.none,.none,.none]}
abbrev p6(h:Heap)(l1 l2 l3:Addr):Heap:=(p5 h l1 l2 l3).push { cls:=.type "zip",data:=.fields #[.none,.bool false,.bool false,.ref (p3 h l1 l2 l3).objs.size,.ref (p4 h l1 l2 l3).objs.size]}
def ZS(l1 l2 l3:Addr)(xs ys zs:Array Value) :
  Meets (Builtin.«zip.__new__» ⟨[.type "zip",.ref l1,.ref l2,.ref l3],[]⟩) (λ_ R s=>s.heap.IsList l1 xs/\s.heap.IsList l2 ys/\s.heap.IsList l3 zs/\R (.ok (.ret (.ref (p5 s.heap l1 l2 l3).objs.size))) (s•p6 s.heap l1 l2 l3)) :=
 .of_wp λprog w A R s h=>by
  let⟨hp,g,d,tk,os⟩:=s;let⟨hl1,hl2,hl3,h⟩:=h;let hsub:=sub_zip;let a1:Heap.IsList (Shared.heap ⟨hp,g,d,tk,os⟩) l1 xs:=hl1;let a2:Heap.IsList (Shared.heap ⟨p1 hp l1,g,d,tk,os⟩) l2 ys:=Vc hl2 _;let a3:Heap.IsList (Shared.heap ⟨p2 hp l1 l2,g,d,tk,os⟩) l3 zs:=Vc (Vc hl3 _) _
  wp_walk using vC a1,vC a2,vC a3
  show⟨_,Z,h⟩
section
variable{prog:Program}{w:World}{A:Around}{E:∅}{s:Shared}
def a6I{l1 l2 l3:Addr}{Q:∅}(hl1:s.heap.IsList l1 xs)(hl2:s.heap.IsList l2 ys)(hl3:s.heap.IsList l3 zs)
  (h:∀h',IsZip h' (s⁻¹+5) (s⁻¹+3) (s⁻¹+4) .none->JS h' (s⁻¹+3) (.ref s⁻¹) (.ref (s⁻¹+1)) (.ref (s⁻¹+2))->
   JS h' (s⁻¹+4) .none .none .none->h'.IsListIter s⁻¹ l1 0->h'.IsListIter (s⁻¹+1) l2 0->h'.IsListIter (s⁻¹+2) l3 0->
   (∀c o,s^^^c=some o->h'.get? c=some o)->Q (.ref (s⁻¹+5)) (s•h')) :
  ∎ (call (.type "zip") [.ref l1,.ref l2,.ref l3]) Q E s:=by
 show callType_new F.called_zip () (ZR _ _ _) (Ŕ _ _ _) (λobj=>Ww obj _ _ _) F.entry_zip_new (ZS l1 l2 l3 xs ys zs) ⟨hl1,hl2,hl3,?_⟩;generalize hn:s⁻¹=n at h;let z1:(p1 s.heap l1).objs.size=n+1:=by rw[oK,hn]
 let z2:(p2 s.heap l1 l2).objs.size=n+2:=by rw[oK,z1]
 let z3:(p3 s.heap l1 l2 l3).objs.size=n+3:=by rw[oK,z2]
 let z4:(p4 s.heap l1 l2 l3).objs.size=n+4:=by rw[oK,z3]
 let z5:(p5 s.heap l1 l2 l3).objs.size=n+5:=by rw[oK,z4]
 let up:∀{h0:Heap}{c:Addr}{o ob:Obj},h0.get? c=some o->(h0.push ob).get? c=some o:=λe=>bM _ e;let g6:(p6 s.heap l1 l2 l3).get? (p5 s.heap l1 l2 l3).objs.size=some _:=cB _ rfl;let g5:(p6 s.heap l1 l2 l3).get? (p4 s.heap l1 l2 l3).objs.size=some _:=up (cB _ Z);let g4:(p6 s.heap l1 l2 l3).get? (p3 s.heap l1 l2 l3).objs.size=some _:=up (up (cB _ Z));let g3:(p6 s.heap l1 l2 l3).get? (p2 s.heap l1 l2).objs.size=some _:=up (up (up (cB _ Z)));let g2:(p6 s.heap l1 l2 l3).get? (p1 s.heap l1).objs.size=some _:=up (up (up (up (cB _ Z))));let g1:(p6 s.heap l1 l2 l3).get? s⁻¹=some _:=up (up (up (up (up (cB _ Z)))));show _/\_;rw[z3,z4,z5]at g6;rw[z4]at g5;rw[hn,z1,z2,z3]at g4;rw[z2]at g3;rw[z1]at g2;rw[hn]at g1;rw[z5];show⟨⟨_,g6,Z⟩,h _ g6 g4 g5 ⟨_,g1,Z,Z⟩ ⟨_,g2,Z,Z⟩ ⟨_,g3,Z,Z⟩ λc o q=>up (up (up (up (up (up q)))))⟩
end
end Z3
namespace L2
open PyProof.Rows
variable{K:aH}{pos:Pos}
def ŕ(K:aH)(a b c:Addr):It :=
 ⟨λi H=>∃xs ys zs x y z,bB K H a xs/\bB K H b ys/\bB K H c zs/\xs[i]?=some x/\ys[i]?=some y/\zs[i]?=some z,
 λi H v H'=>∃p x y z,v=.ref p/\iH H p (.tup [x,y,z]) H'/\(∀xs,bB K H a xs->xs[i]?=some x)/\(∀ys,bB K H b ys->ys[i]?=some y)/\∀zs,bB K H c zs->zs[i]?=some z,
 λi H=>∃xs,bB K H a xs/\xs.length<=i⟩
def ZV{P:Program}{w:World}{elts:ba}{k:Nat}(a b c n:Nat)(an:a<n)(bn:b<n)(cn:c<n) :
  Turn P w K (.Tuple elts k pos) (ŕ K a b c) [n,n+1,n+2,n+3,n+4,n+5] (n+5) (λi h=>IsZip h (n+5) (n+3) (n+4) .none/\Z3.JS h (n+3) (.ref n) (.ref (n+1)) (.ref (n+2))/\(∃x y z,Z3.JS h (n+4) x y z)/\h.IsListIter n a i/\h.IsListIter (n+1) b i/\h.IsListIter (n+2) c i) where
 mem:=by simp
 obj:=λi h st e he=>by
  let⟨hz,hTI,⟨x,y,z,hTO⟩,⟨o1,e1,c1,d1⟩,⟨o2,e2,c2,d2⟩,⟨o3,e3,c3,d3⟩⟩:=st
  grind
 keep:=λi h h' st kk=>by
  let⟨hz,hTI,⟨x,y,z,hTO⟩,h1,h2,h3⟩:=st
  show⟨kk (n+5) (by simp) _ hz,kk (n+3) (by simp) _ hTI,⟨x,y,z,kk (n+4) (by simp) _ hTO⟩,h1.at λo q=>kk n (by simp) o q,h2.at λo q=>kk (n+1) (by simp) o q,h3.at λo q=>kk (n+2) (by simp) o q⟩
 item:=by
  intro X hP hw hK hc i Y s σ H E I hf st hg
  subst hP hw hK
  let⟨xs,ys,zs,x,y,z,hq1,hq2,hq3,hx,hy,hz0⟩:=hg
  let⟨a4w,rv1,pl1,hz1⟩:=I.list hq1
  let⟨its2,rv2,pl2,hz2⟩:=I.list hq2
  let⟨a8l,rv3,pl3,hz3⟩:=I.list hq3
  let⟨u1,hu1,ru1⟩:=rv1.get hx
  let⟨u2,hu2,ZL⟩:=rv2.get hy
  let⟨u3,hu3,ru3⟩:=rv3.get hz0
  let⟨hz,hTI,⟨x0,y0,z0,hTO⟩,h1,h2,h3⟩:=st
  let nl:n+5<s⁻¹:=bw hz
  show Z3.Rq an bn cn hz hTI hTO h1 h2 h3 pl1.isList pl2.isList pl3.isList (x:=u1) (y:=u2) (v:=u3) () () () λh' a1 a2 a3 a4 a5 a6 hk=>?_
  show⟨_,Z,wpAny_letOwnedTupleGo_zip a1 λg3 hg3 hs3=>?_⟩
  let n5:s⁻¹≠n+5:=iU nl
  let hT3:g3.get? s⁻¹=some { cls:=.type "tuple",data:=.seq #[u1,u2,u3]}:=(hs3.2 _ n5).trans a6
  let kp:∀e o,e∉[n,n+1,n+2,n+3,n+4,n+5]->s^^^e=some o->g3.get? e=some o:=λe o he q=>by
   simp only[List.mem_cons,List.not_mem_nil,or_false,not_or]at he
   show(hs3.2 e he.2.2.2.2.2).trans (hk e o he.1 he.2.1 he.2.2.1 he.2.2.2.2.1 he.2.2.2.2.2 q)
  let I1:bF X Y σ H (s•g3):=Gk I [n,n+1,n+2,n+3,n+4,n+5] (λe he=>hf e he) kp
  let hfree:H s⁻¹=none:=I.hok.fresh (aK _)
  let I2:bF X Y σ (cX H s⁻¹ (.tup [x,y,z])) (s•g3):=by
   show bF.track I1 hfree I.sz (iU I.lt) (λy c q=>?_) (λp hp=>b7 (bw (I.pin p hp).1)) ?_
   ·let⟨v,oc,q1,_⟩:=I.cell y c q
    show b7 (bw q1)
   ·show⟨(by show 3<=sizeLine;decide),[u1,u2,u3],.cons ru1 (.cons ZL (.cons ru3 .nil)),⟨_,hT3,Z,_,Z⟩⟩
  let d35:(n+3:Nat)≠n+5:=()
  let d45:(n+4:Nat)≠n+5:=()
  let d05:(n:Nat)≠n+5:=()
  let d15:(n+1:Nat)≠n+5:=()
  let d25:(n+2:Nat)≠n+5:=()
  let t3:h'.get? (n+3)=_:=hk (n+3) _ () () () () () hTI
  show⟨.ref s⁻¹,_,I2,Z,⟨_,x,y,z,Z,iH.nC hfree,λxs' hy'=>by rw[I.wY hy' hq1];show hx,λys' hy'=>by rw[I.wY hy' hq2];show hy,λzs' hy'=>by rw[I.wY hy' hq3];show hz0⟩,
   ⟨hg3,(hs3.2 (n+3) d35).trans t3,⟨_,_,_,(hs3.2 (n+4) d45).trans a2⟩,a3.at λo q=>(hs3.2 n d05).trans q,a4.at λo q=>(hs3.2 (n+1) d15).trans q,a5.at λo q=>(hs3.2 (n+2) d25).trans q⟩,λe he=>?_⟩
  let f0:=(hf e he).1
  rw[aQ ?_]
  ·show f0
  grind
 done:=by
  intro X hP hw hK hc i Y s σ H E I hf st hg
  subst hP hw hK
  let⟨xs,hq1,hl⟩:=hg
  let⟨a4w,rv1,pl1,hz1⟩:=I.list hq1
  let l1:=rv1.length
  let⟨hz,hTI,⟨x0,y0,z0,hTO⟩,h1,h2,h3⟩:=st
  show Z3.Wv (a:=x0) (b:=y0) (c:=z0) (l2:=b) (l3:=c) (I.ok.hd hc) an hz hTI h1 pl1.isList (by simp;omega) λh' hk=>⟨Z,Gk I [n,n+1,n+2,n+3,n+4,n+5] (λe he=>hf e he) λe o he q=>?_⟩
  grind
 self:=λ_ _ _ _ _ st h=>Vb st.1 h
section
variable{X:Cx}
def vals3{a b c:V}{us:aw}(h:cN [a,b,c] us):∃u v w,us=[u,v,w]/\cZ a u/\cZ b v/\cZ c w:=by
 cases h with
 |cons h1 t =>
  let⟨u2,u3,rfl,r2,r3⟩:=vals2 t;show⟨_,_,_,Z,h1,r2,r3⟩
def a6J(K:aH)(ta:TA):TI:=λσ H R=>ta σ H λvs H1=>∃a b c,vs=[.ref a,.ref b,.ref c]/\(∃xs,bB K H1 a xs)/\(∃ys,bB K H1 b ys)/\(∃zs,bB K H1 c zs)/\R (ŕ K a b c) H1
def a1p{elts:ba}{k:Nat}{tpos:Pos}{l m r:Expr}{ta:TA}{p:Pos}(e0:X.K=K)(hg:Gl X "zip")(hm:X.mg "zip" = none)(ha:PA X [l,m,r] ta)(hs:@&(starEach [l,m,r] X.env=[(false,eval l X.env),(false,eval m X.env),(false,eval r X.env)]))(hs2:@&(starEach [m,r] X.env=[(false,eval m X.env),(false,eval r X.env)])) :
  PI X (.Tuple elts k tpos) (.Call (.Name "zip" p) [l,m,r] [] pos) (a6J K ta):=by
 subst e0;intro Y s σ H R I h;show vB (uo I hg hm boot_zip ?_);show wJ (jr (ha pos Y s σ H _ I h) λus s1 ⟨vs,H1,I1,r1,q1⟩=>?_) (by rw[hs,hs2]) (by rw[hs2];rfl);let⟨a,b,c,e,⟨xs,hq1⟩,⟨ys,hq2⟩,⟨zs,hq3⟩,q⟩:=q1;subst e;let⟨u1,u2,u3,rfl,r1,r2,r3⟩:=vals3 r1;cases r1;cases r2;cases r3;let⟨a4w,rv1,pl1,hz1⟩:=I1.list hq1;let⟨its2,rv2,pl2,hz2⟩:=I1.list hq2;let⟨a8l,rv3,pl3,hz3⟩:=I1.list hq3;show Z3.a6I pl1.isList pl2.isList pl3.isList λh' hz hTI hTO h1 h2 h3 hk=>Vb hz ?_;let I2:bF X Y σ H1 (s1•h'):=I1.kept (t':=s1.toks) hk;let la:a<s1⁻¹:=by let⟨o,e,_⟩:=pl1.isList;show bw e
 let lb:b<s1⁻¹:=by let⟨o,e,_⟩:=pl2.isList;show bw e
 let lc:c<s1⁻¹:=by let⟨o,e,_⟩:=pl3.isList;show bw e
 show⟨s1⁻¹+5,_,_,_,H1,Z,I2,ZV a b c s1⁻¹ la lb lc,⟨hz,hTI,⟨_,_,_,hTO⟩,h1,h2,h3⟩,λe he=>?_,q⟩;let hb':s1⁻¹<=e:=by
  grind
 show I1.Fq hb' (I1.hok.fresh hb')
end
def Ŗ{a b c:Addr}{xs ys zs:af}{g:TG}{tb:TS}{D:Ends}{σ:St}{H:Hp}(el:xs.length=ys.length)(el2:xs.length=zs.length)(Pv:Nat->St->Hp->Prop)(h0:Pv 0 σ H)(hl:∀i σ H,i<=xs.length->Pv i σ H->bB K H a xs/\bB K H b ys/\bB K H c zs)
  (hs:∀(i:Nat) x y z σ H p H',xs[i]?=some x->ys[i]?=some y->zs[i]?=some z->Pv i σ H->iH H p (.tup [x,y,z]) H'->g (.ref p) σ H' λσ2 H2=>tb { D with nx:=Pv (i+1),ct:=Pv (i+1),bk:=D.nx} σ2 H2) (hd:∀σ H,Pv xs.length σ H->D.nx σ H) :
  ∃W:Nat->Nat->St->Hp->Prop,(∃m,W 0 m σ H)/\∀i m σ H,W i m σ H->
   ((ŕ K a b c).stop i H/\D.nx σ H)\/((ŕ K a b c).go i H/\∃N:St->Hp->Prop,(∀σ' H',N σ' H'->∃m',m'<m/\W (i+1) m' σ' H')/\∀x H',(ŕ K a b c).Xw i H x H'->g x σ H' λσ2 H2=>tb { D with nx:=N,ct:=N,bk:=D.nx} σ2 H2):=by
 show⟨λi m σ H=>m=xs.length-i/\i<=xs.length/\Pv i σ H,⟨xs.length,by simp,dG _,h0⟩,?_⟩;rintro i m σ H ⟨rfl,hi,p⟩;let⟨q1,q2,q3⟩:=hl i σ H hi p;by_cases hlt:i<xs.length
 ·show .inr ⟨⟨xs,ys,zs,xs[i],ys[i],zs[i],q1,q2,q3,by simp[hlt],by simp[el▸hlt],by simp[el2▸hlt]⟩,Pv (i+1),λσ' H' p'=>⟨xs.length-(i+1),(),Z,hlt,p'⟩,λx H' y=>?_⟩;let⟨pp,x0,y0,z0,rfl,nw,ex,ey,ez⟩:=y;show hs i x0 y0 z0 σ H pp H' (ex xs q1) (ey ys q2) (ez zs q3) p nw
 ·let e:i=xs.length:=()
  subst e;show .inl ⟨⟨xs,q1,aK _⟩,hd σ H p⟩
section
variable{X:Cx}{e:Expr}{f:Str}{ta:TE}
def Gm(e0:X.K=K)(he:PE X e ta)(hb:attributeBase e f X.env (eval e X.env)=eval e X.env):PE X (.Attribute e f pos) (a5V K ta f):=by subst e0;show a3G he hb
end
end L2
namespace K
open L2 Lw Bg
abbrev jM:ag:=["one","other"]
abbrev mq:ag:=["graph","steps"]
abbrev sI:ag:=["n","thing"]
abbrev xq:ag:=["self","one","other"]
abbrev yF:ag:=["self","state","spot","v"]
abbrev Bj:ag:=["question","table","state","row"]
abbrev Bk:ag:=["graph","done","step","used"]
abbrev Bm:ag:=["_law_ties_here","_law_rows_here","_law_k","_law_early"]
abbrev Bo:ag:=["numbers","one","other"]
abbrev Ez:ag:=["question","old","step","bag"]
abbrev EY:ag:=["graph","steps","tops","pile"]
abbrev Fb:ag:=["state","spot","number"]
abbrev Fd:ag:=["state","spot"]
abbrev Ih:ag:=["question","table","source","step","bag"]
abbrev Ii:ag:=["question","table","source","another"]
abbrev Ij:ag:=["steps","question","tops","feeds"]
abbrev Ik:ag:=["many","weights"]
abbrev Il:ag:=["_law_closed","_law_labels"]
abbrev KN:ag:=["self","state"]
abbrev KQ:ag:=["steps","question"]
abbrev KR:ag:=["_law_script","_law_k"]
abbrev KY:ag:=["_law_key","_law_v"]
abbrev KZ:ag:=["n","places"]
abbrev K9:ag:=["ties","costs"]
abbrev Rr:ag:=["self","state","one","other","tie"]
abbrev Rt:ag:=["_law_found","_law_size"]
abbrev Ru:ag:=["_law_table","_law_at_here","_law_is_told"]
abbrev Rv:ag:=["_law_table","_law_at_here"]
abbrev Yo:ag:=["is_better","shared","joined","put_in","tied","taken_out","thing"]
abbrev Yp:ag:=["self","graph","leaf","whole"]
abbrev Yq:ag:=["self","graph","told","costs"]
abbrev Yr:ag:=["_law_script","_law_n","_law_most"]
abbrev Ys:ag:=["_law_v","_law_script"]
abbrev Yt:ag:=["_law_script","_law_rows_here","_law_n"]
abbrev Yu:ag:=["_law_found","_law_steps","_law_told"]
abbrev ŗ:ag:=["_law_a","_law_b","_law_bag","_law_above"]
noncomputable def top(i:Nat):Stmt:=PySem.Challenge.pw_bagwood_k70_links_in_and_out.main.body.getD i (.Pass ⟨0,0,0,0⟩)
abbrev dF:=ae
abbrev bc:=List dF
structure fV where
 m:Int
 b:Int
 src:bc
variable{R:V->fV->Prop}
abbrev bW:=List (dF×fV)
noncomputable def qY(T:bW)(s:dF):Option fV:=(T.find? λx=>decide (x.1=s)).map (·.2)
noncomputable def lG(T:bW)(s:dF)(r:fV):bW:=if(T.any λx=>decide (x.1=s))=true then T.map (λx=>if x.1=s then(x.1,r)else x)else T++[(s,r)]
noncomputable def wj(bt:Int->Int->Bool)(r o:fV):fV:=if bt r.b o.b=true then r else o
def jN(bt:Int->Int->Bool)(T:bW)(s:dF)(r:fV):bW:=match qY T s with
 |none=>lG T s r
 |some o=>lG T s ⟨o.m+r.m,(wj bt r o).b,(wj bt r o).src⟩
noncomputable def qp(s:dF):aS:=s.map Sum.inl
def a2Q(s:dF):(qp s).map kV=s.map V.int:=by
 unfold qp;rw[lV];rfl
def Gn{s t:dF}(h:qp s=qp t):s=t:=by
 induction s generalizing t with
 |nil=>cases t with
  |nil=>rfl
  |cons a t=>cases h
 |cons a s ih=>cases t with
  |nil=>cases h
  |cons b t =>
   let h1:(Sum.inl a:Key)=Sum.inl b:=(Oa h).1;let h2:qp s=qp t:=(Oa h).2;grind
def oW(H:Hp)(a:Addr)(s:dF):Prop:=H a= ~~~(s.map V.int)
def oW.key{H:Hp}{a:Addr}{s:dF}(h:oW H a s):H a= ~~~((qp s).map kV):=by rw[a2Q];show h
def oW.Im{H:Hp}{a:Addr}{s:dF}(h:H a= ~~~((qp s).map kV)):oW H a s:=by rw[a2Q]at h;show h
inductive JT(H:Hp)(v:V)(r:fV):Prop
 |mk (p q as:_) (_:v=.ref p) (_:H p= ~~~[.int r.m,.int r.b,.ref q]) (_:H q= ~~~(as.map V.ref)) (_:Paired (oW H) as r.src)
def oX(H:Hp):List (aS×V)->bW->Prop:=Paired λkv tr=>kv.1=qp tr.1/\JT H kv.2 tr.2
def lH(H H':Hp):Prop:=∀c ys,H c= ~~~ys->H' c= ~~~ys
def lH.trans{H H' TJ:Hp}(a:lH H H')(b:lH H' TJ):lH H TJ:=λc ys h=>b c ys (a c ys h)
def lH.of{H H':Hp}(a:aL H H'):lH H H':=λc ys h=>a c _ h
def oW.keep{H H':Hp}{a:Addr}{s:dF}(k:lH H H')(h:oW H a s):oW H' a s:=k _ _ h
def JT.keep{H H':Hp}{v:V}{r:fV}(k:lH H H')(h:JT H v r):JT H' v r:=by
 let⟨p,q,as,e,h1,h2,h3⟩:=h;show⟨p,q,as,e,k _ _ h1,k _ _ h2,Paired.cD h3 λ_ _ z=>z.keep k⟩
def oX.keep{H H':Hp}{J:List (aS×V)}{T:bW}(k:lH H H')(h:oX H J T):oX H' J T:=Paired.cD h λ_ _ z=>⟨z.1,z.2.keep k⟩
def Sd(t:Addr)(H H':Hp):Prop:=∀c o,c≠t->H c=some o->H' c=some o
def Sd.refl{t:Addr}{H:Hp}:Sd t H H:=λ_ _ _ h=>h
def Sd.trans{t:Addr}{H H' TJ:Hp}(a:Sd t H H')(b:Sd t H' TJ):Sd t H TJ:=λc o n h=>b c o n (a c o n h)
def Sd.of{t:Addr}{H H':Hp}(a:aL H H'):Sd t H H':=λc o _ h=>a c o h
def Sd.tups{t:Addr}{H H':Hp}{J:List (aS×V)}(a:Sd t H H')(h:H t=some (.dT J)):lH H H':=λc ys e=>a c _ (λz=>by grind) e
def Sd.Rx{t:Addr}{H H':Hp}{o:HO}(c:tH H t o H'):Sd t H H':=λb u n h=>by rw[c.rest b n];show h
def Gp(s:dF){J:List (aS×V)}{T:bW}(h:Paired (λ(kv:aS×V) (tr:dF×fV)=>kv.1=qp tr.1/\R kv.2 tr.2) J T):(dI J (qp s)=none/\qY T s=none)\/∃v r,dI J (qp s)=some v/\qY T s=some r/\R v r:=by
 induction h with
 |nil=>show .inl ⟨Z,Z⟩
 | @cons p q J T h t ih =>
  let⟨k,v⟩:=p;let⟨s',r⟩:=q;let⟨e,hr⟩:=h;let e:k=qp s':=e;subst e;unfold dI qY at ih ⊢;by_cases c:s'=s
  ·rw[vy (by show bh (congrArg qp c)),vy (by show bh c)];show .inr ⟨v,r,Z,Z,hr⟩
  ·rw[vz (by show λz=>c (Gn (dB z))),vz (by show λz=>c (dB z))];show ih
def a1q(s:dF){J:List (aS×V)}{T:bW}(h:Paired (λ(kv:aS×V) (tr:dF×fV)=>kv.1=qp tr.1/\R kv.2 tr.2) J T):(J.any λkv=>decide (kv.1=qp s))=(T.any λx=>decide (x.1=s)):=by
 induction h with
 |nil=>rfl
 | @cons p q J T h t ih =>
  let⟨k,v⟩:=p;let⟨s',r⟩:=q;let e:k=qp s':=h.1;subst e;rw[oM,oM,ih];congr 1;show CT.mpr ⟨λz=>Gn z,λz=>congrArg qp z⟩
def Pg{J:List (aS×V)}{T:bW}{s:dF}{v:V}{r:fV}(h:Paired (λ(kv:aS×V) (tr:dF×fV)=>kv.1=qp tr.1/\R kv.2 tr.2) J T)(hr:R v r):Paired (λ(kv:aS×V) (tr:dF×fV)=>kv.1=qp tr.1/\R kv.2 tr.2) (putK J (qp s) v) (lG T s r):=by
 unfold putK lG;rw[a1q s h];by_cases c:(T.any λx=>decide (x.1=s))=true
 ·rw[aD c,aD c];clear c
  induction h with
  |nil=>show .nil
  | @cons kv tr _ _ a _ ih =>
   show .cons ?_ ih;let⟨k,v0⟩:=kv;let⟨s',r0⟩:=tr;let⟨e,h0⟩:=a;let e:k=qp s':=e;subst e;lk;by_cases c:s'=s
   ·rw[aD (by rw[c]),aD c];show⟨Z,hr⟩
   ·rw[aA (λz=>c (Gn z)),aA c];show⟨Z,h0⟩
 ·rw[aA c,aA c];show Paired.snoc h ⟨Z,hr⟩
def Io(T:bW)(s:dF)(r:fV):(lG T s r).length<=T.length+1:=by
 unfold lG;split
 ·rw[aJ];omega
 ·rw[bK];show aK _
structure PQ(κ:Type) where
 leaf:dF
 whole:dF
 bt:Int->Int->Bool
 sh:dF->List κ
 jn:dF->dF->bc
 inn:dF->Nat->Nat->List (dF×Int)
 tie:dF->Nat->Nat->Int×Int->List (dF×Int)
 out:dF->Nat->Nat->List (dF×Int)
 Ok:Nat->dF->Prop
inductive å(H:Hp)(v:V)(x:dF×Int):Prop
 |mk (p a:_) (_:v=.ref p) (_:H p= ~~~[.ref a,.int x.2]) (_:oW H a x.1)
def å.keep{H H':Hp}{v:V}{x:dF×Int}(k:lH H H')(h:å H v x):å H' v x:=by
 let⟨p,a,e,h1,h2⟩:=h;show⟨p,a,e,k _ _ h1,h2.keep k⟩
def SvL(H:Hp)(v:V)(x:dF):Prop:=∃a,v=.ref a/\oW H a x
section
variable{P:Program}{w:World}{κ:Type} [DecidableEq κ]
inductive Ry(pq:PQ κ)(At:Hp->Addr->Prop)(vs:af)(H:Hp)(Q:VK)(u_3:XK):Prop
 |mk (d:Addr) (a b:Int) (_:vs=[.ref d,.int a,.int b]) (_:At H d) (_:Q (.bl (pq.bt a b)) H)
inductive Rz(knd:KeyKind P w κ)(pq:PQ κ)(At:Hp->Addr->Prop)(vs:af)(H:Hp)(Q:VK)(u_3:XK):Prop
 |mk (d a:Addr) (m:Nat) (s:dF) (_:vs=[.ref d,.ref a]) (_:At H d) (_:oW H a s) (_:pq.Ok m s) (_:m<=4) (_:∀b H',aL H H'->ZP knd H' b (pq.sh s)->Q (.ref b) H')
inductive RB(pq:PQ κ)(At:Hp->Addr->Prop)(vs:af)(H:Hp)(Q:VK)(u_3:XK):Prop
 |mk (d a b:Addr) (m:Nat) (s t:dF) (_:vs=[.ref d,.ref a,.ref b]) (_:At H d) (_:oW H a s) (_:oW H b t) (_:pq.Ok m s) (_:pq.Ok m t) (_:m<=4) (_:pq.sh s=pq.sh t) (_:∀r xs H',aL H H'->H' r=↥xs->Paired (SvL H') xs (pq.jn s t)->Q (.ref r) H')
inductive a2R(pq:PQ κ)(At:Hp->Addr->Prop)(vs:af)(H:Hp)(Q:VK)(u_3:XK):Prop
 |mk (d a:Addr) (m spot v:Nat) (s:dF) (_:vs=[.ref d,.ref a,.int spot,.int v]) (_:At H d) (_:oW H a s) (_:pq.Ok m s) (_:m<=4) (_:spot<=m) (_:∀r xs H',aL H H'->H' r=↥xs->Paired (å H') xs (pq.inn s spot v)->Q (.ref r) H')
inductive a2S(pq:PQ κ)(At:Hp->Addr->Prop)(Pl:Nat->Prop)(vs:af)(H:Hp)(Q:VK)(u_3:XK):Prop
 |mk (d a:Addr) (m spot v:Nat) (s:dF) (_:vs=[.ref d,.ref a,.int spot,.int v]) (_:At H d) (_:oW H a s) (_:pq.Ok m s) (_:m<=4) (_:spot<m) (_:Pl v) (_:∀r xs H',aL H H'->H' r=↥xs->Paired (å H') xs (pq.out s spot v)->Q (.ref r) H')
inductive a2T(pq:PQ κ)(At:Hp->Addr->Prop)(Ti:Int×Int->Prop)(vs:af)(H:Hp)(Q:VK)(u_3:XK):Prop
 |mk (d a p:Addr) (m iG cP:Nat) (t:Int×Int) (s:dF) (_:vs=[.ref d,.ref a,.int iG,.int cP,.ref p]) (_:At H d) (_:oW H a s) (_:pq.Ok m s) (_:m<=4) (_:iG<m) (_:cP<m) (_:iG≠cP) (_:Ti t) (_:H p= ~~~[.int t.1,.int t.2]) (_:∀r xs H',aL H H'->H' r=↥xs->Paired (å H') xs (pq.tie s iG cP t)->Q (.ref r) H')
structure QM(P:Program)(w:World)(K:aH)(mg:Str->Option Value)(base:Heap)(C:Addr)(m:Str)(ps:ag)(k:Nat)(sp:Sp) where
 f:Addr
 fd:FuncData
 mt:Meth K C m f
 b:Binds K fd ps []
 ok:⋯ k f fd ps sp
set_option genInjectivity false in
structure JV(P:Program)(w:World)(K:aH)(mg:Str->Option Value)(base:Heap)(κ:Type) [DecidableEq κ] where
 C:Addr
 cl:Cls K C
 knd:KeyKind P w κ
 pq:PQ κ
 At:Hp->Addr->Prop
 Pl:Nat->Prop
 Ti:Int×Int->Prop
 n:Nat
 ts:ar
 keep:∀{H H':Hp}{d:Addr},(∀c o,(∀J,o≠.dT J)->(∀φ,o≠.ext φ)->H c=some o->H' c=some o)->At H d->At H' d
 ins:∀{H:Hp}{d:Addr},At H d->∃dx fs,H d=some (.ins C dx fs)/\(∀m,m∈(Yo:ag)->fs.lookup m=none)/\
  (∃a,fs.lookup ("leaf" : Str)=⇑a/\oW H a pq.leaf)/\(∃a,fs.lookup ("whole" : Str)=⇑a/\oW H a pq.whole)/\∃g,fs.lookup ("graph" : Str)=some g/\uw K H g n ts
 uy:jC K C "leaf"
 qZ:jC K C "whole"
 pH:jC K C "graph"
 tL:QM P w K mg base C "is_better" xq 8 (Ry pq At)
 uW:QM P w K mg base C "shared" KN 8 (Rz knd pq At)
 Bp:QM P w K mg base C "joined" xq 8 (RB pq At)
 Bq:QM P w K mg base C "put_in" yF 8 (a2R pq At)
 tM:QM P w K mg base C "taken_out" yF 8 (a2S pq At Pl)
 Ph:QM P w K mg base C "tied" Rr 8 (a2T pq At Ti)
end
abbrev uz:Stmt:=top 28
def Gq:bR ["question","table","state","row","old","better"] Bj (aG uz):={}
section
variable{P:Program}{w:World}{K:aH}{mg:Str->Option Value}{base:Heap}{κ:Type} [DecidableEq κ]
inductive a4A(Qn:JV P w K mg base κ)(vs:af)(H:Hp)(Q:VK)(u_3:XK):Prop
 |mk (d t a:Addr) (v:V) (J:List (aS×V)) (T:bW) (s:dF) (r:fV) (_:vs=[.ref d,.ref t,.ref a,v]) (_:Qn.At H d) (_:H t=some (.dT J)) (_:oX H J T) (_:T.length<=4000) (_:oW H a s) (_:JT H v r) (_:∀kvs' H',Sd t H H'->H' t=some (.dT kvs')->oX H' kvs' (jN Qn.pq.bt T s r)->Q .non H')
def Yv(Qn:JV P w K mg base κ)(qJ:Dn K mg "note" uz Bj):⋯ 9 qJ.f qJ.fd Bj (a4A Qn):=by
 let JW:⋯ 8 _ _ _ _:=Qn.tL.ok;show qJ.F.ok Gq λdZ A outer s H vs Q E hr h=>?_;let⟨d,t,a,v,J,T,st,r,rfl,hD,ht,hT,lT,ha,hv,q⟩:=h;let hw1:(A.deeper (PyProof.Rows.envOfC "note" (aG uz) s⁻¹ qJ.f dZ)).units+1<cLine:=by let:=hr.un;omega
 show⟨_,(g8 (cJ (aN (Ň hw1) (pv 2) (pv 1) (by with_unfolding_all rfl))
   (aB (aV 4 Gq.nd (Bd hw1 (pv 1) (pv 2) λ_ _=>rfl))
   (aB (aV 5 Gq.nd (qe (cY (K:=K) Z (vL (pv 0) Qn.cl Qn.tL.mt JW hr Qn.tL.b .nil bZ (O (aP (aO (K:=K) Z) (pv 3) aq) (O (aP (aO (K:=K) Z) (pv 4) aq) aj))) λ_=>rfl) (pv 3) (pv 4)))
   (aF (aV 3 Gq.nd (bL (O (bA dH (aP (aO (K:=K) Z) (pv 4) aq) (aP (aO (K:=K) Z) (pv 3) aq)) (O (aP (aO (K:=K) Z) (pv 5) aq) (O (aP (aO (K:=K) Z) (pv 5) aq) aj))))))))
   bx)
   (aF (uq (pv 3) (Hv (pv 1) (pv 2) (uU hw1))))),?_⟩
 show⟨λσ' G=>∃v' r' o4 o5,σ'=[⇑d,⇑t,⇑a,some v',o4,o5]/\aL H G/\JT G v' r'/\jN Qn.pq.bt T st r=lG T st r',?_,?_⟩
 ·show⟨_,Z,_,Z,a,t,qp st,J,Z,Z,ha.key,ht,_,Z,?_⟩;rcases Gp st hT with⟨e1,e2⟩|⟨v0,r0,e1,e2,h0⟩
  ·rw[e1];show cQ ⟨v,r,none,none,Z,aL.refl _,hv,?_⟩;unfold jN;rw[e2]
  ·rw[e1];let⟨p,qs,as,rfl,hp,hq,hs⟩:=hv;let⟨p0,q0,as0,rfl,hp0,hq0,hs0⟩:=h0;show iC ⟨_,Z,_,Z,t,.ref p0,Z,by rw[<-e1];show Fv.t ht ha.key,?_⟩;let⟨dx,fs,hd,nom,_⟩:=Qn.ins hD;show⟨_,Z,d,dx,fs,Z,hd,nom _ (),⟨_,Z,p,_,_,.int r.b,Z,Z,cO.of hp,Z,_,Z,p0,_,_,.int r0.b,Z,Z,cO.of hp0,Z,⟨d,r.b,r0.b,Z,hD,_,Z,?_⟩⟩⟩;let fin:∀(pb:Addr) (rb:fV) (qb:Addr) (asb:aI),H pb= ~~~[.int rb.m,.int rb.b,.ref qb]->H qb= ~~~(asb.map V.ref)->Paired (oW H) asb rb.src->rb=wj Qn.pq.bt r r0->∀p' H',iH H p' (.tup [.int (r0.m+r.m),.int rb.b,.ref qb]) H'->∃v' r' o4 o5,[some (V.ref d),⇑t,⇑a,⇑p',⇑p0,⇑pb]=[⇑d,⇑t,⇑a,some v',o4,o5]/\aL H H'/\JT H' v' r'/\jN Qn.pq.bt T st r=lG T st r':=λpb rb qb asb h1 h2 h3 e p' H' nw=>by
    show⟨_,⟨r0.m+r.m,rb.b,rb.src⟩,_,_,Z,nw.same,⟨p',qb,asb,Z,nw.here,nw.same _ _ h2,Paired.cD h3 λ_ _ z=>z.keep (.of nw.same)⟩,?_⟩;unfold jN;rw[e2,e]
   cases cb:Qn.pq.bt r.b r0.b with
   |true =>
    show iC ⟨_,Z,?_⟩;show⟨_,Z,p0,_,_,.int r0.m,Z,Z,cO.of hp0,Z,_,Z,p,_,_,.int r.m,Z,Z,cO.of hp,Z,_,_,Z,Z,_,Z,p,_,_,.int r.b,Z,Z,cO.of hp,Z,_,Z,p,_,_,.ref qs,Z,Z,cO.of hp,Z,(),λp' H' nw=>?_⟩;show fin p r qs as hp hq hs (by unfold wj;rw[cb];rfl) p' H' nw
   |false =>
    show cQ ⟨_,Z,?_⟩;show⟨_,Z,p0,_,_,.int r0.m,Z,Z,cO.of hp0,Z,_,Z,p,_,_,.int r.m,Z,Z,cO.of hp,Z,_,_,Z,Z,_,Z,p0,_,_,.int r0.b,Z,Z,cO.of hp0,Z,_,Z,p0,_,_,.ref q0,Z,Z,cO.of hp0,Z,(),λp' H' nw=>?_⟩;show fin p0 r0 q0 as0 hp0 hq0 hs0 (by unfold wj;rw[cb];rfl) p' H' nw
 rintro σ' G ⟨v',r',o4,o5,rfl,sG,hr',e⟩;let lk:=aU hT;show⟨_,Z,_,Z,_,Z,t,a,qp st,J,Z,Z,(ha.keep (.of sG)).key,sG _ _ ht,(),λG' c=>?_⟩;let ts:lH G G':=λc' ys hc=>by
  rw[c.rest c' (λz=>by rw[z,sG _ _ ht]at hc;cases hc)];show hc
 show q _ G' (Sd.trans (.of sG) (.Rx c)) c.here ?_;rw[e];show oX.keep ts (Pg (hT.keep (.of sG)) hr')
end
end K
namespace L2
open PySem.Calls PyProof.Rows
section
variable{X:Cx}
inductive a6K(x:V)(vs:af)(H:Hp)(Q:VK):Prop
 |mk (l:Addr) (ns:ae) (v:Int) (j:Nat) (_:x=.ref l) (_:vs=[.int v]) (_:H l=↥(List.map V.int ns)) (_:ns[j]?=some v) (_:(∀m:Nat,m<j->ns[m]?≠some v)) (_:ns.length<=1000) (_:Q (.int (j:Int)) H)
noncomputable def isV(v:Int):Value->Bool
 |.int a _=>a==v
 |_=>false
def uX:Ow X "list.index" a6K:=by
 intro Y s σ H x vs w us Q I rx rv h;let⟨l,ns,v,j,rfl,rfl,hH,hj,hno,hz,q⟩:=h;cases rx;let⟨u,rfl,ru⟩:=vals1 rv;let⟨t,rfl⟩:=(show ∃t,u=Value.int v t from ru);let⟨z,bY,n,r,hl,e⟩:=I.V1 hH;let hi:=ints_of r;let len:=hi.length;let at_:∀m (hm:m<bY.length),∃k tk,bY[m]=Value.int k tk/\ns[m]?=some k:=λm hm=>by
  let hm2:m<ns.length:=()
  let⟨tk,e⟩:=hi.get m ns[m] (bO hm2);rw[bO hm]at e;injection e with e
  show⟨ns[m],tk,e,bO hm2⟩
 let jl:j<bY.length:=by let:=(dY.mp hj).1;omega
 show zp F.slot_list_index ⟨_,e,Z⟩ F.entry_list_index (F.args_list_index_2 _ _) (MeetsSeq.list_index l bY.toArray n (.int v t) (isV v) (λy hy=>?_) j (by simpa using jl) () ?_ λm hm hmj=>?_) ⟨e,?_⟩
 ·let⟨m,hm,em⟩:=qD (show y∈bY by simpa using hy);let⟨k,tk,e1,_⟩:=at_ m hm;rw[<-em,e1];show MeetsSeq.EqGives.int k v tk t
 ·let⟨k,tk,e1,e2⟩:=at_ j jl;rw[hj]at e2;injection e2 with e2
  simp only[List.getElem_toArray];rw[e1,<-e2];show Nq v
 ·let hm':m<bY.length:=by simpa using hm
  let⟨k,tk,e1,e2⟩:=at_ m hm';simp only[List.getElem_toArray];rw[e1];show(k==v)=false;let:k≠v:=λz=>hno m hmj (by rw[e2,z]);simpa using this
 ·show⟨.int j,H,I.tok _,⟨_,Z⟩,q⟩
end
end L2
namespace K
open L2 Lw Bg
inductive cu where
 |leaf
 |inn (v:Int)
 |tie (a b:Int)
 |out (v:Int)
 |join
deriving DecidableEq
abbrev ax:=List cu
variable{H:Hp}{K:aH}
noncomputable def cu.vs:cu->af
 |.leaf=>[.str "leaf"]
 |.inn v=>[.str "in",.int v]
 |.tie a b=>[.str "tie",.int a,.int b]
 |.out v=>[.str "out",.int v]
 |.join=>[.str "join"]
noncomputable def cu.d:cu->PyData
 |.leaf=>.tuple [.str "leaf"]
 |.inn v=>.tuple [.str "in",.int v]
 |.tie a b=>.tuple [.str "tie",.int a,.int b]
 |.out v=>.tuple [.str "out",.int v]
 |.join=>.tuple [.str "join"]
noncomputable def cu.word:cu->Str
 |.leaf=>"leaf"
 |.inn _=>"in"
 |.tie _ _=>"tie"
 |.out _=>"out"
 |.join=>"join"
noncomputable def cu.need:cu->Nat
 |.leaf=>0
 |.join=>2
 |_=>1
def uD(K:aH)(H:Hp)(v:V)(s:cu):Prop:=∃p,v=.ref p/\cO K H p s.vs
def uD.same{H':Hp}{v:V}{s:cu}(e:aL H H')(h:uD K H v s):uD K H' v s:=by
 let⟨p,rfl,h⟩:=h;show⟨p,Z,e.vP h⟩
def uD.isD{v:V}{s:cu}(h:uD K H v s):JM K H v s.d:=by
 let⟨p,rfl,h⟩:=h;cases s with
 |leaf=>show .tup h (.cons (.str _) .nil)
 |inn v=>show .tup h (.cons (.str _) (.cons (.int _) .nil))
 |tie a b=>show .tup h (.cons (.str _) (.cons (.int _) (.cons (.int _) .nil)))
 |out v=>show .tup h (.cons (.str _) (.cons (.int _) .nil))
 |join=>show .tup h (.cons (.str _) .nil)
def ZW:dI Ey (.inr "leaf")=some (.int 0):=by decide
def a1r:dI Ey (.inr "in")=some (.int 1):=by decide
def Ř:dI Ey (.inr "tie")=some (.int 1):=by decide
def ř:dI Ey (.inr "out")=some (.int 1):=by decide
def ZX:dI Ey (.inr "join")=some (.int 2):=by decide
def a1s(s:cu):dI Ey (.inr s.word)=some (.int (s.need:Int)):=by
 cases s with
 |leaf=>show ZW
 |inn v=>show a1r
 |tie a b=>show Ř
 |out v=>show ř
 |join=>show ZX
def tO(s:cu):VN s.vs ((0:Nat):Int)=some (.str s.word):=by cases s<;>rfl
def a4B:∀x∈["leaf","in","tie","out","join"],PyData.strOk (Str.ofString x)=true:=by decide
def Yw(s:cu):s.d.canLay0=true:=by
 let h:=a4B;cases s with
 |leaf=>simp[cu.d,PyData.canLay0,PyData.canLayAll0,h]
 |inn v=>simp[cu.d,PyData.canLay0,PyData.canLayAll0,h]
 |tie a b=>simp[cu.d,PyData.canLay0,PyData.canLayAll0,h]
 |out v=>simp[cu.d,PyData.canLay0,PyData.canLayAll0,h]
 |join=>simp[cu.d,PyData.canLay0,PyData.canLayAll0,h]
def La(s:cu):s.d.depth<=1:=by cases s<;>simp[cu.d,PyData.depth,PyData.depthAll]
def Wx(s:cu):SeqAt.shaped s.d=true:=by
 unfold SeqAt.shaped;rw[Yw,Hi];show bh (by let:=La s;omega)
def RD(ss:ax):SeqAt.shaped (.list (ss.map cu.d))=true:=by
 unfold SeqAt.shaped;rw[PyData.canLay0,Gh Yw,PyData.depth,Hi];show bh (by let:=uT La ss;omega)
noncomputable def cu.tag:cu->Nat
 |.leaf=>0
 |.inn _=>1
 |.tie _ _=>2
 |.out _=>3
 |.join=>4
noncomputable def cu.args:cu->ae
 |.leaf=>[]
 |.inn v=>[v]
 |.tie a b=>[a,b]
 |.out v=>[v]
 |.join=>[]
noncomputable def Fe(i:Nat):Str:=Str.ofString (["leaf","in","tie","out","join"].getD i "")
def Ip:∀i,i<5->∀j,j<5->(Fe i==Fe j)=decide (i=j):=by decide
def Ir(s:cu):s.word=Fe s.tag:=by cases s<;>rfl
def Wy(s:cu):s.tag<5:=by cases s<;>simp[cu.tag]
def a2U(s:cu):s.d=.tuple (.str s.word::s.args.map PyData.int):=by cases s<;>rfl
def a4C{s t:cu}(h:s.tag=t.tag)(a:s.args=t.args):s=t:=by
 cases s<;>cases t<;>simp_all[cu.tag,cu.args]
theorem Fg:∀xs ys:ae,PyData.eqvAll (xs.map PyData.int) (ys.map PyData.int)=decide (xs=ys)
 | [],[]=>by simp[PyData.eqvAll]
 | [],_::_=>by simp[PyData.eqvAll]
 |_::_,[]=>by simp[PyData.eqvAll]
 |x::xs,y::ys=>by
  rw[cA,cA,PyData.eqvAll,Fg xs ys,PyData.eqv,rO]
  simp
def Yx(s t:cu):PyData.eqv s.d t.d=decide (s=t):=by
 rw[a2U,a2U,PyData.eqv,PyData.eqvAll,Fg,PyData.eqv,Ir,Ir,Ip _ (Wy s) _ (Wy t),rO,fX,eE,eE,eE];show⟨λh=>a4C h.1 h.2,λh=>by grind⟩
def a1t(ss:ax)(t:cu):(ss.map cu.d).any (λe=>PyData.eqv e t.d)=decide (t∈ss):=by
 rw[Ho,rO,Vd,eE];constructor
 ·rintro⟨x,hx,e⟩;let:PyData.eqv x.d t.d=true:=e;rw[Yx]at this;grind
 ·show λh=>⟨t,h,by show PyData.eqv t.d t.d=true;rw[Yx];grind⟩
abbrev fW:Stmt:=top 26
def uY:bR ["question","old","step","bag","spot"] Ez (aG fW):={}
section
variable{P:Program}{w:World}{mg:Str->Option Value}{base:Heap}{κ:Type} [DecidableEq κ]
noncomputable def Wz(pq:PQ κ)(s:dF)(jQ:cu)(B:ae):List (dF×Int):=match jQ with
 |.inn v=>pq.inn s (B.idxOf v) v.toNat
 |.out v=>pq.out s (B.idxOf v) v.toNat
 |.tie a b=>pq.tie s (B.idxOf a) (B.idxOf b) (a,b)
 |_=>[]
def Gr(Qn:JV P w K mg base κ)(jQ:cu)(B:ae)(m:Nat):Prop:=match jQ with
 |.inn v=>(∃n:Nat,v=(n:Int))/\v∈B/\B.length=m+1/\m<=4
 |.out v=>(∃n:Nat,v=(n:Int)/\Qn.Pl n)/\v∈B/\B.length=m/\m<=4
 |.tie a b=>a∈B/\b∈B/\a≠b/\B.length=m/\m<=4/\Qn.Ti (a,b)
 |_=>False
def vV{B:ae}{v:Int}(h:v∈B):B[B.idxOf v]?=some v/\∀m:Nat,m<B.idxOf v->B[m]?≠some v:=by
 induction B with
 |nil=>cases h
 |cons x B ih =>
  rw[Vj];by_cases c:x=v
  ·subst c;rw[Nq];show⟨Z,λm hm=>absurd hm (wU m)⟩
  ·rw[qC.mpr c];let⟨h1,h2⟩:=ih ((bT.mp h).resolve_left λz=>c z.symm);show⟨h1,λm hm=>?_⟩;cases m with
   |zero=>show λz=>c (dO z)
   |succ m=>show h2 m (by simpa using hm)
def xu{B:ae}{v:Int}(h:v∈B):B.idxOf v<B.length:=Mt h
def a4D{B:ae}{a b:Int}(h:a∈B)(h':b∈B)(n:a≠b):B.idxOf a≠B.idxOf b:=λe=>by
 let h1:=(vV h).1;let h2:=(vV h').1;rw[e,h2]at h1;show n (dO h1).symm
inductive Ś(Qn:JV P w K mg base κ)(vs:af)(H:Hp)(Q:VK)(u_3:XK):Prop
 |mk (d a ps pb:Addr) (s:dF) (jQ:cu) (B:ae) (m:Nat) (_:vs=[.ref d,.ref a,.ref ps,.ref pb]) (_:Qn.At H d) (_:oW H a s) (_:Qn.pq.Ok m s) (_:cO K H ps jQ.vs) (_:H pb=↥(B.map V.int)) (_:Gr Qn jQ B m) (_:∀r xs H',aL H H'->H' r=↥xs->Paired (å H') xs (Wz Qn.pq s jQ B)->Q (.ref r) H')
def DG(Qn:JV P w K mg base κ)(wB:Dn K mg "states_behind" fW Ez):⋯ 9 wB.f wB.fd Ez (Ś Qn):=by
 let WD:⋯ 8 _ _ _ _:=Qn.Bq.ok;let JX:⋯ 8 _ _ _ _:=Qn.tM.ok;let ś:⋯ 8 _ _ _ _:=Qn.Ph.ok;show wB.F.ok uY λdZ A outer s H vs Q E hr h=>?_;let⟨d,a,ps,pb,st,jQ,B,m,rfl,hD,ha,ok,hs,hb,fit,q⟩:=h;let⟨dx,fs,hd,nom,_⟩:=Qn.ins hD;show⟨_,(aB (aV 4 uY.nd (gZ (K:=K) Z gR Mz MF uX (pv 3) (O (aP (aO (K:=K) Z) (pv 2) aq) aj)))
   (aB (cJ (aN mZ (aP (aO (K:=K) Z) (pv 2) aq) fY)
   (aF (bI (vL (pv 0) Qn.cl Qn.Bq.mt WD hr Qn.Bq.b .nil bZ (O (pv 1) (O (pv 4) (O (aP (aO (K:=K) Z) (pv 2) aq) aj))))))
   bx)
   (aB (cJ (aN mZ (aP (aO (K:=K) Z) (pv 2) aq) fY)
   (aF (bI (vL (pv 0) Qn.cl Qn.tM.mt JX hr Qn.tM.b .nil bZ (O (pv 1) (O (pv 4) (O (aP (aO (K:=K) Z) (pv 2) aq) aj))))))
   bx)
   (aF (bI (vL (pv 0) Qn.cl Qn.Ph.mt ś hr Qn.Ph.b .nil bZ (O (pv 1) (O (pv 4) (O (gZ (K:=K) Z gR Mz MF uX (pv 3) (O (aP (aO (K:=K) Z) (pv 2) aq) aj)) (O (dD (Gj (K:=K) Z) (pv 2) (d7 aq) fK) aj)))))))))),?_⟩
 let lB:B.length<=1000:=by
  cases jQ<;>first|exact fit.elim|skip
  ·let⟨_,_,e,l⟩:=fit;omega
  ·let⟨_,_,_,e,l,_⟩:=fit;omega
  ·let⟨_,_,e,l⟩:=fit;omega
 let fld:∀(mth:Str),mth∈(Yo:ag)->fs.lookup mth=none:=nom;cases jQ with
 |leaf=>show fit.elim
 |join=>show fit.elim
 |inn v =>
  let⟨⟨n,rfl⟩,hv,el,m4⟩:=fit;let ix:=vV hv;show⟨_,Z,.inl ⟨Z,_,bB.of hb⟩,_,Z,ps,_,_,_,Z,Z,hs,Z,pb,B,_,_,Z,Z,hb,ix.1,ix.2,lB,⟨_,Z,ps,_,_,_,Z,Z,hs,Z,Z,_,Z,iC ⟨_,Z,d,dx,fs,Z,hd,fld _ (),_,Z,_,Z,_,Z,ps,_,_,_,Z,Z,hs,Z,⟨d,a,m,_,n,st,Z,hD,ha,ok,m4,?_,λr xs H' s' h1 h2=>q r xs H' s' h1 h2⟩⟩⟩⟩;grind
 |out v =>
  let⟨⟨n,rfl,pn⟩,hv,el,m5⟩:=fit;let ix:=vV hv;show⟨_,Z,.inl ⟨Z,_,bB.of hb⟩,_,Z,ps,_,_,_,Z,Z,hs,Z,pb,B,_,_,Z,Z,hb,ix.1,ix.2,lB,⟨_,Z,ps,_,_,_,Z,Z,hs,Z,Z,_,Z,cQ ⟨_,Z,ps,_,_,_,Z,Z,hs,Z,Z,_,Z,iC ⟨_,Z,d,dx,fs,Z,hd,fld _ (),_,Z,_,Z,_,Z,ps,_,_,_,Z,Z,hs,Z,⟨d,a,m,_,n,st,Z,hD,ha,ok,m5,?_,pn,λr xs H' s' h1 h2=>q r xs H' s' h1 h2⟩⟩⟩⟩⟩;grind
 |tie x y =>
  let⟨hx,hy,ne,el,m5,ti⟩:=fit;let ix:=vV hx;let iy:=vV hy;show⟨_,Z,.inl ⟨Z,_,bB.of hb⟩,_,Z,ps,_,_,_,Z,Z,hs,Z,pb,B,_,_,Z,Z,hb,ix.1,ix.2,lB,⟨_,Z,ps,_,_,_,Z,Z,hs,Z,Z,_,Z,cQ ⟨_,Z,ps,_,_,_,Z,Z,hs,Z,Z,_,Z,cQ ⟨_,Z,d,dx,fs,Z,hd,fld _ (),_,Z,_,Z,_,Z,.inl ⟨Z,_,bB.of hb⟩,_,Z,ps,_,_,_,Z,Z,hs,Z,pb,B,_,_,Z,Z,hb,iy.1,iy.2,lB,_,Z,?_⟩⟩⟩⟩;show⟨_,Z,ps,_,Z,hs,(λz=>absurd z.1 (show ¬(1:Nat)=0 by decide)),λpt H1 n1=>?_⟩;let s1:=n1.same;show⟨d,a,pt,m,_,_,(x,y),st,Z,Qn.keep (λc o _ _ e=>s1 c o e) hD,ha.keep (.of s1),ok,m5,?_,?_,a4D hx hy ne,ti,n1.here,λr xs H' s' h1 h2=>q r xs H' (s1.trans s') h1 h2⟩
  ·grind
  grind
end
abbrev jK:Stmt:=top 25
def mD:bR ["question","table","source","step","bag","old","row","state","amount"] Ih (aG jK):={}
section
variable{P:Program}{w:World}{mg:Str->Option Value}{base:Heap}{κ:Type} [DecidableEq κ]
def Nd(H H':Hp):Prop:=∀c o,(∀J,o≠.dT J)->(∀φ,o≠.ext φ)->H c=some o->H' c=some o
def Nd.trans{H' TJ:Hp}(a:Nd H H')(b:Nd H' TJ):Nd H TJ:=λc o n m h=>b c o n m (a c o n m h)
def Nd.of{H':Hp}(a:aL H H'):Nd H H':=λc o _ _ h=>a c o h
def Nd.sd{t:Addr}{H':Hp}{J:List (aS×V)}(a:Sd t H H')(h:H t=some (.dT J)):Nd H H':=λc o n _ e=>a c o (λz=>by grind) e
def Nd.iw{t:Addr}{J:List (aS×V)}{u:HO}(h:H t=some (.dT J)):Nd H (cX H t u):=λc o n _ e=>by
 rw[aQ (λz=>by grind)];show e
def Nd.Pa{t:Addr}{ob:Obj}{J:List (aS×V)}{u:HO}(h:H t=some (.iw ob (.dT J)))(c:Addr)(ys:af)(e:H c= ~~~ys):cX H t u c= ~~~ys:=by
 rw[aQ (λz=>by grind)];show e
def Nd.tups{H':Hp}(a:Nd H H'):lH H H':=λc ys e=>a c _ (λ_ z=>by cases z) (λ_ z=>by cases z) e
def Nd.lst{H H':Hp}(a:Nd H H'){c:Addr}{ys:af}(e:H c=↥ys):H' c=↥ys:=a c _ (λ_ z=>by cases z) (λ_ z=>by cases z) e
def Nd.sqt{H':Hp}(a:Nd H H'){c:Addr}{ys:af}(e:cO K H c ys):cO K H' c ys:=by
 rcases e with(e|⟨o,e⟩)|e
 ·show .inl (.inl (a c _ (λ_ z=>by cases z) (λ_ z=>by cases z) e))
 ·show .inl (.inr ⟨o,a c _ (λ_ z=>by cases z) (λ_ z=>by cases z) e⟩)
 ·show .inr e
def Nd.at(Qn:JV P w K mg base κ){H':Hp}{d:Addr}(a:Nd H H')(h:Qn.At H d):Qn.At H' d:=Qn.keep a h
def jz(bt:Int->Int->Bool)(old:dF)(row:fV):List (dF×Int)->bW->bW
 | [],T=>T
 |x::l,T=>jz bt old row l (jN bt T x.1 ⟨row.m,row.b+x.2,[old]⟩)
def jW(pq:PQ κ)(jQ:cu)(B:ae):bW->bW->bW
 | [],T=>T
 |x::S,T=>jW pq jQ B S (jz pq.bt x.1 x.2 (Wz pq x.1 jQ B) T)
theorem Br(bt:Int->Int->Bool)(old:dF)(row:fV)(x:dF×Int):∀(l:List (dF×Int)) (T:bW),jz bt old row (l++[x]) T=jN bt (jz bt old row l T) x.1 ⟨row.m,row.b+x.2,[old]⟩
 | [],_=>rfl
 |_::l,T=>Br bt old row x l _
theorem Iu(pq:PQ κ)(jQ:cu)(B:ae)(x:dF×fV):∀(S T:bW),jW pq jQ B (S++[x]) T=jz pq.bt x.1 x.2 (Wz pq x.1 jQ B) (jW pq jQ B S T)
 | [],_=>rfl
 |_::S,T=>Iu pq jQ B x S _
def a4E(pq:PQ κ)(jQ:cu)(B:ae)(S T:bW):Prop:=∀i,i<=S.length->∀x,S[i]?=some x->∀j,j<=(Wz pq x.1 jQ B).length->(jz pq.bt x.1 x.2 ((Wz pq x.1 jQ B).take j) (jW pq jQ B (S.take i) T)).length<=4000
inductive Ŝ(Qn:JV P w K mg base κ)(vs:af)(H:Hp)(Q:VK)(u_3:XK):Prop
 |mk (d t sc ps pb:Addr) (J mU:List (aS×V)) (T S:bW) (jQ:cu) (B:ae) (m:Nat) (_:vs=[.ref d,.ref t,.ref sc,.ref ps,.ref pb]) (_:Qn.At H d) (_:H t=some (.dT J)) (_:oX H J T) (_:H sc=some (.dT mU)) (_:oX H mU S) (_:t≠sc) (_:(∀x∈S,Qn.pq.Ok m x.1)) (_:cO K H ps jQ.vs) (_:H pb=↥(B.map V.int)) (_:Gr Qn jQ B m) (_:S.length<=4000) (_:a4E Qn.pq jQ B S T) (_:∀kvs' H',Sd t H H'->H' t=some (.dT kvs')->oX H' kvs' (jW Qn.pq jQ B S T)->Q .non H')
def Z0{P:Nat->St->Hp->Prop}{R:Prop}(h:∀Z97:Nat->St->Hp->Prop,(∀i σ H,P i σ H->Z97 i σ H)->(∀i σ H,Z97 i σ H->P i σ H)->R):R:=h P (λ_ _ _ z=>z) (λ_ _ _ z=>z)
def JZ(Qn:JV P w K mg base κ)(wB:Dn K mg "states_behind" fW Ez)(qJ:Dn K mg "note" uz Bj)(yj:Dn K mg "fill_along" jK Ih):⋯ 10 yj.f yj.fd Ih (Ŝ Qn):=by
 let a8m:⋯ 9 _ _ _ _:=DG Qn wB;let a4F:⋯ 9 _ _ _ _:=Yv Qn qJ;show yj.F.ok mD λdZ A outer s H vs Q E hr h=>?_;let⟨d,t,sc,ps,pb,J,mU,T,S,jQ,B,m,rfl,hD,ht,hT,hsc,hS,nts,ŝ,hs,hb,fit,lS,lim,q⟩:=h;show⟨_,(aF (uV (iV iI Z (rF (mK (K:=K) Z rK Cu Cv rE (pv 2))) (jb (K:=K) (n:=2) Z Z (bN (aM 5 mD.nd) (bN (aM 6 mD.nd) gW)))
   (aF (iV iI Z (dU (K:=K) Z (aY a8m hr Z wB.m wB.F.kp wB.b .nil bZ (O (pv 0) (O (pv 5) (O (pv 3) (O (pv 4) aj)))))) (jb (K:=K) (n:=2) Z Z (bN (aM 7 mD.nd) (bN (aM 8 mD.nd) gW)))
   (aF (eY (aY a4F hr Z qJ.m qJ.F.kp qJ.b .nil bZ (O (pv 0) (O (pv 1) (O (pv 7) (O (bL (O (aP (aO (K:=K) Z) (pv 6) aq) (O (bA dH (aP (aO (K:=K) Z) (pv 6) aq) (pv 8)) (O (bL (O (pv 5) aj)) aj)))) aj)))))))))))),?_⟩
 show⟨_,Z,.inr (.inr (.inl ⟨Z,.inr ⟨_,hsc⟩⟩)),sc,mU,Z,Z,hsc,λpv H1 n1=>⟨pv,sc,mU,Z,n1.here,n1.same _ _ hsc,λo as pk=>?_⟩⟩;let h1s:=n1.same _ _ hsc;let Qp:Nd H (cX H1 sc (.iw o (.dT mU))):=(Nd.of n1.same).trans (Nd.iw h1s);let g0s:cX H1 sc (.iw o (.dT mU)) sc=some (.iw o (.dT mU)):=dw;let J0:cX H1 sc (.iw o (.dT mU)) t=some (.dT J):=by rw[aQ nts];show n1.same _ _ ht
 let RG:∀c,c≠sc->cX H1 sc (.iw o (.dT mU)) c=H1 c:=λc hc=>aQ hc;generalize cX H1 sc (.iw o (.dT mU))=G0 at pk Qp g0s J0 RG ⊢;let lk:=aU hS;let la:=aU pk;show Z0 (P:=λi σ G=>P4 (T4 (λo5 o6 o7 o8=>[⇑d,⇑t,⇑sc,⇑ps,⇑pb,o5,o6,o7,o8]) σ) (Sd t G0 G) (λkt=>G t=some (.dT kt)) λkt=>oX G kt (jW Qn.pq jQ B (S.take i) T)) λZ97 ji ij=>sE Z97 (ji _ _ _ ⟨⟨_,_,_,_,Z⟩,.refl,J,J0,hT.keep Qp.tups⟩) (λi σ G _ h=>(ij _ _ _ h).s _ _ (Ne.symm nts) g0s) ?_ ?_
 ·intro i a0 v0 σ G p G1 ha0 hv0 h nw;let⟨⟨o5,o6,o7,o8,rfl⟩,sG,kt,hkt,J5⟩:=ij _ _ _ h;let⟨kv,hkv,hak⟩:=bC pk ha0;let⟨⟨old,row⟩,hsx,ek,hrow⟩:=bC hS hkv;let ek:kv.1=qp old:=ek;let hv0':v0=kv.2:=by
   rw[cV,hkv]at hv0;show(dO hv0).symm
  subst hv0';rw[ek]at hak;let nG:Nd G0 G:=.sd sG J0;let WK:aL G G1:=nw.same;let Z1:Nd G0 G1:=nG.trans (.of WK);let nH1:Nd H G1:=Qp.trans Z1;let hold:oW G1 a0 old:=oW.Im (Z1.tups _ _ hak);let uZ:JT G1 kv.2 row:=hrow.keep nH1.tups;let mem:(old,row)∈S:=gU hsx;show⟨p,_,Z,cO.of nw.here,Z,_,_,Z,_,_,Z,Z,⟨_,Z,_,Z,_,Z,_,Z,d,a0,ps,pb,old,jQ,B,m,Z,nH1.at Qn hD,hold,ŝ _ mem,nH1.sqt hs,nH1.lst hb,fit,λr xs G2 s2 hr2 pm=>⟨r,Z,⟨_,bB.of hr2⟩,?_⟩⟩⟩;let hT2:oX G2 kt (jW Qn.pq jQ B (S.take i) T):=J5.keep (lH.of (WK.trans s2));let ht2:G2 t=some (.dT kt):=(WK.trans s2) _ _ hkt;let lpm:=aU pm;let a8n:=lim i (fC (dY.mp hsx).1) _ hsx;let hTi:S.take (i+1)=S.take i++[(old,row)]:=by rw[iR,hsx];rfl
  show Z0 (P:=λj σ G'=>P4 (T2 (λo7 o8=>[⇑d,⇑t,⇑sc,⇑ps,⇑pb,⇑a0,some kv.2,o7,o8]) σ) (Sd t G2 G') (λLb=>G' t=some (.dT Lb)) λLb=>oX G' Lb (jz Qn.pq.bt old row ((Wz Qn.pq old jQ B).take j) (jW Qn.pq jQ B (S.take i) T))) λJ2 ji2 ij2=>uO (K:=K) (a:=r) (xs:=xs) J2 (ji2 _ _ _ ⟨⟨_,_,Z⟩,.refl,kt,ht2,hT2⟩) (λj σ G' _ h=>bB.of ((Nd.sd (ij2 _ _ _ h).s ht2).lst hr2)) ?_ ?_
  ·intro j x σ G' hx h2;let⟨⟨o7,o8,rfl⟩,sG',Lb,WL,hT'⟩:=ij2 _ _ _ h2;let⟨⟨st',am⟩,hmx,pp,aa,rfl,Cr,haa⟩:=bC pm hx;let n2':Nd G2 G':=.sd sG' ht2;let nHG:Nd H G':=nH1.trans ((Nd.of s2).trans n2');let⟨pr,qr,asr,WM,hpr,hqr,hsr⟩:=uZ.keep ((lH.of s2).trans n2'.tups);show⟨pp,_,Z,cO.of (n2'.tups _ _ Cr),Z,_,_,Z,_,_,Z,Z,?_⟩;rw[WM];show⟨_,Z,_,Z,_,Z,_,Z,pr,_,_,.int row.m,Z,Z,cO.of hpr,Z,_,Z,pr,_,_,.int row.b,Z,Z,cO.of hpr,Z,_,Z,_,_,Z,Z,_,Z,(),λq1 G3 m3=>⟨(),λq2 G4 m4=>?_⟩⟩;let æ:=m3.same.trans m4.same;let Ld:oW G4 a0 old:=hold.keep ((lH.of s2).trans (n2'.tups.trans (.of æ)));show⟨d,t,aa,.ref q2,Lb,_,st',⟨row.m,row.b+am,[old]⟩,Z,(nHG.trans (.of æ)).at Qn hD,æ _ _ WL,hT'.keep (.of æ),?_,haa.keep (n2'.tups.trans (.of æ)),⟨q2,q1,[a0],Z,m4.here,m4.same _ _ m3.here,.cons Ld .nil⟩,λZ2 G5 s5 h5 hT5=>?_⟩
   ·show a8n j (fC (dY.mp hmx).1)
   ·show ji2 _ _ _ ⟨⟨⇑aa,some (.int am),by rw[WM];rfl⟩,sG'.trans ((Sd.of æ).trans s5),Z2,h5,?_⟩;rw[iR,hmx];show oX G5 Z2 (jz Qn.pq.bt old row ((Wz Qn.pq old jQ B).take j++[(st',am)]) _);rw[Br];show hT5
  ·intro σ G' h2;let⟨⟨o7,o8,rfl⟩,sG',Lb,WL,hT'⟩:=ij2 _ _ _ h2;show ji _ _ _ ⟨⟨_,_,_,_,Z⟩,sG.trans ((Sd.of (WK.trans s2)).trans sG'),Lb,WL,?_⟩;rw[hTi,Iu];rw[lpm,gJ]at hT';show hT'
 ·intro σ G h;let⟨⟨o5,o6,o7,o8,rfl⟩,sG,kt,hkt,J5⟩:=ij _ _ _ h;let gs:=sG _ _ (Ne.symm nts) g0s;show⟨sc,o,mU,mU,hsc,gs,?_⟩;show q kt _ (λc u hc e=>?_) (by rw[aQ nts];show hkt) ?_
  ·by_cases z:c=sc
   ·rw[z]at e ⊢;rw[dw,<-e,hsc]
   ·rw[aQ z];show sG c u hc ?_;rw[RG c z];show n1.same _ _ e
  ·rw[show S.take as.length=S by rw[la,lk,gJ]]at J5;show J5.keep (Nd.Pa gs)
end
end K
namespace L2
open PyProof.Rows Bg
section
variable{X:Cx}{tg:Expr}
def a4G(td:TE):TI:=λσ H R=>td σ H λx H1=>∃d J,x=.ref d/\H1 d=some (.dT J)/\
 ∀o as,Paired (λa (kv:aS×V)=>(cX H1 d (.iw o (.dT J))) a= ~~~(kv.1.map kV)) as J->R (Itp o d (.dT J) as) (cX H1 d (.iw o (.dT J)))
def Ş{l:Expr}{td:TE}(hl:PE X l td):PI X tg l (a4G td):=by
 intro Y s σ H R I h;show jr (hl Y s σ H _ I h) λv s1 ⟨x,H1,I1,r1,q1⟩=>?_;let⟨d,J,e,hd,q⟩:=q1;subst e;cases r1;let⟨_,hs,xs,rel,o,es,ep,ho,hx,hdt,hes,_,_⟩:=Bb I1.hok hd;let I2:bF X Y σ (cX H1 d (.iw o (.dT J))) s1:=I1.O9 hd (λ_ z=>by cases z) (λ_ z=>by cases z) (λ_ z=>by cases z) (I1.Rn hd λ_ _ z=>by cases z) ⟨ho,I1.hok d _ hd⟩;let ek:es.toList.map (·.key)=(xs.map λx=>x.2.1).map Value.ref:=by rw[hes,lV,lV];rfl
 let pk:Paired (λa (kv:aS×V)=>(cX H1 d (.iw o (.dT J))) a= ~~~(kv.1.map kV)) (xs.map λx=>x.2.1) J:=by
  let go:∀{ks:List (aS×V)}{ys:List (aS×Addr×Value)},KT H1 ks ys->Paired (λa (kv:aS×V)=>(cX H1 d (.iw o (.dT J))) a= ~~~(kv.1.map kV)) (ys.map λx=>x.2.1) ks:=λ{ks ys} r=>by
   induction r with
   |nil=>show .nil
   | @cons kv y _ _ a _ ih =>
    show .cons ?_ ih;let nb:y.2.1≠d:=λz=>by grind
    rw[aQ nb];show a.2.1
  show go rel
 show Dq.Az hs ho hx hdt ⟨s1⁻¹,[s1⁻¹],_,_,_,Z,I2.kept (t':=s1.toks) λb o e=>bM _ e,Wq d _ hdt ek,cB _ Z,λb hb=>?_,q o _ pk⟩;let e:b=s1⁻¹:=()
 subst e;show I2.Fq (aK _) (I2.hok.fresh (aK _))
end
def Z4{o:Obj}{d:Addr}{u:HO}{as:aI}{g:TG}{tb:TS}{D:Ends}{σ:St}{H:Hp}(Pv:Nat->St->Hp->Prop)(h0:Pv 0 σ H)(hl:∀i σ H,i<=as.length->Pv i σ H->H d=some (.iw o u))
  (hs:∀(i:Nat) a σ H,as[i]?=some a->Pv i σ H->g (.ref a) σ H λσ2 H2=>tb { D with nx:=Pv (i+1),ct:=Pv (i+1),bk:=D.nx} σ2 H2) (hd:∀σ H,Pv as.length σ H->D.nx σ H) :
  ∃W:Nat->Nat->St->Hp->Prop,(∃m,W 0 m σ H)/\∀i m σ H,W i m σ H->
   ((Itp o d u as).stop i H/\D.nx σ H)\/((Itp o d u as).go i H/\∃N:St->Hp->Prop,(∀σ' H',N σ' H'->∃m',m'<m/\W (i+1) m' σ' H')/\∀x H',(Itp o d u as).Xw i H x H'->g x σ H' λσ2 H2=>tb { D with nx:=N,ct:=N,bk:=D.nx} σ2 H2):=by
 show⟨λi m σ H=>m=as.length-i/\i<=as.length/\Pv i σ H,⟨as.length,by simp,dG _,h0⟩,?_⟩;rintro i m σ H ⟨rfl,hi,p⟩;let q1:=hl i σ H hi p;by_cases hlt:i<as.length
 ·show .inr ⟨⟨q1,hlt⟩,Pv (i+1),λσ' H' p'=>⟨as.length-(i+1),(),Z,hlt,p'⟩,λx H' y=>?_⟩;let⟨eH,ex⟩:=y;subst eH;rw[cV,bO hlt]at ex;cases ex;show hs i as[i] σ H' (bO hlt) p
 ·let e:i=as.length:=()
  subst e;show .inl ⟨⟨q1,Z⟩,hd σ H p⟩
section
variable{X:Cx}
def ş(i j:Int):Prop:=i.natAbs<2^4000/\j.natAbs<2^4000
def Le{k:Int}(h:k.natAbs<2^4000):Builtin.Int.intBits k<=4000:=by
 unfold Builtin.Int.intBits;split
 ·grind
 ·let:k.natAbs.log2<4000:=by
   rcases Nat.eq_zero_or_pos k.natAbs with h0|hp
   ·rw[h0];decide
   ·show(Nat.log2_lt (iU hp)).mpr h
  omega
def ş.ok{i j:Int}(h:ş i j):IntMulOk i j:=by
 let h1:=Le h.1;let h2:=Le h.2;let:Builtin.Int.intTooBig ((Builtin.Int.intBits i:Int)+(Builtin.Int.intBits j:Int))=false:=by
  unfold Builtin.Int.intTooBig;show cG ?_;let e:((bitsLine:Nat):Int)=134217728:=()
  grind
 unfold IntMulOk;rw[this,Bool.and_false];show cL
def a1u:qQ X (binaryOp .Mult) (rI ş λi j=>.int (i*j)):=opI λ_ _ _ _ _ _ _ hc q=>mul_int q hc.ok
end
end L2
namespace K
open L2 Lw Bg
variable{P:Program}{w:World}{mg:Str->Option Value}{base:Heap}{ex:aI}{F:Hp}{pa:Addr}
section
variable{κ:Type} [DecidableEq κ]
def yG(bt:Int->Int->Bool)(iG cP:dF)(row more:fV):bc->bW->bW
 | [],T=>T
 |x::l,T=>yG bt iG cP row more l (jN bt T x ⟨row.m*more.m,row.b+more.b,[iG,cP]⟩)
def yH(pq:PQ κ)(iG:dF)(row:fV):bW->bW->bW
 | [],T=>T
 |x::A,T=>yH pq iG row A (yG pq.bt iG x.1 row x.2 (pq.jn iG x.1) T)
noncomputable def oY(pq:PQ κ)(iG:dF)(A:bW):bW:=A.filter λx=>decide (pq.sh x.1=pq.sh iG)
def wu(pq:PQ κ)(A:bW):bW->bW->bW
 | [],T=>T
 |x::S,T=>wu pq A S (yH pq x.1 x.2 (oY pq x.1 A) T)
theorem Iw(bt:Int->Int->Bool)(iG cP:dF)(row more:fV)(x:dF):∀(l:bc) (T:bW),yG bt iG cP row more (l++[x]) T=jN bt (yG bt iG cP row more l T) x ⟨row.m*more.m,row.b+more.b,[iG,cP]⟩
 | [],_=>rfl
 |_::l,T=>Iw bt iG cP row more x l _
theorem Iz(pq:PQ κ)(iG:dF)(row:fV)(x:dF×fV):∀(A T:bW),yH pq iG row (A++[x]) T=yG pq.bt iG x.1 row x.2 (pq.jn iG x.1) (yH pq iG row A T)
 | [],_=>rfl
 |_::A,T=>Iz pq iG row x A _
theorem join_snoc(pq:PQ κ)(A:bW)(x:dF×fV):∀(S T:bW),wu pq A (S++[x]) T=yH pq x.1 x.2 (oY pq x.1 A) (wu pq A S T)
 | [],_=>rfl
 |_::S,T=>join_snoc pq A x S _
def a4H(pq:PQ κ)(A S T:bW):Prop:=∀i x,S[i]?=some x->∀j y,(oY pq x.1 A)[j]?=some y->∀l,l<=(pq.jn x.1 y.1).length->(yG pq.bt x.1 y.1 x.2 y.2 ((pq.jn x.1 y.1).take l) (yH pq x.1 x.2 ((oY pq x.1 A).take j) (wu pq A (S.take i) T))).length<=4000
noncomputable def sJ(pq:PQ κ)(L:List (Addr×dF))(k:List κ):aI:=(L.filter λx=>decide (pq.sh x.2=k)).map (·.1)
def Lf(pq:PQ κ)(L:List (Addr×dF))(x:Addr×dF)(k:List κ):sJ pq (L++[x]) k=if pq.sh x.2=k then sJ pq L k++[x.1]else sJ pq L k:=by
 unfold sJ;grind
def rD{J:List (List κ×V)}{k0:List κ}{v:V}(h:dI J k0=none)(k:List κ):dI (J++[(k0,v)]) k=if k0=k then some v else dI J k:=by
 unfold dI at h ⊢;rw[List.find?_append];by_cases c:k0=k
 ·subst c;rw[aD rfl];cases e:J.find? λkv=>decide (kv.1=k0)with
  |none=>rw[Option.none_or,vy (by show bh Z)];rfl
  |some y=>rw[e]at h;cases h
 ·rw[aA c,vz (by show λz=>c (dB z))];simp
end
section
variable{κ:Type} [DecidableEq κ]
structure Bs(knd:KeyKind P w κ)(pq:PQ κ)(F G:Hp)(pa:Addr)(L:List (Addr×dF))(J:List (List κ×V)):Prop where
 dx:DX knd G pa J
 len:J.length<=L.length
 val:∀k,(dI J k=none/\sJ pq L k=[])\/∃l,dI J k=⇑l/\G l=↥((sJ pq L k).map V.ref)
 inj:∀k k' l,dI J k=⇑l->dI J k'=⇑l->k=k'
 fr:∀k l,dI J k=⇑l->F l=none
def Š(pq:PQ κ)(L:List (Addr×dF))(k:List κ):(sJ pq L k).length<=L.length:=by
 unfold sJ;grind
def RJ{knd:KeyKind P w κ}{H H':Hp}{a:Addr}{J:List (List κ×V)}(e:∀c o,(∀ys,o≠.lst ys)->H c=some o->H' c=some o)(h:DX knd H a J):DX knd H' a J:=by
 obtain⟨z,h|⟨xs,h1,h2⟩⟩:=h
 ·show⟨z,.inl ⟨h.1,e _ _ (λ_ z=>by cases z) h.2⟩⟩
 ·show⟨z,.inr ⟨xs,e _ _ (λ_ z=>by cases z) h1,Paired.cD h2 λ_ _ ⟨a,b,c⟩=>⟨a,b.same λ_ _ q=>e _ _ (λ_ z=>by cases z) q,c⟩⟩⟩
def Pj{knd:KeyKind P w κ}{H:Hp}{a:Addr}{J:List (List κ×V)}(h:DX knd H a J){ys:af}:H a≠↥ys:=λe=>by
 obtain⟨z,h|⟨xs,h1,h2⟩⟩:=h
 ·grind
 grind
def Bs.same{knd:KeyKind P w κ}{pq:PQ κ}{F G G':Hp}{pa:Addr}{L:List (Addr×dF)}{J:List (List κ×V)}(I:Bs knd pq F G pa L J)(s:aL G G'):Bs knd pq F G' pa L J :=
 ⟨I.dx.same s,I.len,λk=>(I.val k).imp id λ⟨l,h1,h2⟩=>⟨l,h1,s _ _ h2⟩,I.inj,I.fr⟩
def a1v{knd:KeyKind P w κ}{pq:PQ κ}{G G3:Hp}{L:List (Addr×dF)}{J:List (List κ×V)}{l a0:Addr}{st:dF}(I:Bs knd pq F G pa L J)(hv:dI J (pq.sh st)=⇑l)(c:tH G l (.lst ((sJ pq L (pq.sh st)).map V.ref++[.ref a0])) G3)(hl:∃ys,G l=↥ys):Bs knd pq F G3 pa (L++[(a0,st)]) J:=by
 let⟨ys,hl⟩:=hl;show⟨RJ (λb o nl e=>?_) I.dx,by rw[bK];let:=I.len;omega,λk=>?_,I.inj,I.fr⟩
 ·rw[c.rest b (λz=>by grind)];show e
 ·rw[Lf];by_cases ck:pq.sh st=k
  ·subst ck;rw[aD rfl];show .inr ⟨l,hv,?_⟩;rw[c.here,cW];rfl
  ·rw[aA ck];show(I.val k).imp id λ⟨l',h1,h2⟩=>⟨l',h1,?_⟩;rw[c.rest l' (λz=>ck (I.inj _ _ l hv ()))];show h2
def a1w{knd:KeyKind P w κ}{pq:PQ κ}{G H' G3:Hp}{L:List (Addr×dF)}{J:List (List κ×V)}{l0 a0:Addr}{st:dF}(I:Bs knd pq F G pa L J)(hv:dI J (pq.sh st)=none)(hl:G l0=↥[])(fl:F l0=none)(nl:∀k l,dI J k=⇑l->l≠l0)(hh:∀c,c≠pa->H' c=G c)(dx:DX knd H' pa (J++[(pq.sh st,.ref l0)]))(c:tH H' l0 (.lst ([]++[.ref a0])) G3):Bs knd pq F G3 pa (L++[(a0,st)]) (J++[(pq.sh st,.ref l0)]):=by
 let npa:l0≠pa:=λz=>Pj I.dx (ys:=[]) ();let hl':H' l0=↥[]:=()
 let lk0:sJ pq L (pq.sh st)=[]:=by
  rcases I.val (pq.sh st)with h|⟨l,h,_⟩
  ·show h.2
  grind
 show⟨RJ (λb o nl e=>?_) dx,by rw[bK,bK];let:=I.len;simp;omega,λk=>?_,λk k' l h h'=>?_,λk l h=>?_⟩
 ·rw[c.rest b (λz=>by grind)];show e
 ·rw[Lf,rD hv];by_cases ck:pq.sh st=k
  ·subst ck;rw[aD Z,aD Z,lk0];show .inr ⟨l0,Z,c.here⟩
  ·rw[aA ck,aA ck];show(I.val k).imp id λ⟨l',h1,h2⟩=>⟨l',h1,?_⟩;rw[c.rest l' (nl k l' h1),hh l' (λz=>Pj I.dx (by rw[<-z];show h2))];show h2
 ·rw[rD hv]at h h';by_cases ck:pq.sh st=k
  ·grind
  ·by_cases ck':pq.sh st=k'
   ·grind
   ·rw[aA ck]at h;rw[aA ck']at h';show I.inj _ _ _ h h'
 ·rw[rD hv]at h;by_cases ck:pq.sh st=k
  ·grind
  ·rw[aA ck]at h;show I.fr _ _ h
def Bs.Pa{knd:KeyKind P w κ}{pq:PQ κ}{G G':Hp}{L:List (Addr×dF)}{J:List (List κ×V)}(I:Bs knd pq F G pa L J)(e:∀c o,(∀ob u,o≠.iw ob u)->G c=some o->G' c=some o):Bs knd pq F G' pa L J:=by
 show⟨?_,I.len,λk=>(I.val k).imp id λ⟨l,h1,h2⟩=>⟨l,h1,e _ _ (λ_ _ z=>by cases z) h2⟩,I.inj,I.fr⟩;obtain⟨z,h|⟨xs,h1,h2⟩⟩:=I.dx
 ·show⟨z,.inl ⟨h.1,e _ _ (λ_ _ z=>by cases z) h.2⟩⟩
 ·show⟨z,.inr ⟨xs,e _ _ (λ_ _ z=>by cases z) h1,Paired.cD h2 λ_ _ ⟨a,b,c⟩=>⟨a,b.same λ_ _ q=>e _ _ (λ_ _ z=>by cases z) q,c⟩⟩⟩
def RK{R:Addr->dF×fV->Prop}(pq:PQ κ)(k:List κ){as:aI}{A:bW}(h:Paired R as A):Paired R (sJ pq (as.zip (A.map (·.1))) k) (A.filter λx=>decide (pq.sh x.1=k)):=by
 induction h with
 |nil=>show .nil
 | @cons a x as A h t ih =>
  unfold sJ at ih ⊢;rw[cA,List.zip_cons_cons];by_cases c:pq.sh x.1=k
  ·rw[MJ (by show bh c),MJ (by show bh c),cA];show .cons h ih
  grind
theorem IK:∀{A:bW}{x:dF×fV},(A.map (·.1)).Nodup->x∈A->qY A x.1=some x.2
 |y::A,x,nd,h=>by
  unfold qY
  rw[cA,iQ]at nd
  rcases bT.mp h with rfl|h
  ·grind
  ·rw[vz ()]
   show IK nd.2 h
end
abbrev iz:Stmt:=top 27
def gD:bR ["question","table","source","another","alike","other","one","row","more","state"] Ii (aG iz):={}
section
variable{K:aH}{κ:Type} [DecidableEq κ]
def IV(T:bW):Prop:=∀x∈T,x.2.m.natAbs<2^4000
inductive a1x(Qn:JV P w K mg base κ)(vs:af)(H:Hp)(Q:VK)(u_3:XK):Prop
 |mk (d t sc an:Addr) (J mU u6:List (aS×V)) (T S A:bW) (m:Nat) (_:vs=[.ref d,.ref t,.ref sc,.ref an]) (_:Qn.At H d) (_:H t=some (.dT J)) (_:oX H J T) (_:H sc=some (.dT mU)) (_:oX H mU S) (_:H an=some (.dT u6)) (_:oX H u6 A) (_:t≠sc) (_:t≠an) (_:sc≠an) (_:(∀x∈S,Qn.pq.Ok m x.1)) (_:(∀x∈A,Qn.pq.Ok m x.1)) (_:m<=4) (_:(A.map (·.1)).Nodup) (_:S.length<=4000) (_:A.length<=900) (_:IV S) (_:IV A) (_:a4H Qn.pq A S T) (_:∀kvs' H',Sd t H H'->H' t=some (.dT kvs')->oX H' kvs' (wu Qn.pq A S T)->Q .non H')
def IW(Qn:JV P w K mg base κ)(qJ:Dn K mg "note" uz Bj)(xG:Dn K mg "fill_joined" iz Ii):⋯ 10 xG.f xG.fd Ii (a1x Qn):=by
 let Ja:⋯ 9 _ _ _ _:=Qn.uW.ok.mono ();let WN:⋯ 9 _ _ _ _:=Qn.Bp.ok.mono ();let a4F:⋯ 9 _ _ _ _:=Yv Qn qJ;show xG.F.ok gD λdZ A' outer s H vs Q E hr h=>?_;let⟨d,t,sc,an,J,mU,u6,T,S,A,m,rfl,hD,ht,hT,hsc,hS,han,hA,nts,nta,nsa,ŝ,okA,m5,ndA,lS,lA,smS,smA,lim,q⟩:=h;let hw1:(A'.deeper (PyProof.Rows.envOfC "fill_joined" (aG iz) s⁻¹ xG.f dZ)).units+1<cLine:=by let:=hr.un;omega
 show⟨_,(aB (aV 4 gD.nd Bf)
   (aB (uV (iV iI Z (Ş (pv 3)) (aM 5 gD.nd)
   (aF (eY (gZ (K:=K) Z gR PySem.F.slot_list_append PySem.F.type_list_append fL (Œ Qn.knd PySem.F.plainAttrs_dict PySem.F.slot_dict_setdefault PySem.F.type_dict_setdefault (Ig Qn.knd hw1) (pv 4) (O (vL (pv 0) Qn.cl Qn.uW.mt Ja hr Qn.uW.b .nil bZ (O (pv 5) aj)) (O (cH aj) aj))) (O (pv 5) aj))))))
   (aF (uV (iV iI Z (rF (mK (K:=K) Z rK Cu Cv rE (pv 2))) (jb (K:=K) (n:=2) Z Z (bN (aM 6 gD.nd) (bN (aM 7 gD.nd) gW)))
   (aF (iV iI Z (dU (K:=K) Z (Œ Qn.knd rK CG Uo (a1m Qn.knd hw1) (pv 4) (O (vL (pv 0) Qn.cl Qn.uW.mt Ja hr Qn.uW.b .nil bZ (O (pv 6) aj)) (O (cH aj) aj)))) (aM 5 gD.nd)
   (aB (aV 8 gD.nd (Bd hw1 (pv 3) (pv 5) λ_ _=>rfl))
   (aF (iV iI Z (dU (K:=K) Z (vL (pv 0) Qn.cl Qn.Bp.mt WN hr Qn.Bp.b .nil bZ (O (pv 6) (O (pv 5) aj)))) (aM 9 gD.nd)
   (aF (eY (aY a4F hr Z qJ.m qJ.F.kp qJ.b .nil bZ (O (pv 0) (O (pv 1) (O (pv 9) (O (bL (O (bA a1u (aP (aO (K:=K) Z) (pv 7) aq) (aP (aO (K:=K) Z) (pv 8) aq)) (O (bA dH (aP (aO (K:=K) Z) (pv 7) aq) (aP (aO (K:=K) Z) (pv 8) aq)) (O (bL (O (pv 6) (O (pv 5) aj))) aj)))) aj))))))))))))))))),?_⟩
 show λpa hpa=>?_;let n1:=iH.nC (o:=.dT []) hpa;generalize cX H pa (.dT [])=H1 at n1 ⊢;let h1a:=n1.same _ _ han;show⟨_,Z,an,u6,Z,h1a,λo as pk=>?_⟩;let npa:pa≠an:=λz=>by let:=n1.fresh;rw[z,han]at this;cases this
 let npt:pa≠t:=λz=>by let:=n1.fresh;rw[z,ht]at this;cases this
 let nps:pa≠sc:=λz=>by let:=n1.fresh;rw[z,hsc]at this;cases this
 let Qp:Nd H (cX H1 an (.iw o (.dT u6))):=(Nd.of n1.same).trans (Nd.iw h1a);let g0a:cX H1 an (.iw o (.dT u6)) an=some (.iw o (.dT u6)):=dw;let g0p:cX H1 an (.iw o (.dT u6)) pa=some (.dT []):=by rw[aQ npa];show n1.here
 let RG:∀c,c≠an->cX H1 an (.iw o (.dT u6)) c=H1 c:=λc hc=>aQ hc;generalize cX H1 an (.iw o (.dT u6))=G0 at pk Qp g0a g0p RG ⊢;let lk:=aU hA;let la:=aU pk;obtain⟨L,hL⟩:∃L:List (Addr×dF),L=as.zip (A.map (·.1)):=⟨_,Z⟩;let lL:L.length=as.length:=by rw[hL,List.length_zip,aJ];omega
 let atL:∀i a0,as[i]?=some a0->∃st more,A[i]?=some (st,more)/\L[i]?=some (a0,st)/\G0 a0= ~~~((qp st).map kV):=λi a0 ha0=>by
  let⟨kv,hkv,hak⟩:=bC pk ha0;let⟨⟨st,more⟩,hsx,ek,hrow⟩:=bC hA hkv;let ek:kv.1=qp st:=ek;rw[ek]at hak;show⟨st,more,hsx,?_,hak⟩;rw[hL,List.getElem?_zip_eq_some];show⟨ha0,by rw[cV,hsx];rfl⟩
 show Z0 (P:=λi σ G=>P3 (T1 (λo5=>[⇑d,⇑t,⇑sc,⇑an,⇑pa,o5,none,none,none,none]) σ) (Sd pa G0 G) λka=>Bs Qn.knd Qn.pq G0 G pa (L.take i) ka) λZ97 ji ij=>Z4 Z97 (ji _ _ _ ⟨⟨_,Z⟩,.refl,[],⟨DX.new g0p,by simp,λk=>.inl ⟨Z,Z⟩,λk k' l h=>(by cases h),λk l h=>(by cases h)⟩⟩) (λi σ G _ h=>(ij _ _ _ h).s _ _ (Ne.symm npa) g0a) ?_ ?_
 ·intro i a0 σ G ha0 h1;let⟨⟨o5,rfl⟩,sG,ka,hK⟩:=ij _ _ _ h1;let⟨st,more,hAi,hLi,hak⟩:=atL i a0 ha0;let nG:Nd G0 G:=.sd sG g0p;let nHG:Nd H G:=Qp.trans nG;let hDG:=nHG.at Qn hD;let⟨dx',fs,hd,nom,_⟩:=Qn.ins hDG;let hst:oW G a0 st:=oW.Im (nG.tups _ _ hak);let hTi:L.take (i+1)=L.take i++[(a0,st)]:=by rw[iR,hLi];rfl
  let li:(L.take i).length<=900:=by rw[dN];omega
  show⟨_,Z,⟨pa,ka,Z,hK.dx⟩,_,Z,d,dx',fs,Z,hd,nom _ (),_,Z,d,a0,m,st,Z,hDG,hst,okA _ (gU hAi),m5,λb G1 s1 hk=>⟨(),λl0 G2 n2=>?_⟩⟩;let s2:=s1.trans n2.same;let Z5:=hK.same s2;let lk0:=hK.len;show⟨pa,b,Qn.pq.sh st,ka,.ref l0,Z,Z,hk.same λ_ _ z=>n2.same _ _ z,Z5.dx,(),λy hy=>?_,λhn H' hh dxn=>?_⟩
  ·rcases Z5.val (Qn.pq.sh st)with h|⟨l,h1,h2⟩
   ·rw[h.1]at hy;cases hy
   ·rw[h1]at hy;cases hy;show⟨.inl ⟨Z,_,bB.of h2⟩,_,Z,l,_,_,Z,Z,h2,?_,λG3 c3=>?_⟩
    ·rw[aJ];let:=Š Qn.pq (L.take i) (Qn.pq.sh st);omega
    ·show ji _ _ _ ⟨⟨_,Z⟩,λc u hc e=>?_,ka,by rw[hTi];show a1v Z5 h1 c3 ⟨_,h2⟩⟩;rw[c3.rest c (λz=>by let:=Z5.fr _ _ h1;rw[<-z,e]at this;cases this)];show s2 _ _ (sG c u hc e)
  ·let npl:l0≠pa:=λz=>Pj Z5.dx (ys:=[]) (by rw[<-z];show n2.here);let hl0:H' l0=↥[]:=by rw[hh l0 npl];show n2.here
   show⟨.inl ⟨Z,_,bB.of hl0⟩,_,Z,l0,[],_,Z,Z,hl0,(),λG3 c3=>?_⟩;let fl:G0 l0=none:=by
    cases e:G0 l0 with
    |none=>rfl
    |some u =>
     let h1:=s1 _ _ (sG l0 u npl e);let h2:=n2.fresh;rw[h1]at h2;cases h2
   show ji _ _ _ ⟨⟨_,Z⟩,λc u hc e=>?_,_,by
    rw[hTi];show a1w Z5 hn n2.here fl (λk l h z=>?_) hh dxn c3;rcases hK.val k with h'|⟨l',h1,h2⟩
    ·rw[h'.1]at h;cases h
    ·rw[h1]at h;cases h;let h3:=s1 _ _ h2;let h4:=n2.fresh;rw[<-z,h3]at h4;cases h4⟩
   rw[c3.rest c (λz=>by rw[z,fl]at e;cases e),hh c hc];show s2 _ _ (sG c u hc e)
 intro σ G h1;let⟨⟨o5,rfl⟩,sG,ka,hK⟩:=ij _ _ _ h1;clear ji ij;let ga:=sG _ _ (Ne.symm npa) g0a;show⟨an,o,u6,u6,h1a,ga,?_⟩;let sF:aL H (cX G an (.dT u6)):=λc u e=>by
  let ncp:c≠pa:=λz=>by rw[z,n1.fresh]at e;cases e
  by_cases z:c=an
  ·rw[z]at e ⊢;rw[dw,<-e,han]
  ·rw[aQ z];show sG c u ncp ?_;rw[RG c z];show n1.same _ _ e
 rw[show L.take as.length=L by rw[<-lL,gJ]]at hK;let hKF:Bs Qn.knd Qn.pq G0 (cX G an (.dT u6)) pa L ka:=hK.Pa λc u nf e=>by
  rw[aQ (λz=>by rw[z,ga]at e;show nf _ _ (dO e).symm)];show e
 let pkF:Paired (λa (x:dF×fV)=>oW (cX G an (.dT u6)) a x.1) as A:=by
  let go:∀{as:aI}{ks:List (aS×V)}{B:bW},Paired (λa (kv:aS×V)=>G0 a= ~~~(kv.1.map kV)) as ks->oX H ks B->Paired (λa (x:dF×fV)=>oW (cX G an (.dT u6)) a x.1) as B:=λ{as ks B} p=>by
   induction p generalizing B with
   |nil=>intro h;cases h;show .nil
   | @cons a kv as ks h1 _ ih =>
    intro h;cases h with
    | @cons _ tr _ B' h2 t2 =>
     show .cons ?_ (ih t2);let e:kv.1=qp tr.1:=h2.1;rw[e]at h1;show oW.Im (Nd.Pa ga _ _ ((Nd.sd sG g0p).tups _ _ h1))
  show go pk hA
 generalize cX G an (.dT u6)=F at sF hKF pkF ⊢;let a1y:=sF _ _ hsc;show⟨_,Z,.inr (.inr (.inl ⟨Z,.inr ⟨_,a1y⟩⟩)),sc,mU,Z,Z,a1y,λpv H2 n2=>⟨pv,sc,mU,Z,n2.here,n2.same _ _ a1y,λo2 as2 pk2=>?_⟩⟩;let s2:=sF.trans n2.same;let h2s:=s2 _ _ hsc;let Zx:Nd H (cX H2 sc (.iw o2 (.dT mU))):=(Nd.of s2).trans (Nd.iw h2s);let f0s:cX H2 sc (.iw o2 (.dT mU)) sc=some (.iw o2 (.dT mU)):=dw;let f0t:cX H2 sc (.iw o2 (.dT mU)) t=some (.dT J):=by rw[aQ nts];show s2 _ _ ht
 let f0a:cX H2 sc (.iw o2 (.dT mU)) an=some (.dT u6):=by rw[aQ (Ne.symm nsa)];show s2 _ _ han
 let f0r:∀c,c≠sc->cX H2 sc (.iw o2 (.dT mU)) c=H2 c:=λc hc=>aQ hc;let Z5:Bs Qn.knd Qn.pq G0 (cX H2 sc (.iw o2 (.dT mU))) pa L ka:=by
  let h:=hKF.same n2.same;show⟨?_,h.len,λk=>(h.val k).imp id λ⟨l,h1,h2⟩=>⟨l,h1,?_⟩,h.inj,h.fr⟩
  ·obtain⟨z,hh|⟨xs,h1,h2⟩⟩:=h.dx
   ·show⟨z,.inl ⟨hh.1,?_⟩⟩;rw[aQ nps];show hh.2
   ·show⟨z,.inr ⟨xs,?_,Paired.cD h2 λ_ _ ⟨a,b,c⟩=>⟨a,b.same λc' ys q=>?_,c⟩⟩⟩
    ·rw[aQ nps];show h1
    ·rw[aQ (λz=>by rw[z,h2s]at q;cases q)];show q
  ·rw[aQ (λz=>by rw[z,h2s]at h2;cases h2)];show h2
 let a6L:Paired (λa (x:dF×fV)=>oW (cX H2 sc (.iw o2 (.dT mU))) a x.1) as A:=Paired.cD pkF λa x h=>by
  show cX H2 sc (.iw o2 (.dT mU)) a=_;let h':H2 a= ~~~(x.1.map V.int):=n2.same _ _ h;rw[aQ (λz=>by rw[z,h2s]at h';cases h')];show h'
 generalize cX H2 sc (.iw o2 (.dT mU))=F0 at pk2 Zx f0s f0t f0a f0r Z5 a6L ⊢;let lk2:=aU hS;let la2:=aU pk2;show Z0 (P:=λi σ G=>P4 (T5 (λo5 o6 o7 o8 o9=>[⇑d,⇑t,⇑sc,⇑an,⇑pa,o5,o6,o7,o8,o9]) σ) (Sd t F0 G) (λkt=>G t=some (.dT kt)) λkt=>oX G kt (wu Qn.pq A (S.take i) T)) λZ97 ji ij=>sE Z97 (ji _ _ _ ⟨⟨_,_,_,_,_,Z⟩,.refl,J,f0t,hT.keep Zx.tups⟩) (λi σ G _ h=>(ij _ _ _ h).s _ _ (Ne.symm nts) f0s) ?_ ?_
 ·intro i a0 v0 σ G p G1 ha0 hv0 h1 nw;let⟨⟨o5,o6,o7,o8,o9,rfl⟩,sG,kt,hkt,J5⟩:=ij _ _ _ h1;let⟨kv,hkv,hak⟩:=bC pk2 ha0;let⟨⟨iG,row⟩,hsx,ek,hrow⟩:=bC hS hkv;let ek:kv.1=qp iG:=ek;let hv0':v0=kv.2:=by
   rw[cV,hkv]at hv0;show(dO hv0).symm
  subst hv0';rw[ek]at hak;let nG:Nd F0 G:=.sd sG f0t;let s1:aL G G1:=nw.same;let Z1:Nd F0 G1:=nG.trans (.of s1);let nH1:Nd H G1:=Zx.trans Z1;let hone:oW G1 a0 iG:=oW.Im (Z1.tups _ _ hak);let uZ:JT G1 kv.2 row:=hrow.keep nH1.tups;let mem:(iG,row)∈S:=gU hsx;let hDG:=nH1.at Qn hD;let⟨dx',fs,hd,nom,_⟩:=Qn.ins hDG;let hKG:Bs Qn.knd Qn.pq G0 G1 pa L ka:=by
   let ex:∀c u,c≠t->F0 c=some u->G1 c=some u:=λc u hc e=>s1 _ _ (sG c u hc e);show⟨?_,Z5.len,λk=>(Z5.val k).imp id λ⟨l,h1,h2⟩=>⟨l,h1,ex _ _ (λz=>by rw[z,f0t]at h2;cases h2) h2⟩,Z5.inj,Z5.fr⟩;obtain⟨z,hh|⟨xs,h1,h2⟩⟩:=Z5.dx
   ·show⟨z,.inl ⟨hh.1,ex _ _ npt hh.2⟩⟩
   ·show⟨z,.inr ⟨xs,ex _ _ npt h1,Paired.cD h2 λ_ _ ⟨a,b,c⟩=>⟨a,b.same λ_ _ q=>Z1.tups _ _ q,c⟩⟩⟩
  show⟨p,_,Z,cO.of nw.here,Z,_,_,Z,_,_,Z,Z,?_⟩;show⟨_,Z,⟨pa,ka,Z,hKG.dx⟩,_,Z,d,dx',fs,Z,hd,nom _ (),_,Z,d,a0,m,iG,Z,hDG,hone,ŝ _ mem,m5,λb G2 t2 hk=>⟨(),λl0 G3 n3=>?_⟩⟩;let t3:=t2.trans n3.same;let hK3:=hKG.same t3;show⟨pa,b,Qn.pq.sh iG,ka,.ref l0,Z,Z,hk.same λ_ _ z=>n3.same _ _ z,hK3.dx,?_⟩;obtain⟨l,el,hl⟩:∃l,(dI ka (Qn.pq.sh iG)).getD (.ref l0)=.ref l/\G3 l=↥((sJ Qn.pq L (Qn.pq.sh iG)).map V.ref):=by
   rcases hK3.val (Qn.pq.sh iG)with⟨h1,h2⟩|⟨l,h1,h2⟩
   ·rw[h1,h2];show⟨l0,Z,n3.here⟩
   ·rw[h1];show⟨l,Z,h2⟩
  rw[el];let nG3:Nd F0 G3:=Z1.trans (.of t3);let pO:Paired (λa (x:dF×fV)=>oW G3 a x.1) (sJ Qn.pq L (Qn.pq.sh iG)) (oY Qn.pq iG A):=by
   rw[hL];show Paired.cD (RK Qn.pq (Qn.pq.sh iG) a6L) λ_ _ h=>h.keep nG3.tups
  let lO:=aU pO;let st3:aL G G3:=s1.trans t3;let hT3:oX G3 kt (wu Qn.pq A (S.take i) T):=J5.keep (.of st3);let ht3:G3 t=some (.dT kt):=st3 _ _ hkt;let hTi:S.take (i+1)=S.take i++[(iG,row)]:=by rw[iR,hsx];rfl
  show⟨l,Z,⟨_,bB.of hl⟩,Z0 (P:=λj σ G'=>P4 (T3 (λo5 o8 o9=>[⇑d,⇑t,⇑sc,⇑an,⇑pa,o5,⇑a0,some kv.2,o8,o9]) σ) (Sd t G3 G') (λLb=>G' t=some (.dT Lb)) λLb=>oX G' Lb (yH Qn.pq iG row ((oY Qn.pq iG A).take j) (wu Qn.pq A (S.take i) T))) λJ2 jk kj=>uO (K:=K) (a:=l) (xs:=(sJ Qn.pq L (Qn.pq.sh iG)).map V.ref) J2 (jk _ _ _ ⟨⟨_,_,_,Z⟩,.refl,kt,ht3,hT3⟩) (λj σ G' _ h=>bB.of ((Nd.sd (kj _ _ _ h).s ht3).lst hl)) ?_ ?_⟩
  ·intro j x σ G' hx h1;let⟨⟨o5,o8,o9,rfl⟩,sG',Lb,WL,hT'⟩:=kj _ _ _ h1;rw[cV]at hx;let⟨b0,hb0,rfl⟩:=j4.mp hx;let⟨⟨cP,more⟩,hox,hob⟩:=bC pO hb0;let a8o:(cP,more)∈oY Qn.pq iG A:=gU hox;let⟨a1z,shE⟩:=jg.mp a8o;let shE:Qn.pq.sh cP=Qn.pq.sh iG:=dB shE;let n3':Nd G3 G':=.sd sG' ht3;let nHG:Nd H G':=Zx.trans (nG3.trans n3');let hoG:oW G' b0 cP:=hob.keep n3'.tups;let a2V:oW G' a0 iG:=hone.keep ((lH.of t3).trans n3'.tups);let haG:G' an=some (.dT u6):=sG' _ _ (Ne.symm nta) (st3 _ _ (sG _ _ (Ne.symm nta) f0a));obtain⟨vm,em,hmore⟩:∃vm,dI u6 (qp cP)=some vm/\JT H vm more:=by
    rcases Gp cP hA with⟨_,e2⟩|⟨v,r,e1,e2,h⟩
    ·rw[IK ndA a1z]at e2;cases e2
    ·rw[IK ndA a1z]at e2;cases e2;show⟨v,e1,h⟩
   let a6M:=nHG.at Qn hD;let⟨dx2,fs2,hd2,a8p,_⟩:=Qn.ins a6M;show⟨_,Z,_,Z,an,vm,Z,by rw[<-em];show Fv.t haG hoG.key,?_⟩;show⟨_,Z,d,dx2,fs2,Z,hd2,a8p _ (),_,Z,_,Z,d,a0,b0,m,iG,cP,Z,a6M,a2V,hoG,ŝ _ mem,okA _ a1z,m5,shE.symm,λr xs G4 s4 hr4 pm=>⟨r,Z,⟨_,bB.of hr4⟩,?_⟩⟩;let ht4:=s4 _ _ WL;let hT4:=hT'.keep (lH.of s4);let lpm:=aU pm;let a8q:=lim i _ hsx j _ hox;let hTj:(oY Qn.pq iG A).take (j+1)=(oY Qn.pq iG A).take j++[(cP,more)]:=by rw[iR,hox];rfl
   show Z0 (P:=λe σ G5=>P4 (T1 (λo9=>[⇑d,⇑t,⇑sc,⇑an,⇑pa,⇑b0,⇑a0,some kv.2,some vm,o9]) σ) (Sd t G4 G5) (λZ2=>G5 t=some (.dT Z2)) λZ2=>oX G5 Z2 (yG Qn.pq.bt iG cP row more ((Qn.pq.jn iG cP).take e) (yH Qn.pq iG row ((oY Qn.pq iG A).take j) (wu Qn.pq A (S.take i) T)))) λJ3 jm mj=>uO (K:=K) (a:=r) (xs:=xs) J3 (jm _ _ _ ⟨⟨_,Z⟩,.refl,Lb,ht4,hT4⟩) (λe σ G5 _ h=>bB.of ((Nd.sd (mj _ _ _ h).s ht4).lst hr4)) ?_ ?_
   ·intro e x σ G5 hx h1;let⟨⟨o9,rfl⟩,sG5,kt5,a4I,hT5⟩:=mj _ _ _ h1;let⟨st',hmx,aa,rfl,haa⟩:=bC pm hx;let n4':Nd G4 G5:=.sd sG5 ht4;let a6N:Nd H G5:=nHG.trans ((Nd.of s4).trans n4');let a4J:Nd G' G5:=(Nd.of s4).trans n4';let⟨pr,qr,asr,WM,hpr,hqr,hsr⟩:=uZ.keep ((lH.of t3).trans (n3'.tups.trans a4J.tups));let⟨pm',qm,asm,a2W,hpm,hqm,hsm⟩:=hmore.keep a6N.tups;rw[WM,a2W];show⟨_,Z,_,Z,_,Z,_,Z,pr,_,_,.int row.m,Z,Z,cO.of hpr,Z,_,Z,pm',_,_,.int more.m,Z,Z,cO.of hpm,Z,_,_,Z,Z,⟨smS _ mem,smA _ a1z⟩,_,Z,pr,_,_,.int row.b,Z,Z,cO.of hpr,Z,_,Z,pm',_,_,.int more.b,Z,Z,cO.of hpm,Z,_,_,Z,Z,_,Z,_,Z,(),λq1 G6 m6=>⟨(),λq2 G7 m7=>?_⟩⟩;let s67:=m6.same.trans m7.same;show⟨d,t,aa,.ref q2,kt5,_,st',⟨row.m*more.m,row.b+more.b,[iG,cP]⟩,Z,(a6N.trans (.of s67)).at Qn hD,s67 _ _ a4I,hT5.keep (.of s67),?_,haa.keep (n4'.tups.trans (.of s67)),⟨q2,q1,[a0,b0],Z,m7.here,m7.same _ _ m6.here,.cons (a2V.keep (a4J.tups.trans (.of s67))) (.cons (hoG.keep (a4J.tups.trans (.of s67))) .nil)⟩,λkt8 G8 s8 h8 hT8=>?_⟩
    ·show a8q e (fC (dY.mp hmx).1)
    ·show jm _ _ _ ⟨⟨_,by rw[WM,a2W];rfl⟩,sG5.trans ((Sd.of s67).trans s8),kt8,h8,?_⟩;rw[iR,hmx];show oX G8 kt8 (yG Qn.pq.bt iG cP row more ((Qn.pq.jn iG cP).take e++[st']) _);rw[Iw];show hT8
   ·intro σ G5 h1;let⟨⟨o9,rfl⟩,sG5,kt5,a4I,hT5⟩:=mj _ _ _ h1;show jk _ _ _ ⟨⟨_,_,_,Z⟩,sG'.trans ((Sd.of s4).trans sG5),kt5,a4I,?_⟩;rw[hTj,Iz];rw[lpm,gJ]at hT5;show hT5
  ·intro σ G' h1;let⟨⟨o5,o8,o9,rfl⟩,sG',Lb,WL,hT'⟩:=kj _ _ _ h1;show ji _ _ _ ⟨⟨_,_,_,_,_,Z⟩,sG.trans ((Sd.of st3).trans sG'),Lb,WL,?_⟩;rw[hTi,join_snoc];rw[aJ,lO,gJ]at hT';show hT'
 ·intro σ G h1;let⟨⟨o5,o6,o7,o8,o9,rfl⟩,sG,kt,hkt,J5⟩:=ij _ _ _ h1;let gs:=sG _ _ (Ne.symm nts) f0s;show⟨sc,o2,mU,mU,a1y,gs,?_⟩;show q kt _ (λc u hc e=>?_) (by rw[aQ nts];show hkt) ?_
  ·by_cases z:c=sc
   ·rw[z]at e ⊢;rw[dw,<-e,hsc]
   ·rw[aQ z];show sG c u hc ?_;rw[f0r c z];show s2 _ _ e
  ·rw[show S.take as2.length=S by rw[la2,lk2,gJ]]at J5;show J5.keep (Nd.Pa gs)
end
abbrev nH:Stmt:=top 4
def š:bR jM jM (aG nH):={}
def Z6{p q:Int->Bool}(h:∀v,0<=v->v<16->p v=q v):Qo p=Qo q:=by
 unfold Qo;show List.filter_congr λv hv=>?_;grind
def fu(xs ys:ae):ae:=Qo λv=>decide (v∈xs\/v∈ys)
inductive a1A(K:aH)(vs:af)(H:Hp)(Q:VK)(u_3:XK):Prop
 |mk (a b:Addr) (xs ys:ae) (_:vs=[.ref a,.ref b]) (_:bB K H a (xs.map V.int)) (_:bB K H b (ys.map V.int)) (_:Small xs) (_:Small ys) (_:∀H0 p H',aL H H0->iH H0 p (.lst ((fu xs ys).map V.int)) H'->Q (.ref p) H')
section
variable{K:aH}
def RL(B:Bl mg)(oh:Dn K mg "joint" nH jM):⋯ 1 oh.f oh.fd jM (a1A K):=by
 show oh.F.ok š λdZ A outer s H vs Q E hr h=>?_;let⟨a,b,xs,ys,rfl,hA,hB,sA,sB,q⟩:=h;show⟨_,(aF (bI (aW (O8 (w:=w) Z Z) Z B.sorted () (O (bA (a4l (w:=w) Z) (fZ (KH (K:=K) (w:=w) Z Z Z) Z B.set () (O (pv 0) aj)) (fZ (KH (K:=K) (w:=w) Z Z Z) Z B.set () (O (pv 1) aj))) aj)))),⟨_,Z,a,xs,Z,hA,sA,λp1 L1 H1 n1 m1=>⟨_,Z,b,ys,Z,n1.same.seq hB,sB,λp2 L2 H2 n2 m2=>⟨p1,p2,L1,L2,Z,Z,n2.ne n1.here,n2.same _ _ n1.here,n2.here,λp3 L H3 n3 m3=>⟨p3,false,L,Z,n3.here,λp4 H4 n4=>?_⟩⟩⟩⟩⟩;let e:(Qo λv=>decide (v.toNat∈L))=fu xs ys:=Z6 λv h0 h1=>by
  let ev:((v.toNat:Nat):Int)=v:=()
  rw[CT,m3 v.toNat,m1 v.toNat,m2 v.toNat,ev]
 rw[e]at n4;show q H3 p4 H4 (n1.same.trans (n2.same.trans n3.same)) n4
end
abbrev mV:Stmt:=top 24
def m9:bR ["steps","question","tops","feeds","told","step","bag","used","table"] Ij (aG mV):={}
section
variable{K:aH}{κ:Type} [DecidableEq κ]
noncomputable def J6(pq:PQ κ)(aR:List (ae))(bD:List bW)(jQ:cu)(bJ:ae)(used:ay):bW:=match used with
 | []=>[(pq.leaf,⟨1,0,[]⟩)]
 | [i]=>jW pq jQ (fu bJ (aR.getD i [])) (bD.getD i []) []
 |i::j::_=>wu pq (bD.getD j []) (bD.getD i []) []
def J7(pq:PQ κ)(ss:ax)(aR:List (ae))(dJ:List (ay)):Nat->List bW
 |0=>[]
 |k+1=>J7 pq ss aR dJ k++[J6 pq aR (J7 pq ss aR dJ k) (ss.getD k .leaf) (aR.getD k []) (dJ.getD k [])]
theorem mL(pq:PQ κ)(ss:ax)(aR:List (ae))(dJ:List (ay)):∀k,(J7 pq ss aR dJ k).length=k
 |0=>rfl
 |k+1=>by
  show(_++[_]).length=_
  rw[bK,mL pq ss aR dJ k]
  rfl
def zA(Qn:JV P w K mg base κ)(aR:List (ae))(bD:List bW)(jQ:cu)(bJ:ae)(used:ay):Prop:=match used with
 | []=>True
 | [i]=>jQ≠.join/\i<bD.length/\(∀x∈bD.getD i [],Qn.pq.Ok (aR.getD i []).length x.1)/\Gr Qn jQ (fu bJ (aR.getD i [])) (aR.getD i []).length/\(bD.getD i []).length<=4000/\a4E Qn.pq jQ (fu bJ (aR.getD i [])) (bD.getD i []) []
 | [i,j]=>jQ=.join/\i<bD.length/\j<bD.length/\i≠j/\∃m≤4,(∀x∈bD.getD i [],Qn.pq.Ok m x.1)/\(∀x∈bD.getD j [],Qn.pq.Ok m x.1)/\((bD.getD j []).map (·.1)).Nodup/\(bD.getD i []).length<=4000/\(bD.getD j []).length<=900/\IV (bD.getD i [])/\IV (bD.getD j [])/\a4H Qn.pq (bD.getD j []) (bD.getD i []) []
 |_=>False
def Ţ(H:Hp)(p:Addr)(T:bW):Prop:=∃J,H p=some (.dT J)/\oX H J T
inductive a4K(Qn:JV P w K mg base κ)(vs:af)(H:Hp)(Q:VK)(u_3:XK):Prop
 |mk (d a pt pf:Addr) (xs vt:af) (fs:aI) (ss:ax) (aR:List (ae)) (dJ:List (ay)) (_:vs=[.ref a,.ref d,.ref pt,.ref pf]) (_:Qn.At H d) (_:bB K H a xs) (_:Paired (uD K H) xs ss) (_:bB K H pt vt) (_:Paired (λv b=>∃p,v=.ref p/\bB K H p (b.map V.int)) vt aR) (_:bB K H pf (fs.map V.ref)) (_:Paired (λf us=>H f=↥(us.map λj:Nat=>V.int (j:Int))) fs dJ) (_:ss.length<=900) (_:aR.length=ss.length) (_:dJ.length=ss.length) (_:(∀b∈aR,Small b)) (_:(∀k,k<ss.length->zA Qn aR (J7 Qn.pq ss aR dJ k) (ss.getD k .leaf) (aR.getD k []) (dJ.getD k []))) (_:∀pl ps H',aL H H'->H pl=none->H' pl=↥(ps.map V.ref)->Paired (Ţ H') ps (J7 Qn.pq ss aR dJ ss.length)->ps.Nodup->(∀p∈ps,H p=none)->Q (.ref pl) H')
def Z7{α:Type}{ps:List α}{i j:Nat}{p:α}(nd:ps.Nodup)(h:ps[i]?=some p)(h':ps[j]?=some p):i=j:=by
 let h1:=dY.mp h;let h2:=dY.mp h';let pw:=T9.mp nd;rcases Nat.lt_trichotomy i j with c|c|c
 ·show absurd (h1.2.trans h2.2.symm) (pw i j h1.1 h2.1 c)
 ·show c
 ·show absurd (h2.2.trans h1.2.symm) (pw j i h2.1 h1.1 c)
def Z8:∀{s:cu},s.word=(Str.ofString "join")->s=.join
 |.leaf,h=>absurd (show Str.ofString "leaf" = Str.ofString "join" from h) ()
 |.inn _,h=>absurd (show Str.ofString "in" = Str.ofString "join" from h) ()
 |.tie _ _,h=>absurd (show Str.ofString "tie" = Str.ofString "join" from h) ()
 |.out _,h=>absurd (show Str.ofString "out" = Str.ofString "join" from h) ()
 |.join,_=>rfl
inductive ţ(a d pt pf pl:Addr)(H:Hp)(L:List bW)(σ:St)(G:Hp):Prop
 |mk (e:T4 (λo5 o6 o7 o8=>[⇑a,⇑d,⇑pt,⇑pf,⇑pl,o5,o6,o7,o8]) σ) (s:aL H G) (ps:aI) (_:G pl=↥(ps.map V.ref)) (_:Paired (Ţ G) ps L) (_:ps.Nodup) (_:∀p∈ps,H p=none)
def ţ.s{a d pt pf pl:Addr}{H:Hp}{L:List bW}{σ:St}{G:Hp}(h:ţ a d pt pf pl H L σ G):aL H G:=by cases h;assumption
def Bt{P:St->Hp->Prop}{R:Prop}(h:∀Z97:St->Hp->Prop,(∀σ H,P σ H->Z97 σ H)->(∀σ H,Z97 σ H->P σ H)->R):R:=h P (λ_ _ z=>z) (λ_ _ z=>z)
def RM(B:Bl mg)(Bz:mg "zip" = none)(Qn:JV P w K mg base κ)(oh:Dn K mg "joint" nH jM)(wB:Dn K mg "states_behind" fW Ez)(qJ:Dn K mg "note" uz Bj)(yj:Dn K mg "fill_along" jK Ih)(xG:Dn K mg "fill_joined" iz Ii)(zB:Dn K mg "going_up" mV Ij):⋯ 11 zB.f zB.fd Ij (a4K Qn):=by
 let a8r:⋯ 10 _ _ _ _:=JZ Qn wB qJ yj;let a8s:⋯ 10 _ _ _ _:=IW Qn qJ xG;let a4L:⋯ 10 _ _ _ _:=(RL B oh).mono ();show zB.F.ok m9 λdZ A outer s H vs Q E hr h=>?_;let⟨d,a,pt,pf,xs,vt,fs,ss,aR,dJ,rfl,hD,hA,pA,hP,pP,hF,pF,l9,lt,lf,smT,ok,q⟩:=h;let hw1:(A.deeper (PyProof.Rows.envOfC "going_up" (aG mV) s⁻¹ zB.f dZ)).units+1<cLine:=by let:=hr.un;omega
 show⟨_,(aB (aV 4 m9.nd (cH aj))
   (aB (iV iI Z (a1p (K:=K) Z Z Bz (O (pv 0) (O (pv 2) (O (pv 3) aj)))) (jb (K:=K) (n:=3) Z Z (bN (aM 5 m9.nd) (bN (aM 6 m9.nd) (bN (aM 7 m9.nd) gW))))
   (aB (aV 8 m9.nd Bf)
   (g8 (cJ (mR (cY (K:=K) Z (pv 7) λ_=>rfl))
   (aF (uq (bL (O aq (O aq (O (bL aj) aj)))) (Hv (pv 8) (Gm (K:=K) Z (pv 1) Z) (uU hw1))))
   (aF (cJ (aN mZ (aP (aO (K:=K) Z) (pv 5) aq) fY)
   (aF (eY (aY a8s hr Z xG.m xG.F.kp xG.b .nil bZ (O (pv 1) (O (pv 8) (O (aP (bf (K:=K) Z) (pv 4) (aP (bf (K:=K) Z) (pv 7) aq)) (O (aP (bf (K:=K) Z) (pv 4) (aP (bf (K:=K) Z) (pv 7) aq)) aj)))))))
   (aF (eY (aY a8r hr Z yj.m yj.F.kp yj.b .nil bZ (O (pv 1) (O (pv 8) (O (aP (bf (K:=K) Z) (pv 4) (aP (bf (K:=K) Z) (pv 7) aq)) (O (pv 5) (O (aY a4L hr Z oh.m oh.F.kp oh.b .nil bZ (O (pv 6) (O (aP (bf (K:=K) Z) (pv 2) (aP (bf (K:=K) Z) (pv 7) aq)) aj))) aj)))))))))))
   (aF (eY (gZ (K:=K) Z gR PySem.F.slot_list_append PySem.F.type_list_append fL (pv 4) (O (pv 8) aj)))))))
   (aF (bI (pv 4))))),?_⟩
 show⟨(),λpl H1 n1=>?_⟩;let s1:=n1.same;show⟨_,Z,_,Z,_,Z,a,pt,pf,Z,⟨_,s1.seq hA⟩,⟨_,s1.seq hP⟩,⟨_,s1.seq hF⟩,?_⟩;let lx:xs.length=ss.length:=aU pA;let lv:vt.length=ss.length:=(aU pP).trans lt;let lfs:(fs.map V.ref).length=ss.length:=by rw[aJ];show(aU pF).trans lf
 show Z0 (P:=λk σ G=>ţ a d pt pf pl H (J7 Qn.pq ss aR dJ k) σ G) λZ97 ji ij=>?_;show Ŗ (K:=K) (xs:=xs) (ys:=vt) (zs:=fs.map V.ref) (lx.trans lv.symm) (lx.trans lfs.symm) Z97 (ji _ _ _ ⟨⟨_,_,_,_,Z⟩,s1,[],n1.here,.nil,vH,λ_ h=>absurd h fj⟩) (λk σ G _ h=>have s:=(ij _ _ _ h).s;⟨s.seq hA,s.seq hP,s.seq hF⟩) ?_ ?_
 ·intro k x y z σ G p G1 hx hy hz hJ nw;let⟨⟨o5,o6,o7,o8,rfl⟩,sG,ps,hpl,pT,nd,fr⟩:=ij _ _ _ hJ;let⟨jQ,a6O,RN,rfl,hst⟩:=bC pA hx;let⟨bJ,a6P,pbg,rfl,hbg⟩:=bC pP hy;rw[cV]at hz;let⟨f,hf,rfl⟩:=j4.mp hz;let⟨used,a6Q,hfu⟩:=bC pF hf;let kl:k<ss.length:=(dY.mp a6O).1;let okk:=ok k kl;let eS:ss.getD k .leaf=jQ:=by rw[gB,a6O];rfl
  let eT:aR.getD k []=bJ:=by rw[gB,a6P];rfl
  let eF:dJ.getD k []=used:=by rw[gB,a6Q];rfl
  let go:J7 Qn.pq ss aR dJ (k+1)=J7 Qn.pq ss aR dJ k++[J6 Qn.pq aR (J7 Qn.pq ss aR dJ k) jQ bJ used]:=by
   show _++[_]=_;rw[eS,eT,eF]
  rw[eS,eT,eF]at okk;let lps:ps.length=k:=(aU pT).trans (mL _ _ _ _ k);let WQ:aL H G1:=sG.trans nw.same;show⟨p,_,Z,cO.of nw.here,Z,_,_,Z,_,_,Z,_,_,Z,Z,λt ht0=>?_⟩;let n2:=iH.nC (o:=.dT []) ht0;generalize cX G1 t (.dT [])=G2 at n2 ⊢;let Z9:aL H G2:=WQ.trans n2.same;let g12:aL G G2:=nw.same.trans n2.same;let Ť:=g12 _ _ hpl;let pT2:Paired (Ţ G2) ps (J7 Qn.pq ss aR dJ k):=Paired.cD pT λ_ _ ⟨kv,h1,h2⟩=>⟨kv,g12 _ _ h1,h2.keep (.of g12)⟩;let hD2:Qn.At G2 d:=(Nd.of Z9).at Qn hD;let Ht:H t=none:=by
   cases e:H t with
   |none=>rfl
   |some u=>rw[WQ _ _ e]at ht0;cases ht0
  let ntp:∀p∈ps,p≠t:=λp' hp' z=>by
   let⟨i,hi,e⟩:=qD hp';let⟨T',_,kv,h1,_⟩:=bC pT (dY.mpr ⟨hi,e⟩);let:=nw.same _ _ h1;rw[z,ht0]at this;cases this
  let npl:pl≠t:=λz=>by let:=nw.same _ _ hpl;rw[z,ht0]at this;cases this
  let atT:∀i,i<k->∃pi kv,ps[i]?=some pi/\G2 pi=some (.dT kv)/\oX G2 kv ((J7 Qn.pq ss aR dJ k).getD i [])/\pi≠t:=λi hi=>by
   let hi':i<ps.length:=()
   let⟨T',hT',kv,h1,h2⟩:=bC pT2 (bO hi');show⟨ps[i],kv,bO hi',h1,?_,ntp _ (oJ hi')⟩;rw[gB,hT'];show h2
  let ixT:∀(i:Nat) (pi:Addr),ps[i]?=some pi->VN (ps.map V.ref) (i:Int)=⇑pi:=λi pi h=>by
   let hi:=(dY.mp h).1;show bU (by rw[cV,h];rfl)
  show Bt (P:=λσ' G'=>σ'=[⇑a,⇑d,⇑pt,⇑pf,⇑pl,⇑RN,⇑pbg,⇑f,⇑t]/\Sd t G2 G'/\∃kt,G' t=some (.dT kt)/\oX G' kt (J6 Qn.pq aR (J7 Qn.pq ss aR dJ k) jQ bJ used)) λJ2 ji2 ij2=>⟨J2,?_,?_⟩
  ·let hf2:=Z9 _ _ hfu;rcases used with _|⟨i,_|⟨j,_|⟨e,rest⟩⟩⟩
   ·show⟨_,Z,false,.inl ⟨_,bB.of hf2,Z⟩,iC ?_⟩;let⟨dx',fs',hd,_,⟨al,hal,hlf⟩,_⟩:=Qn.ins hD2;show⟨(),λp3 G3 m3=>⟨(),λp4 G4 m4=>?_⟩⟩;let æ:=m3.same.trans m4.same;show⟨_,Z,_,Z,d,_,dx',fs',_,Z,æ _ _ hd,Qn.cl,Qn.uy,hal,t,al,qp Qn.pq.leaf,[],Z,Z,(hlf.keep (.of æ)).key,æ _ _ n2.here,(),λG5 c5=>?_⟩;let nd5:lH G4 G5:=λc' ys hc=>by
     rw[c5.rest c' (λz=>by rw[z,æ _ _ n2.here]at hc;cases hc)];show hc
    show ji2 _ _ ⟨Z,(Sd.of æ).trans (.Rx c5),_,c5.here,.cons ⟨Z,p4,p3,[],Z,nd5 _ _ m4.here,nd5 _ _ (m4.same _ _ m3.here),.nil⟩ .nil⟩
   ·let⟨nj,il,ŝ,fit,lS,lim⟩:=okk;rw[mL]at il;let⟨pi,kv,hpi,hgi,hTi,nti⟩:=atT i il;show⟨_,Z,true,.inl ⟨_,bB.of hf2,Z⟩,cQ ?_⟩;show⟨_,Z,RN,jQ.vs,0,.str jQ.word,Z,Z,Z9.vP hst,by cases jQ<;>rfl,Z,_,Z,?_⟩;rw[cG (show ¬V.str jQ.word=V.str (Str.ofString "join")from λz=>nj (Z8 (V.str.inj z)))];show cQ ⟨_,Z,_,Z,_,Z,_,Z,f,_,_,_,Z,Z,bB.of hf2,Z,pl,_,_,_,Z,Z,bB.of Ť,ixT i pi hpi,_,Z,_,Z,_,Z,_,Z,f,_,_,_,Z,Z,bB.of hf2,Z,?_⟩;let it:i<aR.length:=()
    obtain⟨vb,hvb,pbi,rfl,hbi⟩:∃vb,vt[i]?=some vb/\∃q,vb=.ref q/\bB K H q ((aR.getD i []).map V.int):=by
     let hi':i<vt.length:=()
     let⟨b',hb',q',e',h'⟩:=bC pP (bO hi');show⟨_,bO hi',q',e',?_⟩;rw[gB,hb'];show h'
    show⟨pt,vt,_,_,Z,Z,Z9.seq hP,bU hvb,pbg,pbi,bJ,aR.getD i [],Z,Z9.seq hbg,Z9.seq hbi,smT _ (gU a6P),smT _ (by rw[gB,bO it];show oJ it),λG3 pj G4 s3 n4=>?_⟩;let ť:=s3.trans n4.same;show⟨d,t,pi,RN,pj,[],kv,[],_,jQ,fu bJ (aR.getD i []),(aR.getD i []).length,Z,(Nd.of ť).at Qn hD2,ť _ _ n2.here,.nil,ť _ _ hgi,hTi.keep (.of ť),Ne.symm nti,ŝ,(Z9.trans ť).vP hst,n4.here,fit,lS,lim,λkt G5 s5 h5 hT5=>ji2 _ _ ⟨Z,(Sd.of ť).trans s5,kt,h5,hT5⟩⟩
   ·let⟨ej,il,jl,nij,m,m5,ŝ,okA,ndA,lS,lA,smS,smA,lim⟩:=okk;rw[mL]at il jl;let⟨pi,kv,hpi,hgi,hTi,nti⟩:=atT i il;let⟨pj,kvj,hpj,hgj,hTj,ntj⟩:=atT j jl;let npp:pi≠pj:=λz=>nij (Z7 nd hpi (by rw[z];show hpj));show⟨_,Z,true,.inl ⟨_,bB.of hf2,Z⟩,cQ ?_⟩;subst ej;show⟨_,Z,RN,cu.join.vs,0,.str (Str.ofString "join"),Z,Z,Z9.vP hst,Z,Z,_,Z,?_⟩;rw[bh (show V.str (Str.ofString "join")=V.str (Str.ofString "join")from Z)];show iC ⟨_,Z,_,Z,_,Z,_,Z,f,_,_,_,Z,Z,bB.of hf2,Z,pl,_,_,_,Z,Z,bB.of Ť,ixT i pi hpi,_,Z,_,Z,f,_,_,_,Z,Z,bB.of hf2,Z,pl,_,_,_,Z,Z,bB.of Ť,ixT j pj hpj,⟨d,t,pi,pj,[],kv,kvj,[],_,_,m,Z,hD2,n2.here,.nil,hgi,hTi,hgj,hTj,Ne.symm nti,Ne.symm ntj,npp,ŝ,okA,m5,ndA,lS,lA,smS,smA,lim,λkt G5 s5 h5 hT5=>ji2 _ _ ⟨Z,s5,kt,h5,hT5⟩⟩⟩
   ·show okk.elim
  ·intro σ' G3 h2;let⟨rfl,s3,kt,hkt,hTn⟩:=ij2 _ _ h2;let a4M:=s3 _ _ npl Ť;let tu3:lH G2 G3:=s3.tups n2.here;show⟨_,Z,.inl ⟨Z,_,bB.of a4M⟩,_,Z,pl,_,_,Z,Z,a4M,by rw[aJ,lps];omega,λG4 c4=>?_⟩;let s4:∀c u,c≠pl->G3 c=some u->G4 c=some u:=λc u hc e=>by rw[c4.rest c hc];show e
   let tu4:lH G3 G4:=λc ys e=>s4 c _ (λz=>by rw[z,a4M]at e;cases e) e;let nlp:∀p∈ps,p≠pl:=λp' hp' z=>by
    let⟨i,hi,e⟩:=qD hp';let⟨T',_,kv,h1,_⟩:=bC pT2 (dY.mpr ⟨hi,e⟩);rw[z,Ť]at h1;cases h1
   show ji _ _ _ ⟨⟨_,_,_,_,Z⟩,λc u e=>?_,ps++[t],by rw[c4.here,cW];rfl,?_,?_,?_⟩
   ·let ncl:c≠pl:=λz=>by rw[z,n1.fresh]at e;cases e
    let nct:c≠t:=λz=>by rw[z,Ht]at e;cases e
    show s4 c u ncl (s3 c u nct (Z9 _ _ e))
   ·rw[go];let a6R:∀{as:aI}{Ts:List bW},Paired (Ţ G2) as Ts->(∀p∈as,p≠t/\p≠pl)->Paired (Ţ G4) as Ts:=λ{as Ts} h=>by
     induction h with
     |nil=>intro _;show .nil
     | @cons p T _ _ h1 _ ih =>
      intro hh;let⟨kv,e1,e2⟩:=h1;let hn:=hh p (aZ ..);show .cons ⟨kv,s4 _ _ hn.2 (s3 _ _ hn.1 e1),e2.keep (tu3.trans tu4)⟩ (ih λp' hp'=>hh p' (bH _ hp'))
    show eN (a6R pT2 λp' hp'=>⟨ntp p' hp',nlp p' hp'⟩) ⟨kt,s4 _ _ (Ne.symm npl) hkt,hTn.keep tu4⟩
   ·show uf.mpr ⟨nd,wL _ _,λx hx y hy e=>ntp x hx (by rw[e,bQ.mp hy])⟩
   ·intro p' hp';rcases cM.mp hp' with h|h
    ·show fr p' h
    ·rw[bQ.mp h];show Ht
 ·intro σ G hJ;let⟨⟨o5,o6,o7,o8,rfl⟩,sG,ps,hpl,pT,nd,fr⟩:=ij _ _ _ hJ;rw[lx]at pT;show⟨_,Z,q pl ps G sG n1.fresh hpl pT nd fr⟩
end
abbrev zE:Stmt:=top 1
def RQ:bR ["thing"] ["thing"] (aG zE):={}
abbrev fM:Stmt:=top 2
def RT:bR sI sI (aG fM):={}
inductive a1B(K:aH)(vs:af)(H:Hp)(Q:VK)(u_3:XK):Prop
 |mk (x:V) (t:Value) (bi bb:Bool) (_:vs=[x]) (_:rZ K H x t) (_:kitOne K t (.type "int")=some bi) (_:kitOne K t (.type "bool")=some bb) (_:Q (.bl (bi && !bb)) H)
inductive a1C(vs:af)(H:Hp)(Q:VK)(u_3:XK):Prop
 |mk (n:Int) (o:Option Int) (_:vs=[.int n,upV o]) (_:Q (.bl (oR n o)) H)
section
variable{K:aH}
abbrev DK(K:PySem.W.Frag)(mg:Str->Option Value):=Dn K mg "is_whole" zE ["thing"]
def RV(B:Bl mg)(lK:DK K mg):⋯ 1 lK.f lK.fd ["thing"] (a1B K):=by
 show lK.F.ok RQ λdZ A outer s H vs Q E hr h=>?_;let⟨x,t,bi,bb,rfl,ty,h1,h2,q⟩:=h;show⟨_,(aF (bI (ă (aW (iZ (K:=K) Z) Z B.isinstance () (O (pv 0) (O (tD (v:=.ty "int") (u:=.type "int") Z B.int () Z) aj))) (Ă (a3s (aW (iZ (K:=K) Z) Z B.isinstance () (O (pv 0) (O (tD (v:=.ty "bool") (u:=.type "bool") Z B.bool () Z) aj)))))))),⟨_,Z,_,_,_,_,_,Z,Z,ty,h1,_,Z,?_⟩⟩;cases bi with
 |true =>
  show iC ⟨_,Z,_,_,_,_,_,Z,Z,ty,h2,_,Z,q⟩
 |false=>show cQ q
def xH(B:Bl mg)(lK:DK K mg)(jO:Dn K mg "is_below" fM sI):⋯ 2 jO.f jO.fd sI a1C:=by
 let a8t:⋯ 1 _ _ _ _:=RV B lK;show jO.F.ok RT λdZ A outer s H vs Q E hr h=>?_;let⟨n,o,rfl,q⟩:=h;show⟨_,(aF (bI (ă (aY a8t hr Z lK.m lK.F.kp lK.b .nil bZ (O (pv 1) aj)) (Ă (Č a5S Ac aq (pv 1) (pv 0)))))),?_⟩;cases o with
 |none=>show⟨_,Z,_,_,_,_,Z,rZ.non,QJ,Ox,_,Z,cQ q⟩
 |some i =>
  show⟨_,Z,_,_,_,_,Z,rZ.int i,En,Ao,_,Z,iC ⟨_,Z,_,_,Z,Z,_,Z,qH (λc=>?_) λc=>?_⟩⟩
  ·let c':0<=i:=dB c;show⟨_,Z,_,_,Z,Z,?_⟩;let e:oR n (some i)=decide (i<n):=by unfold oR;simp[c']
   rw[e]at q;show q
  ·let c':¬0<=i:=UJ (GX.mpr c);let e:oR n (some i)=false:=by unfold oR;simp[c']
   grind
end
noncomputable def mF(xs ys:ae):ae:=xs.filter λv=>!decide (v∈ys)
abbrev qK:Stmt:=top 5
def Yy:bR jM jM (aG qK):={}
inductive a1D(K:aH)(vs:af)(H:Hp)(Q:VK)(u_3:XK):Prop
 |mk (a b:Addr) (xs ys:ae) (_:vs=[.ref a,.ref b]) (_:cO K H a (xs.map V.int)) (_:bB K H b (ys.map V.int)) (_:xs.length<=1000) (_:∀H0 p H',aL H H0->iH H0 p (.lst ((mF xs ys).map V.int)) H'->Q (.ref p) H')
section
variable{K:aH}
def Ŧ(B:Bl mg)(mW:Dn K mg "less" qK jM):⋯ 1 mW.f mW.fd jM (a1D K):=by
 show mW.F.ok Yy λdZ A outer s H vs Q E hr h=>?_;let⟨a,b,xs,ys,rfl,hA,hB,hz,q⟩:=h;let hv:(A.deeper (PyProof.Rows.envOfC "less" (aG qK) s⁻¹ mW.f dZ)).units+65<cLine:=by let:=hr.un;omega
 show⟨_,(aF (bI (jF ["v","other"] [none,some 1]  (by kernel_rfl) Z (Gf (K:=K) Z (pv 0)) (λ_ _ _ _ _=>(aM 0 (show(["v","other"]:ag).Nodup by decide))) (λ_ _ _ _ _=>(tG (aN (gO (K:=K) Z hv) (pv 0) (pv 1) (by with_unfolding_all rfl)))) λ_ _ _ _ _=>(pv 0)))),⟨_,Z,a,Z,⟨_,hA⟩,?_⟩⟩;show a1a (λx=>match x with |.int v=>if !decide (v∈ys)then some (.int v)else none|_=>none) hA (by rw[aJ];show hz) (λx H1 N hx sm hN=>?_) (λH1 p H1' sm hp=>?_)
 ·let⟨v,hv,rfl⟩:=fD.mp hx;let hN':=hN H1 sm;show⟨_,Z,_,Z,oU (sm.seq hB) ⟨_,Z,?_⟩⟩;dsimp only at hN';cases c:decide (v∈ys)with
  |true=>rw[c]at hN';show cQ hN'
  |false=>rw[c]at hN';show iC ⟨_,Z,hN'⟩
 ·let e:(xs.map V.int).filterMap (λx=>match x with |.int v=>if !decide (v∈ys)then some (V.int v)else none|_=>none)=(mF xs ys).map V.int:=Dj λv _=>rfl;rw[e]at hp;show q _ _ _ sm hp
end
inductive a1E(K:aH)(vs:af)(H:Hp)(Q:VK)(u_3:XK):Prop
 |mk (a b:Addr) (xs ys:ae) (_:vs=[.ref a,.ref b]) (_:bB K H a (xs.map V.int)) (_:cO K H b (ys.map V.int)) (_:xs.length<=1000) (_:∀H0 p H',aL H H0->iH H0 p (.lst ((mF xs ys).map V.int)) H'->Q (.ref p) H')
theorem RW(v:Int):∀ys:ae,inV (.int v) (ys.map V.int)=decide (v∈ys)
 | []=>rfl
 |y::r=>by
  let ih:=RW v r
  unfold inV at ih ⊢
  rw[cA,oM,ih,rO,Nz,eE,eE,bT]
  let:eqV (V.int y) (V.int v)=decide (y=v):=rfl
  rw[this,eE]
  show or_congr_left eq_comm
def Lg(ys:ae):(ys.map V.int).all Ag=true:=gH.mpr λx hx=>by
 let⟨y,_,rfl⟩:=fD.mp hx;rfl
section
variable{K:aH}
def ŧ(B:Bl mg)(mW:Dn K mg "less" qK jM):⋯ 1 mW.f mW.fd jM (a1E K):=by
 show mW.F.ok Yy λdZ A outer s H vs Q E hr h=>?_;let⟨a,b,xs,ys,rfl,hA,hB,hz,q⟩:=h;show⟨_,(aF (bI (jF ["v","other"] [none,some 1]  (by kernel_rfl) Z (dU (K:=K) Z (pv 0)) (λ_ _ _ _ _=>(aM 0 (show(["v","other"]:ag).Nodup by decide))) (λ_ _ _ _ _=>(tG (aN (V6 (K:=K) Z) (pv 0) (pv 1) (by with_unfolding_all rfl)))) λ_ _ _ _ _=>(pv 0)))),⟨_,Z,a,Z,⟨_,hA⟩,?_⟩⟩;show HF (λx=>match x with |.int v=>if !decide (v∈ys)then some (.int v)else none|_=>none) hA (by rw[aJ];show hz) (λx H1 N hx sm hN=>?_) (λH1 p H1' sm hp=>?_)
 ·let⟨v,hv,rfl⟩:=fD.mp hx;let hN':=hN H1 sm;show⟨_,Z,_,Z,b,_,Z,.inr (sm.vP hB),Z,Lg _,_,Z,?_⟩;rw[aD Z,RW];dsimp only at hN';cases c:decide (v∈ys)with
  |true=>rw[c]at hN';show cQ hN'
  |false=>rw[c]at hN';show iC ⟨_,Z,hN'⟩
 ·let e:(xs.map V.int).filterMap (λx=>match x with |.int v=>if !decide (v∈ys)then some (V.int v)else none|_=>none)=(mF xs ys).map V.int:=Dj λv _=>rfl;rw[e]at hp;show q _ _ _ sm hp
end
def bG.either{K:aH}{CX:TF}{k:Nat}{f:Addr}{fd:FuncData}{ps:ag}{sp sp':Sp}(F:bG P w K mg base CX k f fd ps sp)(G:bG P w K mg base CX k f fd ps sp'):bG P w K mg base CX k f fd ps (λvs H Q E=>sp vs H Q E\/sp' vs H Q E) :=
 ⟨λvs H Q E h=>h.elim (F.len vs H Q E) (G.len vs H Q E),λA outer s H args us vs Q E hr he hb hv hs=>hs.elim (F.run A outer s H args us vs Q E hr he hb hv) (G.run A outer s H args us vs Q E hr he hb hv)⟩
def Yz(s t:Int×Int):PyData.eqv (w5 s) (w5 t)=decide (s=t):=by
 unfold w5;rw[PyData.eqv];let e:=PySem.W.ked_eqvAll [s.1,s.2] [t.1,t.2];grind
def a1F(ts:ar)(t:Int×Int):(ts.map w5).any (λe=>PyData.eqv e (w5 t))=decide (t∈ts):=by
 rw[Ho];rw[rO,Vd,eE];constructor
 ·rintro⟨s,hs,e⟩;let:PyData.eqv (w5 s) (w5 t)=true:=e;rw[Yz]at this;grind
 ·intro h;show⟨t,h,by show PyData.eqv (w5 t) (w5 t)=true;rw[Yz];simp⟩
def WR(t:Int×Int):SeqAt.shaped (w5 t)=true:=by
 unfold SeqAt.shaped;rw[X6,Hi];show bh (by let:=Kz t;omega)
abbrev fO:Stmt:=top 16
def pI:bR ["graph","done","step","used","kind","bag","v"] Bk (aG fO):={}
noncomputable def ou(n:Nat)(ts:ar)(done:ax)(s:cu)(used:List (ae)):Option (ae) :=
 match s with
 |.leaf=>some []
 |.inn v=>if(0<=v/\v<(n:Int))/\v∉used.getD 0 []/\cu.out v∉done then some (fu (used.getD 0 []) [v])else none
 |.tie a b=>if(a,b)∈ts/\mF [a,b] (used.getD 0 [])=[]/\cu.tie a b∉done then some (used.getD 0 [])else none
 |.out v=>if v∈used.getD 0 []/\cu.out v∉done then some (mF (used.getD 0 []) [v])else none
 |.join=>if used.getD 0 []=used.getD 1 []then some (used.getD 0 [])else none
def a8u(K:aH)(H:Hp)(ux:af)(H':Hp)(v:V):Option (ae)->Prop
 |none=>v=.non
 |some b=>∃p,v=.ref p/\bB K H' p (b.map V.int)/\(H p=none\/V.ref p∈ux)
def YB{ux:af}{k:Nat}{v:V}(h:VN ux (k:Int)=some v):v∈ux:=by
 let⟨j,_,e,_⟩:=Oo h;show gU e
inductive a4N(K:aH)(vs:af)(H:Hp)(Q:VK)(u_3:XK):Prop
 |mk (g:V) (n:Nat) (ts:ar) (dn st us:Addr) (ds ux:af) (done:ax) (s:cu) (used:List (ae)) (_:vs=[g,.ref dn,.ref st,.ref us]) (_:uw K H g n ts) (_:n<=10) (_:bB K H dn ds) (_:Paired (uD K H) ds done) (_:cO K H st s.vs) (_:bB K H us ux) (_:Paired (Wo K H) ux used) (_:s.need<=used.length) (_:(∀b∈used,Small b/\b.length<=1000)) (_:∀r H',aL H H'->a8u K H ux H' r (ou n ts done s used)->Q r H')
def pN{i j:Nat}(hi:i<5)(hj:j<5)(h:i≠j):decide (V.str (Fe i)=V.str (Fe j))=false:=cG λe=>by
 let e':Fe i=Fe j:=by injection e
 let:=Ip i hi j hj;grind
def w10:decide (V.str (Str.ofString "in")=V.str (Str.ofString "leaf"))=false:=pN (i:=1) (j:=0) () () ()
def w20:decide (V.str (Str.ofString "tie")=V.str (Str.ofString "leaf"))=false:=pN (i:=2) (j:=0) () () ()
def w21:decide (V.str (Str.ofString "tie")=V.str (Str.ofString "in"))=false:=pN (i:=2) (j:=1) () () ()
def w30:decide (V.str (Str.ofString "out")=V.str (Str.ofString "leaf"))=false:=pN (i:=3) (j:=0) () () ()
def w31:decide (V.str (Str.ofString "out")=V.str (Str.ofString "in"))=false:=pN (i:=3) (j:=1) () () ()
def w32:decide (V.str (Str.ofString "out")=V.str (Str.ofString "tie"))=false:=pN (i:=3) (j:=2) () () ()
def w40:decide (V.str (Str.ofString "join")=V.str (Str.ofString "leaf"))=false:=pN (i:=4) (j:=0) () () ()
def w41:decide (V.str (Str.ofString "join")=V.str (Str.ofString "in"))=false:=pN (i:=4) (j:=1) () () ()
def w42:decide (V.str (Str.ofString "join")=V.str (Str.ofString "tie"))=false:=pN (i:=4) (j:=2) () () ()
def w43:decide (V.str (Str.ofString "join")=V.str (Str.ofString "out"))=false:=pN (i:=4) (j:=3) () () ()
def RX{K:aH}{H:Hp}{ux:af}{used:List (ae)}{k:Nat}(p:Paired (Wo K H) ux used)(h:k<used.length):∃b,VN ux (k:Int)=⇑b/\bB K H b ((used.getD k []).map V.int)/\used.getD k []∈used:=by
 let⟨x,hx,⟨b,rfl,hb⟩⟩:=cI p (bO h);show⟨b,bU hx,?_,?_⟩
 ·rw[gB,bO h];show hb
 ·rw[gB,bO h];show oJ h
def xK{K:aH}{H:Hp}{dn st:Addr}{ds:af}{done:ax}{s:cu}{Q:VK}(hD:bB K H dn ds)(pD:Paired (uD K H) ds done)(hS:cO K H st s.vs)(q:Q (.bl (!decide (s∈done))) H):V5 K true (.ref st) (.ref dn) H Q:=by
 show⟨s.d,done.map cu.d,uD.isD ⟨st,Z,hS⟩,.lst hD (OD (λ_ _ h=>uD.isD h) pD),Wx _,RD _,?_⟩;rw[aD Z,a1t];show q
section
variable{K:aH}
def J8(B:Bl mg)(lK:DK K mg)(jO:Dn K mg "is_below" fM sI)(oh:Dn K mg "joint" nH jM)(mW:Dn K mg "less" qK jM)(sY:Dn K mg "bag_behind" fO Bk):⋯ 3 sY.f sY.fd Bk (a4N K):=by
 let Ũ:⋯ 2 _ _ _ _:=xH B lK jO;let a4L:⋯ 2 _ _ _ _:=(RL B oh).mono ();let a6S:⋯ 2 _ _ _ _:=(bG.either (Ŧ B mW) (ŧ B mW)).mono ();show sY.F.ok pI λdZ A outer s H vs Q E hr h=>?_;let⟨g,n,ts,dn,st,us,ds,ux,done,sp,used,rfl,hG,dh,hD,pD,hS,hU,pU,nu,sm,q⟩:=h;let hu:(A.deeper (PyProof.Rows.envOfC "bag_behind" (aG fO) s⁻¹ sY.f dZ)).units+64<cLine:=by let:=hr.un;omega
 let hv:(A.deeper (PyProof.Rows.envOfC "bag_behind" (aG fO) s⁻¹ sY.f dZ)).units+65<cLine:=by let:=hr.un;omega
 let⟨pg,ta,rfl,hP,hT⟩:=id hG;show⟨_,(aB (aV 4 pI.nd (aP (aO (K:=K) Z) (pv 2) aq))
   (aB (cJ (aN mZ (pv 4) fY)
   (aF (bI (cH aj)))
   bx)
   (aB (aV 5 pI.nd (aP (bf (K:=K) Z) (pv 3) aq))
   (aB (cJ (aN mZ (pv 4) fY)
   (aB (aV 6 pI.nd (aP (aO (K:=K) Z) (pv 2) aq))
   (aF (bI (qe (PW.pt (lX (cY (K:=K) Z (aY Ũ hr Z jO.m jO.F.kp jO.b .nil bZ (O (aP (aO (K:=K) Z) (pv 0) aq) (O (pv 6) aj))) λ_=>rfl) (lX (aN (gO (K:=K) Z hv) (pv 6) (pv 5) (by with_unfolding_all rfl)) (mJ (aN (gO (K:=K) Z hv) (bL (O fY (O (pv 6) aj))) (pv 1) (by with_unfolding_all rfl)))))) (aY a4L hr Z oh.m oh.F.kp oh.b .nil bZ (O (pv 5) (O (cH (O (pv 6) aj)) aj))) rU))))
   bx)
   (aB (cJ (aN mZ (pv 4) fY)
   (aF (bI (qe (PW.pt (lX (aN (qX (K:=K) Z hv) (dD (Gj (K:=K) Z) (pv 2) (d7 aq) fK) (aP (aO (K:=K) Z) (pv 0) aq) (by with_unfolding_all rfl)) (lX (mR (cY (K:=K) Z (aY a6S hr Z mW.m mW.F.kp mW.b .nil bZ (O (dD (Gj (K:=K) Z) (pv 2) (d7 aq) fK) (O (pv 5) aj))) λ_=>rfl)) (mJ (aN (gO (K:=K) Z hv) (pv 2) (pv 1) (by with_unfolding_all rfl)))))) (pv 5) rU)))
   bx)
   (aB (cJ (aN mZ (pv 4) fY)
   (aF (bI (qe (PW.pt (lX (aN (qX (K:=K) Z hv) (aP (aO (K:=K) Z) (pv 2) aq) (pv 5) (by with_unfolding_all rfl)) (mJ (aN (gO (K:=K) Z hv) (pv 2) (pv 1) (by with_unfolding_all rfl))))) (aY a6S hr Z mW.m mW.F.kp mW.b .nil bZ (O (pv 5) (O (dD (Gj (K:=K) Z) (pv 2) (d7 aq) fK) aj))) rU)))
   bx)
   (aF (bI (qe (aN (a0P (K:=K) Z hu) (pv 5) (aP (bf (K:=K) Z) (pv 3) aq)) (pv 5) rU))))))))),?_⟩
 cases sp with
 |leaf =>
  show⟨_,Z,st,_,_,_,Z,Z,hS,Z,⟨_,Z,Z,_,Z,?_⟩⟩;rw[bh rfl];show iC ⟨(),λp1 H1 n1=>q _ H1 n1.same ⟨p1,Z,bB.of n1.here,.inl n1.fresh⟩⟩
 |inn v =>
  let⟨b0,a0,hb0,m0⟩:=RX (k:=0) pU nu;let⟨sm0,l0⟩:=sm _ m0;show⟨_,Z,st,_,_,_,Z,Z,hS,Z,⟨_,Z,Z,_,Z,?_⟩⟩;rw[w10];show cQ ⟨_,Z,us,_,_,_,Z,Z,hU,a0,⟨_,Z,Z,_,Z,?_⟩⟩;rw[bh rfl];show iC ⟨_,Z,st,_,_,_,Z,Z,hS,Z,⟨_,Z,pg,_,_,_,Z,Z,hP,Z,_,Z,(n:Int),some v,Z,_,Z,?_⟩⟩;let eb:oR (n:Int) (some v)=decide (0<=v/\v<(n:Int)):=rfl;rw[eb];let no:∀{H'},aL H H'->¬((0<=v/\v<(n:Int))/\v∉used.getD 0 []/\cu.out v∉done)->Q .non H':=λs c=>q _ _ s (by
   unfold ou;lk;rw[aA c];show Z)
  by_cases c1:0<=v/\v<(n:Int)
  ·rw[bh c1];show iC ⟨_,Z,_,Z,oU hb0 ⟨_,Z,?_⟩⟩;by_cases c2:v∈used.getD 0 []
   ·rw[bh c2];show cQ (cQ (no (aL.refl _) λh=>h.2.1 c2))
   ·rw[cG c2];show iC ⟨_,Z,(),λp2 H2 n2=>?_⟩;show⟨_,Z,xK (s:=.out v) (n2.same.seq hD) (Paired.cD pD λ_ _ h=>uD.same n2.same h) (cO.of n2.here) ⟨_,Z,?_⟩⟩;by_cases c3:cu.out v∈done
    ·rw[bh c3];show cQ (no n2.same λh=>h.2.2 c3)
    ·rw[cG c3];show iC ⟨_,Z,_,Z,(),λp3 H3 n3=>?_⟩;show⟨b0,p3,_,[v],Z,(n2.same.trans n3.same).seq hb0,bB.of n3.here,sm0,λx hx=>by rw[bQ.mp hx];omega,λH4 p5 H5 s4 n5=>?_⟩;show q _ H5 (n2.same.trans (n3.same.trans (s4.trans n5.same))) ?_;unfold ou;lk;rw[aD ⟨c1,c2,c3⟩];show⟨p5,Z,bB.of n5.here,.inl ((n2.same.trans (n3.same.trans s4)).free n5.fresh)⟩
  ·rw[cG c1];show cQ (cQ (no (aL.refl _) λh=>c1 h.1))
 |tie x y =>
  let⟨b0,a0,hb0,m0⟩:=RX (k:=0) pU nu;show⟨_,Z,st,_,_,_,Z,Z,hS,Z,⟨_,Z,Z,_,Z,?_⟩⟩;rw[w20];show cQ ⟨_,Z,us,_,_,_,Z,Z,hU,a0,⟨_,Z,Z,_,Z,?_⟩⟩;rw[w21];show cQ ⟨_,Z,Z,_,Z,?_⟩;rw[bh rfl];let no:∀{H'},aL H H'->¬((x,y)∈ts/\mF [x,y] (used.getD 0 [])=[]/\cu.tie x y∉done)->Q .non H':=λs c=>q _ _ s (by
   unfold ou;lk;rw[aA c];show Z)
  show iC ⟨_,Z,_,Z,st,_,Z,hS,λh=>absurd h.1 (by show ¬HT.kh 3 0 (some 1)=0;decide),λp1 H1 n1=>?_⟩;show⟨_,Z,pg,_,_,_,Z,Z,n1.same.vP hP,Z,w5 (x,y),ts.map w5,a0U.isD ⟨p1,Z,cO.of n1.here⟩,(hT.same n1.same).isD,WR _,QT _,_,Z,?_⟩;rw[aA cL,a1F];by_cases c1:(x,y)∈ts
  ·rw[bh c1];show iC ⟨_,Z,_,Z,st,_,Z,n1.same.vP hS,λh=>absurd h.1 (by show ¬HT.kh 3 0 (some 1)=0;decide),λp2 H2 n2=>?_⟩;let s2:=n1.same.trans n2.same;show⟨_,Z,.inl ⟨p2,b0,[x,y],_,Z,cO.of n2.here,s2.seq hb0,(),λH4 p5 H5 s4 n5=>?_⟩⟩;let s5:=s2.trans (s4.trans n5.same);show⟨_,.inl ⟨_,bB.of n5.here,Z⟩,?_⟩;by_cases c2:mF [x,y] (used.getD 0 [])=[]
   ·rw[c2];show iC ⟨_,Z,_,Z,xK (s:=.tie x y) (s5.seq hD) (Paired.cD pD λ_ _ h=>uD.same s5 h) (s5.vP hS) ⟨_,Z,?_⟩⟩;by_cases c3:cu.tie x y∈done
    ·rw[bh c3];show cQ (no s5 λh=>h.2.2 c3)
    ·rw[cG c3];show iC ⟨_,Z,q _ H5 s5 ?_⟩;unfold ou;lk;rw[aD ⟨c1,c2,c3⟩];show⟨b0,Z,s5.seq hb0,.inr (YB a0)⟩
   ·let e:((mF [x,y] (used.getD 0 [])).map V.int).isEmpty=false:=by
     cases c4:mF [x,y] (used.getD 0 [])with
     |nil=>show absurd c4 c2
     |cons _ _=>rfl
    rw[e];show cQ (cQ (no s5 λh=>c2 h.2.1))
  ·rw[cG c1];show cQ (cQ (no n1.same λh=>c1 h.1))
 |out v =>
  let⟨b0,a0,hb0,m0⟩:=RX (k:=0) pU nu;show⟨_,Z,st,_,_,_,Z,Z,hS,Z,⟨_,Z,Z,_,Z,?_⟩⟩;rw[w30];show cQ ⟨_,Z,us,_,_,_,Z,Z,hU,a0,⟨_,Z,Z,_,Z,?_⟩⟩;rw[w31];show cQ ⟨_,Z,Z,_,Z,?_⟩;rw[w32];show cQ ⟨_,Z,Z,_,Z,?_⟩;rw[bh rfl];let no:∀{H'},aL H H'->¬(v∈used.getD 0 []/\cu.out v∉done)->Q .non H':=λs c=>q _ _ s (by
   unfold ou;lk;rw[aA c];show Z)
  show iC ⟨_,Z,st,_,_,_,Z,Z,hS,Z,_,Z,wZ hb0 ⟨_,Z,?_⟩⟩;by_cases c1:v∈used.getD 0 []
  ·rw[bh c1];show iC ⟨_,Z,_,Z,xK (s:=.out v) hD pD hS ⟨_,Z,?_⟩⟩;by_cases c2:cu.out v∈done
   ·rw[bh c2];show cQ (no (aL.refl _) λh=>h.2 c2)
   ·rw[cG c2];show iC ⟨_,Z,_,Z,_,Z,st,_,Z,hS,λh=>absurd h.1 (by show ¬HT.kh 2 0 (some 1)=0;decide),λp2 H2 n2=>?_⟩;show .inr ⟨b0,p2,_,[v],Z,n2.same.seq hb0,cO.of n2.here,(sm _ m0).2,λH4 p5 H5 s4 n5=>q _ H5 (n2.same.trans (s4.trans n5.same)) ?_⟩;unfold ou;lk;rw[aD ⟨c1,c2⟩];show⟨p5,Z,bB.of n5.here,.inl ((n2.same.trans s4).free n5.fresh)⟩
  ·rw[cG c1];show cQ (cQ (no (aL.refl _) λh=>c1 h.1))
 |join =>
  let⟨b0,a0,hb0,m0⟩:=RX (k:=0) pU (je () nu);let⟨b1,a1,hb1,m1⟩:=RX (k:=1) pU (je () nu);show⟨_,Z,st,_,_,_,Z,Z,hS,Z,⟨_,Z,Z,_,Z,?_⟩⟩;rw[w40];show cQ ⟨_,Z,us,_,_,_,Z,Z,hU,a0,⟨_,Z,Z,_,Z,?_⟩⟩;rw[w41];show cQ ⟨_,Z,Z,_,Z,?_⟩;rw[w42];show cQ ⟨_,Z,Z,_,Z,?_⟩;rw[w43];show cQ ⟨_,Z,_,Z,us,_,_,_,Z,Z,hU,a1,_,_,.lst hb0 (vN.ints _),.lst hb1 (vN.ints _),shaped_ints _,shaped_ints _,_,Z,?_⟩;rw[aA cL,QK];by_cases c:used.getD 0 []=used.getD 1 []
  ·rw[bh c];show iC ⟨_,Z,q _ H (aL.refl _) ?_⟩;unfold ou;lk;rw[aD c];show⟨b0,Z,hb0,.inr (YB a0)⟩
  ·rw[cG c];show cQ (q _ H (aL.refl _) ?_);unfold ou;lk;rw[aA c];show rfl
end
abbrev Fi:Stmt:=top 15
def uE:bR ["graph","steps","tops","feeds","pile","k","step","left","bag"] mq (aG Fi):={}
structure RS where
 aR:List (ae)
 dJ:List (ay)
 pile:ay
noncomputable def dX(s:cu)(r:RS):Nat:=r.pile.length-s.need
def qP(s:cu)(r:RS):List (ae):=(r.pile.drop (dX s r)).map λj=>r.aR.getD j []
noncomputable def qt(n:Nat)(ts:ar)(ss:ax)(k:Nat)(r:RS):Option RS :=
 if(ss.getD k .leaf).need<=r.pile.length then
  (ou n ts (ss.take k) (ss.getD k .leaf) (qP (ss.getD k .leaf) r)).map λb=>⟨r.aR++[b],r.dJ++[r.pile.drop (dX (ss.getD k .leaf) r)],r.pile.take (dX (ss.getD k .leaf) r)++[k]⟩
 else none
def aX(n:Nat)(ts:ar)(ss:ax):Nat->RS×Bool
 |0=>(⟨[],[],[]⟩,true)
 |k+1=>if(aX n ts ss k).2=true then
   match qt n ts ss k (aX n ts ss k).1 with
   |some r=>(r,true)
   |none=>((aX n ts ss k).1,false)
  else((aX n ts ss k).1,false)
def cF(n:Nat)(ts:ar)(ss:ax):RS:=(aX n ts ss ss.length).1
theorem Jb{n:Nat}{ts:ar}{ss:ax}{k:Nat}(h:(aX n ts ss k).2=false):∀m,k<=m->aX n ts ss m=((aX n ts ss k).1,false)
 |0,hm=>by
  grind
 |m+1,hm=>by
  by_cases c:k=m+1
  ·grind
  ·let ih:=Jb h m ()
   show(if(aX n ts ss m).2=true then _ else _)=_
   rw[ih]
   rfl
structure a1G(i:Nat)(r:RS):Prop where
 tl:r.aR.length=i
 fl:r.dJ.length=i
 pl:r.pile.length<=i
 lt:∀j∈r.pile,j<i
 sm:∀b∈r.aR,Small b/\b.length<=1000
 ff:∀f∈r.dJ,f.length<=2
def À{n:Nat}{ts:ar}{done:ax}{s:cu}{used:List (ae)}{b:ae}(dh:n<=10)(sm:∀b∈used,Small b/\b.length<=1000)(h:ou n ts done s used=some b):Small b/\b.length<=1000:=by
 let g:∀k,Small (used.getD k [])/\(used.getD k []).length<=1000:=λk=>by
  by_cases c:k<used.length
  ·rw[gB,bO c];show sm _ (oJ c)
  ·rw[gB,List.getElem?_eq_none ()];show⟨λx hx=>absurd hx fj,()⟩
 unfold ou at h;cases s with
 |leaf =>
  let:b=[]:=(dO h).symm;subst this;show⟨λx hx=>absurd hx fj,()⟩
 |inn v =>
  dsimp only at h;split at h
  ·rw[<-dO h];show⟨λx hx=>?_,?_⟩
   ·let⟨h1,h2,_⟩:=yd.mp hx;show⟨h1,h2⟩
   ·unfold fu Qo;grind
  ·cases h
 |tie x y =>
  dsimp only at h;split at h
  ·rw[<-dO h];show g 0
  ·cases h
 |out v =>
  dsimp only at h;split at h
  ·rw[<-dO h];show⟨λx hx=>(g 0).1 x (jg.mp hx).1,cC (yQ _ _) (g 0).2⟩
  ·cases h
 |join =>
  dsimp only at h;split at h
  ·rw[<-dO h];show g 0
  ·cases h
theorem jA{n:Nat}{ts:ar}{ss:ax}(dh:n<=10):∀{i:Nat},(aX n ts ss i).2=true->a1G i (aX n ts ss i).1
 |0,_=>⟨Z,Z,aK _,λj h=>absurd h fj,λb h=>absurd h fj,λb h=>absurd h fj⟩
 |i+1,h=>by
  let e:aX n ts ss (i+1)=if(aX n ts ss i).2=true then
   (match qt n ts ss i (aX n ts ss i).1 with
   |some r=>(r,true)
   |none=>((aX n ts ss i).1,false))
  else((aX n ts ss i).1,false):=rfl
  rw[e]at h ⊢
  by_cases c:(aX n ts ss i).2=true
  ·let I:=jA dh c
   rw[aD c]at h ⊢
   cases d:qt n ts ss i (aX n ts ss i).1 with
   |none=>grind
   |some r =>
    lk
    unfold qt at d
    split at d
    ·let⟨b,hb,er⟩:=j4.mp d
     rw[<-er]
     let sb:=À dh (λx hx=>by
      let⟨j,hj,e⟩:=fD.mp hx
      let jl:=I.lt j (yR hj)
      rw[<-e,gB,bO (by rw[I.tl];show jl)]
      show I.sm _ (oJ _)) hb
     show⟨?_,?_,?_,λj hj=>?_,λx hx=>?_,λf hf=>?_⟩
     ·show(_++[b]).length=_
      rw[bK,I.tl];rfl
     ·show(_++[_]).length=_
      rw[bK,I.fl];rfl
     ·show(_++[i]).length<=_
      rw[bK,dN]
      let:=I.pl
      show min _ _+1<=_
      omega
     ·rcases cM.mp hj with hj|hj
      ·let:=I.lt j (j6 hj)
       omega
      grind
     ·rcases cM.mp hx with hx|hx
      ·show I.sm x hx
      ·rw[bQ.mp hx];show sb
     ·rcases cM.mp hf with hf|hf
      ·show I.ff f hf
      ·rw[bQ.mp hf,gw]
       unfold dX
       let:(ss.getD i .leaf).need<=2:=by cases ss.getD i .leaf<;>simp[cu.need]
       omega
    ·cases d
  grind
def ũ{n:Nat}{ts:ar}{ss:ax}{i:Nat}{r:RS}(c:(aX n ts ss i).2=true)(d:qt n ts ss i (aX n ts ss i).1=some r):aX n ts ss (i+1)=(r,true):=by
 show(if(aX n ts ss i).2=true then _ else _)=_;grind
def a1H{n:Nat}{ts:ar}{ss:ax}{i:Nat}(il:i<ss.length)(c:(aX n ts ss i).2=true)(d:qt n ts ss i (aX n ts ss i).1=none):cF n ts ss=(aX n ts ss i).1:=by
 let e:aX n ts ss (i+1)=((aX n ts ss i).1,false):=by
  show(if(aX n ts ss i).2=true then _ else _)=_;grind
 unfold cF;rw[Jb (k:=i+1) (by rw[e]) ss.length il,e]
abbrev yp(l:ay):af:=l.map λ(x:Nat)=>V.int (x:Int)
theorem RZ:∀{m:Nat}{l:ay},l.Nodup->(∀x∈l,x<m)->l.length<=m
 |0,l,_,lt=>by
  cases l with
  |nil=>grind
  |cons x r=>show absurd (lt x aZ) (wU _)
 |m+1,l,nd,lt=>by
  let ih:=RZ (m:=m) (nd.erase m) λx hx=>by
   grind
  grind
def wC(ex:aI)(K:aH)(H:Hp)(v:V)(b:ae):Prop:=∃p,v=.ref p/\bB K H p (b.map V.int)/\p∉ex
def wC.same{K:aH}{H H':Hp}{v:V}{b:ae}(s:aL H H')(h:wC ex K H v b):wC ex K H' v b:=by
 let⟨p,e,q,n⟩:=h;show⟨p,e,s.seq q,n⟩
def wC.l{K:aH}{H:Hp}{v:V}{b:ae}(h:wC ex K H v b):Wo K H v b:=by
 let⟨p,e,q,n⟩:=h;show⟨p,e,q⟩
def a1I{K:aH}{H H':Hp}{a p:Addr}{o:HO}{xs:af}(c:tH H a o H')(n:p≠a)(h:bB K H p xs):bB K H' p xs:=by
 rcases h with h|h
 ·show .inl ?_;rcases h with h|⟨u,h⟩
  ·show .inl ((c.rest p n).trans h)
  ·show .inr ⟨u,(c.rest p n).trans h⟩
 ·show .inr h
def wC.chg{K:aH}{H H':Hp}{a:Addr}{o:HO}{v:V}{b:ae}(c:tH H a o H')(ha:a∈ex)(h:wC ex K H v b):wC ex K H' v b:=by
 let⟨p,e,q,n⟩:=h;show⟨p,e,a1I c (λz=>n (z▸ha)) q,n⟩
def zF(ex:aI)(H:Hp)(q:Addr)(f:ay):Prop:=H q=↥(yp f)/\q∉ex
def zF.same{H H':Hp}{q:Addr}{f:ay}(s:aL H H')(h:zF ex H q f):zF ex H' q f:=⟨s _ _ h.1,h.2⟩
def zF.chg{H H':Hp}{a:Addr}{o:HO}{q:Addr}{f:ay}(c:tH H a o H')(ha:a∈ex)(h:zF ex H q f):zF ex H' q f:=⟨(c.rest q λz=>h.2 (z▸ha)).trans h.1,h.2⟩
def Jc(xs:af)(k:Nat)(h:k<=xs.length):su xs none (some (k:Int))=xs.take k:=by
 unfold su;let e1:HT.kh xs.length xs.length (some (k:Int))=k:=by
  show min _ _=k;simp;omega
 let e2:HT.kh xs.length 0 none=0:=rfl;rw[e1,e2,Vl,wX]
def R0(xs:af)(k:Nat)(h:k<=xs.length):su xs (some (k:Int)) none=xs.drop k:=by
 unfold su;let e1:HT.kh xs.length 0 (some (k:Int))=k:=by
  show min _ _=k;grind
 let e2:HT.kh xs.length xs.length none=xs.length:=rfl;rw[e1,e2,yP (by rw[gw];omega)]
theorem Jd{α β:Type}{R:α->β->Prop}:∀{xs:List α}{ys:List β} (i:Nat),Paired R xs ys->Paired R (xs.take i) (ys.take i)
 |_,_,0,_=>.nil
 |_,_,_+1,.nil=>.nil
 |_,_,i+1,.cons q r=>.cons q (Jd i r)
def a8v(ex:aI)(K:aH)(H:Hp)(v:V):Option (ae)->Prop
 |none=>v=.non
 |some b=>wC ex K H v b
theorem Lh{ex:aI}{K:aH}{H:Hp}{vt:af}{aR:List (ae)}(p:Paired (wC ex K H) vt aR):∀l:ay,(∀j∈l,j<aR.length)->Paired (Wo K H) (l.map λj=>vt.getD j .non) (l.map λj=>aR.getD j [])
 | [],_=>.nil
 |j::r,h=>by
  let jl:=h j aZ
  let⟨x,hx,hb⟩:=cI p (bO jl)
  show .cons ?_ (Lh p r λi hi=>h i (bH _ hi))
  lk
  rw[gB,hx,gB,bO jl]
  show hb.l
inductive a6T(K:aH)(vs:af)(H:Hp)(Q:VK)(u_3:XK):Prop
 |mk (g:V) (n:Nat) (ts:ar) (a:Addr) (xs:af) (ss:ax) (_:vs=[g,.ref a]) (_:uw K H g n ts) (_:n<=10) (_:bB K H a xs) (_:Paired (uD K H) xs ss) (_:ss.length<=900) (_:∀r pt pf pp vt fs H',aL H H'->H' r= ~~~[.ref pt,.ref pf,.ref pp]->H pt=none->H pf=none->H pp=none->H' pt=↥vt->H' pf=↥(fs.map V.ref)->zF [pt,pf] H' pp (cF n ts ss).pile->Paired (wC [pt,pf] K H') vt (cF n ts ss).aR->Paired (zF [pt,pf] H') fs (cF n ts ss).dJ->Q (.ref r) H')
inductive a6U(K:aH)(g:V)(a p1 p2:Addr)(n:Nat)(ts:ar)(ss:ax)(H:Hp)(i:Nat)(σ:St)(H':Hp):Prop
 |mk (vt:af) (fs:aI) (pp:Addr) (a5 a6 a7 a8:Option V) (_:σ=[some g,⇑a,⇑p1,⇑p2,⇑pp,a5,a6,a7,a8]) (_:aL H H') (_:H' p1=↥vt) (_:H' p2=↥(fs.map V.ref)) (_:(aX n ts ss i).2=true) (_:H pp=none) (_:zF [p1,p2] H' pp (aX n ts ss i).1.pile) (_:Paired (wC [p1,p2] K H') vt (aX n ts ss i).1.aR) (_:Paired (zF [p1,p2] H') fs (aX n ts ss i).1.dJ)
section
variable{K:aH}
def a4O(B:Bl mg)(U:Used w K mg)(lK:DK K mg)(jO:Dn K mg "is_below" fM sI)(oh:Dn K mg "joint" nH jM)(mW:Dn K mg "less" qK jM)(sY:Dn K mg "bag_behind" fO Bk)(wD:Dn K mg "run" Fi mq):⋯ 4 wD.f wD.fd mq (a6T K):=by
 let a8w:⋯ 3 _ _ _ _:=J8 B lK jO oh mW sY;show wD.F.ok uE λdZ A outer s H vs Q E hr h=>?_;let⟨g,n,ts,a,xs,ss,rfl,hG,dh,hA,pA,a6V,q⟩:=h;let lx:=aU pA;show⟨_,(aB (aV 2 uE.nd (cH aj))
   (aB (aV 3 uE.nd (cH aj))
   (aB (aV 4 uE.nd (cH aj))
   (aB (iV iI Z (a0T (K:=K) Z Z B.enumerate (O (pv 1) aj)) (jb (K:=K) (n:=2) Z Z (bN (aM 5 uE.nd) (bN (aM 6 uE.nd) gW)))
   (aB (aV 7 uE.nd (bA Oj (aW (b8 (K:=K) Z) Z B.len () (O (pv 4) aj)) (a1e U Z (aP (aO (K:=K) Z) (pv 6) aq) λ_ _=>rfl)))
   (aB (aV 8 uE.nd rU)
   (g8 (cJ (aN a5T (pv 7) aq)
   (aF (aV 8 uE.nd (aY a8w hr Z sY.m sY.F.kp sY.b .nil bZ (O (pv 0) (O (dD (uQ (K:=K) Z) (pv 1) fK (d7 (pv 5))) (O (pv 6) (O (jF ["j","tops"] [none,some 2]  (by kernel_rfl) Z (dU (K:=K) Z (dD (uQ (K:=K) Z) (pv 4) (d7 (pv 7)) fK)) (λ_ _ _ _ _=>(aM 0 (show(["j","tops"]:ag).Nodup by decide))) (λ_ _ _ _ _=>gk) λ_ _ _ _ _=>(aP (bf (K:=K) Z) (pv 1) (pv 0))) aj)))))))
   bx)
   (aB (cJ (aN ċ (pv 8) rU)
   (aF Ą)
   bx)
   (aB (eY (gZ (K:=K) Z gR PySem.F.slot_list_append PySem.F.type_list_append fL (pv 2) (O (pv 8) aj)))
   (aB (eY (gZ (K:=K) Z gR PySem.F.slot_list_append PySem.F.type_list_append fL (pv 3) (O (dD (uQ (K:=K) Z) (pv 4) (d7 (pv 7)) fK) aj)))
   (aF (aV 4 uE.nd (bA jy (dD (uQ (K:=K) Z) (pv 4) fK (d7 (pv 7))) (cH (O (pv 5) aj))))))))))))
   (aF (bI (bL (O (pv 2) (O (pv 3) (O (pv 4) aj)))))))))),?_⟩
 show⟨(),λp1 H1 n1=>⟨(),λp2 H2 n2=>⟨(),λp3 H3 n3=>?_⟩⟩⟩;let s3:=n1.same.trans (n2.same.trans n3.same);let f1:H p1=none:=n1.fresh;let f2:H p2=none:=n1.same.free n2.fresh;let f3:H p3=none:=n1.same.free (n2.same.free n3.fresh);let n12:p1≠p2:=n2.ne n1.here;let n13:p3≠p1:=(n3.ne (n2.same _ _ n1.here)).symm;let n23:p3≠p2:=(n3.ne n2.here).symm;let ret:∀{H':Hp}{pp:Addr}{vt:af}{fs:aI}{a5 a6 a7 a8:Option V},aL H H'->H pp=none->H' p1=↥vt->H' p2=↥(fs.map V.ref)->zF [p1,p2] H' pp (cF n ts ss).pile->Paired (wC [p1,p2] K H') vt (cF n ts ss).aR->Paired (zF [p1,p2] H') fs (cF n ts ss).dJ->a5L (X3 (Qz (Vq 2) (Qz (Vq 3) (Qz (Vq 4) a0B)))) { nx:=λx H'=>Q V.non H',rt:=Q} [some g,⇑a,⇑p1,⇑p2,⇑pp,a5,a6,a7,a8] H':=λ{H' pp vt fs a5 a6 a7 a8} s fp h1 h2 h3 h4 h5=>by
  show⟨_,Z,_,Z,_,Z,(),λpr Hr nr=>?_⟩;show q pr p1 p2 pp vt fs Hr (s.trans nr.same) nr.here f1 f2 fp (nr.same _ _ h1) (nr.same _ _ h2) (h3.same nr.same) (Paired.cD h4 λ_ _ h=>h.same nr.same) (Paired.cD h5 λ_ _ h=>h.same nr.same)
 show⟨_,Z,a,Z,⟨_,s3.seq hA⟩,Z0 (P:=λi σ H'=>a6U K g a p1 p2 n ts ss H i σ H') λZ97 ji ij=>?_⟩;show Ģ (xs:=xs) Z97 (ji _ _ _ ⟨[],[],p3,none,none,none,none,Z,s3,n3.same _ _ (n2.same _ _ n1.here),n3.same _ _ n2.here,Z,f3,⟨n3.here,by simp[n13,n23]⟩,.nil,.nil⟩) (λi σ H' _ h=>by
  let⟨_,_,_,_,_,_,_,_,s,_⟩:=ij _ _ _ h;show s.seq hA) ?_ ?_
 ·intro i x σ H4 pz H5 hi hJ nz;let⟨vt,fs,pp,a5,a6,a7,a8,rfl,s4,h1,h2,go,fp,Cr,pv,pf⟩:=ij _ _ _ hJ;let⟨sp,hsp,⟨ps,rfl,hps⟩⟩:=bC pA hi;let il:i<ss.length:=(dY.mp hsp).1;let esp:ss.getD i .leaf=sp:=by rw[gB,hsp];rfl
  let I:=jA (n:=n) (ts:=ts) (ss:=ss) dh go;obtain⟨R,eR⟩:∃R,R=(aX n ts ss i).1:=⟨_,Z⟩;rw[<-eR]at I Cr pv pf;let s5:=s4.trans nz.same;show⟨pz,_,Z,cO.of nz.here,Z,_,_,Z,_,_,Z,Z,?_⟩;let a6W:=(Cr.same nz.same).1;show⟨_,Z,pp,_,Z,.inl (bB.of a6W),_,Z,ps,_,((0:Nat):Int),_,Z,Z,s5.vP hps,tO sp,.inr sp.word,_,Z,a1s sp,_,_,Z,Z,?_⟩;lk;rw[aJ];obtain⟨lf,elf⟩:∃lf:Int,((R.pile.length:Nat):Int)-((sp.need:Nat):Int)=lf:=⟨_,Z⟩;rw[elf];show⟨λσ' H'=>∃bv:V,σ'=[some g,⇑a,⇑p1,⇑p2,⇑pp,some (.int (i:Int)),⇑ps,some (.int lf),some bv]/\aL H5 H'/\((sp.need<=R.pile.length/\a8v [p1,p2] K H' bv (ou n ts (ss.take i) sp (qP sp R)))\/(¬sp.need<=R.pile.length/\bv=.non)),?_,?_⟩
  ·show⟨_,Z,_,_,Z,Z,_,Z,qH (λc=>?_) λc=>⟨.non,Z,aL.refl _,.inr ⟨?_,Z⟩⟩⟩
   ·let c':(0:Int)<=lf:=dB c;let nl:sp.need<=R.pile.length:=()
    let el:lf=((dX sp R:Nat):Int):=by unfold dX;omega
    let ll:dX sp R<=R.pile.length:=by unfold dX;omega
    rw[el];show⟨_,Z,_,Z,_,Z,_,Z,a,_,Z,s5.seq hA,λp6 H6 n6=>?_⟩;rw[Jc _ _ ()]at n6;show⟨_,Z,_,Z,_,Z,_,Z,pp,_,Z,bB.of (n6.same _ _ a6W),λp7 H7 n7=>?_⟩;rw[R0 _ _ (by rw[aJ];show ll)]at n7;let s57:=n6.same.trans n7.same;let ed:(yp R.pile).drop (dX sp R)=yp (R.pile.drop (dX sp R)):=by unfold yp;rw[N7]
    rw[ed]at n7;let h17:=s57 _ _ (nz.same _ _ h1);let lv:=aU pv;let jt:∀j∈R.pile.drop (dX sp R),j<R.aR.length:=λj hj=>by rw[I.tl];show I.lt j (yR hj)
    show⟨p7,Z,⟨_,bB.of n7.here⟩,?_⟩;show HF (λv=>match v with |.int z=>some (vt.getD z.toNat .non)|_=>none) (bB.of n7.here) (by rw[aJ,gw];let:=I.pl;omega) (λv H8 N hv8 s8 hN=>?_) (λH8 p9 H9 s8 n9=>?_)
    ·let⟨j,hj,rfl⟩:=fD.mp hv8;let jl:j<vt.length:=by rw[lv];show jt j hj
     let hN':=hN H8 s8;dsimp only at hN';rw[jf]at hN';show⟨_,Z,_,Z,p1,_,_,_,Z,Z,bB.of (s8 _ _ h17),bU (bO jl),?_⟩;rw[gB,bO jl]at hN';show hN'
    let e9:(yp (R.pile.drop (dX sp R))).filterMap (λv=>match v with |.int z=>some (vt.getD z.toNat .non)|_=>none)=(R.pile.drop (dX sp R)).map λj=>vt.getD j .non:=by
     unfold yp;rw[M8];show(vQ λj _=>?_);show some (vt.getD ((j:Int)).toNat V.non)=_;rw[jf]
    rw[e9]at n9;let s59:=s57.trans (s8.trans n9.same);let s69:=n7.same.trans (s8.trans n9.same);let pv9:=Paired.cD pv λ_ _ h=>h.same (nz.same.trans s59);show⟨g,n,ts,p6,ps,p9,xs.take i,_,ss.take i,sp,qP sp R,Z,(hG.same s5).same s59,dh,bB.of (s69 _ _ n6.here),Jd i (Paired.cD pA λ_ _ h=>(h.same s5).same s59),(s5.trans s59).vP hps,bB.of n9.here,Lh pv9 _ jt,?_,λb hb=>?_,λr Á s10 bn=>?_⟩
    ·unfold qP;rw[aJ,gw];unfold dX;omega
    ·let⟨j,hj,rfl⟩:=fD.mp hb;rw[gB,bO (jt j hj)];show I.sm _ (oJ _)
    show⟨r,Z,s59.trans s10,.inl ⟨nl,?_⟩⟩;cases eb:ou n ts (ss.take i) sp (qP sp R)with
    |none=>rw[eb]at bn;show bn
    |some b =>
     rw[eb]at bn;let⟨p,e,hp,h⟩:=bn;show⟨p,e,hp,?_⟩;rcases h with h|h
     ·let k1:H9 p1=↥vt:=s59 _ _ (nz.same _ _ h1);let k2:H9 p2=↥(fs.map V.ref):=s59 _ _ (nz.same _ _ h2);intro hm;rcases bT.mp hm with hm|hm
      ·rw[hm,k1]at h;cases h
      ·rw[bQ.mp hm,k2]at h;cases h
     ·let⟨j,hj,ej⟩:=fD.mp h;let jl:j<vt.length:=by rw[lv];show jt j hj
      let⟨b',_,⟨p',e',_,np⟩⟩:=bC pv (bO jl);rw[gB,bO jl,Ve,e']at ej;injection ej with ej
      rw[<-ej];show np
   ·let c':¬(0:Int)<=lf:=UJ (GX.mpr c);omega
  rintro σ' H6 ⟨bv,rfl,s6,wb⟩;let s46:=nz.same.trans s6;let h16:=s46 _ _ h1;let h26:=s46 _ _ h2;let a6X:=Cr.same s46;let pv6:=Paired.cD pv λ_ _ h=>h.same s46;let pf6:=Paired.cD pf λ_ _ h=>h.same s46;let sH6:=s4.trans s46;let stop:bv=.non->qt n ts ss i R=none:=λe=>by
   unfold qt;rw[esp];rcases wb with⟨nl,w⟩|⟨nl,_⟩
   ·rw[aD nl];cases eb:ou n ts (ss.take i) sp (qP sp R)with
    |none=>rfl
    |some b =>
     rw[eb]at w;let⟨p,e',_⟩:=w;rw[e]at e';cases e'
   ·rw[aA nl]
  show⟨_,Z,Z,_,Z,?_⟩;by_cases cn:bv=.non
  ·rw[bh cn];show iC ?_;let ee:=a1H il go (by rw[<-eR];show stop cn);rw[<-eR]at ee;show ret sH6 fp h16 h26 ?_ ?_ ?_
   ·rw[ee];show a6X
   ·rw[ee];show pv6
   ·rw[ee];show pf6
  ·rw[cG cn];show cQ ?_;obtain⟨nl,b,eb,p,rfl,hp,np⟩:sp.need<=R.pile.length/\∃b,ou n ts (ss.take i) sp (qP sp R)=some b/\wC [p1,p2] K H6 bv b:=by
    rcases wb with⟨nl,w⟩|⟨_,e⟩
    ·show⟨nl,?_⟩;cases eb:ou n ts (ss.take i) sp (qP sp R)with
     |none=>rw[eb]at w;show absurd w cn
     |some b=>rw[eb]at w;show⟨b,Z,w⟩
    ·show absurd e cn
   let el:lf=((dX sp R:Nat):Int):=by unfold dX;omega
   let ll:dX sp R<=R.pile.length:=by unfold dX;omega
   rw[el];let lv:=aU pv;let lff:=aU pf;let tl:=I.tl;let fl:=I.fl;let pl:=I.pl;let es:qt n ts ss i R=some ⟨R.aR++[b],R.dJ++[R.pile.drop (dX sp R)],R.pile.take (dX sp R)++[i]⟩:=by
    unfold qt;rw[esp,aD nl,eb];rfl
   let er:=ũ go (by rw[<-eR];show es);let m1:p1∈[p1,p2]:=aZ;let m2:p2∈[p1,p2]:=bH _ (bQ.mpr Z);show⟨_,Z,.inl ⟨Z,_,bB.of h16⟩,_,Z,p1,vt,_,Z,Z,h16,(),λH7 c7=>?_⟩;let h27:H7 p2=↥(fs.map V.ref):=(c7.rest p2 (Ne.symm n12)).trans h26;let a6Y:=a6X.chg c7 m1;show⟨_,Z,.inl ⟨Z,_,bB.of h27⟩,_,Z,_,Z,_,Z,pp,_,Z,bB.of a6Y.1,λp8 H8 n8=>?_⟩;rw[R0 _ _ (by rw[aJ];show ll),show(yp R.pile).drop (dX sp R)=yp (R.pile.drop (dX sp R)) by unfold yp;rw[N7]]at n8;let h28:=n8.same _ _ h27;show⟨p2,_,_,Z,Z,h28,by rw[aJ];omega,λH9 c9=>?_⟩;let n81:p8∉[p1,p2]:=λhm=>by
    let f8:=n8.fresh;rcases bT.mp hm with hm|hm
    ·rw[hm,c7.here]at f8;cases f8
    ·rw[bQ.mp hm,h27]at f8;cases f8
   let h19:H9 p1=↥(vt++[.ref p]):=(c9.rest p1 n12).trans (n8.same _ _ c7.here);let a8x:=(a6Y.same n8.same).chg c9 m2;show⟨_,Z,_,Z,_,Z,pp,_,Z,bB.of a8x.1,λp10 Á sZ=>?_⟩;rw[Jc _ _ (by rw[aJ];show ll),show(yp R.pile).take (dX sp R)=yp (R.pile.take (dX sp R)) by unfold yp;rw[Hj]]at sZ;show⟨_,Z,(),λp11 H11 Bu=>?_⟩;show⟨p10,p11,_,_,Z,Z,Bu.same _ _ sZ.here,Bu.here,by rw[aJ,dN];show min _ _+1<=1000;omega,λp12 H12 a1J=>?_⟩;let Je:=sZ.same.trans (Bu.same.trans a1J.same);let sH9:aL H H9:=((sH6.chg f1 c7).trans n8.same).chg f2 c9;let f12:H p12=none:=sH9.free (sZ.same.free (Bu.same.free a1J.fresh));show ji _ _ _ ⟨vt++[.ref p],fs++[p8],p12,_,_,_,_,Z,sH9.trans Je,Je _ _ h19,?_,by rw[er],f12,?_,?_,?_⟩
   ·let:=Je _ _ c9.here;rw[this,cW];rfl
   ·rw[er];show⟨?_,λhm=>?_⟩
    ·rw[a1J.here];unfold yp;rw[cW];rfl
    ·let g:=a1J.fresh;rcases bT.mp hm with hm|hm
     ·rw[hm,Bu.same _ _ (sZ.same _ _ h19)]at g;cases g
     ·rw[bQ.mp hm,Bu.same _ _ (sZ.same _ _ c9.here)]at g;cases g
   ·rw[er];show eN (Paired.cD pv6 λ_ _ h=>(((h.chg c7 m1).same n8.same).chg c9 m2).same Je) ((((wC.chg c7 m1 ⟨p,Z,hp,np⟩).same n8.same).chg c9 m2).same Je)
   ·rw[er];show eN (Paired.cD pf6 λ_ _ h=>(((h.chg c7 m1).same n8.same).chg c9 m2).same Je) ((zF.chg c9 m2 ⟨n8.here,n81⟩).same Je)
 ·intro σ H4 hJ;let⟨vt,fs,pp,a5,a6,a7,a8,rfl,s4,h1,h2,go,fp,Cr,pv,pf⟩:=ij _ _ _ hJ;rw[lx]at Cr pv pf;show ret s4 fp h1 h2 Cr pv pf
end
abbrev eV:Stmt:=top 17
def mO:bR ["graph","steps","tops","pile","v","a","b"] EY (aG eV):={}
inductive a6Z where
 |ok
 |step (k:Nat)
 |pile
 |place (v:Nat)
 |tie (a b:Int)
noncomputable def Li(R:RS):List (ae):=R.pile.map λj=>R.aR.getD j []
noncomputable def Bv(n:Nat)(ts:ar)(ss:ax)(R:RS):a6Z :=
 if R.aR.length<ss.length then .step R.aR.length
 else if Li R=[[]]then
  match(List.range n).find? λ(v:Nat)=>!decide (cu.inn (v:Int)∈ss)with
  |some v=>.place v
  |none=>match ts.find? λt=>!decide (cu.tie t.1 t.2∈ss)with
   |some t=>.tie t.1 t.2
   |none=>.ok
 else .pile
noncomputable def a65(H:Hp)(v:V):a6Z->Prop
 |.ok=>v=.non
 |.step k=>∃p,v=.ref p/\H p= ~~~[.str "step",.int (k:Int)]
 |.pile=>∃p,v=.ref p/\H p= ~~~[.str "pile"]
 |.place v'=>∃p,v=.ref p/\H p= ~~~[.str "place",.int (v':Int)]
 |.tie a b=>∃p,v=.ref p/\H p= ~~~[.str "tie",.int a,.int b]
noncomputable def Jf(b:ae):PyData:=.list (b.map PyData.int)
def a1K(b:ae):(Jf b).canLay0=true:=by
 let h:=shaped_ints b;unfold SeqAt.shaped at h;rw[fX]at h;show h.1
def Â(b:ae):(Jf b).depth<=1:=by
 unfold Jf;rw[PyData.depth];let:=uT (k:=0) (f:=PyData.int) (λb=>by simp[PyData.depth]) b;omega
def Fj(bs:List (ae)):SeqAt.shaped (.list (bs.map Jf))=true:=by
 unfold SeqAt.shaped;rw[PyData.canLay0,Gh a1K,PyData.depth,Hi];show bh (by let:=uT Â bs;omega)
theorem R3:∀xs ys:List (ae),PyData.eqvAll (xs.map Jf) (ys.map Jf)=decide (xs=ys)
 | [],[]=>by simp[PyData.eqvAll]
 | [],_::_=>by simp[PyData.eqvAll]
 |_::_,[]=>by simp[PyData.eqvAll]
 |x::xs,y::ys=>by
  rw[cA,cA,PyData.eqvAll,R3 xs ys,show PyData.eqv (Jf x) (Jf y)=decide (x=y)from QK x y,rO]
  simp
def Ū{K:aH}{H:Hp}{v:V}{s:ae}(h:Wo K H v s):JM K H v (Jf s):=by
 let⟨p,rfl,h⟩:=h;show .lst h (vN.ints _)
inductive ū(K:aH)(vs:af)(H:Hp)(Q:VK)(u_3:XK):Prop
 |mk (g:V) (n:Nat) (ts:ar) (a pt pp:Addr) (xs vt:af) (ss:ax) (R:RS) (_:vs=[g,.ref a,.ref pt,.ref pp]) (_:uw K H g n ts) (_:n<=10) (_:bB K H a xs) (_:Paired (uD K H) xs ss) (_:bB K H pt vt) (_:Paired (Wo K H) vt R.aR) (_:bB K H pp (yp R.pile)) (_:(∀j∈R.pile,j<R.aR.length)) (_:R.pile.length<=1000) (_:∀r H',aL H H'->a65 H' r (Bv n ts ss R)->Q r H')
section
variable{K:aH}
def Fw(B:Bl mg)(u9:Dn K mg "fault_behind" eV EY):⋯ 1 u9.f u9.fd EY (ū K):=by
 show u9.F.ok mO λdZ A outer s H vs Q E hr h=>?_;let⟨g,n,ts,a,pt,pp,xs,vt,ss,R,rfl,hG,dh,hA,pA,hV,pV,hPp,jl,a66,q⟩:=h;let hu:(A.deeper (PyProof.Rows.envOfC "fault_behind" (aG eV) s⁻¹ u9.f dZ)).units+64<cLine:=by let:=hr.un;omega
 let hv:(A.deeper (PyProof.Rows.envOfC "fault_behind" (aG eV) s⁻¹ u9.f dZ)).units+65<cLine:=by let:=hr.un;omega
 let⟨pg,ta,rfl,hP,hT⟩:=id hG;let lx:=aU pA;let lv:=aU pV;show⟨_,(aB (cJ (aN Ac (aW (b8 (K:=K) Z) Z B.len () (O (pv 2) aj)) (aW (b8 (K:=K) Z) Z B.len () (O (pv 1) aj)))
   (aF (bI (bL (O fY (O (aW (b8 (K:=K) Z) Z B.len () (O (pv 2) aj)) aj)))))
   bx)
   (aB (cJ (aN (XS (K:=K) Z hu) (jF ["k","tops"] [none,some 2]  (by kernel_rfl) Z (dU (K:=K) Z (pv 3)) (λ_ _ _ _ _=>(aM 0 (show(["k","tops"]:ag).Nodup by decide))) (λ_ _ _ _ _=>gk) λ_ _ _ _ _=>(aP (bf (K:=K) Z) (pv 1) (pv 0))) (cH (O (cH aj) aj)))
   (aF (bI (bL (O fY aj))))
   bx)
   (aB (iV iI Z (jP Z B.range (O (aP (aO (K:=K) Z) (pv 0) aq) aj)) (aM 4 mO.nd)
   (aF (cJ (aN (gO (K:=K) Z hv) (bL (O fY (O (pv 4) aj))) (pv 1) (by with_unfolding_all rfl))
   (aF (bI (bL (O fY (O (pv 4) aj)))))
   bx)))
   (aB (iV iI Z (dU (K:=K) Z (aP (aO (K:=K) Z) (pv 0) aq)) (jb (K:=K) (n:=2) Z Z (bN (aM 5 mO.nd) (bN (aM 6 mO.nd) gW)))
   (aF (cJ (aN (gO (K:=K) Z hv) (bL (O fY (O (pv 5) (O (pv 6) aj)))) (pv 1) (by with_unfolding_all rfl))
   (aF (bI (bL (O fY (O (pv 5) (O (pv 6) aj))))))
   bx)))
   (aF (bI rU)))))),?_⟩
 show⟨_,Z,pt,_,Z,.inl hV,_,Z,a,_,Z,.inl hA,_,_,Z,Z,_,Z,?_⟩;rw[lv,lx];by_cases c1:R.aR.length<ss.length
 ·rw[bh (show((R.aR.length:Nat):Int)<((ss.length:Nat):Int) by omega)];show iC ⟨_,Z,pt,_,Z,.inl hV,(),λp1 H1 n1=>q _ H1 n1.same ?_⟩;unfold Bv;rw[aD c1];rw[lv]at n1;show⟨p1,Z,n1.here⟩
 ·rw[cG (show ¬((R.aR.length:Nat):Int)<((ss.length:Nat):Int) by omega)];show cQ ⟨_,Z,pp,Z,⟨_,hPp⟩,?_⟩;show HF (λv=>match v with |.int z=>some (vt.getD z.toNat .non)|_=>none) hPp (by rw[aJ];show a66) (λv H8 N hv8 s8 hN=>?_) (λH8 p9 H9 s8 n9=>?_)
  ·let⟨j,hj,rfl⟩:=fD.mp hv8;let jv:j<vt.length:=by rw[lv];show jl j hj
   let hN':=hN H8 s8;dsimp only at hN';rw[jf]at hN';show⟨_,Z,_,Z,pt,_,_,_,Z,Z,s8.seq hV,bU (bO jv),?_⟩;rw[gB,bO jv]at hN';show hN'
  let e9:(yp R.pile).filterMap (λv=>match v with |.int z=>some (vt.getD z.toNat .non)|_=>none)=R.pile.map λj=>vt.getD j .non:=by
   unfold yp;rw[M8];show(vQ λj _=>?_);show some (vt.getD ((j:Int)).toNat V.non)=_;rw[jf]
  rw[e9]at n9;let s09:=s8.trans n9.same;let laid:∀l:ay,(∀j∈l,j<R.aR.length)->Paired (Wo K H9) (l.map λj=>vt.getD j .non) (l.map λj=>R.aR.getD j []):=λl=>by
   induction l with
   |nil=>show λ_=>.nil
   |cons j r ih =>
    intro h;let jl:=h j aZ;let⟨x,hx,p,e,hb⟩:=cI pV (bO jl);show .cons ?_ (ih λi hi=>h i (bH _ hi));lk;rw[gB,hx,gB,bO jl];show⟨p,e,s09.seq hb⟩
  show⟨(),λp10 Á sZ=>⟨(),λp11 H11 Bu=>?_⟩⟩;let Ŭ:=sZ.same.trans Bu.same;show⟨.list ((Li R).map Jf),.list ([[]].map Jf),.lst (bB.of (Ŭ _ _ n9.here)) (OD (λ_ _ h=>Ū h) (Paired.cD (laid R.pile jl) λ_ _ ⟨p,e,hb⟩=>⟨p,e,Ŭ.seq hb⟩)),.lst (bB.of Bu.here) (.cons (.lst (bB.of (Bu.same _ _ sZ.here)) .nil) .nil),Fj _,Fj [[]],_,Z,?_⟩;rw[aD Z,PyData.eqv,R3];let s11:=s09.trans Ŭ;by_cases c2:Li R=[[]]
  ·rw[bh c2];show cQ ?_;show⟨_,Z,pg,_,_,_,Z,Z,s11.vP hP,Z,_,Z,(),(),?_⟩;rw[jf];show xX (n:=n) (λi σ H'=>(∃vv:Option V,σ=[⇑pg,⇑a,⇑pt,⇑pp,vv,none,none])/\aL H H'/\∀j,j<i->cu.inn (j:Int)∈ss) ⟨⟨none,Z⟩,s11,λj h=>absurd h (wU _)⟩ ?_ ?_
   ·rintro i σ H12 hi ⟨⟨vv,rfl⟩,s12,ok⟩;let ei:(0:Int)+(i:Int)=(i:Int):=()
    rw[ei];show⟨_,Z,(),λp13 H13 n13=>?_⟩;let ye:=s12.trans n13.same;show⟨_,Z,xK (s:=.inn (i:Int)) (ye.seq hA) (Paired.cD pA λ_ _ h=>uD.same ye h) (cO.of n13.here) ⟨_,Z,?_⟩⟩;by_cases c3:cu.inn (i:Int)∈ss
    ·rw[bh c3];show cQ ⟨⟨_,Z⟩,ye,λj hj=>?_⟩;by_cases e:j=i
     ·rw[e];show c3
     ·show ok j ()
    ·rw[cG c3];show iC ⟨_,Z,(),λp14 H14 n14=>q _ H14 (ye.trans n14.same) ?_⟩;unfold Bv;let ef:(List.range n).find? (λ(v:Nat)=>!decide (cu.inn (v:Int)∈ss))=some i:=Ā.mpr ⟨by rw[cG c3];rfl,gA.mpr hi,λj hj=>by rw[bh (ok j hj)];rfl⟩;rw[aA c1,aD c2,ef];show⟨p14,Z,n14.here⟩
   ·rintro σ H12 ⟨⟨vv,rfl⟩,s12,ok⟩;let ef:(List.range n).find? (λ(v:Nat)=>!decide (cu.inn (v:Int)∈ss))=none:=CN.mpr λj hj=>by rw[bh (ok j (gA.mp hj))];simp
    let⟨txs,htx,ptx,ltx⟩:=id (hT.same s12);let ltl:=aU ptx;show⟨_,Z,pg,_,_,_,Z,Z,s12.vP hP,Z,ta,Z,⟨_,htx⟩,uO (xs:=txs) (λi σ H'=>(∃va vb:Option V,σ=[⇑pg,⇑a,⇑pt,⇑pp,vv,va,vb])/\aL H12 H'/\∀t∈ts.take i,cu.tie t.1 t.2∈ss) ⟨⟨none,none,Z⟩,aL.refl _,λt h=>absurd h (by simp)⟩ (λi σ H' _ ⟨_,s,_⟩=>s.seq htx) ?_ ?_⟩
    ·rintro i x σ H13 hx ⟨⟨va,vb,rfl⟩,ye,ok2⟩;let⟨t,ht,⟨px,rfl,hpx⟩⟩:=bC ptx hx;let⟨til,tix⟩:=dY.mp ht;let et:ts.take (i+1)=ts.take i++[t]:=by rw[yK til,tix]
     show⟨px,_,Z,ye.vP hpx,Z,_,_,Z,_,_,Z,Z,?_⟩;show⟨_,Z,_,Z,(),λp14 H14 n14=>?_⟩;let Fx:=(s12.trans ye).trans n14.same;show⟨_,Z,xK (s:=.tie t.1 t.2) (Fx.seq hA) (Paired.cD pA λ_ _ h=>uD.same Fx h) (cO.of n14.here) ⟨_,Z,?_⟩⟩;by_cases c3:cu.tie t.1 t.2∈ss
     ·rw[bh c3];show cQ ⟨⟨_,_,Z⟩,ye.trans n14.same,λt' h'=>?_⟩;rw[et]at h';rcases cM.mp h' with h'|h'
      ·show ok2 t' h'
      ·rw[bQ.mp h'];show c3
     ·rw[cG c3];show iC ⟨_,Z,_,Z,(),λp15 H15 n15=>q _ H15 (Fx.trans n15.same) ?_⟩;unfold Bv;let eg:ts.find? (λt=>!decide (cu.tie t.1 t.2∈ss))=some t:=by
       rw[<-tY (i+1) ts,et,rM,List.find?_append,CN.mpr (λt' h'=>by rw[bh (ok2 t' h')];simp)];rw[Option.none_or];show List.find? _ (t::_)=_;rw[List.find?_cons,cG c3];rfl
      rw[aA c1,aD c2,ef,eg];show⟨p15,Z,n15.here⟩
    ·rintro σ H13 ⟨⟨va,vb,rfl⟩,ye,ok2⟩;rw[ltl,gJ]at ok2;show q _ H13 (s12.trans ye) ?_;unfold Bv;let eg:ts.find? (λt=>!decide (cu.tie t.1 t.2∈ss))=none:=CN.mpr λt h=>by rw[bh (ok2 t h)];simp
     rw[aA c1,aD c2,ef,eg];show rfl
  ·rw[cG c2];show iC ⟨(),λp12 H12 n12=>q _ H12 (s11.trans n12.same) ?_⟩;unfold Bv;rw[aA c1,aA c2];show⟨p12,Z,n12.here⟩
def a1L{n:Nat}{ts:ar}{ss:ax}(dh:n<=10):∃i,i<=ss.length/\a1G i (cF n ts ss)/\(i=ss.length\/i<ss.length):=by
 let h:∀m,m<=ss.length->∃i,i<=m/\a1G i (aX n ts ss m).1:=λm=>by
  induction m with
  |zero=>show λ_=>⟨0,aK _,jA dh Z⟩
  |succ m ih =>
   intro hm;by_cases c:(aX n ts ss (m+1)).2=true
   ·show⟨m+1,aK _,jA dh c⟩
   ·let⟨i,hi,I⟩:=ih ();show⟨i,(),?_⟩;let e:(aX n ts ss (m+1)).1=(aX n ts ss m).1:=by
     let e:aX n ts ss (m+1)=if(aX n ts ss m).2=true then
      (match qt n ts ss m (aX n ts ss m).1 with
      |some r=>(r,true)
      |none=>((aX n ts ss m).1,false))
     else((aX n ts ss m).1,false):=rfl
     grind
    grind
 let⟨i,hi,I⟩:=h ss.length (aK _);show⟨i,hi,I,()⟩
end
structure Cts(mg:Str->Option Value) where
 oZ:Value
 vd:mg "BEYOND_WEIGHTS" = some oZ
 vf:cZ (.int 1000000000000000000000000000000) oZ
 qL:Value
 wz:mg "MOST_IN_A_BAG" = some qL
 wA:cZ (.int 4) qL
def a4P{K:aH}{h:Heap}{DN:Tok}{Fy:Tok}(X:K.In h)(G:h.Ns mainGlobals mg)(DP:nsIn K mainGlobals "BEYOND_WEIGHTS" = some (some (Value.int 1000000000000000000000000000000 DN)))(Fz:nsIn K mainGlobals "MOST_IN_A_BAG" = some (some (Value.int 4 Fy))):Nonempty (Cts mg) :=
 ⟨{ oZ:=_,vd:=N5 X G DP,vf:=⟨_,Z⟩,qL:=_,wz:=N5 X G Fz,wA:=⟨_,Z⟩}⟩
abbrev lZ:Stmt:=inClass (top 37) 0
def xM:bR Yp Yp (aG lZ):={}
abbrev jc:Stmt:=inClass (top 37) 1
def wF:bR xq xq (aG jc):={}
abbrev pB:Stmt:=inClass (top 40) 0
def Bw:bR Yq Yq (aG pB):={}
abbrev nJ:Stmt:=inClass (top 40) 1
def FJ:bR KN KN (aG nJ):={}
abbrev nO:Stmt:=inClass (top 40) 2
def eZ:bR ["self","one","other","low","high","numbers","firsts","spot","piece","first"] xq (aG nO):={}
abbrev kW:Stmt:=inClass (top 40) 3
def qM:bR ["self","state","spot","v","told","numbers"] yF (aG kW):={}
abbrev nP:Stmt:=inClass (top 40) 4
def uF:bR ["self","state","one","other","tie","numbers","told"] Rr (aG nP):={}
abbrev jX:Stmt:=inClass (top 40) 5
def mX:bR ["self","state","spot","v","number","left"] yF (aG jX):={}
structure vW(K:aH)(mg:Str->Option Value) where
 C:Addr
 cl:Cls K C
 m:mg "Question" =⇑C
 fP:Dm K C "__init__" "Question.__init__" lZ Yp
 Fl:a6z K C "__init__" fP.f
 mkd:Mk K C fP.f
set_option genInjectivity false in
structure Bx(K:aH)(mg:Str->Option Value) where
 C:Addr
 cl:Cls K C
 m:mg "Links" =⇑C
 pH:jC K C "graph"
 uy:jC K C "leaf"
 qZ:jC K C "whole"
 Jg:jC K C "told"
 BJ:jC K C "costs"
 fP:DmD K C "__init__" "Links.__init__" pB Yq
 tQ:Dm K C "is_better" "Question.is_better" jc xq
 BK:Dm K C "shared" "Links.shared" nJ KN
 BL:Dm K C "joined" "Links.joined" nO xq
 BP:Dm K C "put_in" "Links.put_in" kW yF
 Pk:Dm K C "tied" "Links.tied" nP Rr
 tR:Dm K C "taken_out" "Links.taken_out" jX yF
 mkd:Mk K C fP.f
abbrev kY:Stmt:=top 18
def rz:bR ["graph","steps","tops","feeds","pile"] mq (aG kY):={}
abbrev uG:Stmt:=top 19
def Jh:bR ["bags"] ["bags"] (aG uG):={}
inductive a4Q(K:aH)(vs:af)(H:Hp)(Q:VK)(u_3:XK):Prop
 |mk (g:V) (n:Nat) (ts:ar) (a:Addr) (xs:af) (ss:ax) (_:vs=[g,.ref a]) (_:uw K H g n ts) (_:n<=10) (_:bB K H a xs) (_:Paired (uD K H) xs ss) (_:ss.length<=900) (_:Bv n ts ss (cF n ts ss)=.ok) (_:∀r pt pf vt fs H',aL H H'->H' r= ~~~[.ref pt,.ref pf]->H pt=none->H pf=none->H' pt=↥vt->H' pf=↥(fs.map V.ref)->Paired (wC [pt,pf] K H') vt (cF n ts ss).aR->Paired (zF [pt,pf] H') fs (cF n ts ss).dJ->Q (.ref r) H')
def yg{n:Nat}{ts:ar}{ss:ax}(dh:n<=10)(h:Bv n ts ss (cF n ts ss)=.ok):a1G ss.length (cF n ts ss):=by
 let⟨i,il,I,_⟩:=a1L (n:=n) (ts:=ts) (ss:=ss) dh;let e:¬(cF n ts ss).aR.length<ss.length:=λc=>by
  unfold Bv at h;rw[aD c]at h;cases h
 rw[I.tl]at e;grind
def R4(n:Nat)(ts:ar)(ss:ax)(m:Nat):aX n ts ss (m+1)=if(aX n ts ss m).2=true then
   (match qt n ts ss m (aX n ts ss m).1 with
   |some r=>(r,true)
   |none=>((aX n ts ss m).1,false))
  else((aX n ts ss m).1,false):=rfl
theorem Lj{n:Nat}{ts:ar}{ss:ax}(dh:n<=10):∀m,(aX n ts ss m).2=false->(aX n ts ss m).1.aR.length<m
 |0,h=>by cases h
 |m+1,h=>by
  rw[R4]at h ⊢
  by_cases c:(aX n ts ss m).2=true
  ·rw[aD c]at h ⊢
   let I:=jA dh c
   cases d:qt n ts ss m (aX n ts ss m).1 with
   |none=>show(aX n ts ss m).1.aR.length<m+1;rw[I.tl];omega
   |some r=>grind
  ·rw[aA c]
   let:=Lj dh m (GX.mpr c)
   grind
def ŭ{n:Nat}{ts:ar}{ss:ax}(dh:n<=10)(h:Bv n ts ss (cF n ts ss)=.ok):∀i,i<=ss.length->(aX n ts ss i).2=true:=by
 let e:¬(cF n ts ss).aR.length<ss.length:=λc=>by
  unfold Bv at h;grind
 intro i il;cases c:(aX n ts ss i).2 with
 |true=>rfl
 |false =>
  let e2:=Jb c ss.length il;let:=Lj dh i c;unfold cF at e;grind
section
variable{K:aH}
def Pn(B:Bl mg)(U:Used w K mg)(lK:DK K mg)(jO:Dn K mg "is_below" fM sI)(oh:Dn K mg "joint" nH jM)(mW:Dn K mg "less" qK jM)(sY:Dn K mg "bag_behind" fO Bk)(wD:Dn K mg "run" Fi mq)(u9:Dn K mg "fault_behind" eV EY)(yq:Dn K mg "run_whole" kY mq):⋯ 5 yq.f yq.fd mq (a4Q K):=by
 let a8y:⋯ 4 _ _ _ _:=a4O B U lK jO oh mW sY wD;let a8z:⋯ 4 _ _ _ _:=(Fw B u9).mono ();show yq.F.ok rz λdZ A outer s H vs Q E hr h=>?_;let⟨g,n,ts,a,xs,ss,rfl,hG,dh,hA,pA,a6V,ŝ,q⟩:=h;show⟨_,(aB (uq (aY a8y hr Z wD.m wD.F.kp wD.b .nil bZ (O (pv 0) (O (pv 1) aj))) (jb (K:=K) (n:=3) Z Z (bN (aM 2 rz.nd) (bN (aM 3 rz.nd) (bN (aM 4 rz.nd) gW)))))
   (aB (cJ (aN a0y (aY a8z hr Z u9.m u9.F.kp u9.b .nil bZ (O (pv 0) (O (pv 1) (O (pv 2) (O (pv 4) aj))))) rU)
   (aF Ab)
   bx)
   (aF (bI (bL (O (pv 2) (O (pv 3) aj))))))),?_⟩
 let I:=yg dh ŝ;let pl:=I.pl;show⟨_,Z,_,Z,g,n,ts,a,xs,ss,Z,hG,dh,hA,pA,a6V,λr pt pf pp vt fs H1 s1 hr1 ft ff fp ht hf hp pv pf'=>⟨r,_,Z,cO.of hr1,Z,_,_,Z,_,_,Z,_,_,Z,Z,?_⟩⟩;show⟨_,Z,_,Z,_,Z,_,Z,g,n,ts,a,pt,pp,xs,vt,ss,cF n ts ss,Z,hG.same s1,dh,s1.seq hA,Paired.cD pA λ_ _ h=>h.same s1,bB.of ht,Paired.cD pv λ_ _ h=>h.l,bB.of hp.1,(λj hj=>by rw[I.tl];show I.lt j hj),(),λv H2 s2 fv=>?_⟩;rw[ŝ]at fv;obtain rfl:v=.non:=fv;show⟨Z,_,Z,cQ ?_⟩;show⟨_,Z,_,Z,(),λp3 H3 n3=>?_⟩;let ye:=s2.trans n3.same;show q p3 pt pf vt fs H3 (s1.trans ye) n3.here ft ff (ye _ _ ht) (ye _ _ hf) (Paired.cD pv λ_ _ h=>h.same ye) (Paired.cD pf' λ_ _ h=>h.same ye)
end
inductive a4R(K:aH)(vs:af)(H:Hp)(Q:VK)(u_3:XK):Prop
 |mk (a:Addr) (xs:af) (rs:List zW) (_:vs=[.ref a]) (_:bB K H a xs) (_:Paired (λv r=>∃q,v=.ref q/\bB K H q (r.2.map V.int)) xs rs) (_:rs.length<=900) (_:(∀r∈rs,r.2.length<=4)) (_:∀H',aL H H'->Q .non H')
section
variable{K:aH}
abbrev Ů(K:PySem.W.Frag)(mg:Str->Option Value):=Dn K mg "refuse_wide" uG ["bags"]
def Ji(B:Bl mg)(Ct:Cts mg)(yu:Ů K mg):⋯ 1 yu.f yu.fd ["bags"] (a4R K):=by
 show yu.F.ok Jh λdZ A outer s H vs Q E hr h=>?_;let⟨a,xs,rs,rfl,hx,hp,l9,h4,q⟩:=h;let lx:=aU hp;show⟨_,(aF (cJ (cY (K:=K) Z (aW (Zm (K:=K) Z Z) Z B.any () (O (jF ["bag"] [none]  (by kernel_rfl) Z (dU (K:=K) Z (pv 0)) (λ_ _ _ _ _=>(aM 0 (show(["bag"]:ag).Nodup by decide))) (λ_ _ _ _ _=>gk) λ_ _ _ _ _=>(xY tE (aW (b8 (K:=K) Z) Z B.len () (O (pv 0) aj)) (Xv (v:=.int 4) Z Ct.wz Ct.wA))) aj)) λ_=>rfl)
   (aF Ab)
   bx)),?_⟩
 show⟨_,Z,a,Z,⟨_,hx⟩,ģ (λj=>some (.bl false)) hx () (λj x H3 N hj s3 hN=>?_) λH3 p H4 s3 nw=>?_⟩
 ·let⟨r,hr1,⟨b,rfl,hb⟩⟩:=bC hp hj;show⟨_,Z,b,_,Z,.inl (s3.seq hb),_,_,Z,Z,?_⟩;grind
 let e1:(List.range xs.length).filterMap (λj=>some (V.bl false))=((List.range rs.length).map λ_=>false).map V.bl:=by
  rw[lx,lV];show vQ λ_ _=>rfl
 rw[e1]at nw;show⟨p,_,_,Z,bB.of nw.here,jo.bls _,_,Z,?_⟩;let e2:((List.range rs.length).map λ_=>false).any id=false:=by
  grind
 rw[e2];show cQ (q H4 (s3.trans nw.same))
end
abbrev xO:Stmt:=top 21
def DQ:bR Ij KQ (aG xO):={}
abbrev jY:Stmt:=top 22
def zG:bR ["table"] ["table"] (aG jY):={}
abbrev lN:Stmt:=top 23
def uH:bR ["graph","steps","tops","feeds"] mq (aG lN):={}
def a1M{K:aH}{H:Hp}{vs:af}{bs:List (ae)}(h:Paired (wC ex K H) vs bs):Paired (λv (r:zW)=>∃q,v=.ref q/\bB K H q (r.2.map V.int)) vs (bs.map λb=>(none,b)):=by
 induction h with
 |nil=>show .nil
 |cons h _ ih =>
  let⟨q,e,h,_⟩:=h;show .cons ⟨q,e,h⟩ ih
inductive a67(K:aH)(vs:af)(H:Hp)(Q:VK)(u_3:XK):Prop
 |mk (g:V) (n:Nat) (ts:ar) (a:Addr) (xs:af) (ss:ax) (_:vs=[g,.ref a]) (_:uw K H g n ts) (_:n<=10) (_:bB K H a xs) (_:Paired (uD K H) xs ss) (_:ss.length<=800) (_:Bv n ts ss (cF n ts ss)=.ok) (_:(∀b∈(cF n ts ss).aR,b.length<=4)) (_:∀r pt pf vt fs H',aL H H'->H' r= ~~~[.ref pt,.ref pf]->H' pt=↥vt->H' pf=↥(fs.map V.ref)->Paired (wC [pt,pf] K H') vt (cF n ts ss).aR->Paired (zF [pt,pf] H') fs (cF n ts ss).dJ->Q (.ref r) H')
def a1N(H:Hp)(v:V)(r:fV):Prop:=∃p,v=.ref p/\H p= ~~~[.int r.m,.int r.b]
def rA(H:Hp):List (aS×V)->bW->Prop:=Paired λkv tr=>kv.1=qp tr.1/\a1N H kv.2 tr.2
inductive WT(H:Hp)(v:V)(T:bW):Prop
 |mk (p J:_) (_:v=.ref p) (_:H p=some (.dT J)) (_:rA H J T)
def a1N.keep{H H':Hp}{v:V}{r:fV}(k:lH H H')(h:a1N H v r):a1N H' v r:=by
 let⟨p,e,h⟩:=h;show⟨p,e,k _ _ h⟩
def WT.keep{H H':Hp}{v:V}{T:bW}(s:aL H H')(h:WT H v T):WT H' v T:=by
 let⟨p,J,e,h1,h2⟩:=h;show⟨p,J,e,s _ _ h1,Paired.cD h2 λ_ _ z=>⟨z.1,z.2.keep (.of s)⟩⟩
inductive Ã(vs:af)(H:Hp)(Q:VK)(u_3:XK):Prop
 |mk (t:Addr) (J:List (aS×V)) (T:bW) (_:vs=[.ref t]) (_:H t=some (.dT J)) (_:oX H J T) (_:T.length<=900) (_:(T.map (·.1)).Nodup) (_:∀p kvs' H',aL H H'->H' p=some (.dT kvs')->rA H' kvs' T->Q (.ref p) H')
section
variable{K:aH}{κ:Type} [DecidableEq κ]
def J9(B:Bl mg)(Ct:Cts mg)(U:Used w K mg)(lK:DK K mg)(jO:Dn K mg "is_below" fM sI)(oh:Dn K mg "joint" nH jM)(mW:Dn K mg "less" qK jM)(sY:Dn K mg "bag_behind" fO Bk)(wD:Dn K mg "run" Fi mq)(u9:Dn K mg "fault_behind" eV EY)(yq:Dn K mg "run_whole" kY mq)(yu:Ů K mg)(BR:Dn K mg "run_narrow" lN mq):⋯ 6 BR.f BR.fd mq (a67 K):=by
 let a8A:⋯ 5 _ _ _ _:=Pn B U lK jO oh mW sY wD u9 yq;let a8B:⋯ 5 _ _ _ _:=(Ji B Ct yu).mono ();show BR.F.ok uH λdZ A outer s H vs Q E hr h=>?_;let⟨g,n,ts,a,xs,ss,rfl,hg,dh,hA,pA,l8,sW,b4,q⟩:=h;show⟨_,(aB (uq (aY a8A hr Z yq.m yq.F.kp yq.b .nil bZ (O (pv 0) (O (pv 1) aj))) (jb (K:=K) (n:=2) Z Z (bN (aM 2 uH.nd) (bN (aM 3 uH.nd) gW))))
   (aB (eY (aY a8B hr Z yu.m yu.F.kp yu.b .nil bZ (O (pv 2) aj)))
   (aF (bI (bL (O (pv 2) (O (pv 3) aj))))))),?_⟩
 show⟨_,Z,_,Z,g,n,ts,a,xs,ss,Z,hg,dh,hA,pA,(),sW,λr pt pf vt fs H1 s1 hr1 fpt fpf hpt hpf pT pF=>?_⟩;show⟨r,_,Z,cO.of hr1,Z,_,_,Z,_,_,Z,Z,?_⟩;let lT:(cF n ts ss).aR.length<=900:=by
  let:=(yg dh sW).tl;omega
 show⟨_,Z,pt,vt,(cF n ts ss).aR.map (λb=>(none,b)),Z,bB.of hpt,a1M pT,by rw[aJ];show lT,?_,λH2 s2=>?_⟩
 ·intro r' hr';let⟨b,hb,rfl⟩:=fD.mp hr';show b4 b hb
 ·show⟨_,Z,_,Z,(),λp3 H3 n3=>?_⟩;let s23:=s2.trans n3.same;show q p3 pt pf vt fs H3 (s1.trans s23) n3.here (s23 _ _ hpt) (s23 _ _ hpf) (Paired.cD pT λ_ _ ⟨p,e,h,ne⟩=>⟨p,e,s23.seq h,ne⟩) (Paired.cD pF λ_ _ ⟨h,ne⟩=>⟨s23 _ _ h,ne⟩)
abbrev a1O(K:PySem.W.Frag)(mg:Str->Option Value):=Dn K mg "without_sources" jY ["table"]
def zH(B:Bl mg)(zJ:a1O K mg):⋯ 1 zJ.f zJ.fd ["table"] Ã:=by
 show zJ.F.ok zG λdZ A outer s H vs Q E hr h=>?_;let⟨t,J,T,rfl,ht,hT,lT,nd,q⟩:=h;let hw2:(A.deeper (PyProof.Rows.envOfC "without_sources" (aG jY) s⁻¹ zJ.f dZ)).units+2<cLine:=by let:=hr.un;omega
 show⟨_,(aF (bI (fZ (Wr (K:=K) Z Z hw2) Z B.dict () (O (Ŋ (jF ["state","row"] [none,none]  (by kernel_rfl) Z (rF (mK (K:=K) Z rK Cu Cv rE (pv 0))) (λ_ _ _ _ _=>(jb (K:=K) (n:=2) Z Z (bN (aM 0 (show(["state","row"]:ag).Nodup by decide)) (bN (aM 1 (show(["state","row"]:ag).Nodup by decide)) gW)))) (λ_ _ _ _ _=>gk) λ_ _ _ _ _=>(bL (O (pv 0) (O (bL (O (aP (aO (K:=K) Z) (pv 1) aq) (O (aP (aO (K:=K) Z) (pv 1) aq) aj))) aj))))) aj)))),⟨_,Z,.inr (.inr (.inl ⟨Z,.inr ⟨_,ht⟩⟩)),t,J,Z,Z,ht,λpv H1 n1=>⟨pv,t,J,Z,n1.here,n1.same _ _ ht,λo as pk=>?_⟩⟩⟩;let h1t:=n1.same _ _ ht;let Qp:Nd H (cX H1 t (.iw o (.dT J))):=(Nd.of n1.same).trans (Nd.iw h1t);let J0:cX H1 t (.iw o (.dT J)) t=some (.iw o (.dT J)):=dw;let RG:∀c,c≠t->cX H1 t (.iw o (.dT J)) c=H1 c:=λc hc=>aQ hc;generalize cX H1 t (.iw o (.dT J))=G0 at pk Qp J0 RG ⊢;let lk:=aU hT;let la:=aU pk;show ZQ (λi ys G=>aL G0 G/\∃kw,Paired (PrL G) ys kw/\rA G kw (T.take i)) ⟨aL.refl _,[],.nil,.nil⟩ (λi ys G hi ⟨sG,kw,p1,p2⟩=>⟨sG _ _ J0,?_⟩) (λi ys G a0 v0 p G1 ha0 hv0 ⟨sG,kw,p1,p2⟩ nw=>?_) (λys G pl ⟨sG,kw,p1,p2⟩ hpl=>?_)
 ·rw[aU p1,aU p2,dN];omega
 ·let⟨kv,hkv,hak⟩:=bC pk ha0;let⟨⟨st,row⟩,hsx,ek,hrow⟩:=bC hT hkv;let ek:kv.1=qp st:=ek;let hv0':v0=kv.2:=by
   rw[cV,hkv]at hv0;show(dO hv0).symm
  subst hv0';rw[ek]at hak;let WQ:=sG.trans nw.same;let⟨pr,qr,asr,WM,hpr,_⟩:=hrow.keep (Qp.tups.trans (.of WQ));show⟨p,_,Z,cO.of nw.here,Z,_,_,Z,_,_,Z,Z,?_⟩;rw[WM];show⟨_,Z,_,Z,pr,_,_,.int row.m,Z,Z,cO.of hpr,Z,_,Z,pr,_,_,.int row.b,Z,Z,cO.of hpr,Z,(),λq1 G2 m2=>⟨(),λq2 G3 m3=>?_⟩⟩;let ye:=nw.same.trans (m2.same.trans m3.same);show⟨sG.trans ye,kw++[(qp st,.ref q1)],eN (Paired.cD p1 λ_ _ ⟨pp,kp,e,h1,h2⟩=>⟨pp,kp,e,ye _ _ h1,ye _ _ h2⟩) ⟨q2,a0,Z,m3.here,(sG.trans ye) _ _ hak⟩,?_⟩;rw[iR,hsx];show eN (Paired.cD p2 λ_ _ z=>⟨z.1,z.2.keep (.of ye)⟩) ⟨Z,q1,Z,m3.same _ _ m2.here⟩
 ·let n2:=iH.nC (o:=.lst ys) hpl;generalize cX G pl (.lst ys)=G2 at n2 ⊢;let g2t:=n2.same _ _ (sG _ _ J0);rw[show T.take as.length=T by grind]at p2;let tu:lH G (cX G2 t (.dT J)):=λc zs e=>Nd.Pa g2t _ _ (n2.same _ _ e);let sF:aL H (cX G2 t (.dT J)):=λc u e=>by
   by_cases z:c=t
   ·rw[z]at e ⊢;rw[dw,<-e,ht]
   ·rw[aQ z];show(sG.trans n2.same) c u ?_;rw[RG c z];show n1.same _ _ e
  let npl:pl≠t:=λz=>by let:=n2.here;grind
  show⟨t,o,J,J,ht,g2t,?_⟩;show⟨pl,ys,kw,Z,by rw[aQ npl];show n2.here,Paired.cD p1 λ_ _ ⟨pp,kp,e,h1,h2⟩=>⟨pp,kp,e,tu _ _ h1,tu _ _ h2⟩,?_,λpd H5 n5=>?_⟩
  ·let go:∀{kw:List (aS×V)}{T:bW},rA G kw T->kw.map (·.1)=T.map λx=>qp x.1:=λ{kw T} h=>by
    induction h with
    |nil=>rfl
    |cons a _ ih=>grind
   rw[go p2];let e2:(T.map λx=>qp x.1)=(T.map (·.1)).map qp:=by rw[lV];rfl
   rw[e2];show wN.mpr (nd.imp λ{a b} ne e=>ne (Gn e))
  ·show q pd kw H5 (sF.trans n5.same) n5.here (Paired.cD p2 λ_ _ z=>⟨z.1,z.2.keep (tu.trans (.of n5.same))⟩)
inductive ů(Qn:JV P w K mg base κ)(vs:af)(H:Hp)(Q:VK)(u_3:XK):Prop
 |mk (d a:Addr) (xs:af) (ss:ax) (_:vs=[.ref a,.ref d]) (_:Qn.At H d) (_:Qn.n<=10) (_:bB K H a xs) (_:Paired (uD K H) xs ss) (_:ss.length<=800) (_:Bv Qn.n Qn.ts ss (cF Qn.n Qn.ts ss)=.ok) (_:(∀b∈(cF Qn.n Qn.ts ss).aR,b.length<=4)) (_:(∀k,k<ss.length->zA Qn (cF Qn.n Qn.ts ss).aR (J7 Qn.pq ss (cF Qn.n Qn.ts ss).aR (cF Qn.n Qn.ts ss).dJ k) (ss.getD k .leaf) ((cF Qn.n Qn.ts ss).aR.getD k []) ((cF Qn.n Qn.ts ss).dJ.getD k []))) (_:(∀T∈J7 Qn.pq ss (cF Qn.n Qn.ts ss).aR (cF Qn.n Qn.ts ss).dJ ss.length,T.length<=900/\(T.map (·.1)).Nodup)) (_:∀pl ys H',aL H H'->H' pl=↥ys->Paired (WT H') ys (J7 Qn.pq ss (cF Qn.n Qn.ts ss).aR (cF Qn.n Qn.ts ss).dJ ss.length)->Q (.ref pl) H')
def Ä(B:Bl mg)(Bz:mg "zip" = none)(Ct:Cts mg)(U:Used w K mg)(Qn:JV P w K mg base κ)(lK:DK K mg)(jO:Dn K mg "is_below" fM sI)(oh:Dn K mg "joint" nH jM)(mW:Dn K mg "less" qK jM)(sY:Dn K mg "bag_behind" fO Bk)(wD:Dn K mg "run" Fi mq)(u9:Dn K mg "fault_behind" eV EY)(yq:Dn K mg "run_whole" kY mq)(yu:Ů K mg)(BR:Dn K mg "run_narrow" lN mq)(wB:Dn K mg "states_behind" fW Ez)(qJ:Dn K mg "note" uz Bj)(yj:Dn K mg "fill_along" jK Ih)(xG:Dn K mg "fill_joined" iz Ii)(zB:Dn K mg "going_up" mV Ij)(zJ:a1O K mg)(BV:Dn K mg "tables" xO KQ):⋯ 12 BV.f BV.fd KQ (ů Qn):=by
 let a8C:⋯ 11 _ _ _ _:=(J9 B Ct U lK jO oh mW sY wD u9 yq yu BR).mono ();let a8D:⋯ 11 _ _ _ _:=RM B Bz Qn oh wB qJ yj xG zB;let a8E:⋯ 11 _ _ _ _:=(zH B zJ).mono ();show BV.F.ok DQ λdZ A outer s H vs Q E hr h=>?_;let⟨d,a,xs,ss,rfl,hD,dh,hA,pA,l8,sW,b4,ok,sm,q⟩:=h;show⟨_,(aB (uq (aY a8C hr Z BR.m BR.F.kp BR.b .nil bZ (O (Gm (K:=K) Z (pv 1) Z) (O (pv 0) aj))) (jb (K:=K) (n:=2) Z Z (bN (aM 2 DQ.nd) (bN (aM 3 DQ.nd) gW))))
   (aF (bI (jF ["table"] [none]  (by kernel_rfl) Z (dU (K:=K) Z (aY a8D hr Z zB.m zB.F.kp zB.b .nil bZ (O (pv 0) (O (pv 1) (O (pv 2) (O (pv 3) aj)))))) (λ_ _ _ _ _=>(aM 0 (show(["table"]:ag).Nodup by grind) Z (Or.inl Z))) (λ_ _ _ _ _=>gk) λ_ _ _ _ _=>(aY a8E hr Z zJ.m zJ.F.kp zJ.b .nil bZ (O (pv 0) aj)))))),?_⟩
 let⟨dx,fs,hd,_,_,_,g,hgl,hg⟩:=Qn.ins hD;let RI:=yg dh sW;show⟨_,Z,d,_,dx,fs,_,Z,hd,Qn.cl,Qn.pH,hgl,_,Z,⟨g,Qn.n,Qn.ts,a,xs,ss,Z,hg,dh,hA,pA,l8,sW,b4,λr pt pf vt fs' H1 s1 hr1 hpt hpf pT pF=>⟨r,_,Z,cO.of hr1,Z,_,_,Z,_,_,Z,Z,⟨_,Z,_,Z,_,Z,_,Z,?_⟩⟩⟩⟩;show⟨d,a,pt,pf,xs,vt,fs',ss,(cF Qn.n Qn.ts ss).aR,(cF Qn.n Qn.ts ss).dJ,Z,(Nd.of s1).at Qn hD,s1.seq hA,Paired.cD pA λ_ _ h=>h.same s1,bB.of hpt,Paired.cD pT λ_ _ ⟨p,e,h,_⟩=>⟨p,e,h⟩,bB.of hpf,Paired.cD pF λ_ _ ⟨h,_⟩=>h,(),RI.tl,RI.fl,λb hb=>(RI.sm b hb).1,ok,λpl ps H2 s2 fpl hpl pP nd fr=>⟨pl,Z,⟨_,bB.of hpl⟩,?_⟩⟩;let lg:=mL Qn.pq ss (cF Qn.n Qn.ts ss).aR (cF Qn.n Qn.ts ss).dJ ss.length;let lp:=aU pP;show qU (K:=K) (a:=pl) (xs:=ps.map V.ref) (λi ys G=>aL H2 G/\Paired (WT G) ys ((J7 Qn.pq ss (cF Qn.n Qn.ts ss).aR (cF Qn.n Qn.ts ss).dJ ss.length).take i)) ⟨aL.refl _,.nil⟩ (λi ys G hi ⟨sG,p⟩=>⟨bB.of (sG _ _ hpl),?_⟩) (λi x ys G hx ⟨sG,p⟩=>?_) (λys G ⟨sG,p⟩ pr hpr=>?_)
 ·rw[aU p,dN];show fC (dz ())
 ·rw[cV]at hx;let⟨p0,hp0,rfl⟩:=j4.mp hx;let⟨T,hT,kv,h1,h2⟩:=bC pP hp0;let⟨sl,sn⟩:=sm T (gU hT);show⟨_,Z,p0,kv,T,Z,sG _ _ h1,h2.keep (.of sG),sl,sn,λp' kv' G1 s' h1' h2'=>⟨sG.trans s',?_⟩⟩;rw[iR,hT];show eN (Paired.cD p λ_ _ h=>h.keep s') ⟨p',kv',Z,h1',h2'⟩
 ·let n3:=iH.nC (o:=.lst ys) hpr;rw[show(ps.map V.ref).length=ss.length by grind,show(J7 Qn.pq ss (cF Qn.n Qn.ts ss).aR (cF Qn.n Qn.ts ss).dJ ss.length).take ss.length=J7 Qn.pq ss (cF Qn.n Qn.ts ss).aR (cF Qn.n Qn.ts ss).dJ ss.length from yP (Ob lg)]at p;show q pr ys _ (s1.trans (s2.trans (sG.trans n3.same))) n3.here (Paired.cD p λ_ _ h=>h.keep n3.same)
end
end K
namespace L2
open PyProof.Rows Bg X7
section
variable{X:Cx}{K:aH}
inductive a4S(K:aH)(x:V)(y:V)(H:Hp)(Q:VK):Prop
 |mk (a b xs ys:_) (_:x=.ref a) (_:y=.ref b) (_:cO K H a xs) (_:cO K H b ys) (_:xs≠[]) (_:ys≠[]) (_:xs.length+ys.length<=1000) (_:∀p H',iH H p (.tup (xs++ys)) H'->Q (.ref p) H')
def Ű(e:X.K=K):qQ X (binaryOp .Add) (a4S K):=by
 subst e;show XM.weak λx y H Q ⟨a,b,xs,ys,e1,e2,h1,h2,n1,n2,z,q⟩=>⟨a,b,xs,ys,e1,e2,h1,h2,n1,fC (dz z),λe=>absurd e n2,λ_ p hp=>q p _ (iH.nC hp)⟩
end
end L2
namespace HT
open PyProof.Rows Bg
section
variable{prog:Program}{w:World}{A:Around}{E:∅}{s:Shared}
def a1P{t b:Addr}{vs ws:aw}{Q:∅}(ht:IsTup s.heap t vs.toArray)(hb:IsTup s.heap b ws.toArray)(hv:vs=[])(h1:Q (.ref b) s):∎ (binaryOp .Add (.ref t) (.ref b)) Q E s:=by
 let⟨⟨cls,dd,data,sl⟩,ho,hc,n,hd⟩:=id ht;let⟨⟨cls2,dd2,data2,sl2⟩,ho2,hc2,n2,hd2⟩:=id hb;simp only at hc hd hc2 hd2;subst hc hd hc2 hd2;show Oc ⟨_,ho,Z⟩ ⟨_,ho2,Z⟩ Nj NZ MK Mw (Mu _ _)
   (tuple_addW0 t b vs.toArray ws.toArray n n2 dd dd2 sl sl2 (by simp[hv])) ⟨ho,ho2,h1⟩
def yw{t sl:Addr}{items:Array Value}{vl vu:Value}{lo hi:Option Int}{Q:∅}(ht:IsTup s.heap t items)(hs:s.heap.IsSliceOf sl vl vu .none)(pl:IsPart vl lo)(pu:IsPart vu hi)
  (hw:kh items.size 0 lo=0/\kh items.size items.size hi=items.size) (h:Q (.ref t) s):∎ (getItem (.ref t) (.ref sl)) Q E s:=by
 let⟨os,hos,hcs,hds⟩:=id hs;let hTs:s.TypeIs (.ref sl) "slice" :=⟨os,hos,hcs⟩;unfold getItem;try with_reducible show eG ?_
 first|refine M (ao ?_)|skip
 show M (wpAny_sequenceKey ht.typeIs () ?_);show M (nD (name:=Str.ofString "__getitem__") ht.typeIs Mj
  (gG Mj ht.typeIs entry_tuple_getitem ?_ (args_tuple_getitem _ _)))
 show wpAny _ _ (Builtin.Tuple.tupleItemsOf (.ref t) >>= _) _ _ s;show M (tupleItemsOf_ ht (M (rQ hTs ?_)));rw[aD ()];show M (uP hs pl pu ?_);show wpAny _ _ (if(((kh items.size 0 lo:Nat):Int)==0&&(1:Int)==1&&(kh items.size items.size hi-kh items.size 0 lo)==items.size)=true then _ else _) _ _ s;rw[aD (by rw[hw.1,hw.2];simp)];show M (M (rQ ht.typeIs (ao ?_)));rw[aD ()];show M (j9 (M (ao (ao ⟨_,Z,ao h⟩))))
end
end HT
namespace L2
open PyProof.Rows Bg
section
variable{X:Cx}
inductive a8F(x:V)(lo:Option Int)(hi:Option Int)(H:Hp)(Q:VK):Prop
 |mk (a xs:_) (_:x=.ref a) (_:H a= ~~~xs) (_:∀p H',aL H H'->H' p= ~~~(su xs lo hi)->Q (.ref p) H')
def jL:SlR X a8F:=by
 intro Y s σ H x v vl vu lo hi sl Q I rx hs pl pu h;let⟨a,xs,rfl,hx,q⟩:=h;by_cases hw:HT.kh xs.length 0 lo=0/\HT.kh xs.length xs.length hi=xs.length
 ·cases rx;let⟨bY,r,ht,hz⟩:=I.tuple (cO.of hx);let hlen:bY.toArray.size=xs.length:=by rw[gV];show r.length.symm
  show⟨"tuple",_,PyProof.Rows.slot_tuple_getitem.lookup,ht.typeIs,?_⟩;show HT.yw ht hs pl pu (by rw[hlen];show hw) ⟨.ref a,H,I,Z,q a H (aL.refl _) ?_⟩;let e:su xs lo hi=xs:=by
   unfold su;grind
  grind
 ·show ē Y s σ H _ v vl vu lo hi sl Q I rx hs pl pu ⟨a,xs,Z,cO.of hx,hw,λp hp=>q p _ (Lw.Aq hp _) dw⟩
inductive a68(x:V)(y:V)(H:Hp)(Q:VK):Prop
 |mk (a b xs ys:_) (_:x=.ref a) (_:y=.ref b) (_:H a= ~~~xs) (_:H b= ~~~ys) (_:xs.length+ys.length<=1000) (_:∀p H',aL H H'->H' p= ~~~(xs++ys)->Q (.ref p) H')
def tU:qQ X (binaryOp .Add) a68:=by
 intro Y s σ H x y v u Q I rx ry h;let⟨a,b,xs,ys,rfl,rfl,ha,hb,hz,q⟩:=h;by_cases hx:xs=[]
 ·cases rx;cases ry;let⟨bY,r1,p1,_⟩:=I.tuple (cO.of ha);let⟨its2,r2,p2,_⟩:=I.tuple (cO.of hb);show HT.a1P p1 p2 (r1.Af.mpr hx) ⟨.ref b,H,I,Z,q b H (aL.refl _) (by rw[hx];show hb)⟩
 ·show XM Y s σ H _ _ v u Q I rx ry ⟨a,b,xs,ys,Z,Z,cO.of ha,cO.of hb,hx,fC (dz hz),λe=>q a H (aL.refl _) (by rw[e,jB];show ha),λ_ p hp=>q p _ (Lw.Aq hp _) dw⟩
end
end L2
namespace L2
open PyProof.Rows
section
variable{K:aH}{a:Addr}{xs:af}{ix:List (Option Nat)}{g:TG}{tt:TT}{te:TE}{σ:St}{H1:Hp}{Q:VK}
def YC(Pv:Nat->af->Hp->Prop)(h0:Pv 0 [] H1)(hl:∀i ys H,i<=xs.length->Pv i ys H->cO K H a xs/\ys.length<=sizeLine)
  (hs:∀i x ys H,xs[i]?=some x->Pv i ys H->g x (qg ix σ) H λσ2 H2=>tt σ2 H2 λb H3=>if b=true then te σ2 H3 λv H4=>Pv (i+1) (ys++[v]) H4 else Pv (i+1) ys H3)
  (hd:∀ys H,Pv xs.length ys H->∀p,H p=none->Q (.ref p) (cX H p (.lst ys))):lY ix g tt te σ H1 Q (Itt K a):=by
 show⟨λi m ys H=>m=xs.length-i/\i<=xs.length/\Pv i ys H,⟨xs.length,by simp,dG _,h0⟩,?_⟩;rintro i m ys H ⟨rfl,hi,p⟩;let⟨q,z⟩:=hl i ys H hi p;by_cases hlt:i<xs.length
 ·show .inr ⟨⟨xs,xs[i],q,by simp[hlt]⟩,z,λys' H'=>Pv (i+1) ys' H',λys' H' p'=>⟨xs.length-(i+1),(),Z,hlt,p'⟩,λx H' y=>?_⟩;let⟨e',y⟩:=y;subst e';show hs i x ys _ (y xs q) p
 ·let ei:i=xs.length:=()
  subst ei;show .inl ⟨⟨xs,q,aK _⟩,z,λpp hp=>hd ys H p pp hp⟩
end
end L2
namespace K
open L2 Lw Bg
variable{K:aH}{c wd j':Nat}{P:Program}{w:World}{mg:Str->Option Value}{base:Heap}{σ:St}{T:bW}{α:Type}{E G zs us:ae}{B:ar}{Q:VK}{ix:List (Option Nat)}{g:TG}{te:TE}
abbrev jq:Stmt:=top 33
def Jj:bR Fb Fb (aG jq):={}
abbrev gb:Stmt:=top 34
def BW:bR Fd Fd (aG gb):={}
noncomputable def xP(s:dF)(p:Nat)(x:Int):dF:=s.take p++([x]++s.drop p)
noncomputable def qu(s:dF)(p:Nat):dF:=s.take p++s.drop (p+1)
def Pq(s:dF)(p:Nat)(h:p<=s.length):su (s.map V.int) none (some (p:Int))=(s.take p).map V.int:=by
 unfold su;rw[HT.Ad,HT.QC,Vl,wX,aJ,Nat.min_eq_left h,Hj]
def pQ(s:dF)(p:Nat)(h:p<=s.length):su (s.map V.int) (some (p:Int)) none=(s.drop p).map V.int:=by
 unfold su;rw[HT.Ad,HT.QC,aJ,Nat.min_eq_left h,N7];show yP (by rw[gw,aJ];show aK _)
inductive a1Q(vs:af)(H:Hp)(Q:VK)(u_3:XK):Prop
 |mk (a:Addr) (s:dF) (p:Nat) (x:Int) (_:vs=[.ref a,.int p,.int x]) (_:oW H a s) (_:p<=s.length) (_:s.length<=100) (_:∀b H',aL H H'->oW H' b (xP s p x)->Q (.ref b) H')
inductive WW(vs:af)(H:Hp)(Q:VK)(u_3:XK):Prop
 |mk (a:Addr) (s:dF) (p:Nat) (_:vs=[.ref a,.int p]) (_:oW H a s) (_:p<s.length) (_:s.length<=100) (_:∀b H',aL H H'->oW H' b (qu s p)->Q (.ref b) H')
def Jk(uI:Dn K mg "with_number" jq Fb):⋯ 1 uI.f uI.fd Fb a1Q:=by
 show uI.F.ok Jj λdZ A outer s H vs Q E hr h=>?_;let⟨a,st,p,x,rfl,ha,hp,l1,q⟩:=h;show⟨_,(aF (bI (bA tU (bA tU (dD jL (pv 0) fK (d7 (pv 1))) (bL (O (pv 2) aj))) (dD jL (pv 0) (d7 (pv 1)) fK)))),⟨_,Z,_,Z,_,Z,a,_,Z,ha,λb1 H1 s1 h1=>?_⟩⟩;rw[Pq st p hp]at h1;show⟨_,Z,(),λb2 H2 n2=>⟨b1,b2,_,_,Z,Z,n2.same _ _ h1,n2.here,?_,λb3 H3 s3 h3=>?_⟩⟩
 ·grind
 let ye:=n2.same.trans s3;show⟨_,Z,_,Z,_,Z,a,_,Z,(s1.trans ye) _ _ ha,λb4 H4 s4 h4=>?_⟩;rw[pQ st p hp]at h4;show⟨b3,b4,_,_,Z,Z,s4 _ _ h3,h4,?_,λb5 H5 s5 h5=>q b5 H5 (s1.trans (ye.trans (s4.trans s5))) ?_⟩
 ·grind
 ·show H5 b5= ~~~((xP st p x).map V.int);rw[h5];unfold xP;grind
def BX(wG:Dn K mg "without_number" gb Fd):⋯ 1 wG.f wG.fd Fd WW:=by
 show wG.F.ok BW λdZ A outer s H vs Q E hr h=>?_;let⟨a,st,p,rfl,ha,hp,l1,q⟩:=h;show⟨_,(aF (bI (bA tU (dD jL (pv 0) fK (d7 (pv 1))) (dD jL (pv 0) (d7 (bA dH (pv 1) aq)) fK)))),⟨_,Z,_,Z,_,Z,a,_,Z,ha,λb1 H1 s1 h1=>?_⟩⟩;rw[Pq st p ()]at h1;show⟨_,Z,_,Z,_,_,Z,Z,_,Z,a,_,Z,s1 _ _ ha,λb4 H4 s4 h4=>?_⟩;try dsimp only at h4
 rw[show((p:Int)+1)=((p+1:Nat):Int) by omega,pQ st (p+1) ()]at h4;show⟨b1,b4,_,_,Z,Z,s4 _ _ h1,h4,?_,λb5 H5 s5 h5=>q b5 H5 (s1.trans (s4.trans s5)) ?_⟩
 ·grind
 ·show H5 b5= ~~~((qu st p).map V.int);rw[h5];unfold qu;grind
abbrev lQ:Stmt:=top 31
def Ka:bR Ik Ik (aG lQ):={}
noncomputable def Pr:Int:=1000000000000000000000000000000
def WtV(K:aH)(H:Hp)(v:V)(o:Option (ae)):Prop:=match o with
 |none=>v=.non
 |some ws=>∃a,v=.ref a/\bB K H a (ws.map V.int)
def R5(m:Nat):Option (ae)->Bool
 |none=>true
 |some ws=>decide (ws.length=m)&&ws.all λx=>decide (0<=x)&&decide (x<Pr)
noncomputable def wtL(m:Nat):Option (ae)->ae
 |none=>List.replicate m 1
 |some ws=>ws
def btF:V->Option V
 |.int y=>some (.bl (oR Pr (some y)))
 |_=>none
theorem a2X:∀ws:ae,(ws.map V.int).filterMap btF=(ws.map λy=>oR Pr (some y)).map V.bl
 | []=>rfl
 |x::r=>by
  rw[cA,Mv (show btF (V.int x)=some (.bl (oR Pr (some x)))from Z),a2X r]
  rfl
def a1R(x:Int):oR Pr (some x)=(decide (0<=x)&&decide (x<Pr)):=by
 unfold oR;lk;show Bool.decide_and ..
inductive Å(K:aH)(vs:af)(H:Hp)(Q:VK)(u_3:XK):Prop
 |mk (m:Nat) (v:V) (o:Option (ae)) (_:vs=[.int m,v]) (_:WtV K H v o) (_:m<=100) (_:(∀ws,o=some ws->ws.length<=200)) (_:R5 m o=true) (_:∀p H',aL H H'->H p=none->H' p=↥((wtL m o).map V.int)->Q (.ref p) H')
def Kc(B:Bl mg)(Ct:Cts mg)(lK:DK K mg)(jO:Dn K mg "is_below" fM sI)(BZ:Dn K mg "weights_of" lQ Ik):⋯ 3 BZ.f BZ.fd Ik (Å K):=by
 let Ũ:⋯ 2 _ _ _ _:=xH B lK jO;show BZ.F.ok Ka λdZ A outer s H vs Q E hr h=>?_;let⟨m,v,o,rfl,hV,a82,hw,ok,q⟩:=h;show⟨_,(aB (cJ (aN ċ (pv 1) rU)
   (aF (bI (jF ["k"] [none]  (by kernel_rfl) Z (jP Z B.range (O (pv 0) aj)) (λ_ _ _ _ _=>(aM 0 (show(["k"]:ag).Nodup by decide))) (λ_ _ _ _ _=>gk) λ_ _ _ _ _=>aq)))
   bx)
   (aB (cJ (PW.pt (Aa (aN Km (aW (b8 (K:=K) Z) Z B.len () (O (pv 1) aj)) (pv 0)) (zq (mR (cY (K:=K) Z (aW (Dh (K:=K) Z Z) Z B.all () (O (jF ["weight"] [none]  (by kernel_rfl) Z (dU (K:=K) Z (pv 1)) (λ_ _ _ _ _=>(aM 0 (show(["weight"]:ag).Nodup by decide))) (λ_ _ _ _ _=>gk) λ_ _ _ _ _=>(aY Ũ hr Z jO.m jO.F.kp jO.b .nil bZ (O (Xv (v:=.int 1000000000000000000000000000000) Z Ct.vd Ct.vf) (O (pv 0) aj)))) aj)) λ_=>rfl)))))
   (aF Ab)
   bx)
   (aF (bI (fZ (jH (K:=K) Z) Z B.list () (O (pv 1) aj)))))),?_⟩
 cases o with
 |none =>
  obtain rfl:v=.non:=hV;show⟨_,Z,Z,_,Z,iC ?_⟩;show⟨_,Z,_,Z,(),(),?_⟩;rw[jf];show X4 (λ_=>some (V.int 1)) () (λi H' N hi s1 hN=>hN H' s1) (λH1 p H2 s1 n2=>q p H2 (s1.trans n2.same) (s1.free n2.fresh) ?_);rw[n2.here];show some (HO.lst _)=some (HO.lst ((List.replicate m (1:Int)).map V.int));rw[vQ (f:=λ_=>some (V.int 1)) (g:=λ_=>V.int 1) (λ_ _=>rfl),List.map_const',vD,List.map_replicate]
 |some ws =>
  let⟨a,rfl,hA⟩:=hV;let lw:=hw ws rfl;let ok':=ok;unfold R5 at ok';rw[fX,eE,gH]at ok';let⟨e1,e2⟩:=ok';show⟨_,Z,Z,_,Z,cQ ⟨_,Z,a,_,Z,.inl hA,_,Z,Z,_,Z,?_⟩⟩;rw[aJ,e1,bh rfl];show cQ ⟨_,Z,a,Z,⟨_,hA⟩,HF btF hA () (λx G5 N hx s5 hN5=>?_) λG5 p6 H6 s5 n6=>?_⟩
  ·let⟨y,hy,rfl⟩:=fD.mp hx;show⟨_,Z,Pr,some y,Z,hN5 G5 s5⟩
  rw[a2X]at n6;show⟨p6,_,_,Z,bB.of n6.here,jo.bls _,?_⟩;let e7:(ws.map λy=>oR Pr (some y)).all id=true:=by
   rw[Od,gH];intro x hx;show oR Pr (some x)=true;rw[a1R];show e2 x hx
  rw[e7];show⟨_,Z,cQ ⟨_,Z,a,_,Z,.inl ((s5.trans n6.same).seq hA),λp8 H8 n8=>q p8 H8 (s5.trans (n6.same.trans n8.same)) ((s5.trans n6.same).free n8.fresh) n8.here⟩⟩
noncomputable def fsQ(pg:Addr)(l u:V):be:=[("graph",.ref pg),("leaf",l),("whole",u)]
inductive a1S(K:aH)(C:Addr)(vs:af)(H:Hp)(Q:VK)(u_3:XK):Prop
 |mk (d dx g t:Addr) (n:Nat) (xs:af) (l u:V) (_:vs=[.ref d,.ref g,l,u]) (_:H d=some (.ins C dx [])) (_:cO K H g [.int n,.ref t]) (_:H t=↥xs) (_:xs.length<=1000) (_:∀pg pt H',Sd d H H'->H pt=none->H' d=some (.ins C dx (fsQ pg l u))->H' pg= ~~~[.int n,.ref pt]->H' pt=↥xs->Q .non H')
def DR(B:Bl mg)(gP:vW K mg){C:Addr}(cl:Cls K C)(pH:jC K C "graph")(uy:jC K C "leaf")(qZ:jC K C "whole"):⋯ 1 gP.fP.f gP.fP.fd Yp (a1S K C):=by
 show gP.fP.F.ok xM λdZ A outer s H vs Q E hr h=>?_;let⟨d,dx,g,t,n,xs,l,u,rfl,hd,hg,ht,lx,q⟩:=h;show⟨_,(aB (Hx (pv 0) (bL (O (aP (aO (K:=K) Z) (pv 1) aq) (O (fZ (jH (K:=K) Z) Z B.list () (O (aP (aO (K:=K) Z) (pv 1) aq) aj)) aj))) Z)
   (aB (Hx (pv 0) (pv 2) Z)
   (aF (Hx (pv 0) (pv 3) Z)))),?_⟩
 show⟨_,Z,g,_,_,V.int n,Z,Z,hg,bU (j:=0) Z,_,Z,g,_,_,V.ref t,Z,Z,hg,bU (j:=1) Z,t,_,Z,.inl (bB.of ht),λpt H1 n1=>⟨(),λpg H2 n2=>?_⟩⟩;let h2:=n2.same _ _ (n1.same _ _ hd);show⟨_,Z,d,_,_,_,Z,h2,cl,pH,(),?_⟩;generalize hU1:cX H2 d _=U1;let u1:tH H2 d (.ins C dx (vK "graph" (.ref pg) [])) U1:=by rw[<-hU1];show tH.nC
 show⟨_,Z,_,Z,d,_,_,_,Z,u1.here,cl,uy,(by show 1<1000;decide),?_⟩;generalize hU2:cX U1 d _=U2;let u2:tH U1 d (.ins C dx (vK "leaf" l (vK "graph" (.ref pg) []))) U2:=by rw[<-hU2];show tH.nC
 show⟨_,Z,_,Z,d,_,_,_,Z,u2.here,cl,qZ,(by show 2<1000;decide),?_⟩;generalize hU3:cX U2 d _=U3;let u3:tH U2 d (.ins C dx (fsQ pg l u)) U3:=by rw[<-hU3];show tH.nC
 let sr:∀c,c≠d->U3 c=H2 c:=λc hc=>by rw[u3.rest _ hc,u2.rest _ hc,u1.rest _ hc]
 let dt:pt≠d:=λe=>by let:=n1.fresh;grind
 let dg:pg≠d:=λe=>by let:=n2.fresh;rw[e,n1.same _ _ hd]at this;cases this
 show q pg pt U3 (λc o hc hh=>by rw[sr c hc];show n2.same _ _ (n1.same _ _ hh)) n1.fresh u3.here (by rw[sr _ dg];show n2.here) (by rw[sr _ dt];show n2.same _ _ n1.here)
def WX{H H':Hp}{v:V}{t:Int×Int}(k:lH H H')(h:qI H v t):qI H' v t:=by
 let⟨p,e,h⟩:=h;show⟨p,e,k _ _ h⟩
noncomputable def fU(s:dF)(i:Nat):Int:=s.getD i 0
def ç{s:dF}{i:Nat}(h:i<s.length):VN (s.map V.int) (i:Int)=some (.int (fU s i)):=by
 show bU ?_;rw[cV,bO h];unfold fU;grind
namespace Lk
noncomputable def firsts:ae->ae->ae
 |L,[]=>L
 |L,x::r=>firsts (if 0<x/\x∉L then L++[x]else L) r
def iK(ns:ae):ae:=ns.map λx=>if 0<x then(((firsts [] ns).idxOf x:Nat):Int)+1 else x
def TQ(ns:ae)(a b:Nat):ae:=ns.map λx=>if x=fU ns b then fU ns a else x
def Pu(ms:ae):ay->ae->Option (ae)
 | [],ns=>some ns
 |k::r,ns=>if 0<fU ms k/\ms.idxOf (fU ms k)<k then(if fU ns (ms.idxOf (fU ms k))=fU ns k then none else Pu ms r (TQ ns (ms.idxOf (fU ms k)) k))else Pu ms r ns
def jnO(ns ms:ae):bc:=match Pu ms (List.range ms.length) ns with
 |none=>[]
 |some r=>[0::iK r]
def jnL(s t:dF):bc:=if fU s 0=1 then(if fU t 0=1 then []else [s])else if fU t 0=1 then [t]else jnO s.tail t.tail
def qw(m:Nat)(s:dF):Bool:=s.length==m+1&&((fU s 0==1&&s.tail.all λx=>x==0)||(fU s 0==0&&(s.tail.all λx=>decide (0<=x)&&decide (x<=(m:Int)))&&iK s.tail==s.tail))
noncomputable def tups(c:Nat):Nat->List (ae)
 |0=>[[]]
 |k+1=>(tups c k).flatMap λs=>(List.range (c+1)).map λ(x:Nat)=>(x:Int)::s
def ű(m:Nat):bc:=(1::List.replicate m 0)::((tups m m).filter λs=>iK s==s).map (0 :: ·)
theorem R6{c:Nat}:∀{k:Nat}{s:ae},s.length=k->(∀x∈s,0<=x/\x<=(c:Int))->s∈tups c k
 |0,[],_,_=>vq _
 |k+1,x::s,l,h=>by
  show List.mem_flatMap.mpr ⟨s,R6 (by simpa using l) λy hy=>h y (bH _ hy),fD.mpr ⟨x.toNat,gA.mpr ?_,?_⟩⟩
  ·let:=h x aZ;omega
  ·let:=h x aZ
   rw[show((x.toNat:Nat):Int)=x by omega]
def Px{m:Nat}{s:dF}(h:qw m s=true):s∈ű m:=by
 unfold qw at h;rw[fX,Nz]at h;let⟨h0,h⟩:=h;let l:s.length=m+1:=by simpa using h0
 cases s with
 |nil=>cases l
 |cons a r =>
  let lr:r.length=m:=by simpa using l
  rcases h with h|h
  ·rw[fX,gH]at h;let e:a=1:=by simpa [fU]using h.1
   let:r=List.replicate m 0:=List.eq_replicate_iff.mpr ⟨lr,λx hx=>by simpa using h.2 x hx⟩;rw[e,this];show aZ
  ·rw[fX,fX,gH]at h;let e:a=0:=by simpa [fU]using h.1.1
   show bH _ (fD.mpr ⟨r,jg.mpr ⟨R6 lr λx hx=>?_,h.2⟩,by rw[e]⟩);simpa using h.1.2 x hx
def DW{P:Nat->dF->Bool}(h:((List.range c).all λm=>(ű m).all (P m))=true){m:Nat}(hm:m<c){s:dF}(hs:qw m s=true):P m s=true :=
 gH.mp (gH.mp h m (gA.mpr hm)) s (Px hs)
end Lk
noncomputable def yx(bD:ae)(cost:Int×Int->Int):PQ Bool where
 leaf:=[0]
 whole:=[1]
 bt:=λa b=>decide (a<b)
 sh:=λs=>s.tail.map λx=>decide (0<x)
 jn:=Lk.jnL
 inn:=λs p v=>(if(v:Int)∈bD then []else [(xP s (p+1) 0,0)])++if fU s 0=0 then [(0::Lk.iK (xP s.tail p (s.length:Int)),0)]else []
 tie:=λs a b t=>(s,0)::if 0<fU s (a+1)/\0<fU s (b+1)/\fU s (a+1)≠fU s (b+1)then [(0::Lk.iK (Lk.TQ s.tail a b),cost t)]else []
 out:=λs p _=>if fU s (p+1)=0\/fU s (p+1)∈qu s.tail p then [(s.take 1++Lk.iK (qu s.tail p),0)]else if(qu s.tail p).any (λx=>decide (x≠0))=true then []else [(1::qu s.tail p,0)]
 Ok:=λm s=>m<=4->Lk.qw m s=true
def a69{t u:TT}{D:Ends}{H:Hp}{A B:TS}{c1 c2:Bool}(h1:∀Q:Bool->Hp->Prop,Q c1 H->t σ H Q)(h2:∀Q:Bool->Hp->Prop,Q c2 H->u σ H Q)(a:c1=true/\c2=true->A D σ H)(b:¬(c1=true/\c2=true)->B D σ H):ą (a0t t u) A B D σ H:=by
 show h1 _ ?_;cases c1 with
 |false=>show b λh=>Bool.noConfusion h.1
 |true =>
  show h2 _ ?_;cases c2 with
  |false=>show b λh=>Bool.noConfusion h.2
  |true=>show a ⟨Z,Z⟩
namespace Go
theorem vX:∀{xs ys:ae},xs.Pairwise (· < ·)->ys.Pairwise (· < ·)->(∀v,v∈xs↔v∈ys)->xs=ys
 | [],[],_,_,_=>rfl
 | [],y::ys,_,_,h=>absurd ((h y).mpr aZ) fj
 |x::xs,[],_,_,h=>absurd ((h x).mp aZ) fj
 |x::xs,y::ys,hx,hy,h=>by
  rw[uc]at hx hy
  let e:x=y:=by
   rcases bT.mp ((h x).mp aZ)with h1|h1
   ·show h1
   ·rcases bT.mp ((h y).mpr aZ)with h2|h2
    ·show h2.symm
    ·let a:=hy.1 x h1
     let b:=hx.1 y h2
     omega
  subst e
  rw[vX hx.2 hy.2 λv=>⟨λhv=>?_,λhv=>?_⟩]
  ·grind
  grind
end Go
structure Jl{κ:Type}(pq:PQ κ):Prop where
 leaf:pq.Ok 0 pq.leaf
 inn:∀{m s p v},pq.Ok m s->p<=m->(pq.inn s p v).length<=4/\∀x∈pq.inn s p v,pq.Ok (m+1) x.1
 tie:∀{m s a b t},pq.Ok m s->a<m->b<m->(pq.tie s a b t).length<=4/\∀x∈pq.tie s a b t,pq.Ok m x.1
 out:∀{m s p v},pq.Ok (m+1) s->p<m+1->m+1<=4->(pq.out s p v).length<=4/\∀x∈pq.out s p v,pq.Ok m x.1
 jn:∀{m s t},pq.Ok m s->pq.Ok m t->(pq.jn s t).length<=4/\∀x∈pq.jn s t,pq.Ok m x
 fin:∀{m:Nat}{l:bc},m<=4->l.Nodup->(∀s∈l,pq.Ok m s)->l.length<=900
noncomputable def dM(T:bW):Nat:=(T.map λx=>x.2.m.natAbs).sum
structure yI{κ:Type}(pq:PQ κ)(m:Nat)(T:bW):Prop where
 nd:(T.map (·.1)).Nodup
 ok:∀x∈T,pq.Ok m x.1
def yI.nil{κ:Type}{pq:PQ κ}{m:Nat}:yI pq m []:=⟨vH,λ_ h=>absurd h fj⟩
def yI.len{κ:Type}{pq:PQ κ}(pk:Jl pq){m:Nat}(h:yI pq m T)(m4:m<=4):T.length<=900:=by
 let:=pk.fin m4 h.nd (λs hs=>by
  let⟨x,hx,rfl⟩:=fD.mp hs;show h.ok x hx)
 rw[aJ]at this;show this
def Æ(T:bW)(s:dF)(r:fV):(lG T s r).map (·.1)=if(T.any λx=>decide (x.1=s))=true then T.map (·.1)else T.map (·.1)++[s]:=by
 unfold lG;split
 ·rw[lV];show vA λx _=>?_;grind
 grind
set_option tactic.hygienic true in
def a1T{κ:Type}{pq:PQ κ}{m:Nat}{s:dF}{r:fV}(h:yI pq m T)(hs:pq.Ok m s):yI pq m (lG T s r):=by
 let e:=Æ T s r;show⟨?_,λx hx=>?_⟩
 ·rw[e];split
  ·show h.nd
  ·rename_i c;show uf.mpr ⟨h.nd,wL _ _,λa ha b hb ab=>?_⟩;grind
 ·let:x.1∈(lG T s r).map (·.1):=fD.mpr ⟨x,hx,Z⟩;rw[e]at this;split at this
  ·let⟨y,hy,ey⟩:=fD.mp this;rw[<-ey];show h.ok y hy
  ·rcases cM.mp this with z|z
   ·let⟨y,hy,ey⟩:=fD.mp z;rw[<-ey];show h.ok y hy
   grind
def YD{κ:Type}{pq:PQ κ}{bt:Int->Int->Bool}{m:Nat}{s:dF}{r:fV}(h:yI pq m T)(hs:pq.Ok m s):yI pq m (jN bt T s r):=by
 unfold jN;split<;>show a1T h hs
def YF{s:dF}{r:fV}(nd:(T.map (·.1)).Nodup):dM (lG T s r)+((qY T s).map λo=>o.m.natAbs).getD 0=dM T+r.m.natAbs:=by
 induction T with
 |nil=>show Nat.add_comm (r.m.natAbs+0) 0
 |cons x T ih =>
  rw[cA,iQ]at nd;let ih:=ih nd.2;unfold lG qY at ih ⊢;by_cases c:x.1=s
  ·rw[oM,bh c,Bool.true_or,aD Z,vy (by show bh c)];let e:(T.map λy=>if y.1=s then(y.1,r)else y)=T:=by
    let:∀y∈T,(λy:dF×fV=>if y.1=s then(y.1,r)else y) y=id y:=λy hy=>aA λz=>nd.1 (fD.mpr ⟨y,hy,z.trans c.symm⟩);rw[vA this,List.map_id]
   rw[cA,aD c,e];unfold dM;rw[cA,cA,vI,vI];show r.m.natAbs+_+x.2.m.natAbs=_;omega
  ·rw[oM,cG c,Bool.false_or,vz (by show λz=>c (dB z))];by_cases d:(T.any λy=>decide (y.1=s))=true
   ·rw[aD d]at ih ⊢;rw[cA,aA c];unfold dM at ih ⊢;rw[cA,cA,vI,vI];omega
   ·rw[aA d]at ih ⊢;unfold dM at ih ⊢;rw[List.cons_append,cA,cA,vI,vI];omega
set_option tactic.hygienic true in
def R7{bt:Int->Int->Bool}{s:dF}{r:fV}(nd:(T.map (·.1)).Nodup):dM (jN bt T s r)<=dM T+r.m.natAbs:=by
 unfold jN;split
 ·rename_i e;let:=YF (s:=s) (r:=r) nd;omega
 ·rename_i o e;let:=YF (s:=s) (r:=⟨o.m+r.m,(wj bt r o).b,(wj bt r o).src⟩) nd;rw[e]at this;let h2:(o.m+r.m).natAbs<=o.m.natAbs+r.m.natAbs:=Int.natAbs_add_le _ _;let e3:((some o).map λo:fV=>o.m.natAbs).getD 0=o.m.natAbs:=rfl;rw[e3]at this;show dM (lG T s _)<=_;let:dM (lG T s ⟨o.m+r.m,(wj bt r o).b,(wj bt r o).src⟩)+o.m.natAbs=dM T+(o.m+r.m).natAbs:=this;omega
section
variable{κ:Type} [DecidableEq κ]
theorem zK{pq:PQ κ}{bt:Int->Int->Bool}{m:Nat}{old:dF}{row:fV}:∀{l:List (dF×Int)}{T:bW},yI pq m T->(∀x∈l,pq.Ok m x.1)->yI pq m (jz bt old row l T)/\dM (jz bt old row l T)<=dM T+l.length*row.m.natAbs
 | [],T,h,_=>⟨h,by show dM T<=dM T+0*_;omega⟩
 |x::l,T,h,hl=>by
  let h1:yI pq m (jN bt T x.1 ⟨row.m,row.b+x.2,[old]⟩):=YD h (hl x (aZ ..))
  let s1:=R7 (bt:=bt) (s:=x.1) (r:=⟨row.m,row.b+x.2,[old]⟩) h.nd
  let s1:dM (jN bt T x.1 ⟨row.m,row.b+x.2,[old]⟩)<=dM T+row.m.natAbs:=s1
  let⟨h2,s2⟩:=zK (bt:=bt) (old:=old) (row:=row) h1 (λy hy=>hl y (bH _ hy))
  show⟨h2,cC s2 ?_⟩
  rw[iM,Nat.succ_mul]
  omega
theorem Jm{pq:PQ κ}{jQ:cu}{B:ae}{m m':Nat}:∀{S T:bW},yI pq m' T->(∀x∈S,pq.Ok m x.1)->(∀s,pq.Ok m s->(Wz pq s jQ B).length<=4/\∀x∈Wz pq s jQ B,pq.Ok m' x.1)->yI pq m' (jW pq jQ B S T)/\dM (jW pq jQ B S T)<=dM T+4*dM S
 | [],T,h,_,_=>⟨h,by show dM T<=dM T+_;omega⟩
 |x::S,T,h,hS,hb=>by
  let⟨l4,ob⟩:=hb x.1 (hS x (aZ ..))
  let⟨h1,s1⟩:=zK (bt:=pq.bt) (old:=x.1) (row:=x.2) h ob
  let⟨h2,s2⟩:=Jm h1 (λy hy=>hS y (bH _ hy)) hb
  show⟨h2,cC s2 ?_⟩
  let e:dM (x::S)=x.2.m.natAbs+dM S:=by unfold dM;grind
  rw[e]
  let:(Wz pq x.1 jQ B).length*x.2.m.natAbs<=4*x.2.m.natAbs:=Nat.mul_le_mul_right _ l4
  omega
def Ç{pq:PQ κ}(pk:Jl pq){jQ:cu}{B:ae}{m m':Nat}(m4:m'<=4){S:bW}(hS:∀x∈S,pq.Ok m x.1)(hb:∀s,pq.Ok m s->(Wz pq s jQ B).length<=4/\∀x∈Wz pq s jQ B,pq.Ok m' x.1):a4E pq jQ B S []:=by
 intro i hi x hx j hj;let h1:=(Jm (pq:=pq) (jQ:=jQ) (B:=B) (m:=m) (m':=m') (S:=S.take i) yI.nil (λy hy=>hS y (j6 hy)) hb).1;let⟨_,ob⟩:=hb x.1 (hS x (gU hx));let h2:=(zK (bt:=pq.bt) (old:=x.1) (row:=x.2) (l:=(Wz pq x.1 jQ B).take j) h1 λy hy=>ob y (j6 hy)).1;let:=h2.len pk m4;omega
theorem Jo{pq:PQ κ}{bt:Int->Int->Bool}{m:Nat}{iG cP:dF}{row more:fV}:∀{l:bc}{T:bW},yI pq m T->(∀x∈l,pq.Ok m x)->yI pq m (yG bt iG cP row more l T)/\dM (yG bt iG cP row more l T)<=dM T+l.length*(row.m.natAbs*more.m.natAbs)
 | [],T,h,_=>⟨h,by show dM T<=dM T+0*_;omega⟩
 |x::l,T,h,hl=>by
  let h1:yI pq m (jN bt T x ⟨row.m*more.m,row.b+more.b,[iG,cP]⟩):=YD h (hl x (aZ ..))
  let s1:=R7 (bt:=bt) (s:=x) (r:=⟨row.m*more.m,row.b+more.b,[iG,cP]⟩) h.nd
  let s1:dM (jN bt T x ⟨row.m*more.m,row.b+more.b,[iG,cP]⟩)<=dM T+(row.m*more.m).natAbs:=s1
  rw[Int.natAbs_mul]at s1
  let⟨h2,s2⟩:=Jo (bt:=bt) (iG:=iG) (cP:=cP) (row:=row) (more:=more) h1 (λy hy=>hl y (bH _ hy))
  show⟨h2,cC s2 ?_⟩
  rw[iM,Nat.succ_mul]
  omega
theorem Jp{pq:PQ κ}(pk:Jl pq){m:Nat}{iG:dF}{row:fV}(oo:pq.Ok m iG):∀{A T:bW},yI pq m T->(∀x∈A,pq.Ok m x.1)->yI pq m (yH pq iG row A T)/\dM (yH pq iG row A T)<=dM T+4*(row.m.natAbs*dM A)
 | [],T,h,_=>⟨h,by show dM T<=dM T+_;omega⟩
 |x::A,T,h,hA=>by
  let⟨l4,oj⟩:=pk.jn oo (hA x (aZ ..))
  let⟨h1,s1⟩:=Jo (bt:=pq.bt) (iG:=iG) (cP:=x.1) (row:=row) (more:=x.2) h oj
  let⟨h2,s2⟩:=Jp pk oo (row:=row) h1 (λy hy=>hA y (bH _ hy))
  show⟨h2,cC s2 ?_⟩
  let e:dM (x::A)=x.2.m.natAbs+dM A:=by unfold dM;grind
  rw[e,Nat.mul_add]
  let:=Nat.mul_le_mul_right (row.m.natAbs*x.2.m.natAbs) l4
  omega
theorem sum_filter(p:dF×fV->Bool):∀A:bW,dM (A.filter p)<=dM A
 | []=>aK _
 |x::A=>by
  let ih:=sum_filter p A
  let e:dM (x::A)=x.2.m.natAbs+dM A:=by unfold dM;grind
  by_cases c:p x=true
  ·rw[MJ c]
   let e':dM (x::A.filter p)=x.2.m.natAbs+dM (A.filter p):=by unfold dM;grind
   omega
  grind
theorem Py{pq:PQ κ}(pk:Jl pq){m:Nat}{A:bW}(hA:∀x∈A,pq.Ok m x.1):∀{S T:bW},yI pq m T->(∀x∈S,pq.Ok m x.1)->yI pq m (wu pq A S T)/\dM (wu pq A S T)<=dM T+4*(dM S*dM A)
 | [],T,h,_=>⟨h,by show dM T<=dM T+_;omega⟩
 |x::S,T,h,hS=>by
  let hA':∀y∈oY pq x.1 A,pq.Ok m y.1:=λy hy=>hA y (jg.mp hy).1
  let⟨h1,s1⟩:=Jp pk (hS x (aZ ..)) (row:=x.2) h hA'
  let⟨h2,s2⟩:=Py pk hA h1 (λy hy=>hS y (bH _ hy))
  show⟨h2,cC s2 ?_⟩
  let e:dM (x::S)=x.2.m.natAbs+dM S:=by unfold dM;grind
  rw[e,Nat.add_mul]
  let f:dM (oY pq x.1 A)<=dM A:=sum_filter _ A
  let:=Nat.mul_le_mul_left x.2.m.natAbs f
  omega
def Ų{pq:PQ κ}(pk:Jl pq){m:Nat}(m4:m<=4){A S:bW}(hA:∀x∈A,pq.Ok m x.1)(hS:∀x∈S,pq.Ok m x.1):a4H pq A S []:=by
 intro i x hx j y hy l hl;let h1:=(Py pk hA (S:=S.take i) yI.nil λz hz=>hS z (j6 hz)).1;let ox:=hS x (gU hx);let h2:=(Jp pk ox (row:=x.2) (A:=(oY pq x.1 A).take j) h1 λz hz=>hA z (jg.mp (j6 hz)).1).1;let oy:=hA y (jg.mp (gU hy)).1;let h3:=(Jo (bt:=pq.bt) (iG:=x.1) (cP:=y.1) (row:=x.2) (more:=y.2) (l:=(pq.jn x.1 y.1).take l) h2 λz hz=>(pk.jn ox oy).2 z (j6 hz)).1;let:=h3.len pk m4;omega
end
namespace Go
def getD_at{ss:ax}{i:Nat}{s:cu}(h:ss[i]?=some s):ss.getD i .leaf=s:=by
 rw[gB,h];rfl
section
variable{n:Nat}{ts:ar}{ss:ax}
def Jq{i:Nat}{s:cu}(h:ss[i]?=some s)(g1:(aX n ts ss i).2=true)(g2:(aX n ts ss (i+1)).2=true):∃b,ou n ts (ss.take i) s (qP s (aX n ts ss i).1)=some b/\s.need<=(aX n ts ss i).1.pile.length/\(aX n ts ss (i+1)).1=⟨(aX n ts ss i).1.aR++[b],(aX n ts ss i).1.dJ++[(aX n ts ss i).1.pile.drop (dX s (aX n ts ss i).1)],(aX n ts ss i).1.pile.take (dX s (aX n ts ss i).1)++[i]⟩:=by
 rw[R4,aD g1]at g2 ⊢;cases d:qt n ts ss i (aX n ts ss i).1 with
 |none=>grind
 |some r =>
  unfold qt at d;rw[getD_at h]at d;by_cases c:s.need<=(aX n ts ss i).1.pile.length
  ·rw[aD c]at d;let⟨b,hb,er⟩:=j4.mp d;show⟨b,hb,c,er.symm⟩
  ·rw[aA c]at d;cases d
theorem YG(go:∀i,i<=ss.length->(aX n ts ss i).2=true)(dh:n<=10){k:Nat}{s:cu}(h:ss[k]?=some s):∀j,k+1<=j->j<=ss.length->(aX n ts ss j).1.dJ.getD k []=(aX n ts ss k).1.pile.drop (dX s (aX n ts ss k).1)
 |0,h1,_=>absurd h1 ()
 |j+1,h1,h2=>by
  let kl:=(dY.mp h).1
  let⟨b,_,_,e⟩:=Jq (n:=n) (ts:=ts) (s:=ss[j]'()) (bO ()) (go j ()) (go (j+1) h2)
  let I:=jA dh (go j ())
  rw[e]
  show((aX n ts ss j).1.dJ++[_]).getD k []=_
  by_cases c:j=k
  ·subst c
   rw[gB,wK (by rw[I.fl];omega),I.fl,zf]
   grind
  ·rw[gB,yL (by rw[I.fl];omega),<-gB]
   show YG go dh h j () ()
abbrev fH(n:Nat)(ts:ar)(ss:ax)(k:Nat):ae:=(cF n ts ss).aR.getD k []
abbrev oE(n:Nat)(ts:ar)(ss:ax)(k:Nat):ay:=(cF n ts ss).dJ.getD k []
theorem WY(go:∀i,i<=ss.length->(aX n ts ss i).2=true)(dh:n<=10){k:Nat}:∀j,k+1<=j->j<=ss.length->(aX n ts ss j).1.aR.getD k []=(aX n ts ss (k+1)).1.aR.getD k []
 |0,h1,_=>absurd h1 ()
 |j+1,h1,h2=>by
  by_cases c:j=k
  ·rw[c]
  let⟨b,_,_,e⟩:=Jq (n:=n) (ts:=ts) (s:=ss[j]'()) (bO ()) (go j ()) (go (j+1) h2)
  let I:=jA dh (go j ())
  rw[e]
  show((aX n ts ss j).1.aR++[_]).getD k []=_
  rw[gB,yL (by rw[I.tl];omega),<-gB]
  show WY go dh j () ()
def Pz(go:∀i,i<=ss.length->(aX n ts ss i).2=true)(dh:n<=10){k j:Nat}(h1:k+1<=j)(h2:j<=ss.length):(aX n ts ss j).1.aR.getD k []=fH n ts ss k:=by
 rw[WY go dh j h1 h2];show(WY go dh ss.length () (aK _)).symm
structure StE(n:Nat)(ts:ar)(ss:ax)(k:Nat)(s:cu):Prop where
 bJ:ou n ts (ss.take k) s ((oE n ts ss k).map (fH n ts ss))=some (fH n ts ss k)
 len:(oE n ts ss k).length=s.need
 lt:∀j∈oE n ts ss k,j<k
 pile:(aX n ts ss (k+1)).1.pile=(aX n ts ss k).1.pile.take (dX s (aX n ts ss k).1)++[k]
 feed:oE n ts ss k=(aX n ts ss k).1.pile.drop (dX s (aX n ts ss k).1)
def zL(go:∀i,i<=ss.length->(aX n ts ss i).2=true)(dh:n<=10){k:Nat}{s:cu}(h:ss[k]?=some s):StE n ts ss k s:=by
 let kl:=(dY.mp h).1;let⟨b,hb,hn,e⟩:=Jq (n:=n) (ts:=ts) h (go k ()) (go (k+1) ());let I:=jA dh (go k ());let ef:oE n ts ss k=(aX n ts ss k).1.pile.drop (dX s (aX n ts ss k).1):=YG go dh h ss.length () (aK _);let lt:∀j∈oE n ts ss k,j<k:=λj hj=>by
  rw[ef]at hj;show I.lt j (yR hj)
 let eu:qP s (aX n ts ss k).1=(oE n ts ss k).map (fH n ts ss):=by
  unfold qP;rw[<-ef];show vA λj hj=>Pz go dh (lt j hj) ()
 let eb:fH n ts ss k=b:=by
  rw[<-Pz go dh (Nat.le_refl (k+1)) (),e];show((aX n ts ss k).1.aR++[b]).getD k []=b;rw[gB,wK (by rw[I.tl];omega),I.tl,zf];rfl
 show⟨by rw[eb,<-eu];show hb,?_,lt,by rw[e],ef⟩;rw[ef,gw];unfold dX;omega
def vY(p:Int->Bool):(Qo p).Pairwise (· < ·):=by
 unfold Qo;show GK _ ?_;rw[wN];show List.pairwise_lt_range.imp λh=>by omega
def W3{l:List α}(h:l.length=1):∃i,l=[i]:=by
 rcases l with _|⟨i,_|⟨j,l⟩⟩
 ·cases h
 ·grind
 ·cases h
def two_of{l:List α}(h:l.length=2):∃i j,l=[i,j]:=by
 rcases l with _|⟨i,_|⟨j,_|⟨x,l⟩⟩⟩
 ·cases h
 ·cases h
 ·grind
 ·cases h
inductive StB(n:Nat)(ts:ar)(ss:ax)(k:Nat):cu->Prop
 |leaf:oE n ts ss k=[]->fH n ts ss k=[]->StB n ts ss k .leaf
 |inn {i v}:oE n ts ss k=[i]->i<k->0<=v->v<(n:Int)->v∉fH n ts ss i->fH n ts ss k=fu (fH n ts ss i) [v]->cu.out v∉ss.take k->StB n ts ss k (.inn v)
 |tie {i a b}:oE n ts ss k=[i]->i<k->(a,b)∈ts->a∈fH n ts ss i->b∈fH n ts ss i->fH n ts ss k=fH n ts ss i->StB n ts ss k (.tie a b)
 |out {i v}:oE n ts ss k=[i]->i<k->v∈fH n ts ss i->fH n ts ss k=mF (fH n ts ss i) [v]->cu.out v∉ss.take k->StB n ts ss k (.out v)
 |join {i j}:oE n ts ss k=[i,j]->i<k->j<k->fH n ts ss i=fH n ts ss j->fH n ts ss k=fH n ts ss i->StB n ts ss k .join
set_option tactic.hygienic true in
def a1U{k:Nat}{s:cu}(S:StE n ts ss k s):StB n ts ss k s:=by
 let hb:=S.bJ;cases s with
 |leaf=>show .leaf (Mx.mp S.len) (dO hb).symm
 |inn v =>
  let⟨i,ei⟩:=W3 S.len;let lt:=S.lt i ();rw[ei]at hb;unfold ou at hb;dsimp only at hb;split at hb
  ·rename_i c;show .inn ei lt c.1.1 c.1.2 c.2.1 (dO hb).symm c.2.2
  ·cases hb
 |tie a b =>
  let⟨i,ei⟩:=W3 S.len;let lt:=S.lt i ();rw[ei]at hb;unfold ou at hb;dsimp only at hb;split at hb
  ·rename_i c;let c2:mF [a,b] (fH n ts ss i)=[]:=c.2.1;let mm:∀x∈[a,b],x∈fH n ts ss i:=λx hx=>by
    cases d:decide (x∈fH n ts ss i)with
    |true=>grind
    |false =>
     let:x∈mF [a,b] (fH n ts ss i):=jg.mpr ⟨hx,by rw[d];rfl⟩;grind
   show .tie ei lt c.1 (mm a (by simp)) (mm b (by simp)) (dO hb).symm
  ·cases hb
 |out v =>
  let⟨i,ei⟩:=W3 S.len;let lt:=S.lt i ();rw[ei]at hb;unfold ou at hb;dsimp only at hb;split at hb
  ·rename_i c;show .out ei lt c.1 (dO hb).symm c.2
  ·cases hb
 |join =>
  let⟨i,j,ei⟩:=two_of S.len;let lt:=S.lt i (by rw[ei];simp);let lt':=S.lt j (by rw[ei];simp);rw[ei]at hb;unfold ou at hb;dsimp only at hb;split at hb
  ·rename_i c;show .join ei lt lt' c (dO hb).symm
  ·cases hb
def R8(dh:n<=10)(all:∀(k:Nat) (s:cu),ss[k]?=some s->StB n ts ss k s):∀k,k<ss.length->(fH n ts ss k).Pairwise (· < ·)/\∀v∈fH n ts ss k,0<=v/\v<(n:Int):=by
 intro k
 induction k using Nat.strongRecOn with
 |_ k ih =>
  intro kl;let S:=all k _ (bO kl);generalize ss[k]=s at S;cases S with
  |leaf _ e=>rw[e];show⟨.nil,λv h=>absurd h fj⟩
  | @inn i v _ lt v0 vn _ e _ =>
   rw[e];show⟨vY _,λx hx=>?_⟩;let:=(yd.mp hx).2.2;rcases dB this with h|h
   ·show(ih i lt ()).2 x h
   ·rw[bQ.mp h];show⟨v0,vn⟩
  | @tie i a b _ lt _ _ _ e=>rw[e];show ih i lt ()
  | @out i v _ lt _ e _ =>
   rw[e];let:=ih i lt ();show⟨this.1.filter _,λx hx=>this.2 x (jg.mp hx).1⟩
  | @join i j _ lt _ _ e=>rw[e];show ih i lt ()
def nA(dh:n<=10){p q:ae}(hp:∀v∈p,0<=v/\v<(n:Int))(hq:∀v∈q,0<=v/\v<(n:Int)){v:Int}:v∈fu p q↔v∈p\/v∈q:=by
 show⟨λh=>dB (yd.mp h).2.2,λh=>yd.mpr ?_⟩;grind
def vg(dh:n<=10){p q:ae}(ap:p.Pairwise (· < ·))(hp:∀v∈p,0<=v/\v<(n:Int))(h:∀v∈q,v∈p):fu p q=p/\fu q p=p:=by
 let hq:=λv hv=>hp v (h v hv);show⟨vX (vY _) ap λv=>?_,vX (vY _) ap λv=>?_⟩
 ·rw[nA dh hp hq];show⟨λz=>z.elim id (h v),.inl⟩
 ·rw[nA dh hq hp];show⟨λz=>z.elim (h v) id,.inr⟩
def Ca{b:ae}(h:b.Pairwise (· < ·)):b.Nodup:=h.imp λh=>by omega
def PB(dh:n<=10){p:ae}{v:Int}(ap:p.Pairwise (· < ·))(hp:∀v∈p,0<=v/\v<(n:Int))(hv:0<=v/\v<(n:Int))(h:v∉p):(fu p [v]).length=p.length+1:=by
 let:(fu p [v]).Perm (v::p):=(Gz (Ca (vY _)) (iQ.mpr ⟨h,Ca ap⟩)).mpr λx=>by
  show x∈fu p [v]↔_;rw[show x∈fu p [v]↔x∈p\/x∈[v]from nA dh hp (λy hy=>by rw[bQ.mp hy];show hv)];simp[or_comm]
 rw[this.length_eq];rfl
def a1V{p:ae}{v:Int}(ap:p.Pairwise (· < ·))(h:v∈p):(mF p [v]).length+1=p.length:=by
 let:(mF p [v]).Perm (p.erase v):=(Gz ((Ca ap).filter _) ((Ca ap).erase v)).mpr λx=>by
  rw[(Ca ap).mem_erase_iff,jg];simp[and_comm]
 rw[this.length_eq,List.length_erase_of_mem h];grind
theorem R9(go:∀i,i<=ss.length->(aX n ts ss i).2=true)(dh:n<=10):∀i,i<=ss.length->(aX n ts ss i).1.pile.Pairwise (· < ·)
 |0,_=>.nil
 |i+1,il=>by
  let S:=zL (n:=n) (ts:=ts) go dh (List.getElem?_eq_getElem (show i<ss.length by omega))
  let I:=jA dh (go i ())
  rw[S.pile]
  show Us.mpr ⟨(R9 go dh i ()).sublist (GP _ _),wL _ _,λa ha b hb=>?_⟩
  rw[bQ.mp hb]
  show I.lt a (j6 ha)
end
end Go
namespace Go
section
variable{κ:Type} [DecidableEq κ]
variable{n:Nat}{ts:ar}{ss:ax}
abbrev Cd(pq:PQ κ)(n:Nat)(ts:ar)(ss:ax)(k:Nat):List bW:=J7 pq ss (cF n ts ss).aR (cF n ts ss).dJ k
def PJ(pq:PQ κ){k j:Nat}(h:j<k):(Cd pq n ts ss (k+1)).getD j []=(Cd pq n ts ss k).getD j []:=by
 show(Cd pq n ts ss k++[_]).getD j []=_;rw[gB,yL (by rw[mL];show h),<-gB]
def Ce(pq:PQ κ)(k:Nat):(Cd pq n ts ss (k+1)).getD k []=J6 pq (cF n ts ss).aR (Cd pq n ts ss k) (ss.getD k .leaf) (fH n ts ss k) (oE n ts ss k):=by
 show(Cd pq n ts ss k++[_]).getD k []=_;rw[gB,wK (by rw[mL];grind),mL,zf];rfl
theorem xQ(pq:PQ κ){j:Nat}:∀{k:Nat},j<k->(Cd pq n ts ss k).getD j []=(Cd pq n ts ss (j+1)).getD j []
 |0,h=>absurd h (wU _)
 |k+1,h=>by
  by_cases c:j=k
  ·rw[c]
  ·rw[PJ pq (show j<k by omega)]
   show xQ pq ()
structure GoI(pq:PQ κ)(n:Nat)(ts:ar)(ss:ax)(k:Nat):Prop where
 ok:∀j,j<k->yI pq (fH n ts ss j).length ((Cd pq n ts ss k).getD j [])
 cost:∃c:Nat->Nat,(∀j,j<k->dM ((Cd pq n ts ss k).getD j [])<=16^c j)/\((aX n ts ss k).1.pile.map c).sum<=k
theorem ų{c:Nat->Nat}:∀{l:ay}{i:Nat},i∈l->c i<=(l.map c).sum
 |a::l,i,h=>by
  rw[cA,vI]
  rcases bT.mp h with h|h
  ·rw[h];omega
  ·let:=ų (c:=c) h
   omega
theorem a7a:∀{T:bW}{x:dF×fV},x∈T->x.2.m.natAbs<=dM T
 |y::T,x,h=>by
  let e:dM (y::T)=y.2.m.natAbs+dM T:=by unfold dM;grind
  rw[e]
  rcases bT.mp h with h|h
  ·rw[h];omega
  ·let:=a7a h
   omega
def Sg(h:dM T<=16^c)(l:c<=800):IV T:=λx hx=>by
 let h1:=a7a hx;let e:(16:Nat)^c=2^(4*c):=by rw[Nat.pow_mul]
 let:(2:Nat)^(4*c)<2^4000:=Nat.pow_lt_pow_right () ();omega
def xu{B:ae}{v:Int}(h:v∈B):B.idxOf v<B.length:=Mt h
def Jr(Qn:JV P w K mg base κ)(pk:Jl Qn.pq){aR:List (ae)}{bD:List bW}{jQ:cu}{bJ:ae}{i:Nat}(nj:jQ≠.join)(il:i<bD.length)(hT:yI Qn.pq (aR.getD i []).length (bD.getD i []))(m4:(aR.getD i []).length<=4)(b4:bJ.length<=4)(fit:Gr Qn jQ (fu bJ (aR.getD i [])) (aR.getD i []).length)
  (hb:∀s,Qn.pq.Ok (aR.getD i []).length s->(Wz Qn.pq s jQ (fu bJ (aR.getD i []))).length<=4/\∀x∈Wz Qn.pq s jQ (fu bJ (aR.getD i [])),Qn.pq.Ok bJ.length x.1):zA Qn aR bD jQ bJ [i]/\yI Qn.pq bJ.length (J6 Qn.pq aR bD jQ bJ [i])/\dM (J6 Qn.pq aR bD jQ bJ [i])<=4*dM (bD.getD i []):=by
 let l9:=hT.len pk m4;let⟨h1,h2⟩:=Jm (pq:=Qn.pq) (jQ:=jQ) (B:=fu bJ (aR.getD i [])) (S:=bD.getD i []) yI.nil hT.ok hb;show⟨⟨nj,il,hT.ok,fit,(),Ç pk b4 hT.ok hb⟩,h1,?_⟩;let e:dM []=0:=rfl;rw[e,Nat.zero_add]at h2;show h2
def two_step(Qn:JV P w K mg base κ)(pk:Jl Qn.pq){aR:List (ae)}{bD:List bW}{bJ:ae}{i j m ci cj:Nat}(il:i<bD.length)(jl:j<bD.length)(nij:i≠j)(em:bJ.length=m)(m4:m<=4)(hi:yI Qn.pq m (bD.getD i []))(hj:yI Qn.pq m (bD.getD j []))(si:dM (bD.getD i [])<=16^ci)(sj:dM (bD.getD j [])<=16^cj)(li:ci<=800)(lj:cj<=800):zA Qn aR bD .join bJ [i,j]/\yI Qn.pq bJ.length (J6 Qn.pq aR bD .join bJ [i,j])/\dM (J6 Qn.pq aR bD .join bJ [i,j])<=4*(dM (bD.getD i [])*dM (bD.getD j [])):=by
 let l1:=hi.len pk m4;let l2:=hj.len pk m4;let⟨h1,h2⟩:=Py pk (A:=bD.getD j []) hj.ok (S:=bD.getD i []) yI.nil hi.ok;show⟨⟨Z,il,jl,nij,m,(),hi.ok,hj.ok,hj.nd,(),l2,Sg si li,Sg sj lj,Ų pk m4 hj.ok hi.ok⟩,by rw[em];show h1,?_⟩;let e:dM []=0:=rfl;rw[e,Nat.zero_add]at h2;show h2
def pow_step{x:Nat}(h:x<=16^c):4*x<=16^(1+c):=by
 grind
def YH(Qn:JV P w K mg base κ)(pk:Jl Qn.pq)(hPl:∀k:Nat,k<Qn.n->Qn.Pl k)(hTi:∀t∈Qn.ts,Qn.Ti t)(ne:∀t∈Qn.ts,t.1≠t.2)(dh:Qn.n<=10)(l8:ss.length<=800)(sW:Bv Qn.n Qn.ts ss (cF Qn.n Qn.ts ss)=.ok)(b4:∀b∈(cF Qn.n Qn.ts ss).aR,b.length<=4){k:Nat}(kl:k<ss.length)(I:GoI Qn.pq Qn.n Qn.ts ss k):zA Qn (cF Qn.n Qn.ts ss).aR (Cd Qn.pq Qn.n Qn.ts ss k) (ss.getD k .leaf) (fH Qn.n Qn.ts ss k) (oE Qn.n Qn.ts ss k)/\GoI Qn.pq Qn.n Qn.ts ss (k+1):=by
 let go:=ŭ dh sW;let RI:=yg dh sW;let all:∀(k:Nat) (s:cu),ss[k]?=some s->StB Qn.n Qn.ts ss k s:=λk s h=>a1U (zL go dh h);let tp:=R8 dh all;let t4:∀j,j<ss.length->(fH Qn.n Qn.ts ss j).length<=4:=λj hj=>by
  let hl:j<(cF Qn.n Qn.ts ss).aR.length:=by rw[RI.tl];show hj
  let e:fH Qn.n Qn.ts ss j=(cF Qn.n Qn.ts ss).aR[j]:=by
   show(cF Qn.n Qn.ts ss).aR.getD j []=_;rw[gB,bO hl];rfl
  rw[e];show b4 _ (oJ hl)
 let hs:=bO kl;let S:=zL (n:=Qn.n) (ts:=Qn.ts) go dh hs;let SB:=a1U S;let es:=getD_at hs;let⟨c,hc,hsum⟩:=I.cost;let c8:∀i∈oE Qn.n Qn.ts ss k,c i<=800:=λi hi=>by
  let:c i<=_:=ų (c:=c) (l:=(aX Qn.n Qn.ts ss k).1.pile) (by rw[S.feed]at hi;show yR hi);omega
 suffices h:zA Qn (cF Qn.n Qn.ts ss).aR (Cd Qn.pq Qn.n Qn.ts ss k) (ss.getD k .leaf) (fH Qn.n Qn.ts ss k) (oE Qn.n Qn.ts ss k)/\yI Qn.pq (fH Qn.n Qn.ts ss k).length (J6 Qn.pq (cF Qn.n Qn.ts ss).aR (Cd Qn.pq Qn.n Qn.ts ss k) (ss.getD k .leaf) (fH Qn.n Qn.ts ss k) (oE Qn.n Qn.ts ss k))/\dM (J6 Qn.pq (cF Qn.n Qn.ts ss).aR (Cd Qn.pq Qn.n Qn.ts ss k) (ss.getD k .leaf) (fH Qn.n Qn.ts ss k) (oE Qn.n Qn.ts ss k))<=16^(1+((oE Qn.n Qn.ts ss k).map c).sum) by
  let⟨h1,h2,h3⟩:=h;show⟨h1,⟨λj hj=>?_,λj=>if j=k then 1+((oE Qn.n Qn.ts ss k).map c).sum else c j,λj hj=>?_,?_⟩⟩
  ·by_cases e:j=k
   ·rw[e,Ce];show h2
   ·rw[PJ _ ()];show I.ok j ()
  ·show dM _<=16^(if j=k then 1+((oE Qn.n Qn.ts ss k).map c).sum else c j);by_cases e:j=k
   ·rw[aD e,e,Ce];show h3
   ·rw[aA e,PJ _ ()];show hc j ()
  ·let Z97:=jA dh (go k ());rw[S.pile,cW,List.sum_append];let e1:((aX Qn.n Qn.ts ss k).1.pile.take (dX ss[k] (aX Qn.n Qn.ts ss k).1)).map (λj=>if j=k then 1+((oE Qn.n Qn.ts ss k).map c).sum else c j)=((aX Qn.n Qn.ts ss k).1.pile.take (dX ss[k] (aX Qn.n Qn.ts ss k).1)).map c:=vA λj hj=>aA (by let:=Z97.lt j (j6 hj);omega);let e2:([k].map λj=>if j=k then 1+((oE Qn.n Qn.ts ss k).map c).sum else c j).sum=1+((oE Qn.n Qn.ts ss k).map c).sum:=by
    show(if k=k then 1+((oE Qn.n Qn.ts ss k).map c).sum else c k)+0=_;rw[aD Z,Nat.add_zero]
   rw[e1,e2,S.feed];let e3:((aX Qn.n Qn.ts ss k).1.pile.map c).sum=(((aX Qn.n Qn.ts ss k).1.pile.take (dX ss[k] (aX Qn.n Qn.ts ss k).1)).map c).sum+(((aX Qn.n Qn.ts ss k).1.pile.drop (dX ss[k] (aX Qn.n Qn.ts ss k).1)).map c).sum:=by
    rw[<-List.sum_append,<-cW,tY]
   omega
 rw[es];let lk:(Cd Qn.pq Qn.n Qn.ts ss k).length=k:=mL _ _ _ _ k;let pa:=R9 (n:=Qn.n) (ts:=Qn.ts) go dh k ();let fd:=S.feed;let⟨ak,bk⟩:=tp k kl;let k4:=t4 k kl;generalize ss[k]=s at SB fd ⊢;cases SB with
 |leaf ef et =>
  rw[ef,et];show⟨trivial,⟨wL _ _,λx hx=>?_⟩,by show 1<=16^1;decide⟩;rw[bQ.mp hx];show pk.leaf
 | @inn i v ef lt v0 vn nv et _ =>
  let⟨ai,bi⟩:=tp i ();let ci:=hc i lt;let e1:fu (fH Qn.n Qn.ts ss k) (fH Qn.n Qn.ts ss i)=fH Qn.n Qn.ts ss k:=(vg dh ak bk λx hx=>by rw[et];show(nA dh bi λy hy=>by rw[bQ.mp hy];show⟨v0,vn⟩).mpr (.inl hx)).1;let e2:(fH Qn.n Qn.ts ss k).length=(fH Qn.n Qn.ts ss i).length+1:=by rw[et];show PB dh ai bi ⟨v0,vn⟩ nv
  let vk:v∈fH Qn.n Qn.ts ss k:=by rw[et];show(nA dh bi λy hy=>by rw[bQ.mp hy];show⟨v0,vn⟩).mpr (.inr (vq v))
  rw[ef];let⟨h1,h2,h3⟩:=Jr Qn pk (aR:=(cF Qn.n Qn.ts ss).aR) (bD:=Cd Qn.pq Qn.n Qn.ts ss k) (jQ:=.inn v) (bJ:=fH Qn.n Qn.ts ss k) (i:=i) (λz=>by cases z) () (I.ok i lt) (t4 i ()) k4 (by
   rw[e1];show⟨⟨v.toNat,()⟩,vk,e2,t4 i ()⟩) (λs hs=>by
   rw[e1];let q:(fH Qn.n Qn.ts ss k).idxOf v<(fH Qn.n Qn.ts ss i).length+1:=by rw[<-e2];show xu vk
   let⟨g1,g2⟩:=pk.inn (p:=(fH Qn.n Qn.ts ss k).idxOf v) (v:=v.toNat) hs (Nat.le_of_lt_succ q);show⟨g1,λx hx=>by rw[e2];show g2 x hx⟩)
  show⟨h1,h2,cC h3 (pow_step (by rw[U0,U4];show ci))⟩
 | @tie i a b ef lt ht ma mb et =>
  let⟨ai,bi⟩:=tp i ();let ci:=hc i lt;let e1:fu (fH Qn.n Qn.ts ss k) (fH Qn.n Qn.ts ss i)=fH Qn.n Qn.ts ss i:=by rw[et];show(vg dh ai bi λ_ h=>h).1
  rw[ef];let⟨h1,h2,h3⟩:=Jr Qn pk (aR:=(cF Qn.n Qn.ts ss).aR) (bD:=Cd Qn.pq Qn.n Qn.ts ss k) (jQ:=.tie a b) (bJ:=fH Qn.n Qn.ts ss k) (i:=i) (λz=>by cases z) () (I.ok i lt) (t4 i ()) k4 (by
   rw[e1];show⟨ma,mb,ne _ ht,Z,t4 i (),hTi _ ht⟩) (λs hs=>by
   rw[e1,et];show pk.tie hs (xu ma) (xu mb))
  show⟨h1,h2,cC h3 (pow_step (by rw[U0,U4];show ci))⟩
 | @out i v ef lt mv et _ =>
  let⟨ai,bi⟩:=tp i ();let ci:=hc i lt;let e1:fu (fH Qn.n Qn.ts ss k) (fH Qn.n Qn.ts ss i)=fH Qn.n Qn.ts ss i:=(vg dh ai bi λx hx=>by rw[et]at hx;show(jg.mp hx).1).2;let e2:(fH Qn.n Qn.ts ss k).length+1=(fH Qn.n Qn.ts ss i).length:=by rw[et];show a1V ai mv
  let bv:=bi v mv;rw[ef];let⟨h1,h2,h3⟩:=Jr Qn pk (aR:=(cF Qn.n Qn.ts ss).aR) (bD:=Cd Qn.pq Qn.n Qn.ts ss k) (jQ:=.out v) (bJ:=fH Qn.n Qn.ts ss k) (i:=i) (λz=>by cases z) () (I.ok i lt) (t4 i ()) k4 (by
   rw[e1];show⟨⟨v.toNat,(),hPl _ ()⟩,mv,Z,t4 i ()⟩) (λs hs=>by
   rw[e1];let hs':Qn.pq.Ok ((fH Qn.n Qn.ts ss k).length+1) s:=by rw[e2];show hs
   show pk.out hs' (by rw[e2];show xu mv) (by rw[e2];show t4 i ()))
  show⟨h1,h2,cC h3 (pow_step (by rw[U0,U4];show ci))⟩
 | @join i j ef lt lt' eij et =>
  let nij:i≠j:=λz=>by
   let pd:=pa.sublist (List.drop_sublist (dX .join (aX Qn.n Qn.ts ss k).1) _);rw[<-fd,ef]at pd;let:=(uc.mp pd).1 j (vq j);omega
  let ci:=hc i lt;let cj:=hc j lt';let c1:=c8 i (by rw[ef];simp);let c2:=c8 j (by rw[ef];simp);let oi:=I.ok i lt;let oj:=I.ok j lt';rw[<-et]at oi;rw[<-eij,<-et]at oj;rw[ef];let⟨h1,h2,h3⟩:=two_step Qn pk (aR:=(cF Qn.n Qn.ts ss).aR) (bD:=Cd Qn.pq Qn.n Qn.ts ss k) (bJ:=fH Qn.n Qn.ts ss k) () () nij Z k4 oi oj ci cj c1 c2;show⟨h1,h2,cC h3 (pow_step ?_)⟩;let e4:([i,j].map c).sum=c i+c j:=by
   show c i+(c j+0)=_;omega
  rw[e4,Nat.pow_add];show Nat.mul_le_mul ci cj
theorem W4(Qn:JV P w K mg base κ)(pk:Jl Qn.pq)(hPl:∀k:Nat,k<Qn.n->Qn.Pl k)(hTi:∀t∈Qn.ts,Qn.Ti t)(ne:∀t∈Qn.ts,t.1≠t.2)(dh:Qn.n<=10)(l8:ss.length<=800)(sW:Bv Qn.n Qn.ts ss (cF Qn.n Qn.ts ss)=.ok)(b4:∀b∈(cF Qn.n Qn.ts ss).aR,b.length<=4):∀k,k<=ss.length->GoI Qn.pq Qn.n Qn.ts ss k
 |0,_=>⟨λj h=>absurd h (wU _),λ_=>0,λj h=>absurd h (wU _),aK _⟩
 |k+1,h=>(YH Qn pk hPl hTi ne dh l8 sW b4 () (W4 Qn pk hPl hTi ne dh l8 sW b4 k ())).2
def Ī(Qn:JV P w K mg base κ)(pk:Jl Qn.pq)(hPl:∀k:Nat,k<Qn.n->Qn.Pl k)(hTi:∀t∈Qn.ts,Qn.Ti t)(ne:∀t∈Qn.ts,t.1≠t.2)(dh:Qn.n<=10)(l8:ss.length<=800)(sW:Bv Qn.n Qn.ts ss (cF Qn.n Qn.ts ss)=.ok)(b4:∀b∈(cF Qn.n Qn.ts ss).aR,b.length<=4) :
  (∀k,k<ss.length->zA Qn (cF Qn.n Qn.ts ss).aR (J7 Qn.pq ss (cF Qn.n Qn.ts ss).aR (cF Qn.n Qn.ts ss).dJ k) (ss.getD k .leaf) ((cF Qn.n Qn.ts ss).aR.getD k []) ((cF Qn.n Qn.ts ss).dJ.getD k []))/\
  (∀T∈J7 Qn.pq ss (cF Qn.n Qn.ts ss).aR (cF Qn.n Qn.ts ss).dJ ss.length,T.length<=900/\(T.map (·.1)).Nodup):=by
 let A:=W4 Qn pk hPl hTi ne dh l8 sW b4;show⟨λk hk=>(YH Qn pk hPl hTi ne dh l8 sW b4 hk (A k ())).1,λT hT=>?_⟩;let⟨j,hj,e⟩:=qD hT;rw[mL]at hj;let h:=(A ss.length (aK _)).ok j hj;let e2:(Cd Qn.pq Qn.n Qn.ts ss ss.length).getD j []=T:=by
  rw[gB,bO (by rw[mL];show hj),<-e];rfl
 rw[e2]at h;let RI:=yg dh sW;let hl:j<(cF Qn.n Qn.ts ss).aR.length:=by rw[RI.tl];show hj
 show⟨h.len pk ?_,h.nd⟩;show((cF Qn.n Qn.ts ss).aR.getD j []).length<=4;rw[gB,bO hl];show b4 _ (oJ hl)
end
end Go
namespace Lk
def a7b:((List.range 4).all λm=>(ű m).all λs=>(List.range (m+1)).all λp=>qw (m+1) (xP s (p+1) 0)&&(fU s 0 != 0||qw (m+1) (0::iK (xP s.tail p (s.length:Int)))))=true:=by decide
def a7c:((List.range 5).all λm=>(ű m).all λs=>(List.range m).all λa=>(List.range m).all λb=>qw m (0::iK (TQ s.tail a b)))=true:=by decide
def a7d:((List.range 5).all λm=>(ű m).all λs=>(List.range m).all λp=>qw (m-1) (s.take 1++iK (qu s.tail p))&&((qu s.tail p).any (λx=>decide (x≠0))||qw (m-1) (1::qu s.tail p)))=true:=by decide
def a8G:((List.range 5).all λm=>(ű m).all λs=>(ű m).all λt=>(jnL s t).all λx=>qw m x)=true:=by decide
def a7e:((List.range 5).all λm=>decide ((ű m).length<=900))=true:=by decide
def pig [DecidableEq α] {l U:List α} (nd:l.Nodup) (h:∀x∈l,x∈U):l.length<=U.length:=by
 induction l generalizing U with
 |nil=>grind
 |cons a r ih =>
  let⟨n1,n2⟩:=iQ.mp nd;let am:=h a aZ;let:=ih (U:=U.erase a) n2 λx hx=>(Ur λe=>n1 ()).mpr (h x (bH _ hx));grind
def a4T(s t:dF):(jnL s t).length<=1:=by
 unfold jnL jnO;grind
end Lk
def okL(bD:ae)(cost:Int×Int->Int):Jl (yx bD cost) where
 leaf:=λ_=>by show Lk.qw 0 [0]=true;decide
 inn:=λ{m s p v} h hp=>by
  let g:m+1<=4->_:=λh4=>gH.mp (Lk.DW Lk.a7b (show m<4 by omega) (h ())) p (gA.mpr ())
  show((if(v:Int)∈bD then []else [(xP s (p+1) 0,(0:Int))])++if fU s 0=0 then [(0::Lk.iK (xP s.tail p (s.length:Int)),0)]else []).length<=4/\∀x∈((if(v:Int)∈bD then []else [(xP s (p+1) 0,(0:Int))])++if fU s 0=0 then [(0::Lk.iK (xP s.tail p (s.length:Int)),0)]else []),m+1<=4->Lk.qw (m+1) x.1=true
  grind
 tie:=λ{m s a b t} h ha hb=>by
  show((s,(0:Int))::if 0<fU s (a+1)/\0<fU s (b+1)/\fU s (a+1)≠fU s (b+1)then [(0::Lk.iK (Lk.TQ s.tail a b),cost t)]else []).length<=4/\∀x∈((s,(0:Int))::if 0<fU s (a+1)/\0<fU s (b+1)/\fU s (a+1)≠fU s (b+1)then [(0::Lk.iK (Lk.TQ s.tail a b),cost t)]else []),m<=4->Lk.qw m x.1=true
  show⟨(),λx hx m4=>?_⟩
  rcases bT.mp hx with z|z
  ·rw[z];show h m4
  ·split at z
   ·rw[bQ.mp z]
    show gH.mp (gH.mp (Lk.DW Lk.a7c (show m<5 by omega) (h m4)) a (gA.mpr ha)) b (gA.mpr hb)
   ·cases z
 out:=λ{m s p v} h hp m4=>by
  let g:=gH.mp (Lk.DW Lk.a7d (show m+1<5 by omega) (h m4)) p (gA.mpr hp)
  rw[fX,Nz,Nat.add_sub_cancel]at g
  show(if fU s (p+1)=0\/fU s (p+1)∈qu s.tail p then [(s.take 1++Lk.iK (qu s.tail p),(0:Int))]else if(qu s.tail p).any (λx=>decide (x≠0))=true then []else [(1::qu s.tail p,0)]).length<=4/\∀x∈(if fU s (p+1)=0\/fU s (p+1)∈qu s.tail p then [(s.take 1++Lk.iK (qu s.tail p),(0:Int))]else if(qu s.tail p).any (λx=>decide (x≠0))=true then []else [(1::qu s.tail p,0)]),m<=4->Lk.qw m x.1=true
  grind
 jn:=λ{m s t} h h'=>⟨cC (Lk.a4T s t) (),λx hx m4=>gH.mp (gH.mp (Lk.DW Lk.a8G (show m<5 by omega) (h m4)) t (Lk.Px (h' m4))) x hx⟩
 fin:=λ{m l} m4 nd h=>by
  let g:=dB (gH.mp Lk.a7e m (gA.mpr ()))
  show cC (Lk.pig nd λs hs=>Lk.Px (h s hs m4)) g
def getD_at{ss:ax}{i:Nat}{s:cu}(h:ss[i]?=some s):ss.getD i .leaf=s:=by
 rw[gB,h];rfl
def PK{ss:ax}{i:Nat}{s:cu}(h:ss[i]?=some s):ss.take (i+1)=ss.take i++[s]:=by
 let⟨il,e⟩:=dY.mp h;rw[yK il,e]
structure Kp where
 P:List (ae)
 G:ae
 B:ar
variable{κ:Kp}
def Kp.top(κ:Kp):ae:=κ.P.getLastD []
def Can(n:Nat)(ts:ar)(κ:Kp):cu->Prop
 |.leaf=>True
 |.inn v=>κ.P≠[]/\(0<=v/\v<(n:Int))/\v∉κ.top/\v∉κ.G
 |.tie a b=>κ.P≠[]/\(a,b)∈ts/\(a,b)∉κ.B/\a∈κ.top/\b∈κ.top
 |.out v=>κ.P≠[]/\v∈κ.top/\v∉κ.G
 |.join=>1<κ.P.length/\κ.top.Perm (κ.P.getD (κ.P.length-2) [])
noncomputable def Kd(κ:Kp):cu->Kp
 |.leaf=>{ κ with P:=κ.P++[[]]}
 |.inn v=>{ κ with P:=κ.P.dropLast++[κ.top++[v]]}
 |.tie a b=>{ κ with B:=κ.B++[(a,b)]}
 |.out v=>{ κ with P:=κ.P.dropLast++[κ.top.erase v],G:=κ.G++[v]}
 |.join=>{ κ with P:=κ.P.dropLast}
structure KOk(n c:Nat)(κ:Kp):Prop where
 nd:∀b∈κ.P,b.Nodup/\∀v∈b,0<=v/\v<(n:Int)
 pl:κ.P.length<=c
 gl:κ.G.length<=c
 bl:κ.B.length<=c
def rG{P:List (ae)}(h:P≠[]):P=P.dropLast++[P.getLastD []]:=by
 let e:=(List.dropLast_concat_getLast h).symm;grind
def KOk.W5{n:Nat}(h:KOk n c κ):κ.top.Nodup/\∀v∈κ.top,0<=v/\v<(n:Int):=by
 by_cases e:κ.P=[]
 ·unfold Kp.top;rw[e];show⟨.nil,λv hv=>absurd hv fj⟩
 ·show h.nd _ ?_;let:κ.P.getLastD []∈κ.P.dropLast++[κ.P.getLastD []]:=gq _ aZ
  rwa [<-rG e]at this
def KOk.do{n:Nat}{ts:ar}{s:cu}(h:KOk n c κ)(hc:Can n ts κ s):KOk n (c+1) (Kd κ s):=by
 let dl:∀b∈κ.P.dropLast,b.Nodup/\∀v∈b,0<=v/\v<(n:Int):=λb hb=>h.nd b ((List.dropLast_sublist _).subset hb);let l1:κ.P.dropLast.length<=c:=by rw[Uq];let:=h.pl;omega
 let h1:=h.pl;let h2:=h.gl;let h3:=h.bl;let cat:∀b:ae,b.Nodup->(∀v∈b,0<=v/\v<(n:Int))->∀x∈κ.P.dropLast++[b],x.Nodup/\∀v∈x,0<=v/\v<(n:Int):=λb hb hv x hx=>by
  rcases cM.mp hx with hx|hx
  ·show dl x hx
  ·rw[bQ.mp hx];show⟨hb,hv⟩
 cases s with
 |leaf =>
  show⟨λb hb=>?_,by show(κ.P++[[]]).length<=_;grind,by show κ.G.length<=_;omega,by show κ.B.length<=_;omega⟩;rcases cM.mp hb with hb|hb
  ·show h.nd b hb
  grind
 |inn v =>
  let⟨_,hv,hn,_⟩:=hc;show⟨cat _ ?_ ?_,by show(κ.P.dropLast++[_]).length<=_;grind,by show κ.G.length<=_;omega,by show κ.B.length<=_;omega⟩
  ·rw[uf];show⟨h.W5.1,by simp,λa ha b hb e=>?_⟩;grind
  ·intro x hx;rcases cM.mp hx with hx|hx
   ·show h.W5.2 x hx
   ·rw[bQ.mp hx];show hv
 |tie a b=>show⟨h.nd,by show κ.P.length<=_;omega,by show κ.G.length<=_;omega,by show(κ.B++[_]).length<=_;rw[bK];show κ.B.length+1<=_;omega⟩
 |out v =>
  show⟨cat _ (h.W5.1.erase v) (λx hx=>h.W5.2 x (List.mem_of_mem_erase hx)),by show(κ.P.dropLast++[_]).length<=_;grind,by show(κ.G++[v]).length<=_;grind,by show κ.B.length<=_;omega⟩
 |join=>show⟨dl,by show κ.P.dropLast.length<=_;omega,by show κ.G.length<=_;omega,by show κ.B.length<=_;omega⟩
def a7f{n:Nat}{b:ae}(dh:n<=10)(nd:b.Nodup)(bd:∀v∈b,0<=v/\v<(n:Int)):b.length<=10:=by
 let h1:(b.map Int.toNat).Nodup:=by
  unfold List.Nodup;rw[wN];show(List.pairwise_iff_forall_sublist.mpr λ{x y} hs=>?_);grind
 let h2:=RZ (m:=n) h1 λx hx=>by
  grind
 grind
theorem pX{α β:Type}{R:α->β->Prop}:∀{xs:List α}{ys:List β}{y:β},Paired R xs (ys++[y])->∃xs' x,xs=xs'++[x]/\Paired R xs' ys/\R x y
 | [],ys,y,h=>by
  let:=aU h
  rw[bK]at this
  show absurd this (by show ¬0=ys.length+1;omega)
 |x::r,[],y,h=>by
  cases h with
  |cons h1 h2 =>
   cases h2
   show⟨[],x,Z,.nil,h1⟩
 |x::r,z::ys,y,h=>by
  cases h with
  |cons h1 h2 =>
   let⟨xs',x',e,p,q⟩:=pX h2
   show⟨x::xs',x',by rw[e];rfl,.cons h1 p,q⟩
structure PL(n:Nat)(ts:ar)(ss:ax)(i:Nat)(κ:Kp)(E:ae):Prop where
 go:(aX n ts ss i).2=true
 rel:Paired (λj b=>∀v,v∈(aX n ts ss i).1.aR.getD j []↔v∈b) (aX n ts ss i).1.pile κ.P
 asc:∀b∈(aX n ts ss i).1.aR,b.Pairwise (· < ·)
 outs:∀v,cu.out v∈ss.take i↔v∈κ.G
 ties:∀a b,cu.tie a b∈ss.take i↔(a,b)∈κ.B
 ins:∀v,cu.inn v∈ss.take i↔v∈E
 ok:KOk n i κ
def a7g{n:Nat}{ts:ar}{ss:ax}:PL n ts ss 0 ⟨[],[],[]⟩ [] :=
 ⟨Z,.nil,λb h=>absurd h fj,λv=>by simp,λa b=>by simp,λv=>by simp,⟨λb h=>absurd h fj,aK _,aK _,aK _⟩⟩
def vY(p:Int->Bool):(Qo p).Pairwise (· < ·):=by
 unfold Qo;show GK _ ?_;rw[wN];show List.pairwise_lt_range.imp λh=>by omega
theorem vX:∀{xs ys:ae},xs.Pairwise (· < ·)->ys.Pairwise (· < ·)->(∀v,v∈xs↔v∈ys)->xs=ys
 | [],[],_,_,_=>rfl
 | [],y::ys,_,_,h=>absurd ((h y).mpr aZ) fj
 |x::xs,[],_,_,h=>absurd ((h x).mp aZ) fj
 |x::xs,y::ys,hx,hy,h=>by
  rw[uc]at hx hy
  let e:x=y:=by
   rcases bT.mp ((h x).mp aZ)with h1|h1
   ·show h1
   ·rcases bT.mp ((h y).mpr aZ)with h2|h2
    ·show h2.symm
    ·let a:=hy.1 x h1
     let b:=hx.1 y h2
     omega
  subst e
  rw[vX hx.2 hy.2 λv=>⟨λhv=>?_,λhv=>?_⟩]
  ·grind
  grind
def Cg{n:Nat}{ts:ar}{ss:ax}{i:Nat}{κ':Kp}{E':ae}{s:cu}{b:ae}{tV:ay}(dh:n<=10)(D:PL n ts ss i κ E)(h:ss[i]?=some s)(hn:s.need<=(aX n ts ss i).1.pile.length)(hl:(aX n ts ss i).1.pile.take (dX s (aX n ts ss i).1)=tV)
  (hb:ou n ts (ss.take i) s (qP s (aX n ts ss i).1)=some b) (as:b.Pairwise (· < ·))
  (rel:Paired (λj b=>∀v,v∈(aX n ts ss i).1.aR.getD j []↔v∈b) tV κ'.P.dropLast) (ne:κ'.P≠[]) (mb:∀v,v∈b↔v∈κ'.top)
  (mo:∀v,cu.out v∈ss.take (i+1)↔v∈κ'.G) (mt:∀x y,cu.tie x y∈ss.take (i+1)↔(x,y)∈κ'.B) (mi:∀v,cu.inn v∈ss.take (i+1)↔v∈E') (ok:KOk n (i+1) κ'):PL n ts ss (i+1) κ' E':=by
 let d:qt n ts ss i (aX n ts ss i).1=some ⟨(aX n ts ss i).1.aR++[b],(aX n ts ss i).1.dJ++[(aX n ts ss i).1.pile.drop (dX s (aX n ts ss i).1)],tV++[i]⟩:=by
  unfold qt;rw[getD_at h,aD hn,hb,hl];rfl
 let e:=ũ D.go d;let I:=jA dh D.go;let tl:=I.tl;show⟨by rw[e],?_,?_,mo,mt,mi,ok⟩
 ·rw[e,rG ne];show eN ?_ ?_
  ·let lt:∀j∈tV,j<i:=λj hj=>I.lt j (j6 (hl▸hj));let:∀{xs:ay}{ys:List (ae)},(∀j∈xs,j<i)->Paired (λj b=>∀v,v∈(aX n ts ss i).1.aR.getD j []↔v∈b) xs ys->Paired (λj b'=>∀v,v∈((aX n ts ss i).1.aR++[b]).getD j []↔v∈b') xs ys:=λ{xs}=>by
    induction xs with
    |nil=>intro ys _ h;cases h;show .nil
    |cons x r ih =>
     intro ys hx h;cases h with
     |cons h1 h2 =>
      show .cons (λv=>?_) (ih (λj hj=>hx j (bH _ hj)) h2);rw[gB,yL (by rw[tl];show hx x aZ),<-gB];show h1 v
   show this lt rel
  ·intro v;show v∈((aX n ts ss i).1.aR++[b]).getD i []↔_;rw[gB,wK (),tl,zf];show mb v
 ·rw[e];intro x hx;rcases cM.mp hx with hx|hx
  ·show D.asc x hx
  ·rw[bQ.mp hx];show as
def Gs{n:Nat}{ts:ar}{ss:ax}{i:Nat}(dh:n<=10)(D:PL n ts ss i κ E)(ne:κ.P≠[]):∃tV j,(aX n ts ss i).1.pile=tV++[j]/\Paired (λj b=>∀v,v∈(aX n ts ss i).1.aR.getD j []↔v∈b) tV κ.P.dropLast/\(∀v,v∈(aX n ts ss i).1.aR.getD j []↔v∈κ.top)/\((aX n ts ss i).1.aR.getD j []).Pairwise (· < ·):=by
 let r:=D.rel;rw[rG ne]at r;let⟨tV,j,e,p,q⟩:=pX r;show⟨tV,j,e,p,q,?_⟩;let I:=jA dh D.go;let jl:j<(aX n ts ss i).1.aR.length:=by rw[I.tl];show I.lt j (by rw[e];simp)
 rw[gB,bO jl];show D.asc _ (oJ jl)
def Js{s:cu}{r:RS}{tV:ay}{j:Nat}(h1:s.need=1)(e:r.pile=tV++[j]):s.need<=r.pile.length/\r.pile.take (dX s r)=tV/\qP s r=[r.aR.getD j []]:=by
 let el:dX s r=tV.length:=by unfold dX;rw[e,h1,bK];show tV.length+1-1=_;omega
 show⟨by rw[h1,e,bK];show 1<=tV.length+1;omega,by rw[el,e,List.take_left],?_⟩;unfold qP;grind
def Jt{P:List (ae)}(h:P≠[]):P.getLastD []∈P:=by
 let:P.getLastD []∈P.dropLast++[P.getLastD []]:=gq _ aZ
 rwa [<-rG h]at this
def Sh{P:List (ae)}(l2:1<P.length):P.getD (P.length-2) []=P.dropLast.getLastD []:=by
 grind
def join_split{n:Nat}{ts:ar}{ss:ax}{i:Nat}(dh:n<=10)(D:PL n ts ss i κ E)(l2:1<κ.P.length):∃tV j1 j2,(aX n ts ss i).1.pile=tV++[j1,j2]/\cu.join.need<=(aX n ts ss i).1.pile.length/\(aX n ts ss i).1.pile.take (dX .join (aX n ts ss i).1)=tV/\qP .join (aX n ts ss i).1=[(aX n ts ss i).1.aR.getD j1 [],(aX n ts ss i).1.aR.getD j2 []]/\Paired (λj b=>∀v,v∈(aX n ts ss i).1.aR.getD j []↔v∈b) tV κ.P.dropLast.dropLast/\(∀v,v∈(aX n ts ss i).1.aR.getD j1 []↔v∈κ.P.dropLast.getLastD [])/\(∀v,v∈(aX n ts ss i).1.aR.getD j2 []↔v∈κ.top)/\((aX n ts ss i).1.aR.getD j1 []).Pairwise (· < ·)/\((aX n ts ss i).1.aR.getD j2 []).Pairwise (· < ·)/\κ.P.dropLast≠[]/\κ.P.getD (κ.P.length-2) []=κ.P.dropLast.getLastD []:=by
 let ne:κ.P≠[]:=λz=>by grind
 let ne2:κ.P.dropLast≠[]:=λz=>by
  let:=Uq (xs:=κ.P);grind
 let⟨pl1,j2,e,p,q,as2⟩:=Gs dh D ne;let I:=jA dh D.go;rw[rG ne2]at p;let⟨tV,j1,rfl,p0,q0⟩:=pX p;let e':(aX n ts ss i).1.pile=tV++[j1,j2]:=by rw[e,rM];rfl
 let el:dX .join (aX n ts ss i).1=tV.length:=by unfold dX;rw[e',bK];show tV.length+2-2=_;omega
 let jl:j1<(aX n ts ss i).1.aR.length:=by rw[I.tl];show I.lt j1 (by rw[e'];simp)
 show⟨tV,j1,j2,e',by rw[e',bK];show 2<=tV.length+2;omega,(),?_,p0,q0,q,?_,as2,ne2,?_⟩
 ·unfold qP;grind
 ·rw[gB,bO jl];show D.asc _ (oJ jl)
 ·show Sh l2
def a4U{n:Nat}{ts:ar}{ss:ax}{i:Nat}{s:cu}(dh:n<=10)(D:PL n ts ss i κ E)(h:ss[i]?=some s)(c:Can n ts κ s):∃E',(E'=match s with |.inn v=>E++[v]|_=>E)/\PL n ts ss (i+1) (Kd κ s) E':=by
 let tk:=PK h;let ok:=D.ok.do c
 let mo:∀v,cu.out v∈ss.take (i+1)↔v∈κ.G\/s=.out v:=λv=>by rw[tk,cM,D.outs,bQ,eq_comm]
 let mt:∀a b,cu.tie a b∈ss.take (i+1)↔(a,b)∈κ.B\/s=.tie a b:=λa b=>by rw[tk,cM,D.ties,bQ,eq_comm]
 let mi:∀v,cu.inn v∈ss.take (i+1)↔v∈E\/s=.inn v:=λv=>by rw[tk,cM,D.ins,bQ,eq_comm]
 let dl:∀b:ae,(κ.P.dropLast++[b]).dropLast=κ.P.dropLast:=λb=>CJ;let gl:∀(P:List (ae)) (b:ae),(P++[b]).getLastD []=b:=λP b=>by rw[û,M4];rfl
 let ne:∀(P:List (ae)) (b:ae),P++[b]≠[]:=λP b z=>by simp at z
 cases s with
 |leaf =>
  show⟨E,Z,Cg dh D h (tV:=(aX n ts ss i).1.pile) (b:=[]) (dG _) ?_ Z .nil ?_ (ne _ _) ?_ ?_ ?_ ?_ ok⟩
  ·show List.take ((aX n ts ss i).1.pile.length-0) _=_;rw[wX,gJ]
  ·show Paired _ _ (κ.P++[[]]).dropLast;rw[CJ];show D.rel
  ·intro v;show _↔v∈(κ.P++[[]]).getLastD [];rw[gl]
  ·intro v;rw[mo];simp[Kd]
  ·intro a b;rw[mt];simp[Kd]
  ·intro v;rw[mi];simp
 |inn v =>
  let⟨hP,hv,hn,hg⟩:=c;let⟨tV,j,e,p,q,as⟩:=Gs dh D hP;let⟨u1,u2,u3⟩:=Js (s:=.inn v) Z e;show⟨E++[v],Z,Cg dh D h (tV:=tV) (b:=fu ((aX n ts ss i).1.aR.getD j []) [v]) u1 u2 ?_ (vY _) ?_ (ne _ _) ?_ ?_ ?_ ?_ ok⟩
  ·rw[u3];unfold ou;lk;rw[aD ⟨hv,λz=>hn ((q v).mp z),λz=>hg ((D.outs v).mp z)⟩];rfl
  ·show Paired _ _ (κ.P.dropLast++[_]).dropLast;rw[dl];show p
  ·intro x;show _↔x∈(κ.P.dropLast++[κ.top++[v]]).getLastD [];rw[gl];unfold fu;rw[yd,eE,q,cM];constructor
   ·show λz=>z.2.2
   ·intro z;let bd:=D.ok.W5.2;show⟨?_,?_,z⟩
    ·rcases z with z|z
     ·show(bd x z).1
     ·rw[bQ.mp z];show hv.1
    ·rcases z with z|z
     ·let:=(bd x z).2;omega
     ·rw[bQ.mp z];let:=hv.2;omega
  ·intro x;rw[mo];simp[Kd]
  ·intro a b;rw[mt];simp[Kd]
  ·intro x;rw[mi];simp[eq_comm]
 |tie x y =>
  let⟨hP,ht,hb,h1,h2⟩:=c;let⟨tV,j,e,p,q,as⟩:=Gs dh D hP;let⟨u1,u2,u3⟩:=Js (s:=.tie x y) Z e;show⟨E,Z,Cg dh D h (tV:=tV) (b:=(aX n ts ss i).1.aR.getD j []) u1 u2 ?_ as p hP q ?_ ?_ ?_ ok⟩
  ·rw[u3];unfold ou;lk;rw[aD]
   ·rfl
   ·show⟨ht,?_,λz=>hb ((D.ties x y).mp z)⟩;unfold mF;rw[List.filter_eq_nil_iff];intro v hv;let:v∈(aX n ts ss i).1.aR.getD j []:=by
     rcases bT.mp hv with rfl|hv
     ·show(q _).mpr h1
     ·rw[bQ.mp hv];show(q _).mpr h2
    simpa using this
  ·intro v;rw[mo];simp[Kd]
  ·intro a b;rw[mt];simp[Kd,eq_comm]
  ·intro v;rw[mi];simp
 |out v =>
  let⟨hP,hv,hg⟩:=c;let⟨tV,j,e,p,q,as⟩:=Gs dh D hP;let⟨u1,u2,u3⟩:=Js (s:=.out v) Z e;show⟨E,Z,Cg dh D h (tV:=tV) (b:=mF ((aX n ts ss i).1.aR.getD j []) [v]) u1 u2 ?_ (GK _ as) ?_ (ne _ _) ?_ ?_ ?_ ?_ ok⟩
  ·rw[u3];unfold ou;lk;rw[aD ⟨(q v).mpr hv,λz=>hg ((D.outs v).mp z)⟩];rfl
  ·show Paired _ _ (κ.P.dropLast++[_]).dropLast;rw[dl];show p
  ·intro x;show _↔x∈(κ.P.dropLast++[κ.top.erase v]).getLastD [];rw[gl,D.ok.W5.1.mem_erase_iff];unfold mF;rw[jg,q];simp[and_comm]
  ·intro x;rw[mo];simp[Kd,eq_comm]
  ·intro a b;rw[mt];simp[Kd]
  ·intro x;rw[mi];simp
 |join =>
  let⟨l2,pm⟩:=c;let⟨tV,j1,j2,e,u1,u2,u3,p,q1,q2,as1,as2,ne2,eg⟩:=join_split dh D l2;let eb:(aX n ts ss i).1.aR.getD j1 []=(aX n ts ss i).1.aR.getD j2 []:=vX as1 as2 λv=>by
   rw[q1,q2,<-eg];show(pm.mem_iff).symm
  show⟨E,Z,Cg dh D h (tV:=tV) (b:=(aX n ts ss i).1.aR.getD j1 []) u1 u2 ?_ as1 p ne2 q1 ?_ ?_ ?_ ok⟩
  ·rw[u3];unfold ou;lk;rw[aD]
   ·rfl
   ·show eb
  ·intro v;rw[mo];simp[Kd]
  ·intro a b;rw[mt];simp[Kd]
  ·intro v;rw[mi];simp
def a1W{n:Nat}{ts:ar}{ss:ax}(dh:n<=10)(D:PL n ts ss ss.length κ E):(κ.P≠[[]]->Bv n ts ss (cF n ts ss)=.pile)/\(κ.P=[[]]->∀v:Nat,v<n->(∀j:Nat,j<v->(j:Int)∈E)->(v:Int)∉E->Bv n ts ss (cF n ts ss)=.place v)/\(κ.P=[[]]->(∀j:Nat,j<n->(j:Int)∈E)->Bv n ts ss (cF n ts ss)=match ts.find? λt=>!decide (t∈κ.B)with|some t=>.tie t.1 t.2|none=>.ok):=by
 let I:=jA dh D.go;let l1:¬(cF n ts ss).aR.length<ss.length:=by unfold cF;rw[I.tl];omega
 let l2:Li (cF n ts ss)=[[]]↔κ.P=[[]]:=by
  let r:=D.rel;unfold Li cF;generalize (aX n ts ss ss.length).1.pile=pl at *
  generalize (aX n ts ss ss.length).1.aR=tp at *
  generalize κ.P=P at *
  cases r with
  |nil=>simp
  | @cons x b xs bs h1 h2 =>
   let e:tp.getD x []=[]↔b=[]:=by
    rw[T7,T7];show⟨λh v hv=>h v ((h1 v).mpr hv),λh v hv=>h v ((h1 v).mp hv)⟩
   cases h2 with
   |nil =>
    grind
   |cons h3 h4 =>
    grind
 let ins:∀v,cu.inn v∈ss↔v∈E:=λv=>by let:=D.ins v;grind
 let tis:∀a b,cu.tie a b∈ss↔(a,b)∈κ.B:=λa b=>by let:=D.ties a b;grind
 show⟨λh=>?_,λh v hv ok no=>?_,λh ok=>?_⟩
 ·unfold Bv;grind
 ·let ef:(List.range n).find? (λ(v:Nat)=>!decide (cu.inn (v:Int)∈ss))=some v:=Ā.mpr ⟨(),gA.mpr hv,λj hj=>by grind⟩;unfold Bv;grind
 ·let ef:(List.range n).find? (λ(v:Nat)=>!decide (cu.inn (v:Int)∈ss))=none:=CN.mpr λj hj=>by grind
  let eg:(λt:Int×Int=>!decide (cu.tie t.1 t.2∈ss))=λt=>!decide (t∈κ.B):=funext λt=>by grind
  unfold Bv;rw[aA l1,aD (l2.mpr h),ef,eg];try rfl
structure Tb(n m:Nat)(up:Nat->Nat)(bJ:Nat->ae):Prop where
 pos:0<m
 ups:∀k,0<k->k<m->up k<k
 nd:∀k,(bJ k).Nodup
 lt:∀k,∀v∈bJ k,0<=v/\v<(n:Int)
 fr:∀k,0<k->k<m->∀v∈bJ k,v∈bJ (up k)\/∀j,j<k->v∉bJ j
 no:∀k,m<=k->bJ k=[]
inductive oG(m:Nat)(up:Nat->Nat)(k:Nat):Nat->Prop
 |self:k<m->oG m up k k
 |step {r:Nat}:0<r->r<m->oG m up k (up r)->oG m up k r
section
variable{n m:Nat}{up:Nat->Nat}{bJ:Nat->ae}
def Tb.in_(T:Tb n m up bJ){k:Nat}{v:Int}(h:v∈bJ k):k<m:=by
 rcases um k m with c|c
 ·show c
 ·rw[T.no k c]at h;show absurd h fj
def oG.le(T:Tb n m up bJ){k r:Nat}(h:oG m up k r):k<=r:=by
 induction h with
 |self=>grind
 |step r0 rm _ ih=>have:=T.ups _ r0 rm;omega
def oG.trans{k j r:Nat}(h1:oG m up k j)(h2:oG m up j r):oG m up k r:=by
 induction h2 with
 |self=>show h1
 |step r0 rm _ ih=>show .step r0 rm ih
def oG.kid(T:Tb n m up bJ){k r:Nat}(h:oG m up k r):r=k\/∃j,0<j/\j<m/\up j=k/\oG m up j r:=by
 induction h with
 |self=>show .inl rfl
 | @step r r0 rm _ ih =>
  rcases ih with e|⟨j,a,b,c,d⟩
  ·show .inr ⟨r,r0,rm,e,.self rm⟩
  ·show .inr ⟨j,a,b,c,.step r0 rm d⟩
def oG.cmp{j r:Nat}(h1:oG m up j r)(h2:oG m up j' r):oG m up j j'\/oG m up j' j:=by
 induction h1 with
 |self=>show .inr h2
 | @step r r0 rm h ih =>
  cases h2 with
  |self=>show .inl (.step r0 rm h)
  |step _ _ h'=>show ih h'
def Gu(T:Tb n m up bJ){j r:Nat}(j0:0<j)(jm:j<m)(j0':0<j')(jm':j'<m)(e:up j=up j')(h1:oG m up j r)(h2:oG m up j' r):j=j':=by
 let iG:∀{a b:Nat},0<a->a<m->up a=up b->oG m up a b->a=b:=λ{a b} a0 am e h=>by
  cases h with
  |self=>rfl
  |step b0 bm h =>
   rw[<-e]at h;let l1:=h.le T;let l2:=T.ups a a0 am;omega
 rcases h1.cmp h2 with h|h
 ·show iG j0 jm e h
 ·show(iG j0' jm' e.symm h).symm
def vh(T:Tb n m up bJ){j:Nat}{v:Int}(h:v∈bJ j)(fr:j=0\/v∉bJ (up j)):∀q,v∈bJ q->oG m up j q:=by
 let jm:=T.in_ h;let no:∀i,i<j->v∉bJ i:=λi hi=>by
  rcases fr with e|e
  ·omega
  ·rcases T.fr j () jm v h with z|z
   ·show absurd z e
   ·show z i hi
 intro q
 induction q using Nat.strongRecOn with
 |ind q ih =>
  intro hq;let qm:=T.in_ hq;by_cases c:q=j
  ·rw[c];show .self jm
  ·let lj:j<q:=by
    grind
   rcases T.fr q () qm v hq with z|z
   ·show .step () qm (ih _ (T.ups q () qm) z)
   ·show absurd h (z j lj)
def conn(T:Tb n m up bJ){j r:Nat}{v:Int}(b:oG m up j r)(h:v∈bJ r):(v∈bJ j/\v∈bJ (up j))\/∀q,v∈bJ q->oG m up j q:=by
 induction b with
 |self jm =>
  by_cases c:v∈bJ (up j)
  ·show .inl ⟨h,c⟩
  ·show .inr (vh T h (.inr c))
 | @step r r0 rm b ih =>
  by_cases c:v∈bJ (up r)
  ·show ih c
  ·show .inr λq hq=>oG.trans (.step r0 rm b) (vh T h (.inr c) q hq)
def Ju(m:Nat)(up:Nat->Nat)(bJ:Nat->ae)(k:Nat)(v:Int):Prop:=∃r,oG m up k r/\v∈bJ r
def Ŵ(T:Tb n m up bJ){j:Nat}{v:Int}(j0:0<j)(jm:j<m)(h:Ju m up bJ j v)(hu:v∈bJ (up j)):v∈bJ j:=by
 let⟨r,b,hr⟩:=h;rcases conn T b hr with z|z
 ·show z.1
 ·let l1:=(z _ hu).le T;let l2:=T.ups j j0 jm;omega
def a1X(T:Tb n m up bJ){j:Nat}{v:Int}(j0:0<j)(jm:j<m)(j0':0<j')(jm':j'<m)(e:up j=up j')(ne:j≠j')(h:Ju m up bJ j v)(h':Ju m up bJ j' v):v∈bJ (up j):=by
 let⟨r,b,hr⟩:=h;let⟨r',b',hr'⟩:=h';rcases conn T b hr with z|z
 ·show z.2
 ·show absurd (Gu T j0 jm j0' jm' e (z _ hr') b') ne
def Sq(T:Tb n m up bJ):∀r,r<m->oG m up 0 r:=by
 intro r
 induction r using Nat.strongRecOn with
 |ind r ih =>
  intro rm;by_cases c:r=0
  ·rw[c];show .self T.pos
  ·let:=T.ups r () rm;show .step () rm (ih _ this ())
def jx(up:Nat->Nat)(bJ:Nat->ae)(r:Nat)(t:Int×Int):Prop:=t.1∈bJ r/\t.2∈bJ r/\(r=0\/¬(t.1∈bJ (up r)/\t.2∈bJ (up r)))
instance (up:Nat->Nat) (bJ:Nat->ae) (r:Nat) (t:Int×Int):Decidable (jx up bJ r t):=by unfold jx;infer_instance
def Ss(T:Tb n m up bJ){r:Nat}{t:Int×Int}(h:jx up bJ r t):∀q,t.1∈bJ q->t.2∈bJ q->oG m up r q:=by
 let⟨h1,h2,h3⟩:=h;intro q q1 q2;rcases h3 with e|e
 ·show vh T h1 (.inl e) q q1
 ·by_cases c:t.1∈bJ (up r)
  ·show vh T h2 (.inr λz=>e ⟨c,z⟩) q q2
  ·show vh T h1 (.inr c) q q1
def vo(T:Tb n m up bJ){r r':Nat}{t:Int×Int}(h:jx up bJ r t)(h':jx up bJ r' t):r=r':=by
 let l1:=(Ss T h r' h'.1 h'.2.1).le T;let l2:=(Ss T h' r h.1 h.2.1).le T;omega
def a1Y(T:Tb n m up bJ){t:Int×Int}:∀q,t.1∈bJ q->t.2∈bJ q->∃r,r<m/\jx up bJ r t:=by
 intro q
 induction q using Nat.strongRecOn with
 |ind q ih =>
  intro q1 q2;let qm:=T.in_ q1;by_cases c:q=0
  ·show⟨q,qm,q1,q2,.inl c⟩
  ·by_cases d:t.1∈bJ (up q)/\t.2∈bJ (up q)
   ·show ih _ (T.ups q () qm) d.1 d.2
   ·show⟨q,qm,q1,q2,.inr d⟩
end
def FN(κ:Kp)(ss:ax):Kp:=ss.foldl Kd κ
def sO(n wd:Nat)(ts:ar):Kp->ax->Prop
 |_,[]=>True
 |κ,s::r=>(Can n ts κ s/\(Kd κ s).top.length<=wd)/\sO n wd ts (Kd κ s) r
section
variable{n:Nat}{ts:ar}
def mQ(κ:Kp)(a b:ax):FN κ (a++b)=FN (FN κ a) b:=List.foldl_append
theorem nQ:∀{κ:Kp}{a b:ax},sO n wd ts κ a->sO n wd ts (FN κ a) b->sO n wd ts κ (a++b)
 |_,[],_,_,h=>h
 |_,_::_,_,h,h'=>⟨h.1,nQ h.2 h'⟩
theorem yh:∀{κ:Kp}{a b:ax},sO n wd ts κ (a++b)->sO n wd ts κ a/\sO n wd ts (FN κ a) b
 |_,[],_,h=>⟨trivial,h⟩
 |_,_::_,_,h=>⟨⟨h.1,(yh h.2).1⟩,(yh h.2).2⟩
def qN(P:List (ae))(b:ae)(G:ae)(B:ar):(Kp.mk (P++[b]) G B).top=b:=by
 show(P++[b]).getLastD []=b;grind
def ŵ(P:List (ae))(b:ae)(G:ae)(B:ar):(Kp.mk (P++[b]) G B).P≠[]:=λz=>by
 let:P++[b]=[]:=z;simp at this
theorem W6:∀(vs:ae) {P:List (ae)}{b G:ae}{B:ar},vs.Nodup->(∀v∈vs,0<=v/\v<(n:Int))->(∀v∈vs,v∉b)->(∀v∈vs,v∉G)->b.length+vs.length<=wd->sO n wd ts ⟨P++[b],G,B⟩ (vs.map .inn)/\FN ⟨P++[b],G,B⟩ (vs.map .inn)=⟨P++[b++vs],G,B⟩
 | [],P,b,G,B,_,_,_,_,_=>⟨trivial,by rw[jB];rfl⟩
 |v::vs,P,b,G,B,nd,lt,nb,ng,hw=>by
  rw[iM]at hw
  let⟨n1,n2⟩:=iQ.mp nd
  let e:Kd ⟨P++[b],G,B⟩ (.inn v)=⟨P++[b++[v]],G,B⟩:=by
   show Kp.mk ((P++[b]).dropLast++[(Kp.mk (P++[b]) G B).top++[v]]) G B=_
   rw[qN,CJ]
  let⟨i1,i2⟩:=W6 vs (P:=P) (b:=b++[v]) (G:=G) (B:=B) n2 (λx hx=>lt x (bH _ hx)) (λx hx z=>by
   grind) (λx hx=>ng x (bH _ hx)) ()
  show⟨⟨⟨⟨ŵ _ _ _ _,lt v aZ,?_,ng v aZ⟩,?_⟩,?_⟩,?_⟩
  ·rw[qN];show nb v aZ
  ·rw[e,qN,bK,Cw];omega
  ·grind
  ·show FN (Kd ⟨P++[b],G,B⟩ (.inn v)) (vs.map .inn)=_
   rw[e,i2,rM];rfl
theorem PN:∀(vs:ae) {P:List (ae)}{b G:ae}{B:ar},vs.Nodup->b.Nodup->(∀v∈vs,v∈b)->(∀v∈vs,v∉G)->b.length<=wd->sO n wd ts ⟨P++[b],G,B⟩ (vs.map .out)/\∃b',b'.Nodup/\(∀v,v∈b'↔v∈b/\v∉vs)/\FN ⟨P++[b],G,B⟩ (vs.map .out)=⟨P++[b'],G++vs,B⟩
 | [],P,b,G,B,_,nb,_,_,_=>⟨trivial,b,nb,λv=>by simp,by rw[jB];rfl⟩
 |v::vs,P,b,G,B,nd,nb,mb,ng,hw=>by
  let⟨n1,n2⟩:=iQ.mp nd
  let e:Kd ⟨P++[b],G,B⟩ (.out v)=⟨P++[b.erase v],G++[v],B⟩:=by
   show Kp.mk ((P++[b]).dropLast++[(Kp.mk (P++[b]) G B).top.erase v]) (G++[v]) B=_
   rw[qN,CJ]
  let⟨i1,b',d1,d2,i2⟩:=PN vs (P:=P) (b:=b.erase v) (G:=G++[v]) (B:=B) n2 (nb.erase v) (λx hx=>nb.mem_erase_iff.mpr ⟨λz=>n1 (z▸hx),mb x (bH _ hx)⟩) (λx hx z=>by
   grind) (cC List.length_erase_le hw)
  show⟨⟨⟨⟨ŵ _ _ _ _,?_,ng v aZ⟩,?_⟩,?_⟩,b',d1,λx=>?_,?_⟩
  ·rw[qN];show mb v aZ
  ·rw[e,qN];show cC List.length_erase_le hw
  ·rw[e];show i1
  ·rw[d2,nb.mem_erase_iff,bT]
   constructor
   ·rintro⟨⟨h1,h2⟩,h3⟩
    show⟨h2,λz=>z.elim h1 h3⟩
   ·rintro⟨h1,h2⟩
    show⟨⟨λz=>h2 (.inl z),h1⟩,λz=>h2 (.inr z)⟩
  ·show FN (Kd ⟨P++[b],G,B⟩ (.out v)) (vs.map .out)=_
   grind
theorem PX:∀(tl:ar) {P:List (ae)}{b G:ae}{B:ar},tl.Nodup->(∀t∈tl,t∈ts/\t∉B/\t.1∈b/\t.2∈b)->b.length<=wd->sO n wd ts ⟨P++[b],G,B⟩ (tl.map λt=>.tie t.1 t.2)/\FN ⟨P++[b],G,B⟩ (tl.map λt=>.tie t.1 t.2)=⟨P++[b],G,B++tl⟩
 | [],P,b,G,B,_,_,_=>⟨trivial,by rw[jB];rfl⟩
 |t::tl,P,b,G,B,nd,ok,hw=>by
  let⟨n1,n2⟩:=iQ.mp nd
  let⟨o1,o2,o3,o4⟩:=ok t aZ
  let⟨i1,i2⟩:=PX tl (P:=P) (b:=b) (G:=G) (B:=B++[t]) n2 (λs hs=>by
   grind) hw
  show⟨⟨⟨⟨ŵ _ _ _ _,o1,o2,?_,?_⟩,?_⟩,i1⟩,?_⟩
  ·rw[qN];show o3
  ·rw[qN];show o4
  ·show(Kp.mk (P++[b]) G (B++[t])).top.length<=wd
   rw[qN];show hw
  ·show FN ⟨P++[b],G,B++[t]⟩ (tl.map _)=_
   rw[i2,rM];rfl
def a1Z{n:Nat}{ts:ar}{P:List (ae)}{b b':ae}(pm:b'.Perm b):Can n ts ⟨P++[b]++[b'],G,B⟩ .join/\Kd ⟨P++[b]++[b'],G,B⟩ .join=⟨P++[b],G,B⟩:=by
 show⟨⟨?_,?_⟩,?_⟩
 ·show 1<(P++[b]++[b']).length;simp
 ·rw[qN];show b'.Perm ((P++[b]++[b']).getD ((P++[b]++[b']).length-2) []);let:(P++[b]++[b']).getD ((P++[b]++[b']).length-2) []=b:=by
   rw[Sh (by simp),CJ,û,M4];rfl
  rw[this];show pm
 ·show Kp.mk (P++[b]++[b']).dropLast G B=_;grind
end
noncomputable def uJ(x y:ae):ae:=x.filter λv=>!decide (v∈y)
def kZ{x y:ae}{v:Int}:v∈uJ x y↔v∈x/\v∉y:=by
 unfold uJ;grind
def nR(bJ:Nat->ae)(j k:Nat):ax:=(uJ (bJ j) (bJ k)).map .out++(uJ (bJ k) (bJ j)).map .inn
section
variable{n m:Nat}{up:Nat->Nat}{bJ:Nat->ae}{ts:ar}
def Ŷ(T:Tb n m up bJ)(hW:∀k,(bJ k).length<=wd){j k:Nat}{P:List (ae)}{b:ae}(pm:b.Perm (bJ j))(h1:∀v∈bJ j,v∉bJ k->v∉G)(h2:∀v∈bJ k,v∉bJ j->v∉G):sO n wd ts ⟨P++[b],G,B⟩ (nR bJ j k)/\∃b',b'.Perm (bJ k)/\FN ⟨P++[b],G,B⟩ (nR bJ j k)=⟨P++[b'],G++uJ (bJ j) (bJ k),B⟩:=by
 let nb:b.Nodup:=pm.nodup_iff.mpr (T.nd j);let⟨o1,b1,d1,d2,o2⟩:=PN (n:=n) (ts:=ts) (uJ (bJ j) (bJ k)) (P:=P) (b:=b) (G:=G) (B:=B) ((T.nd j).filter _) nb (λv hv=>pm.mem_iff.mpr (kZ.mp hv).1) (λv hv=>h1 v (kZ.mp hv).1 (kZ.mp hv).2) (by rw[pm.length_eq];show hW j);let m1:∀v,v∈b1↔v∈bJ j/\v∈bJ k:=λv=>by
  rw[d2,pm.mem_iff,kZ];grind
 let pk:(b1++uJ (bJ k) (bJ j)).Perm (bJ k):=by
  show(Gz (uf.mpr ⟨d1,(show(uJ (bJ k) (bJ j)).Nodup from(T.nd k).filter _),λx hx y hy e=>?_⟩) (T.nd k)).mpr λv=>?_
  ·subst e;show(kZ.mp hy).2 ((m1 x).mp hx).1
  ·rw[cM,m1];show _\/v∈uJ (bJ k) (bJ j)↔_;rw[kZ];grind
 let⟨i1,i2⟩:=W6 (n:=n) (ts:=ts) (uJ (bJ k) (bJ j)) (P:=P) (b:=b1) (G:=G++uJ (bJ j) (bJ k)) (B:=B) ((T.nd k).filter _) (λv hv=>T.lt k v (kZ.mp hv).1) (λv hv z=>(kZ.mp hv).2 ((m1 v).mp z).1) (λv hv z=>by
  let⟨a,c⟩:=kZ.mp hv;rcases cM.mp z with z|z
  ·grind
  ·show(kZ.mp z).2 a) (by let h1:=pk.length_eq;let h2:=hW k;rw[bK]at h1;rw[h1];show h2)
 show⟨nQ o1 (),b1++uJ (bJ k) (bJ j),pk,by unfold nR;rw[mQ,o2,i2]⟩
def W7(n wd m:Nat)(up:Nat->Nat)(bJ:Nat->ae)(ts tb:ar)(j:Nat)(ss:ax):Prop :=
 ∀P G B,(∀v,Ju m up bJ j v->v∉G)->(∀t∈B,∀r,oG m up j r->¬jx up bJ r t)->∃b G' B',b.Perm (bJ j)/\sO n wd ts ⟨P,G,B⟩ ss/\FN ⟨P,G,B⟩ ss=⟨P++[b],G',B'⟩/\(∀v,v∈G'↔v∈G\/(Ju m up bJ j v/\v∉bJ j))/\∀t,t∈B'↔t∈B\/(t∈tb/\∃r,oG m up j r/\jx up bJ r t)
theorem P0(T:Tb n m up bJ)(hW:∀k,(bJ k).length<=wd){tb:ar}{k:Nat}{L:Nat->ax}:∀(js:ay),js.Nodup->(∀j∈js,0<j/\j<m/\up j=k)->(∀j∈js,W7 n wd m up bJ ts tb j (L j))->∀{P:List (ae)}{b G:ae}{B:ar},b.Perm (bJ k)->(∀j∈js,∀v,Ju m up bJ j v->v∉G)->(∀v∈bJ k,v∉G)->(∀j∈js,∀t∈B,∀r,oG m up j r->¬jx up bJ r t)->
  ∃G' B',sO n wd ts ⟨P++[b],G,B⟩ (js.flatMap λj=>L j++(nR bJ j k++[.join]))/\FN ⟨P++[b],G,B⟩ (js.flatMap λj=>L j++(nR bJ j k++[.join]))=⟨P++[b],G',B'⟩/\(∀v,v∈G'↔v∈G\/∃j∈js,Ju m up bJ j v/\v∉bJ k)/\∀t,t∈B'↔t∈B\/(t∈tb/\∃j∈js,∃r,oG m up j r/\jx up bJ r t)
 | [],_,_,_,P,b,G,B,_,_,_,_=>⟨G,B,trivial,Z,λv=>by simp,λt=>by simp⟩
 |j::js,nd,kd,ly,P,b,G,B,pm,hG,hK,hB=>by
  let⟨n1,n2⟩:=iQ.mp nd
  let⟨j0,jm,ju⟩:=kd j aZ
  let⟨bj,G1,B1,pj,a1,e1,mG1,mB1⟩:=ly j aZ (P++[b]) G B (hG j aZ) (hB j aZ)
  let a80:∀v∈bJ j,Ju m up bJ j v:=λv hv=>⟨j,.self jm,hv⟩
  let⟨a2,b2,p2,e2⟩:=Ŷ (ts:=ts) T hW (k:=k) (P:=P++[b]) (G:=G1) (B:=B1) pj (λv hv _ z=>by
   grind) (λv hv nv z=>by
   rcases(mG1 v).mp z with z|z
   ·grind
   ·show nv (Ŵ T j0 jm z.1 (ju▸hv)))
  let⟨c3,e3⟩:=a1Z (n:=n) (ts:=ts) (P:=P) (b:=b) (b':=b2) (G:=G1++uJ (bJ j) (bJ k)) (B:=B1) (p2.trans pm.symm)
  let mG2:∀v,v∈G1++uJ (bJ j) (bJ k)↔v∈G\/(Ju m up bJ j v/\v∉bJ k):=λv=>by
   rw[cM,mG1,kZ]
   constructor
   ·rintro((z|⟨z1,z2⟩)|⟨z1,z2⟩)
    ·show .inl z
    ·show .inr ⟨z1,λz=>z2 (Ŵ T j0 jm z1 (ju▸z))⟩
    grind
   grind
  let⟨G',B',a4,e4,mG,mB⟩:=P0 T hW js n2 (λi hi=>kd i (bH _ hi)) (λi hi=>ly i (bH _ hi)) (P:=P) (b:=b) (G:=G1++uJ (bJ j) (bJ k)) (B:=B1) pm (λi hi v hv z=>by
   let⟨i0,im,iu⟩:=kd i (bH _ hi)
   rcases(mG2 v).mp z with z|⟨z1,z2⟩
   ·grind
   ·show z2 (ju▸a1X T j0 jm i0 im (ju.trans iu.symm) (λz=>n1 (z▸hi)) z1 hv)) (λv hv z=>by
   grind) (λi hi t ht r br hr=>by
   let⟨i0,im,iu⟩:=kd i (bH _ hi)
   rcases(mB1 t).mp ht with z|⟨_,r',br',hr'⟩
   ·grind
   ·let:=vo T hr hr'
    subst this
    show n1 (Gu T j0 jm i0 im (ju.trans iu.symm) br' br▸hi))
  let es:(j::js).flatMap (λj=>L j++(nR bJ j k++[.join]))=L j++(nR bJ j k++([.join]++js.flatMap λj=>L j++(nR bJ j k++[.join]))):=by
   grind
  rw[es]
  show⟨G',B',nQ a1 ?_,?_,λv=>?_,λt=>?_⟩
  ·rw[e1]
   show nQ a2 ?_
   rw[e2]
   show⟨⟨c3,by rw[e3,qN,pm.length_eq];show hW k⟩,by rw[e3];show a4⟩
  ·rw[mQ,e1,mQ,e2]
   show FN (Kd _ .join) (js.flatMap λj=>L j++(nR bJ j k++[.join]))=_
   rw[e3,e4]
  ·grind
  grind
def vp(up:Nat->Nat)(bJ:Nat->ae)(tb:ar)(k:Nat):ar:=tb.filter λt=>decide (jx up bJ k t)
noncomputable def gQ(m:Nat)(up:Nat->Nat)(k:Nat):ay:=(List.range m).filter λj=>decide (k<j)&&decide (up j=k)
def mH(T:Tb n m up bJ){k j:Nat}:j∈gQ m up k↔0<j/\j<m/\up j=k:=by
 unfold gQ;rw[jg,gA,fX,eE,eE];constructor
 ·rintro⟨a,b,c⟩;show⟨(),a,c⟩
 ·rintro⟨a,b,c⟩;let:=T.ups j a b;show⟨b,(),c⟩
def Gv(m:Nat)(up:Nat->Nat)(k:Nat):(gQ m up k).Nodup:=List.nodup_range.sublist Uw
def a4V(T:Tb n m up bJ)(hW:∀k,(bJ k).length<=wd){tb:ar}{k:Nat}(km:k<m)(tn:tb.Nodup)(sub:∀t∈tb,t∈ts){P:List (ae)}{b G':ae}{B':ar}(pm:b.Perm (bJ k))(hB:∀t∈B,∀r,oG m up k r->¬jx up bJ r t)(mG:∀v,v∈G'↔v∈G\/∃j∈gQ m up k,Ju m up bJ j v/\v∉bJ k)(mB:∀t,t∈B'↔t∈B\/(t∈tb/\∃j∈gQ m up k,∃r,oG m up j r/\jx up bJ r t)) :
  ∃B2,sO n wd ts ⟨P++[b],G',B'⟩ ((vp up bJ tb k).map λt=>.tie t.1 t.2)/\FN ⟨P++[b],G',B'⟩ ((vp up bJ tb k).map λt=>.tie t.1 t.2)=⟨P++[b],G',B2⟩/\(∀v,v∈G'↔v∈G\/(Ju m up bJ k v/\v∉bJ k))/\∀t,t∈B2↔t∈B\/(t∈tb/\∃r,oG m up k r/\jx up bJ r t):=by
 let mo:∀t,t∈vp up bJ tb k↔t∈tb/\jx up bJ k t:=λt=>by
  unfold vp;rw[jg,eE]
 let kb:∀{j r:Nat},j∈gQ m up k->oG m up j r->oG m up k r:=λ{j r} hj b=>by
  let⟨j0,jm,ju⟩:=(mH T).mp hj;show oG.trans (.step j0 jm (by rw[ju];show .self km)) b
 let⟨a,e⟩:=PX (n:=n) (ts:=ts) (vp up bJ tb k) (P:=P) (b:=b) (G:=G') (B:=B') (tn.sublist Uw) (λt ht=>by
  let⟨t1,h⟩:=(mo t).mp ht;show⟨sub t t1,λz=>?_,pm.mem_iff.mpr h.1,pm.mem_iff.mpr h.2.1⟩;rcases(mB t).mp z with z|⟨_,j,hj,r,br,hr⟩
  ·show hB t z k (.self km) h
  ·let:=vo T hr h;subst this;let⟨j0,jm,ju⟩:=(mH T).mp hj;let l1:=br.le T;let l2:=T.ups j j0 jm;omega) (by rw[pm.length_eq];show hW k)
 show⟨B'++vp up bJ tb k,a,e,λv=>?_,λt=>?_⟩
 ·rw[mG];constructor
  ·rintro(z|⟨j,hj,⟨r,br,hr⟩,z⟩)
   ·show .inl z
   ·show .inr ⟨⟨r,kb hj br,hr⟩,z⟩
  ·rintro(z|⟨⟨r,br,hr⟩,z⟩)
   ·show .inl z
   ·rcases br.kid T with c|⟨j,j0,jm,ju,bj⟩
    ·show absurd (c▸hr) z
    ·show .inr ⟨j,(mH T).mpr ⟨j0,jm,ju⟩,⟨r,bj,hr⟩,z⟩
 ·rw[cM,mB,mo];constructor
  ·rintro((z|⟨z0,j,hj,r,br,hr⟩)|⟨z0,z⟩)
   ·show .inl z
   ·show .inr ⟨z0,r,kb hj br,hr⟩
   ·show .inr ⟨z0,k,.self km,z⟩
  ·rintro(z|⟨z0,r,br,hr⟩)
   ·show .inl (.inl z)
   ·rcases br.kid T with c|⟨j,j0,jm,ju,bj⟩
    ·show .inr ⟨z0,c▸hr⟩
    ·show .inl (.inr ⟨z0,j,(mH T).mpr ⟨j0,jm,ju⟩,r,bj,hr⟩)
end
section
variable{n:Nat}{ts:ar}{ss:ax}
theorem Jv(dh:n<=10)(c:sO n wd ts ⟨[],[],[]⟩ ss):∀i,i<=ss.length->∃E,PL n ts ss i (FN ⟨[],[],[]⟩ (ss.take i)) E
 |0,_=>⟨[],a7g⟩
 |i+1,il=>by
  let⟨E,D⟩:=Jv dh c i ()
  let hs:ss[i]?=some (ss[i]'()):=bO ()
  let c1:sO n wd ts ⟨[],[],[]⟩ (ss.take i++ss.drop i):=by rw[tY];show c
  let c2:=(yh c1).2
  rw[yM (show i<ss.length by omega)]at c2
  let⟨E',_,D'⟩:=a4U dh D hs c2.1.1
  show⟨E',?_⟩
  rw[PK hs,mQ]
  show D'
def a2a(c:sO n wd ts ⟨[],[],[]⟩ ss){i:Nat}(il:i<ss.length):(FN ⟨[],[],[]⟩ (ss.take (i+1))).top.length<=wd:=by
 let c1:sO n wd ts ⟨[],[],[]⟩ (ss.take i++ss.drop i):=by rw[tY];show c
 let c2:=(yh c1).2;rw[yM il]at c2;let hs:ss[i]?=some (ss[i]'il):=bO il;rw[PK hs,mQ];show c2.1.2
end
section
variable{n:Nat}{ts:ar}
theorem ŷ:∀(a:ax) {κ:Kp}{pre:ax},sO n wd ts κ a->(∀v,(v∈κ.G\/∃b∈κ.P,v∈b)->cu.inn v∈pre)->∀v,(v∈(FN κ a).G\/∃b∈(FN κ a).P,v∈b)->cu.inn v∈pre++a
 | [],κ,pre,_,h,v,hv=>by rw[jB];show h v hv
 |s::r,κ,pre,c,h,v,hv=>by
  let e:pre++s::r=(pre++[s])++r:=by rw[rM];rfl
  rw[e]
  show ŷ r c.2 (λu hu=>?_) v hv
  let old:∀{u},(u∈κ.G\/∃b∈κ.P,u∈b)->cu.inn u∈pre++[s]:=λhu=>qz _ (h _ hu)
  let dl:∀{b:ae},b∈κ.P.dropLast->b∈κ.P:=λhb=>j6 (by rw[List.dropLast_eq_take]at hb;show hb)
  let can:=c.1.1
  cases s with
  |leaf =>
   rcases hu with hu|⟨b,hb,hu⟩
   ·show old (.inl hu)
   ·rcases cM.mp (show b∈κ.P++[[]]from hb)with hb|hb
    ·grind
    grind
  |inn x =>
   rcases hu with hu|⟨b,hb,hu⟩
   ·show old (.inl hu)
   ·rcases cM.mp (show b∈κ.P.dropLast++[κ.top++[x]]from hb)with hb|hb
    ·grind
    ·rw[bQ.mp hb]at hu
     rcases cM.mp hu with hu|hu
     ·show old (.inr ⟨_,Jt can.1,hu⟩)
     grind
  |tie x y=>show old hu
  |out x =>
   rcases hu with hu|⟨b,hb,hu⟩
   ·rcases cM.mp (show u∈κ.G++[x]from hu)with hu|hu
    ·show old (.inl hu)
    ·rw[bQ.mp hu]
     show old (.inr ⟨_,Jt can.1,can.2.1⟩)
   ·rcases cM.mp (show b∈κ.P.dropLast++[κ.top.erase x]from hb)with hb|hb
    ·grind
    ·rw[bQ.mp hb]at hu
     show old (.inr ⟨_,Jt can.1,List.mem_of_mem_erase hu⟩)
  |join =>
   rcases hu with hu|⟨b,hb,hu⟩
   ·show old (.inl hu)
   ·show old (.inr ⟨b,dl hb,hu⟩)
end
section
variable{n:Nat}{ts:ar}{ss:ax}
def a7h(dh:n<=10)(c:sO n wd ts ⟨[],[],[]⟩ ss)(h:FN ⟨[],[],[]⟩ ss=⟨[[]],G,B⟩)(cov:∀v:Int,0<=v->v<(n:Int)->v∈G)(mB:∀t,t∈B↔t∈ts):Bv n ts ss (cF n ts ss)=.ok:=by
 let⟨E,D⟩:=Jv dh c ss.length (aK _);rw[gJ,h]at D;let hE:∀j:Nat,j<n->(j:Int)∈E:=λj hj=>by
  let h1:=ŷ ss c (pre:=[]) (λv hv=>by
   grind) (j:Int) (.inl ())
  let h2:=(D.ins (j:Int)).mp ();show h2
 let:=(a1W dh D).2.2 Z hE;grind
def È(dh:n<=10)(c:sO n wd ts ⟨[],[],[]⟩ ss)(sW:Bv n ts ss (cF n ts ss)=.ok):∀b∈(cF n ts ss).aR,b.length<=wd:=by
 let go:=ŭ dh sW;let I:=yg dh sW;intro b hb;let⟨k,kl,e⟩:=qD hb;rw[I.tl]at kl;let eb:Go.fH n ts ss k=b:=by
  show(cF n ts ss).aR.getD k []=b;rw[gB,bO (by rw[I.tl];show kl),<-e];rfl
 let⟨E',D'⟩:=Jv dh c (k+1) ();let S:=Go.zL (n:=n) (ts:=ts) go dh (List.getElem?_eq_getElem kl);let r:=D'.rel;let wd':=a2a c kl;let ok':=D'.ok;generalize FN ⟨[],[],[]⟩ (ss.take (k+1))=κ at r wd' ok';rw[S.pile]at r;let ne:κ.P≠[]:=λz=>by
  rw[z]at r;let:=aU r;simp at this
 rw[rG ne]at r;let⟨xs',x,ex,_,hx⟩:=pX r;let ex':=(List.append_inj' ex Z).2;cases ex';rw[Go.Pz go dh (Nat.le_refl _) ()]at hx;let hx':∀v,v∈Go.fH n ts ss k↔v∈κ.top:=hx;let nd:=(Go.R8 dh (λk s h=>Go.a1U (Go.zL go dh h)) k kl).1;rw[eb]at hx' nd;let pm:b.Perm κ.top:=(Gz (Go.Ca nd) ok'.W5.1).mpr hx';rw[pm.length_eq];show wd'
end
theorem Ln{α:Type}(p q:α->Bool)(h:∀x,p x=true->q x=true):∀l:List α,l.countP p+l.countP (λx=>q x && !p x)=l.countP q
 | []=>rfl
 |x::l=>by
  let ih:=Ln p q h l
  grind
theorem DY{α:Type}(l:List α)(p:Nat->α->Bool):∀(js:ay) (q:α->Bool),js.Nodup->(∀j∈js,∀x,p j x=true->q x=true)->(∀j∈js,∀j'∈js,∀x,p j x=true->p j' x=true->j=j')->(js.map λj=>l.countP (p j)).sum<=l.countP q
 | [],_,_,_,_=>dG _
 |j::js,q,nd,hq,iG=>by
  let⟨n1,n2⟩:=iQ.mp nd
  let ih:=DY l p js (λx=>q x && !p j x) n2 (λi hi x hx=>by
   grind) (λa ha b hb x h1 h2=>iG a (bH _ ha) b (bH _ hb) x h1 h2)
  let:=Ln (p j) q (hq j aZ) l
  grind
section
open Classical
variable{n m:Nat}{up:Nat->Nat}{bJ:Nat->ae}
noncomputable def cR (m:Nat) (up:Nat->Nat) (k:Nat):Nat:=(List.range m).countP λr=>decide (oG m up k r)
noncomputable def cT (m:Nat) (up:Nat->Nat) (bJ:Nat->ae) (tb:ar) (k:Nat):Nat:=tb.countP λt=>decide (∃r,oG m up k r/\jx up bJ r t)
def YJ(T:Tb n m up bJ){k:Nat}(km:k<m):1+((gQ m up k).map λj=>cR m up j).sum<=cR m up k:=by
 let kid:∀j∈gQ m up k,0<j/\j<m/\up j=k:=λj hj=>(mH T).mp hj;let ne:∀j∈gQ m up k,j≠k:=λj hj e=>by
  let⟨j0,jm,ju⟩:=kid j hj;let:=T.ups j j0 jm;omega
 let h:=DY (List.range m) (λj r=>if j=k then decide (r=k)else decide (oG m up j r)) (k::gQ m up k) (λr=>decide (oG m up k r)) (iQ.mpr ⟨λz=>ne k z Z,Gv _ _ _⟩) (λj hj x hx=>by
  by_cases c:j=k
  ·rw[aD c,eE]at hx;rw[hx];show bh (.self km)
  ·rw[aA c,eE]at hx;rcases bT.mp hj with e|hj
   ·grind
   ·let⟨j0,jm,ju⟩:=kid j hj;show bh (oG.trans (.step j0 jm (by rw[ju];show .self km)) hx)) (λa ha b hb x h1 h2=>by
  let nk:∀{j:Nat},j∈gQ m up k->¬oG m up j k:=λ{j} hj z=>by
   let⟨j0,jm,ju⟩:=kid j hj;let:=T.ups j j0 jm;let:=z.le T;omega
  rcases bT.mp ha with ea|ha<;>rcases bT.mp hb with eb|hb
  ·rw[ea,eb]
  ·grind
  ·grind
  ·rw[aA (ne a ha),eE]at h1;rw[aA (ne b hb),eE]at h2;let⟨a0,am,au⟩:=kid a ha;let⟨b0,bm,bu⟩:=kid b hb;show Gu T a0 am b0 bm (au.trans bu.symm) h1 h2)
 rw[cA,vI]at h;let e1:(List.range m).countP (λr=>if k=k then decide (r=k)else decide (oG m up k r))=1:=by
  let:(λr=>if k=k then decide (r=k)else decide (oG m up k r))=λr=>decide (r=k):=funext λr=>aD rfl;rw[this];let h1:=Va (n:=m);let h2:List.count k (List.range m)=1:=()
  rw[<-h2];unfold List.count;grind
 let e2:(gQ m up k).map (λj=>(List.range m).countP λr=>if j=k then decide (r=k)else decide (oG m up j r))=(gQ m up k).map λj=>cR m up j:=vA λj hj=>by
  unfold cR;congr 1;funext r;rw[aA (ne j hj)]
 rw[e1,e2]at h;show h
def a2b(T:Tb n m up bJ){k:Nat}(km:k<m)(tb:ar):(vp up bJ tb k).length+((gQ m up k).map λj=>cT m up bJ tb j).sum<=cT m up bJ tb k:=by
 let kid:∀j∈gQ m up k,0<j/\j<m/\up j=k:=λj hj=>(mH T).mp hj;let ne:∀j∈gQ m up k,j≠k:=λj hj e=>by
  let⟨j0,jm,ju⟩:=kid j hj;let:=T.ups j j0 jm;omega
 let h:=DY tb (λj t=>if j=k then decide (jx up bJ k t)else decide (∃r,oG m up j r/\jx up bJ r t)) (k::gQ m up k) (λt=>decide (∃r,oG m up k r/\jx up bJ r t)) (iQ.mpr ⟨λz=>ne k z Z,Gv _ _ _⟩) (λj hj x hx=>by
  by_cases c:j=k
  ·rw[aD c,eE]at hx;show bh ⟨k,.self km,hx⟩
  ·rw[aA c,eE]at hx;let⟨r,br,hr⟩:=hx;rcases bT.mp hj with e|hj
   ·grind
   ·let⟨j0,jm,ju⟩:=kid j hj;show bh ⟨r,oG.trans (.step j0 jm (by rw[ju];show .self km)) br,hr⟩) (λa ha b hb x h1 h2=>by
  let nk:∀{j:Nat},j∈gQ m up k->¬oG m up j k:=λ{j} hj z=>by
   let⟨j0,jm,ju⟩:=kid j hj;let:=T.ups j j0 jm;let:=z.le T;omega
  rcases bT.mp ha with ea|ha<;>rcases bT.mp hb with eb|hb
  ·rw[ea,eb]
  ·rw[aD ea,eE]at h1;rw[aA (ne b hb),eE]at h2;let⟨r,br,hr⟩:=h2;show absurd (vo T hr h1▸br) (nk hb)
  ·rw[aD eb,eE]at h2;rw[aA (ne a ha),eE]at h1;let⟨r,br,hr⟩:=h1;show absurd (vo T hr h2▸br) (nk ha)
  ·rw[aA (ne a ha),eE]at h1;rw[aA (ne b hb),eE]at h2;let⟨r,br,hr⟩:=h1;let⟨r',br',hr'⟩:=h2;let:=vo T hr hr';subst this;let⟨a0,am,au⟩:=kid a ha;let⟨b0,bm,bu⟩:=kid b hb;show Gu T a0 am b0 bm (au.trans bu.symm) br br')
 rw[cA,vI]at h;let e1:tb.countP (λt=>if k=k then decide (jx up bJ k t)else decide (∃r,oG m up k r/\jx up bJ r t))=(vp up bJ tb k).length:=by
  unfold vp;grind
 let e2:(gQ m up k).map (λj=>tb.countP λt=>if j=k then decide (jx up bJ k t)else decide (∃r,oG m up j r/\jx up bJ r t))=(gQ m up k).map λj=>cT m up bJ tb j:=vA λj hj=>by
  unfold cT;congr 1;funext t;rw[aA (ne j hj)]
 rw[e1,e2]at h;show h
theorem YK{α:Type}(L:Nat->List α)(c d:Nat->Nat):∀js:ay,(∀j∈js,(L j).length<=14*c j+d j)->(js.flatMap L).length<=14*(js.map c).sum+(js.map d).sum
 | [],_=>dG _
 |j::js,h=>by
  let ih:=YK L c d js λi hi=>h i (bH _ hi)
  grind
def É(hW:∀k,(bJ k).length<=4)(j k:Nat):(nR bJ j k).length<=8:=by
 let f1:(uJ (bJ j) (bJ k)).length<=4:=cC (yQ _ _) (hW j);let f2:(uJ (bJ k) (bJ j)).length<=4:=cC (yQ _ _) (hW k);unfold nR;grind
end
def oH(early:Bool)(tb:ar)(m:Nat)(up:Nat->Nat)(bJ:Nat->ae):Nat->Nat->ax
 |0,_=>[]
 |f+1,k=>(((.leaf::(bJ k).map .inn)++if early=true then(vp up bJ tb k).map λt=>.tie t.1 t.2 else [])++(gQ m up k).flatMap λj=>oH early tb m up bJ f j++(nR bJ j k++[.join]))++if early=true then []else(vp up bJ tb k).map λt=>.tie t.1 t.2
section
variable{n m:Nat}{up:Nat->Nat}{bJ:Nat->ae}{ts:ar}
theorem Sv(T:Tb n m up bJ)(hW:∀k,(bJ k).length<=wd){tb:ar}(tn:tb.Nodup)(sub:∀t∈tb,t∈ts)(early:Bool):∀f k,k<m->m<=k+f->W7 n wd m up bJ ts tb k (oH early tb m up bJ f k)
 |0,k,km,mk=>absurd km ()
 |f+1,k,km,mk=>by
  intro P G B hG hB
  let Ÿ:∀v∈bJ k,v∉G:=λv hv=>hG v ⟨k,.self km,hv⟩
  let⟨i1,i2⟩:=W6 (n:=n) (wd:=wd) (ts:=ts) (bJ k) (P:=P) (b:=[]) (G:=G) (B:=B) (T.nd k) (T.lt k) (λv _ z=>absurd z fj) Ÿ (by let:=hW k;show 0+_<=_;omega)
  let kid:∀j∈gQ m up k,0<j/\j<m/\up j=k:=λj hj=>(mH T).mp hj
  let kb:∀j∈gQ m up k,∀r,oG m up j r->oG m up k r:=λj hj r b=>by
   let⟨j0,jm,ju⟩:=kid j hj
   show oG.trans (.step j0 jm (by rw[ju];show .self km)) b
  let jk:∀j∈gQ m up k,¬oG m up j k:=λj hj z=>by
   let⟨j0,jm,ju⟩:=kid j hj
   let l1:=z.le T
   let l2:=T.ups j j0 jm
   omega
  let ih:∀j∈gQ m up k,W7 n wd m up bJ ts tb j (oH early tb m up bJ f j):=λj hj=>by
   let⟨j0,jm,ju⟩:=kid j hj
   let:=T.ups j j0 jm
   show Sv T hW tn sub early f j jm ()
  let a1:sO n wd ts ⟨P,G,B⟩ (.leaf::(bJ k).map .inn):=by
   show⟨⟨trivial,?_⟩,i1⟩
   show(Kp.mk (P++[[]]) G B).top.length<=wd
   rw[qN]
   show dG _
  let e1:FN ⟨P,G,B⟩ (.leaf::(bJ k).map .inn)=⟨P++[bJ k],G,B⟩:=by
   show FN ⟨P++[[]],G,B⟩ ((bJ k).map .inn)=_
   rw[i2,List.nil_append]
  cases early with
  |false =>
   let⟨G',B',a,e,mG,mB⟩:=P0 (ts:=ts) T hW (L:=oH false tb m up bJ f) (gQ m up k) (Gv _ _ _) kid ih (P:=P) (b:=bJ k) (G:=G) (B:=B) (yZ _) (λj hj v ⟨r,b,hr⟩=>hG v ⟨r,kb j hj r b,hr⟩) Ÿ (λj hj t ht r b=>hB t ht r (kb j hj r b))
   let⟨B2,a2,e2,mG2,mB2⟩:=a4V (ts:=ts) T hW km tn sub (P:=P) (yZ _) hB mG mB
   show⟨bJ k,G',B2,yZ _,?_,?_,mG2,mB2⟩
   ·unfold oH
    rw[aA cL,aA cL,jB]
    show nQ (nQ a1 (by rw[e1];show a)) ?_
    rw[mQ,e1,e]
    show a2
   ·unfold oH
    rw[aA cL,aA cL,jB,mQ,mQ,e1,e,e2]
  |true =>
   let mo:∀t,t∈vp up bJ tb k↔t∈tb/\jx up bJ k t:=λt=>by
    unfold vp
    rw[jg,eE]
   let⟨t1,t2⟩:=PX (n:=n) (wd:=wd) (ts:=ts) (vp up bJ tb k) (P:=P) (b:=bJ k) (G:=G) (B:=B) (tn.sublist Uw) (λt ht=>by
    let⟨h0,h⟩:=(mo t).mp ht
    show⟨sub t h0,λz=>hB t z k (.self km) h,h.1,h.2.1⟩) (hW k)
   let⟨G',B',a,e,mG,mB⟩:=P0 (ts:=ts) T hW (L:=oH true tb m up bJ f) (gQ m up k) (Gv _ _ _) kid ih (P:=P) (b:=bJ k) (G:=G) (B:=B++vp up bJ tb k) (yZ _) (λj hj v ⟨r,b,hr⟩=>hG v ⟨r,kb j hj r b,hr⟩) Ÿ (λj hj t ht r b hr=>by
    rcases cM.mp ht with z|z
    ·show hB t z r (kb j hj r b) hr
    ·show jk j hj (vo T hr ((mo t).mp z).2▸b))
   show⟨bJ k,G',B',yZ _,?_,?_,λv=>?_,λt=>?_⟩
   ·unfold oH
    rw[aD Z,aD Z,jB]
    show nQ (nQ a1 (by rw[e1];show t1)) ?_
    rw[mQ,e1,t2]
    show a
   ·unfold oH
    rw[aD Z,aD Z,jB,mQ,mQ,e1,t2,e]
   ·rw[mG]
    constructor
    ·rintro(z|⟨j,hj,⟨r,br,hr⟩,z⟩)
     ·show .inl z
     ·show .inr ⟨⟨r,kb j hj r br,hr⟩,z⟩
    ·rintro(z|⟨⟨r,br,hr⟩,z⟩)
     ·show .inl z
     ·rcases br.kid T with c|⟨j,j0,jm,ju,bj⟩
      ·show absurd (c▸hr) z
      ·show .inr ⟨j,(mH T).mpr ⟨j0,jm,ju⟩,⟨r,bj,hr⟩,z⟩
   ·rw[mB,cM,mo]
    constructor
    ·rintro((z|⟨z0,z⟩)|⟨z0,j,hj,r,br,hr⟩)
     ·show .inl z
     ·show .inr ⟨z0,k,.self km,z⟩
     ·show .inr ⟨z0,r,kb j hj r br,hr⟩
    ·rintro(z|⟨z0,r,br,hr⟩)
     ·show .inl (.inl z)
     ·rcases br.kid T with c|⟨j,j0,jm,ju,bj⟩
      ·show .inl (.inr ⟨z0,c▸hr⟩)
      ·show .inr ⟨z0,j,(mH T).mpr ⟨j0,jm,ju⟩,r,bj,hr⟩
theorem Lp(T:Tb n m up bJ)(hW:∀k,(bJ k).length<=4)(early:Bool)(tb:ar):∀f k,k<m->(oH early tb m up bJ f k).length+9<=14*cR m up k+cT m up bJ tb k
 |0,k,km=>by
  let h:=YJ T km
  show 0+9<=_
  omega
 |f+1,k,km=>by
  let h1:=YJ T km
  let h2:=a2b T km tb
  let hb:=hW k
  let h3:=YK (λj=>oH early tb m up bJ f j++(nR bJ j k++[cu.join])) (λj=>cR m up j) (λj=>cT m up bJ tb j) (gQ m up k) λj hj=>by
   let⟨j0,jm,ju⟩:=(mH T).mp hj
   let ih:=Lp T hW early tb f j jm
   let:=É hW j k
   grind
  unfold oH
  grind
def Lq(T:Tb n m up bJ)(hW:∀k,(bJ k).length<=4)(m20:m<=20)(early:Bool){tb:ar}(a2c:tb.length<=100){f k:Nat}(km:k<m):(oH early tb m up bJ f k).length<=400:=by
 let h:=Lp T hW early tb f k km;let h1:cR m up k<=m:=by
  unfold cR;show cC List.countP_le_length ()
 let h2:cT m up bJ tb k<=tb.length:=List.countP_le_length;omega
def zM(early:Bool)(tb:ar)(m:Nat)(up:Nat->Nat)(bJ:Nat->ae)(d:Nat):ax:=oH early tb m up bJ d 0++(bJ 0).map .out
def Ê{d:Nat}(T:Tb n m up bJ)(dh:n<=10)(hW:∀k,(bJ k).length<=wd)(tn:ts.Nodup)(inb:∀t∈ts,∃k,t.1∈bJ k/\t.2∈bJ k)(cov:∀v:Int,0<=v->v<(n:Int)->∃k,v∈bJ k)(md:m<=d)(early:Bool):Bv n ts (zM early ts m up bJ d) (cF n ts (zM early ts m up bJ d))=.ok/\∀b∈(cF n ts (zM early ts m up bJ d)).aR,b.length<=wd:=by
 let⟨b,G',B',pm,a,e,mG,mB⟩:=Sv (ts:=ts) T hW tn (λ_ h=>h) early d 0 T.pos () [] [] [] (λv _ z=>absurd z fj) (λt ht=>absurd ht fj);let⟨o1,b',d1,d2,o2⟩:=PN (n:=n) (wd:=wd) (ts:=ts) (bJ 0) (P:=[]) (b:=b) (G:=G') (B:=B') (T.nd 0) (pm.nodup_iff.mpr (T.nd 0)) (λv hv=>pm.mem_iff.mpr hv) (λv hv z=>by
  grind) (by rw[pm.length_eq];show hW 0)
 let eb:b'=[]:=T7.mpr λv hv=>((d2 v).mp hv).2 (pm.mem_iff.mp ((d2 v).mp hv).1);let A:sO n wd ts ⟨[],[],[]⟩ (zM early ts m up bJ d):=nQ a ();let E:FN ⟨[],[],[]⟩ (zM early ts m up bJ d)=⟨[[]],G'++bJ 0,B'⟩:=by
  unfold zM;rw[mQ,e,o2,eb];rfl
 let sW:=a7h dh A E (λv v0 vn=>by
  let⟨k,hk⟩:=cov v v0 vn;by_cases c:v∈bJ 0
  ·grind
  ·show qz _ ((mG v).mpr (.inr ⟨⟨k,Sq T k (T.in_ hk),hk⟩,c⟩))) (λt=>by
  rw[mB];constructor
  ·grind
  ·intro z;let⟨k,k1,k2⟩:=inb t z;let⟨r,rm,hr⟩:=a1Y T k k1 k2;show .inr ⟨z,r,Sq T r rm,hr⟩)
 show⟨sW,È dh A sW⟩
end
abbrev rng(n:Nat):ae:=(List.range n).map λi=>((i:Nat):Int)
def Qa{n:Nat}{v:Int}:v∈rng n↔0<=v/\v<(n:Int):=by
 rw[fD];constructor
 ·grind
 ·rintro⟨h0,h1⟩;show⟨v.toNat,gA.mpr (),()⟩
def Lr(n:Nat):(rng n).Nodup:=by
 unfold List.Nodup;rw[wN];show List.pairwise_lt_range.imp λh=>by omega
def pY{rs:List zW}{r:zW}{k:Nat}(h:k<rs.length):rowAt (rs++[r]) k=rowAt rs k:=by
 unfold rowAt;grind
def uK{rs:List zW}{r:zW}:rowAt (rs++[r]) rs.length=r:=by
 unfold rowAt;rw[gB,wK (aK _),zf];rfl
def zX(rs:List zW)(k:Nat):Nat:=((rowAt rs k).1.getD 0).toNat
def fG(rs:List zW)(k:Nat):ae:=(rowAt rs k).2
def Ci{rs:List zW}{k:Nat}(h:rs.length<=k):rowAt rs k=(none,[]):=by
 unfold rowAt;grind
def iD(rs:List zW)(r:zW)(k:Nat):fG (rs++[r]) k=if k=rs.length then r.2 else fG rs k:=by
 unfold fG;by_cases c:k=rs.length
 ·rw[aD c,c,uK]
 ·rw[aA c];by_cases d:k<rs.length
  ·rw[pY d]
  ·rw[Ci (),Ci ()]
def Cj(rs:List zW)(r:zW)(k:Nat):zX (rs++[r]) k=if k=rs.length then(r.1.getD 0).toNat else zX rs k:=by
 unfold zX;by_cases c:k=rs.length
 ·rw[aD c,c,uK]
 ·rw[aA c];by_cases d:k<rs.length
  ·rw[pY d]
  ·rw[Ci (),Ci ()]
structure Rw(n most:Nat)(rs:List zW)(us:ae):Prop where
 T:Tb n rs.length (zX rs) (fG rs)
 r0:(rowAt rs 0).1=none
 ru:∀k,0<k->k<rs.length->(rowAt rs k).1=some ((zX rs k:Nat):Int)
 nd:us.Nodup
 lt:∀v∈us,0<=v/\v<(n:Int)
 dis:∀v∈us,∀k,v∉fG rs k
 cov:∀v:Int,0<=v->v<(n:Int)->v∈us\/∃k,v∈fG rs k
 few:∀k,(fG rs k).length<=most
def Ck(us:ae)(c:Nat):us.take (us.length-c)++us.drop (us.length-c)=us:=tY _ _
def a8H{n most:Nat}(pm:us.Perm (rng n))(cm:c<=most)(hz:zs.Perm (us.drop (us.length-c)).reverse):Rw n most [(none,zs)] (us.take (us.length-c)):=by
 let ndu:us.Nodup:=pm.nodup_iff.mpr (Lr n);let inn:∀v∈us,0<=v/\v<(n:Int):=λv hv=>Qa.mp (pm.mem_iff.mp hv);let Zx:=ndu;rw[<-Ck us c]at Zx;let⟨n1,n2,dj⟩:=uf.mp Zx;let mz:∀v,v∈zs↔v∈us.drop (us.length-c):=λv=>by grind
 let bg:∀k,fG [(none,zs)] k=if k=0 then zs else []:=λk=>by
  cases k with
  |zero=>rfl
  |succ k=>rfl
 let lz:zs.length<=most:=by
  rw[hz.length_eq,yS,gw];omega
 show⟨⟨Nat.zero_lt_one,λk h0 h1=>?_,λk=>?_,λk v hv=>?_,λk h0 h1=>?_,λk hk=>?_⟩,Z,λk h0 h1=>?_,n1,λv hv=>inn v (j6 hv),λv hv k hk=>?_,λv v0 v1=>?_,λk=>?_⟩
 ·grind
 ·grind
 ·grind
 ·grind
 ·grind
 ·grind
 ·grind
 ·let:v∈us:=pm.mem_iff.mpr (Qa.mpr ⟨v0,v1⟩);rw[<-Ck us c]at this;rcases cM.mp this with h|h
  ·show .inl h
  ·show .inr ⟨0,(mz v).mpr h⟩
 ·rw[bg];split
  ·show lz
  ·show dG _
def a4W{n most f:Nat}{rs:List zW}{ks:ae}(W:Rw n most rs us)(fl:f<rs.length)(sb:List.Sublist ks (fG rs f))(lc:ks.length+c<=most)(hz:zs.Perm (ks++(us.drop (us.length-c)).reverse)):Rw n most (rs++[(some (f:Int),zs)]) (us.take (us.length-c)):=by
 let Zx:=W.nd;rw[<-Ck us c]at Zx;let⟨n1,n2,dj⟩:=uf.mp Zx;let mz:∀v,v∈zs↔v∈ks\/v∈us.drop (us.length-c):=λv=>by rw[hz.mem_iff,cM,List.mem_reverse]
 let lz:zs.length<=most:=by
  rw[hz.length_eq,bK,yS,gw];omega
 let ll:(rs++[((some (f:Int),zs):zW)]).length=rs.length+1:=by rw[bK,Cw]
 let ndz:zs.Nodup:=hz.nodup_iff.mpr (uf.mpr ⟨(W.T.nd f).sublist sb,(List.reverse_perm _).nodup_iff.mpr n2,λx hx y hy e=>by
  subst e;show W.dis x (yR (List.mem_reverse.mp hy)) f (sb.subset hx)⟩)
 let un:zX (rs++[((some (f:Int),zs):zW)]) rs.length=f:=by
  rw[Cj,aD rfl];rfl
 show⟨⟨(),λk h0 h1=>?_,λk=>?_,λk v hv=>?_,λk h0 h1 v hv=>?_,λk hk=>?_⟩,?_,λk h0 h1=>?_,n1,λv hv=>W.lt v (j6 hv),λv hv k hk=>?_,λv v0 v1=>?_,λk=>?_⟩
 ·rw[ll]at h1;by_cases e:k=rs.length
  ·subst e;rw[un];show fl
  ·rw[Cj,aA e];show W.T.ups k h0 ()
 ·rw[iD];split
  ·show ndz
  ·show W.T.nd k
 ·rw[iD]at hv;split at hv
  ·rcases(mz v).mp hv with h|h
   ·show W.T.lt f v (sb.subset h)
   ·show W.lt v (yR h)
  ·show W.T.lt k v hv
 ·rw[ll]at h1;by_cases e:k=rs.length
  ·subst e;rw[un];rw[iD,aD rfl]at hv;rcases(mz v).mp hv with h|h
   ·show .inl ?_;rw[iD,aA ()];show sb.subset h
   ·show .inr λj hj=>?_;rw[iD,aA ()];show W.dis v (yR h) j
  ·let kl:k<rs.length:=()
   rw[iD,aA e]at hv;rw[Cj,aA e];let ul:=W.T.ups k h0 kl;rcases W.T.fr k h0 kl v hv with h|h
   ·show .inl ?_;rw[iD,aA ()];show h
   ·show .inr λj hj=>?_;rw[iD,aA ()];show h j hj
 ·rw[ll]at hk;rw[iD,aA ()];show W.T.no k ()
 ·rw[pY W.T.pos];show W.r0
 ·rw[ll]at h1;by_cases e:k=rs.length
  ·subst e;rw[un,uK]
  ·rw[Cj,aA e,pY ()];show W.ru k h0 ()
 ·rw[iD]at hk;split at hk
  ·rcases(mz v).mp hk with h|h
   ·show W.dis v (j6 hv) f (sb.subset h)
   ·show dj v hv v h rfl
  ·show W.dis v (j6 hv) k hk
 ·rcases W.cov v v0 v1 with h|⟨k,h⟩
  ·rw[<-Ck us c]at h;rcases cM.mp h with h|h
   ·show .inl h
   ·show .inr ⟨rs.length,?_⟩;rw[iD,aD rfl];show(mz v).mpr (.inr h)
  ·show .inr ⟨k,?_⟩;let kl:=W.T.in_ h;rw[iD,aA ()];show h
 ·rw[iD];split
  ·show lz
  ·show W.few k
def RwX(ex:aI)(H:Hp)(v:V)(r:zW):Prop:=∃p b,v=.ref p/\H p= ~~~[upV r.1,.ref b]/\H b=↥(r.2.map V.int)/\b∉ex/\r.2.length<=1000
def RwX.same{ex:aI}{H H':Hp}{v:V}{r:zW}(s:aL H H')(h:RwX ex H v r):RwX ex H' v r:=by
 let⟨p,b,e,h1,h2,h3⟩:=h;show⟨p,b,e,s _ _ h1,s _ _ h2,h3⟩
def RwX.chg{ex:aI}{H H':Hp}{l:Addr}{xs:af}{o:HO}{v:V}{r:zW}(hl:H l=↥xs)(c:tH H l o H')(m:l∈ex)(h:RwX ex H v r):RwX ex H' v r:=by
 let⟨p,b,e,h1,h2,h3,h4⟩:=h;show⟨p,b,e,(c.rest p λz=>by grind).trans h1,(c.rest b λz=>h3 (z▸m)).trans h2,h3,h4⟩
def RwX.l{ex:aI}{l:Addr}{H:Hp}{v:V}{r:zW}(m:l∈ex)(h:RwX ex H v r):Oz l H v r:=by
 let⟨p,b,e,h1,h2,h3,h4⟩:=h;show⟨p,b,e,h1,h2,λz=>h3 (z▸m),h4⟩
def YL{tt:TT}{H:Hp}{pl:Addr}{lo:Int}(h:H pl=↥(us.map V.int))(hc:c<=us.length)(lu:us.length<=900)
  (hs:∀(i:Nat) (H':Hp) (xs:af) (y:V) (N:VK) (Z98:Hp->Prop),H' pl=↥(xs++[y])->(∀H2,tH H' pl (.lst xs) H2->N y H2)->g (.int (lo+i)) (qg ix σ) H' λσ2 H2=>tt σ2 H2 λb H3=>if b=true then te σ2 H3 N else Z98 H3)
  (hd:∀H1 p H2,tH H pl (.lst ((us.take (us.length-c)).map V.int)) H1->iH H1 p (.lst ((us.drop (us.length-c)).reverse.map V.int)) H2->Q (.ref p) H2):lY ix g tt te σ H Q (Vr lo c):=by
 show Am (λi ys H'=>ys=(us.drop (us.length-i)).reverse.map V.int/\tH H pl (.lst ((us.take (us.length-i)).map V.int)) H') ⟨?_,?_,λ_ _=>rfl⟩ (λi ys H' hi ⟨e,_⟩=>?_) (λi ys H' hi ⟨e,c1⟩=>?_) (λys H' ⟨e,c1⟩ p hp=>?_)
 ·rw[wX,List.drop_length];rfl
 ·rw[wX,gJ];show h
 ·rw[e,aJ,yS,gw];show fC (dz ())
 ·let jl:us.length-(i+1)<us.length:=()
  let e1:us.length-i=us.length-(i+1)+1:=()
  let et:us.take (us.length-i)=us.take (us.length-(i+1))++[us[us.length-(i+1)]]:=by rw[e1,yK jl]
  let ed:us.drop (us.length-(i+1))=us[us.length-(i+1)]::us.drop (us.length-i):=by rw[yM jl,e1]
  let h1:=c1.here;rw[et,cW]at h1;show hs i H' _ _ (λv H4=>ys++[v]=(us.drop (us.length-(i+1))).reverse.map V.int/\tH H pl (.lst ((us.take (us.length-(i+1))).map V.int)) H4) _ h1 λH2 c2=>⟨?_,c2.here,λb hb=>(c2.rest b hb).trans (c1.rest b hb)⟩;rw[e,ed,U5,cW];rfl
 ·subst e;show hd H' p _ c1 (iH.nC hp)
abbrev rH:Stmt:=top 42
def zN:bR ["_law_script","_law_k","_law_base"] KR (aG rH):={}
inductive a8I(K:aH)(vs:af)(H:Hp)(Q:VK)(u_3:XK):Prop
 |mk (a:Addr) (ns:ae) (k:Int) (_:vs=[.ref a,.int k]) (_:ã K H a ns) (_:ns.length<=63) (_:0<=k) (_:k<=1000) (_:∀z,Q (.int z) H)
inductive tB(H:Hp)(v:V)(s:cu):Prop
 |mk (p:_) (_:v=.ref p) (_:H p= ~~~(s.vs))
def tB.same{H H':Hp}{v:V}{s:cu}(e:aL H H')(h:tB H v s):tB H' v s:=by
 let⟨p,rfl,h⟩:=h;show⟨p,Z,e _ _ h⟩
def tB.v{K:aH}{H:Hp}{v:V}{s:cu}(h:tB H v s):uD K H v s:=by
 let⟨p,rfl,h⟩:=h;show⟨p,Z,cO.of h⟩
def zO(B:Bl mg)(nZ:Dn K mg "_law_at" rH KR):⋯ 1 nZ.f nZ.fd KR (a8I K):=by
 show nZ.F.ok zN λdZ A outer s H vs Q E hr h=>?_;let⟨a,ns,k,rfl,hS,h63,k0,k1,q⟩:=h;let hA:=hS.seq;show⟨_,(aB (cJ (aN Ac (pv 1) (aW (b8 (K:=K) Z) Z B.len () (O (pv 0) aj)))
   (aF (bI (aP (bf (K:=K) Z) (pv 0) (pv 1))))
   bx)
   (aB (aV 2 zN.nd aq)
   (g8 (cJ (aN tE (aW (b8 (K:=K) Z) Z B.len () (O (pv 0) aj)) aq)
   (aF (aV 2 zN.nd (bA jV (aP (bf (K:=K) Z) (pv 0) (bA jV (bA dH (bA zu (pv 1) aq) aq) (aW (b8 (K:=K) Z) Z B.len () (O (pv 0) aj)))) aq)))
   bx)
   (aF (bI (bA jV (bA zu (bA dH (bA dH (pv 2) (bA zu aq (pv 1))) aq) (bA dH (bA dH (bA zu (pv 2) aq) (bA zu (pv 1) (pv 1))) aq)) aq)))))),?_⟩
 let hl:(ns.map V.int).length=ns.length:=aJ _;show⟨_,Z,_,Z,a,_,Z,.inl hA,_,_,Z,Z,_,Z,qH (λc=>?_) λc=>?_⟩
 ·let c':k<(((ns.map V.int).length:Nat):Int):=dB c;rw[hl]at c';show⟨_,Z,_,Z,a,_,_,_,Z,Z,hA,Gg k0 c',q _⟩
 show⟨λσ' H'=>∃b:Int,-(2^32)<b/\b<2^32/\σ'=[⇑a,some (.int k),some (.int b)]/\H'=H,?_,?_⟩
 ·show⟨_,Z,a,_,Z,.inl hA,_,_,Z,Z,_,Z,?_⟩;show qH (λc2=>?_) (λc2=>⟨157,(),(),Z,Z⟩);let c2':(0:Int)<(((ns.map V.int).length:Nat):Int):=dB c2;rw[hl]at c2';let m0:=ug (k*29+3) (show(ns.length:Int)≠0 by omega);let m1:=ud (k*29+3) c2';show⟨_,Z,_,Z,_,_,Z,Z,.inr ⟨(),()⟩,_,_,Z,Z,_,Z,a,_,Z,.inl hA,_,_,Z,Z,(by rw[hl];show c2'),a,_,_,_,Z,Z,hA,(by rw[hl];show Gg m0 m1),_,_,Z,Z,(show(0:Int)<_ by decide),?_⟩;let e0:=ug (ns.getD ((k*29+3)%(ns.length:Int)).toNat 0) (show(999653:Int)≠0 by decide);let e1:=ud (ns.getD ((k*29+3)%(ns.length:Int)).toNat 0) (show(0:Int)<999653 by decide);show⟨_,(),(),Z,Z⟩
 rintro σ' H' ⟨b,b0,b1,rfl,rfl⟩;show⟨_,Z,_,Z,_,_,Z,Z,.inl ⟨(),()⟩,_,_,Z,Z,_,_,Z,Z,_,Z,_,_,Z,Z,.inr ⟨(),()⟩,_,Z,_,Z,_,_,Z,Z,.inl ⟨(),()⟩,_,_,Z,Z,_,_,Z,Z,_,_,Z,Z,.inl ⟨(),()⟩,_,_,Z,Z,(show(0:Int)<_ by decide),q _⟩
abbrev tW:Stmt:=top 43
def ig:bR ["_law_script","_law_n","_law_most","_law_keys","_law_left","_law_many","_law_rows_here","_law_k","_law_up","_law_bag","_law_fresh"] Yr (aG tW):={}
inductive Ź(K:aH)(vs:af)(H:Hp)(Q:VK)(u_3:XK):Prop
 |mk (a:Addr) (ns:ae) (n most:Nat) (_:vs=[.ref a,.int n,.int most]) (_:ã K H a ns) (_:ns.length<=63) (_:n<=10) (_:1<=most) (_:most<=10) (_:∀l xs rs H',aL H H'->H l=none->H' l=↥xs->Paired (Oz l H') xs rs->Rw n most rs []->rs.length<=20->Q (.ref l) H')
inductive RowW(K:aH)(a l pl:Addr)(v3:Option V)(n most many:Nat)(H:Hp)(m:Nat)(σ:St)(H':Hp):Prop
 |mk (xs:af) (rs:List zW) (us:ae) (v7 v8 v9 v10:Option V) (_:σ=[⇑a,some (.int n),some (.int most),v3,⇑pl,some (.int many),⇑l,v7,v8,v9,v10]) (_:aL H H') (_:H' l=↥xs) (_:H' pl=↥(us.map V.int)) (_:Paired (RwX [l,pl] H') xs rs) (_:Rw n most rs us) (_:m=(many-rs.length)+us.length) (_:rs.length<=many+(n-us.length)) (_:us.length<=n)
def Ë(xs:af)(k:Nat):su xs none (some (k:Int))=xs.take k:=by
 unfold su;let e1:HT.kh xs.length xs.length (some (k:Int))=min k xs.length:=HT.Ad _ _ k;let e2:HT.kh xs.length 0 none=0:=rfl;grind
def YM{l:ay}{n:Nat}(h:l.Perm (List.range n)):(l.map λi=>((i:Nat):Int)).Perm (rng n):=h.map _
def a2Y{B0 H1:Hp}{n:Nat}{j:Nat}(dh:n<=10)(s0:aL B0 H1)
  (hs:∀(i:Nat) (G:Hp) (R:VK),i<n->aL B0 G->(∀z p G',iH G p (.tup [.int z,.int (0+(i:Int))]) G'->R (.ref p) G')->te ((qg ix σ).set j (some (.int (0+(i:Int))))) G R)
  (hd:∀(ps:aI) (zs:ae) (G:Hp),ps.length=n->aL B0 G->(∀k p,ps[k]?=some p->G p= ~~~[.int (zs.getD k 0),.int (k:Int)])->∀pk,G pk=none->Q (.ref pk) (cX G pk (.lst (ps.map V.ref)))):lY ix (yD j) ě te σ H1 Q (Vr 0 n):=by
 show Am (λi ys G=>∃(ps:aI) (zs:ae),ys=ps.map V.ref/\ps.length=i/\zs.length=i/\aL B0 G/\∀k p,ps[k]?=some p->G p= ~~~[.int (zs.getD k 0),.int (k:Int)]) ⟨[],[],Z,Z,Z,s0,λk p h=>by cases h⟩ (λi ys G hi ⟨ps,zs,e,l,_⟩=>?_) (λi ys G hi ⟨ps,zs,e,l,lz,s1,hp⟩=>?_) ?_
 ·rw[e,aJ,l];show fC (dz ())
 ·show hs i G _ hi s1 λz p2 H2 nz=>⟨ps++[p2],zs++[z],by rw[e,cW];rfl,by rw[bK,l];rfl,by rw[bK,lz];rfl,s1.trans nz.same,λk p hk=>?_⟩;by_cases c:k<ps.length
  ·rw[yL c]at hk;rw[gB,yL (),<-gB];show nz.same _ _ (hp k p hk)
  ·let k1:=(dY.mp hk).1;rw[bK]at k1;let ek:k=i:=by
    let:k<ps.length+1:=k1;omega
   subst ek;rw[wK (),l,zf]at hk;cases hk;rw[gB,wK (),lz,zf];let:=nz.here;rw[show(0+(k:Int))=(k:Int) by omega]at this;show this
 rintro ys G ⟨ps,zs,rfl,l,lz,s1,hp⟩ pk hpk;show hd ps zs G l s1 hp pk hpk
def a2Z{H2:Hp}{pk:Addr}{ps:aI}{n:Nat}{R:VK}(dh:n<=10)(l:ps.length=n)(h2:H2 pk=↥(ps.map V.ref))(hp:∀k p,ps[k]?=some p->H2 p= ~~~[.int (zs.getD k 0),.int (k:Int)])
  (hd:∀(qq:ay) p3 H3,qq.Perm (List.range n)->iH H2 p3 (.lst (qq.map λi=>(ps.map V.ref).getD i V.non)) H3->R (.ref p3) H3):ĩ K [.ref pk] H2 R:=by
 show⟨pk,ps.map V.ref,(List.range n).map λk=>[zs.getD k 0,(k:Int)],Z,bB.of h2,?_,λns h=>?_,(),λqq p3 H3 pq _ n3=>hd qq p3 H3 () n3⟩
 ·let all:∀(m:Nat),m<=n->Paired (a3Y K H2) ((ps.take m).map V.ref) ((List.range m).map λk=>[zs.getD k 0,(k:Int)]):=λm=>by
   induction m with
   |zero=>intro _;show .nil
   |succ m ih =>
    intro hm;let hml:m<ps.length:=()
    rw[yK hml,cW,wR,cW];show eN (ih ()) ⟨ps[m],Z,cO.of (hp m _ (bO hml))⟩
  grind
 grind
def a3a{H3:Hp}{p3:Addr}{ps:aI}{n:Nat}{qq:ay}(dh:n<=10)(l:ps.length=n)(pq:qq.Perm (List.range n))(h3:H3 p3=↥(qq.map λi=>(ps.map V.ref).getD i V.non))(hp:∀k p,ps[k]?=some p->H3 p= ~~~[.int (zs.getD k 0),.int (k:Int)])
  (hd:∀p5 H5,iH H3 p5 (.lst ((qq.map λi=>((i:Nat):Int)).map V.int)) H5->Q (.ref p5) H5):lY [none,none] (a3w K 2 (ć (yD 0) (ć (yD 1) a5N))) ě (Vq 1) σ H3 Q (â K p3):=by
 let lq:qq.length=n:=by rw[pq.length_eq,vD]
 show qU (K:=K) (a:=p3) (xs:=qq.map λi=>(ps.map V.ref).getD i V.non) (λi ys G=>ys=((qq.take i).map λi=>((i:Nat):Int)).map V.int/\G=H3) ⟨Z,Z⟩ (λi ys G hi ⟨e,s⟩=>⟨by rw[s];show bB.of h3,?_⟩) (λi x ys G hx ⟨e,s⟩=>?_) (λys G ⟨e,s⟩ p5 hp5=>?_)
 ·rw[e,aJ,aJ,dN];show fC (dz ())
 ·subst s;rw[cV]at hx;let⟨k,hk,rfl⟩:=j4.mp hx;let kn:k<n:=gA.mp (pq.mem_iff.mp (gU hk));let kl:k<ps.length:=()
  let ex:(ps.map V.ref).getD k V.non=V.ref ps[k]:=by rw[gB,cV,bO kl];rfl
  rw[ex];show⟨ps[k],_,Z,cO.of (hp k _ (bO kl)),Z,_,_,Z,_,_,Z,Z,_,Z,?_,Z⟩;let⟨hil,hik⟩:=dY.mp hk;rw[e,yK hil,hik,cW,cW];rfl
 ·subst s;rw[aJ,gJ]at e;rw[e];show hd p5 _ (iH.nC hp5)
def a4X{many r u:Nat}(h:r<many\/(many<=r/\0<u))(c3:0<u->1<=c):(many-(r+1))+(u-c)<(many-r)+u:=by
 rcases h with h|h
 ·show Nat.add_lt_add_of_lt_of_le (Nat.sub_lt_sub_left h (wO r)) (Nat.sub_le u c)
 ·show Nat.add_lt_add_of_le_of_lt (Nat.sub_le_sub_left (vJ r) many) (Nat.sub_lt h.2 (c3 h.2))
def a4Y{many r u n:Nat}(h:r<many\/(many<=r/\0<u))(c3:0<u->1<=c)(b1:r<=many+(n-u))(b2:u<=n):r+1<=many+(n-(u-c)):=by
 rcases h with h|h
 ·show cC h (GZ _ _)
 ·let s:=Nat.sub_lt h.2 (c3 h.2);show cC (Nat.succ_le_succ b1) (Nat.add_lt_add_left (Nat.sub_lt_sub_left (je s b2) s) many)
def orQ{a b:TT}{H:Hp}{Q:Bool->Hp->Prop}{c1 c2:Bool}(h1:∀Q:Bool->Hp->Prop,Q c1 H->a σ H Q)(h2:∀Q:Bool->Hp->Prop,Q c2 H->b σ H Q)(h:Q (c1||c2) H):tOr a b σ H Q:=by
 show h1 _ ?_;grind
def Qc(B:Bl mg)(nZ:Dn K mg "_law_at" rH KR)(dZ7:Dn K mg "_law_rows" tW Yr):⋯ 2 dZ7.f dZ7.fd Yr (Ź K):=by
 let Sw:⋯ 1 _ _ _ _:=zO B nZ;show dZ7.F.ok ig λdZ A outer s H vs Q E hr h=>?_;let⟨a,ns,n,most,rfl,hS,h63,dh,m1,m10,q⟩:=h;show⟨_,(aB (aV 3 ig.nd (aW (vR (K:=K) Z) Z B.sorted () (O (jF Ys [none,some 0]  (by kernel_rfl) Z (jP Z B.range (O (pv 1) aj)) (λ_ _ _ _ _=>(aM 0 (show(Ys:ag).Nodup by decide))) (λ_ _ _ _ _=>gk) λ_ _ _ _ _=>(bL (O (bA jV (aY Sw hr Z nZ.m nZ.F.kp nZ.b .nil bZ (O (pv 1) (O (bA dH aq (pv 0)) aj))) aq) (O (pv 0) aj)))) aj)))
   (aB (aV 4 ig.nd (jF KY [none,none]  (by kernel_rfl) Z (dU (K:=K) Z (pv 3)) (λ_ _ _ _ _=>(jb (K:=K) (n:=2) Z Z (bN (aM 0 (show(KY:ag).Nodup by decide)) (bN (aM 1 (show(KY:ag).Nodup by decide)) gW)))) (λ_ _ _ _ _=>gk) λ_ _ _ _ _=>(pv 1)))
   (aB (aV 5 ig.nd (bA dH aq (bA jV (aY Sw hr Z nZ.m nZ.F.kp nZ.b .nil bZ (O (pv 0) (O aq aj))) aq)))
   (aB (aV 6 ig.nd (cH (O (bL (O rU (O (jF ["_law_k","_law_left"] [none,some 4]  (by kernel_rfl) Z (jP Z B.range (O (aW (Ko Z) Z B.min () (O (aW (b8 (K:=K) Z) Z B.len () (O (pv 4) aj)) (O (bA jV (aY Sw hr Z nZ.m nZ.F.kp nZ.b .nil bZ (O (pv 0) (O aq aj))) (bA dH (pv 2) aq)) aj))) aj)) (λ_ _ _ _ _=>(aM 0 (show(["_law_k","_law_left"]:ag).Nodup by decide))) (λ_ _ _ _ _=>gk) λ_ _ _ _ _=>(mK (K:=K) Z gR MP MT Bh (pv 1))) aj))) aj)))
   (aB (Ĉ iI (PW.pt (Aa (aN Ac (aW (b8 (K:=K) Z) Z B.len () (O (pv 6) aj)) (pv 5)) (zq (aN tE (aW (b8 (K:=K) Z) Z B.len () (O (pv 4) aj)) aq))))
   (aB (aV 7 ig.nd (aW (b8 (K:=K) Z) Z B.len () (O (pv 6) aj)))
   (aB (aV 8 ig.nd (bA jV (aY Sw hr Z nZ.m nZ.F.kp nZ.b .nil bZ (O (pv 0) (O (bA dH aq (pv 7)) aj))) (pv 7)))
   (aB (aV 9 ig.nd (dD (uQ (K:=K) Z) (jF ["_law_v","_law_script","_law_k"] [none,some 0,some 7]  (by kernel_rfl) Z (dU (K:=K) Z (aP (aO (K:=K) Z) (aP (bf (K:=K) Z) (pv 6) (pv 8)) aq)) (λ_ _ _ _ _=>(aM 0 (show(["_law_v","_law_script","_law_k"]:ag).Nodup by decide))) (λ_ _ _ _ _=>(tG (aN tE (bA jV (aY Sw hr Z nZ.m nZ.F.kp nZ.b .nil bZ (O (pv 1) (O (bA dH (bA dH aq (bA zu aq (pv 2))) (pv 0)) aj))) aq) aq))) λ_ _ _ _ _=>(pv 0)) fK (d7 (bA Oj (pv 2) aq))))
   (aB (aV 10 ig.nd (bA dH aq (bA jV (aY Sw hr Z nZ.m nZ.F.kp nZ.b .nil bZ (O (pv 0) (O (bA dH aq (pv 7)) aj))) (bA Oj (pv 2) (aW (b8 (K:=K) Z) Z B.len () (O (pv 9) aj))))))
   (aF (eY (gZ (K:=K) Z gR PySem.F.slot_list_append PySem.F.type_list_append fL (pv 6) (O (bL (O (pv 8) (O (bA jy (pv 9) (jF ["_law_j","_law_left"] [none,some 4]  (by kernel_rfl) Z (jP Z B.range (O (aW (Ko Z) Z B.min () (O (pv 10) (O (aW (b8 (K:=K) Z) Z B.len () (O (pv 4) aj)) aj))) aj)) (λ_ _ _ _ _=>(aM 0 (show(["_law_j","_law_left"]:ag).Nodup by decide))) (λ_ _ _ _ _=>gk) λ_ _ _ _ _=>(mK (K:=K) Z PySem.F.plainAttrs_list PySem.F.slot_list_pop PySem.F.type_list_pop Bh (pv 1)))) aj))) aj)))))))))
   (aF (bI (pv 6)))))))),?_⟩
 show⟨_,Z,_,Z,(),(),?_⟩;rw[jf];show a2Y dh (aL.refl H) (λi G R hi s1 hR=>⟨_,Z,_,Z,_,_,Z,Z,a,ns,_,Z,hS.same s1,h63,(),(),λz=>⟨_,_,Z,Z,(show(0:Int)<_ by decide),_,Z,(),λp2 H2 n2=>hR _ p2 H2 n2⟩⟩) λps zs H1 l s1 hp pk hpk=>?_;let n2:=iH.nC (H:=H1) (p:=pk) (o:=.lst (ps.map V.ref)) hpk;generalize cX H1 pk (.lst (ps.map V.ref))=H2 at n2 ⊢;show a2Z (zs:=zs) dh l n2.here (λk p h=>n2.same _ _ (hp k p h)) λqq p3 H3 pq' n3=>?_;let s3:aL H H3:=s1.trans (n2.same.trans n3.same);show⟨_,Z,p3,Z,⟨_,bB.of n3.here⟩,a3a (zs:=zs) dh l pq' n3.here (λk p h=>(n2.same.trans n3.same) _ _ (hp k p h)) λp5 H5 n5=>?_⟩;let s5:=s3.trans n5.same;let pu:(qq.map λi=>((i:Nat):Int)).Perm (rng n):=YM pq';generalize (qq.map λi=>((i:Nat):Int))=us at n5 pu;let lu:us.length=n:=by rw[pu.length_eq,aJ,vD]
 let h5:=n5.here;let f5:H p5=none:=s3.free n5.fresh;show⟨_,Z,a,ns,2,Z,hS.same s5,h63,(),(),λzm=>⟨_,_,Z,Z,(show(0:Int)<_ by decide),_,_,Z,Z,?_⟩⟩;let y0:=ug zm (show(4:Int)≠0 by decide);let y1:=ud zm (show(0:Int)<4 by decide);obtain⟨many,em⟩:∃k:Nat,1+zm%4=(k:Int):=⟨(1+zm%4).toNat,()⟩;lk;rw[em];show⟨_,Z,p5,_,Z,.inl (bB.of h5),_,Z,a,ns,3,Z,hS.same s5,h63,(),(),λz3=>?_⟩;let w0:=ug z3 (show(most:Int)+1≠0 by omega);let w1:=ud z3 (show(0:Int)<(most:Int)+1 by omega);show⟨_,Z,_,_,Z,Z,_,_,Z,Z,(show(0:Int)<(most:Int)+1 by omega),_,_,Z,?_⟩;obtain⟨c,ec,c1,c2⟩:∃c:Nat,(if z3%((most:Int)+1)<(((us.map V.int).length:Nat):Int)then z3%((most:Int)+1)else(((us.map V.int).length:Nat):Int))=(c:Int)/\c<=most/\c<=us.length:=by
  rw[aJ];split
  ·show⟨(z3%((most:Int)+1)).toNat,(),(),()⟩
  ·show⟨us.length,Z,(),aK _⟩
 rw[ec];show⟨_,Z,(),(),?_⟩;rw[jf];show YL h5 c2 () (λi H' xs y N Z98 h q=>⟨_,Z,.inl ⟨Z,_,bB.of h⟩,p5,xs,y,Z,Z,h,q⟩) (λH9 p9 Á c9 dh=>?_);show⟨(),λp11 H11 Bu=>⟨(),λpr H12 n12=>?_⟩⟩;let a8J:H12 p5=↥((us.take (us.length-c)).map V.int):=n12.same _ _ (Bu.same _ _ (dh.same _ _ c9.here));let a7i:p5≠pr:=λz=>by let:=n12.fresh;rw[<-z,Bu.same _ _ (dh.same _ _ c9.here)]at this;cases this
 let s12:aL H H12:=(s5.chg f5 c9).trans (dh.same.trans (Bu.same.trans n12.same));let f8:H pr=none:=(s5.chg f5 c9).free (dh.same.free (Bu.same.free n12.fresh));let ne9:p9∉[pr,p5]:=λhm=>by
  rcases bT.mp hm with hm|hm
  ·let:=n12.fresh;rw[<-hm,Bu.same _ _ dh.here]at this;cases this
  ·let:=dh.fresh;rw[bQ.mp hm,c9.here]at this;cases this
 let W0:=a8H (most:=most) (c:=c) pu c1 (yZ _);let lt:(us.take (us.length-c)).length=us.length-c:=by rw[dN];omega
 show⟨RowW K a pr p5 ⇑p3 n most many H,⟨_,[.ref p11],[(none,(us.drop (us.length-c)).reverse)],_,none,none,none,none,Z,s12,n12.here,a8J,.cons ⟨p11,p9,Z,n12.same _ _ Bu.here,n12.same _ _ (Bu.same _ _ dh.here),ne9,?_⟩ .nil,W0,Z,?_,?_⟩,?_⟩
 ·show((us.drop (us.length-c)).reverse).length<=1000;rw[yS,gw];omega
 ·show 1<=_;omega
 ·rw[lt];omega
 rintro m σ H1 ⟨xs,rs,us,v7,v8,v9,v10,rfl,s1,hl,hpl,hpr,W,em',b1,b2⟩;let lx:xs.length=rs.length:=aU hpr;let hS1:=hS.same s1;let r1:=W.T.pos;show orQ (c1:=decide (((xs.length:Nat):Int)<(many:Int))) (c2:=decide ((((us.map V.int).length:Nat):Int)>0)) (λQ h=>⟨_,Z,pr,_,Z,.inl (bB.of hl),_,Z,_,_,Z,Z,_,Z,h⟩) (λQ h=>⟨_,Z,p5,_,Z,.inl (bB.of hpl),_,_,Z,Z,_,Z,h⟩) (qH (λc=>?_) λc=>?_)
 rotate_left
 ·let cd:¬((xs.length:Nat):Int)<(many:Int)/\¬(((us.map V.int).length:Nat):Int)>0:=by simpa using c
  rw[aJ]at cd;let e0:us=[]:=List.eq_nil_of_length_eq_zero ();rw[e0]at W;show⟨_,Z,q pr xs rs H1 s1 f8 hl (Paired.cD hpr λ_ _ h=>h.l aZ) W ()⟩
 all_goals
  let hc:rs.length<many\/(many<=rs.length/\0<us.length):=by
   let cd:((xs.length:Nat):Int)<(many:Int)\/(((us.map V.int).length:Nat):Int)>0:=by
    rcases Bool.or_eq_true_iff.mp c with z|z
    ·show .inl (dB z)
    ·show .inr (dB z)
   rw[aJ]at cd;omega
  let r14:rs.length<=14:=by clear hc;omega
  show⟨λσ' H'=>∃m',m'<m/\RowW K a pr p5 ⇑p3 n most many H m' σ' H',λ_ _ h=>h,⟨_,Z,pr,_,Z,.inl (bB.of hl),?_⟩⟩;rw[lx];show⟨_,Z,_,Z,_,_,Z,Z,a,ns,_,Z,hS1,h63,(),(),λz=>?_⟩;let u0:=ug z (show((rs.length:Nat):Int)≠0 by omega);let u1:=ud z (show(0:Int)<((rs.length:Nat):Int) by omega);show⟨_,Z,_,_,Z,Z,(show(0:Int)<((rs.length:Nat):Int) by omega),?_⟩;obtain⟨f,ef⟩:∃f:Nat,z%((rs.length:Nat):Int)=(f:Int):=⟨(z%((rs.length:Nat):Int)).toNat,()⟩;lk;rw[ef];let fl:f<rs.length:=()
  let⟨v,hx,⟨pt,bb,rfl,hT,hbb,hbl,_⟩⟩:=cI hpr (uR fl);let lf:(rowAt rs f).2.length<=most:=W.few f;show⟨_,Z,_,Z,pr,_,_,_,Z,Z,bB.of hl,bU hx,pt,_,_,_,Z,Z,cO.of hT,Z,bb,Z,⟨_,bB.of hbb⟩,qU (K:=K) (a:=bb) (xs:=(rowAt rs f).2.map V.int) (λi ys H'=>∃ks:ae,ys=ks.map V.int/\List.Sublist ks ((rowAt rs f).2.take i)/\aL H1 H') ⟨[],Z,List.nil_sublist _,aL.refl _⟩ (λi ys H' hi ⟨ks,e,sb,s⟩=>⟨bB.of (s _ _ hbb),?_⟩) (λi x ys H2 hx ⟨ks,e,sb,s2⟩=>?_) λys H2 ⟨ks,e,sb,s2⟩ p3' hp3=>?_⟩
  ·let:=sb.length_le;rw[dN]at this;rw[e,aJ];show fC (dz ())
  ·rw[cV]at hx;let⟨u,hu,rfl⟩:=j4.mp hx;let et:(rowAt rs f).2.take (i+1)=(rowAt rs f).2.take i++[u]:=by rw[iR,hu];rfl
   let ub:=W.T.lt f u (gU hu);show⟨_,Z,_,Z,_,_,Z,Z,.inl ⟨(),()⟩,_,_,Z,Z,_,Z,_,_,Z,Z,a,ns,_,Z,hS1.same s2,h63,(),(),λz4=>⟨_,_,Z,Z,(show(0:Int)<_ by decide),_,_,Z,Z,_,Z,qH (λc4=>⟨_,Z,ks++[u],by rw[e,cW];rfl,by rw[et];show sb.append (List.Sublist.refl _),s2⟩) λc4=>⟨ks,e,by rw[et];show sb.trans (List.sublist_append_left _ _),s2⟩⟩⟩
  subst e;rw[aJ,gJ]at sb;let n3:iH H2 p3' (.lst (ks.map V.int)) (cX H2 p3' (.lst (ks.map V.int))):=iH.nC hp3;generalize cX H2 p3' (.lst (ks.map V.int))=H3 at n3 ⊢;let ye:=s2.trans n3.same;let lk:=sb.length_le;let hl3:=ye _ _ hl;show⟨_,Z,_,_,Z,Z,_,Z,p3',_,Z,bB.of n3.here,λpb H4 n4=>?_⟩;let e1:(most:Int)-1=((most-1:Nat):Int):=()
  rw[e1,Ë,<-Hj]at n4;let Fx:=ye.trans n4.same;let hpb:=n4.here;let fpb:H1 pb=none:=ye.free n4.fresh;replace sb:=(GP (most-1) ks).trans sb;let km:(ks.take (most-1)).length+1<=most:=by rw[dN];omega
  generalize ks.take (most-1)=ks at hpb sb km;show⟨_,Z,_,Z,_,_,Z,Z,a,ns,_,Z,hS1.same Fx,h63,(),(),λz5=>?_⟩;let t0:=ug z5 (show(most:Int)-((ks.length:Nat):Int)≠0 by omega);let t1:=ud z5 (show(0:Int)<(most:Int)-((ks.length:Nat):Int) by omega);show⟨_,Z,_,Z,pb,_,Z,.inl (bB.of hpb),_,_,Z,Z,_,_,Z,Z,(by rw[aJ];show(0:Int)<(most:Int)-((ks.length:Nat):Int);omega),_,_,Z,Z,?_⟩;rw[aJ];lk;obtain⟨fr,efr⟩:∃fr:Nat,1+z5%((most:Int)-((ks.length:Nat):Int))=(fr:Int):=⟨(1+z5%((most:Int)-((ks.length:Nat):Int))).toNat,()⟩;rw[efr];let frm:ks.length+fr<=most:=()
  let fr1:1<=fr:=()
  clear efr t0;let a4Z:=Fx _ _ hpl;let hl4:=Fx _ _ hl;show⟨_,Z,.inl ⟨Z,_,bB.of hl4⟩,_,Z,_,Z,_,Z,_,Z,p5,_,Z,.inl (bB.of a4Z),_,_,Z,?_⟩;obtain⟨c,ec,c1,c2,c3⟩:∃c:Nat,(if(((us.map V.int).length:Nat):Int)<(fr:Int)then(((us.map V.int).length:Nat):Int)else(fr:Int))=(c:Int)/\c<=fr/\c<=us.length/\(1<=fr->0<us.length->1<=c):=by
   rw[aJ];split
   ·show⟨us.length,Z,(),aK _,λ_ h=>h⟩
   ·show⟨fr,Z,aK _,(),λh _=>h⟩
  rw[ec];clear ec;show⟨_,Z,(),(),?_⟩;rw[jf];show YL a4Z c2 () (λi H' xs y N Z98 h q=>⟨_,Z,.inl ⟨Z,_,bB.of h⟩,p5,xs,y,Z,Z,h,q⟩) (λH6 p7 H7 c6 n7=>?_);let nb5:pb≠p5:=λz=>by rw[z,hpl]at fpb;cases fpb
  let nl5:pr≠p5:=a7i.symm;let hb7:=n7.same _ _ ((c6.rest pb nb5).trans hpb);show⟨pb,p7,_,_,Z,Z,hb7,n7.here,(by rw[aJ,aJ,yS,gw];omega),λp8 H8 n8'=>?_⟩;rw[<-cW]at n8';let hl8:=n8'.same _ _ (n7.same _ _ ((c6.rest pr nl5).trans hl4));let hp8:=n8'.same _ _ (n7.same _ _ c6.here);show⟨(),λp10 Á sZ=>?_⟩;let a5a:=sZ.same _ _ hl8;let a8K:=sZ.same _ _ hp8;show⟨pr,_,_,Z,Z,a5a,(by rw[lx];show M9 r14 ()),λH11 c11=>?_⟩;let lks:=sb.length_le;let W2:=a4W (c:=c) W fl sb () (yZ _);let lt2:(us.take (us.length-c)).length=us.length-c:=by rw[dN];omega
  let s8':aL H6 Á:=n7.same.trans (n8'.same.trans sZ.same);let x8:p8∉[pr,p5]:=λhm=>by
   let f:=n8'.fresh;rcases bT.mp hm with hm|hm
   ·rw[hm,n7.same _ _ ((c6.rest pr nl5).trans hl4)]at f;cases f
   ·rw[bQ.mp hm,n7.same _ _ c6.here]at f;cases f
  show⟨_,?_,xs++[.ref p10],rs++[(some (f:Int),ks++(us.drop (us.length-c)).reverse)],us.take (us.length-c),_,_,_,_,Z,(((s1.trans Fx).chg f5 c6).trans s8').chg f8 c11,c11.here,(c11.rest p5 a7i).trans a8K,?_,W2,Z,?_,?_⟩
  ·rw[em',bK,Cw,lt2];show a4X hc (c3 fr1)
  ·show eN (Paired.cD hpr λv t q=>(((q.same Fx).chg a4Z c6 (bH _ aZ)).same s8').chg a5a c11 aZ) (RwX.chg a5a c11 aZ ⟨p10,p8,Z,sZ.here,sZ.same _ _ n8'.here,x8,?_⟩);show(ks++(us.drop (us.length-c)).reverse).length<=1000;rw[bK,yS,gw];omega
  ·rw[bK,Cw,lt2];show a4Y hc (c3 fr1) b1 b2
  ·rw[lt2];omega
def ź(s t:Int×Int):Prop:=s.1<t.1\/(s.1=t.1/\s.2<t.2)
structure Web(n:Int)(ts:ar):Prop where
 ok:∀t∈ts,0<=t.1/\t.1<t.2/\t.2<n
 up:ts.Pairwise ź
def a7j [DecidableEq α] {l U:List α} (nd:l.Nodup) (h:∀x∈l,x∈U):l.length<=U.length:=by
 induction l generalizing U with
 |nil=>grind
 |cons a r ih =>
  let⟨n1,n2⟩:=iQ.mp nd;let am:=h a aZ;let:=ih (U:=U.erase a) n2 λx hx=>(Ur λe=>n1 ()).mpr (h x (bH _ hx));grind
noncomputable def a5b:ar:=(List.range 10).flatMap λ(a:Nat)=>((List.range 10).filter λ(b:Nat)=>decide (a<b)).map λ(b:Nat)=>(((a:Nat):Int),((b:Nat):Int))
def ź.asymm{s t:Int×Int}(h:ź s t)(h':ź t s):False:=by
 unfold ź at h h';omega
def Web.nd{n:Int}{ts:ar}(h:Web n ts):ts.Nodup:=h.up.imp λl e=>by
 subst e;show l.asymm l
def Web.few{n:Nat}{ts:ar}(h:Web n ts)(dh:n<=10):ts.length<=45:=by
 let:=a7j (U:=a5b) h.nd λt ht=>by
  let o:=h.ok t ht;unfold a5b;show List.mem_flatMap.mpr ⟨t.1.toNat,gA.mpr (),fD.mpr ⟨t.2.toNat,jg.mpr ⟨gA.mpr (),bh ()⟩,?_⟩⟩;grind
 let e:a5b.length=45:=()
 omega
abbrev qx:Stmt:=top 44
def lR:bR ["_law_script","_law_rows_here","_law_n","_law_share","_law_found","_law_a","_law_b","_law_together"] Yt (aG qx):={}
def Qd(rs:List zW)(t:Int×Int):Prop:=∃k,t.1∈fG rs k/\t.2∈fG rs k
inductive Ż(K:aH)(vs:af)(H:Hp)(Q:VK)(u_3:XK):Prop
 |mk (a l:Addr) (ns:ae) (ys:af) (rs:List zW) (n:Nat) (_:vs=[.ref a,.ref l,.int n]) (_:ã K H a ns) (_:ns.length<=63) (_:H l=↥ys) (_:Paired (Oz l H) ys rs) (_:rs.length<=40) (_:n<=10) (_:∀r xs ts H',aL H H'->H r=none->H' r=↥xs->Paired (qI H') xs ts->(∀t∈ts,0<=t.1/\t.1<t.2/\t.2<(n:Int))->ts.Nodup->(∀t∈ts,Qd rs t)->ts.length<=45->Q (.ref r) H')
def zP{lo:Int}{n:Nat}{tb:TS}{D:Ends}{H:Hp}(Pv:Nat->St->Hp->Prop)(h0:Pv 0 σ H)
  (hs:∀(D':Ends) i σ H,i<n->Pv i σ H->(∀σ2 H2,Pv (i+1) σ2 H2->D'.nx σ2 H2)->D'.rt=D.rt->g (.int (lo+i)) σ H λσ2 H2=>tb D' σ2 H2) (hd:∀σ H,Pv n σ H->D.nx σ H) :
  ∃W:Nat->Nat->St->Hp->Prop,(∃m,W 0 m σ H)/\∀i m σ H,W i m σ H->
   ((Vr lo n).stop i H/\D.nx σ H)\/((Vr lo n).go i H/\∃N:St->Hp->Prop,(∀σ' H',N σ' H'->∃m',m'<m/\W (i+1) m' σ' H')/\∀x H',(Vr lo n).Xw i H x H'->g x σ H' λσ2 H2=>tb { D with nx:=N,ct:=N,bk:=D.nx} σ2 H2) :=
 xX Pv h0 (λi σ H hi p=>hs _ i σ H hi p (λ_ _ h=>h) Z) hd
def Qe(B:Bl mg)(nZ:Dn K mg "_law_at" rH KR)(ż:Dn K mg "_law_ties" qx Yt):⋯ 2 ż.f ż.fd Yt (Ż K):=by
 let Sw:⋯ 1 _ _ _ _:=zO B nZ;show ż.F.ok lR λdZ A outer s H vs Q E hr h=>?_;let⟨a,l,ns,ys,rs,n,rfl,hS,h63,hy,hpr,r40,hn,q⟩:=h;let hv:(A.deeper (PyProof.Rows.envOfC "_law_ties" (aG qx) s⁻¹ ż.f dZ)).units+65<cLine:=by let:=hr.un;omega
 let ly:ys.length=rs.length:=aU hpr;show⟨_,(aB (aV 3 lR.nd (bA dH aq (bA jV (aY Sw hr Z nZ.m nZ.F.kp nZ.b .nil bZ (O (pv 0) (O aq aj))) aq)))
   (aB (aV 4 lR.nd (cH aj))
   (aB (iV iI Z (jP Z B.range (O (pv 2) aj)) (aM 5 lR.nd)
   (aF (iV iI Z (Df Z B.range (O (bA dH (pv 5) aq) (O (pv 2) aj))) (aM 6 lR.nd)
   (aB (HD (i:=7) ["_law_row","_law_a","_law_b"] [none,some 5,some 6] lR.nd Z Z (by kernel_rfl) Z (dU (K:=K) Z (pv 1)) (λ_ _ _ _ _=>(aM 0 (show(["_law_row","_law_a","_law_b"]:ag).Nodup by decide))) (λ_ _ _ _ _=>(tG (PW.pt (lX (aN (qX (K:=K) Z hv) (pv 1) (aP (aO (K:=K) Z) (pv 0) aq) (by with_unfolding_all rfl)) (mJ (aN (qX (K:=K) Z hv) (pv 2) (aP (aO (K:=K) Z) (pv 0) aq) (by with_unfolding_all rfl))))))) (λ_ _ _ _ _=>(pv 0)) (by rfl))
   (aF (cJ (PW.pt (lX (aN tE (aW (b8 (K:=K) Z) Z B.len () (O (pv 7) aj)) aq) (mJ (aN Ac (bA jV (aY Sw hr Z nZ.m nZ.F.kp nZ.b .nil bZ (O (pv 0) (O (bA dH (bA dH aq (bA zu aq (pv 5))) (pv 6)) aj))) aq) (pv 3)))))
   (aF (eY (gZ (K:=K) Z gR PySem.F.slot_list_append PySem.F.type_list_append fL (pv 4) (O (bL (O (pv 5) (O (pv 6) aj))) aj))))
   bx))))))
   (aF (bI (pv 4)))))),?_⟩
 show⟨_,Z,a,ns,4,Z,hS,h63,(),(),λz0=>⟨_,_,Z,Z,(show(0:Int)<_ by decide),_,_,Z,Z,?_⟩⟩;obtain⟨sh,esh⟩:∃sh:Int,sh=1+z0%4:=⟨_,Z⟩;lk;rw[<-esh];show⟨(),λr H0 nw=>?_⟩;show⟨_,Z,_,Z,(),(),?_⟩;rw[jf];show zP (n:=n) (λi σ H2=>∃(aa bb bo:Option V) (xs:af) (ts:ar),σ=[⇑a,⇑l,some (.int n),some (.int sh),⇑r,aa,bb,bo]/\aL H H2/\H2 r=↥xs/\Paired (qI H2) xs ts/\ts.length<=10*i/\Web n ts/\(∀t∈ts,t.1<(i:Int))/\∀t∈ts,Qd rs t)
  ⟨none,none,none,[],[],Z,nw.same,nw.here,.nil,dG _,⟨λt h=>absurd h fj,.nil⟩,λt h=>absurd h fj,λt h=>absurd h fj⟩ ?_ ?_
 ·rintro D1 i σ H2 hi ⟨aa,bb,bo,xs,ts,rfl,sm,hr2,hp,hz,hw,hlt,bi⟩ dn1 _;show⟨_,Z,_,_,Z,Z,_,Z,_,_,Z,⟨(),(),(),()⟩,?_⟩;show zP (n:=_) (λj σ H3=>∃(bb bo:Option V) (xs:af) (ts:ar),σ=[⇑a,⇑l,some (.int n),some (.int sh),⇑r,some (.int (0+(i:Int))),bb,bo]/\aL H H3/\H3 r=↥xs/\Paired (qI H3) xs ts/\ts.length<=10*i+j/\Web n ts/\(∀t∈ts,t.1<(i:Int)\/(t.1=(i:Int)/\t.2<(i:Int)+1+j))/\∀t∈ts,Qd rs t)
   ⟨bb,bo,xs,ts,Z,sm,hr2,hp,(),hw,λt h=>.inl (hlt t h),bi⟩ ?_ ?_
  ·rintro D2 j σ H3 hj ⟨bb,bo,xs,ts,rfl,sm,hr3,hp,hz,hw,hlt,bi⟩ dn _;let jn:(j:Int)+(0+(i:Int)+1)<n:=()
   let hy3:=sm _ _ hy;generalize eav:(0+(i:Int))=av;generalize ebv:(av+1+(j:Int))=bv;show⟨_,Z,l,Z,⟨_,bB.of hy3⟩,ģ (λk=>if(decide (av∈fG rs k)&&decide (bv∈fG rs k))=true then ys[k]? else none) (bB.of hy3) () (λk x H4 N hk s4 hN=>?_) λH4 p4 H5 s4 n4=>?_⟩
   ·let kl:k<rs.length:=by rw[<-ly];show(dY.mp hk).1
    let⟨v,hx,⟨pp,b,rfl,Ž,hb,_⟩⟩:=cI hpr (uR kl);rw[hk]at hx;cases hx;let Ls:=sm.trans s4;let hN':=hN H4 s4;rw[hk]at hN';show⟨_,Z,_,Z,pp,_,_,_,Z,Z,cO.of (Ls _ _ Ž),Z,wZ (bB.of (Ls _ _ hb)) ⟨_,Z,qH (λc=>?_) λc=>?_⟩⟩
    ·show⟨_,Z,_,Z,pp,_,_,_,Z,Z,cO.of (Ls _ _ Ž),Z,wZ (bB.of (Ls _ _ hb)) ⟨_,Z,qH (λd=>?_) λd=>?_⟩⟩
     ·rw[aD (by unfold fG;grind)]at hN';show⟨_,Z,hN'⟩
     ·rw[aA (by unfold fG;grind)]at hN';show hN'
    ·show cQ ?_;rw[aA (by unfold fG;grind)]at hN';show hN'
   let s05:=sm.trans (s4.trans n4.same);let hr5:H5 r=↥xs:=(s4.trans n4.same) _ _ hr3;let hp5:=Paired.cD hp λv t q=>qI.same (s4.trans n4.same) q;let lxs:xs.length=ts.length:=aU hp;let no:=λbv=>dn [some (V.ref a),⇑l,some (.int n),some (.int sh),⇑r,some (.int av),bv,⇑p4] H5 ⟨bv,⇑p4,xs,ts,by rw[eav],s05,hr5,hp5,(),hw,λt ht=>by grind,bi⟩;show⟨_,Z,p4,_,Z,.inl (bB.of n4.here),_,_,Z,Z,_,Z,qH (λc=>?_) λc=>no _⟩;let c':=dB c;show⟨_,Z,_,Z,_,_,Z,Z,.inl ⟨(),()⟩,_,_,Z,Z,_,Z,_,_,Z,Z,a,ns,_,Z,hS.same s05,h63,(),(),λz5=>⟨_,_,Z,Z,(show(0:Int)<_ by decide),_,Z,_,_,Z,Z,_,Z,qH (λd=>?_) λd=>no _⟩⟩;let hrow:Qd rs (av,bv):=by
    let c3:0<((List.range ys.length).filterMap λk=>if(decide (av∈fG rs k)&&decide (bv∈fG rs k))=true then ys[k]? else none).length:=()
    let⟨x,hx⟩:=ó c3;let⟨k,_,e⟩:=Uz.mp hx;by_cases d2:(decide (av∈fG rs k)&&decide (bv∈fG rs k))=true
    ·rw[fX]at d2;show⟨k,dB d2.1,dB d2.2⟩
    ·rw[aA d2]at e;cases e
   show⟨_,Z,.inl ⟨Z,_,bB.of hr5⟩,_,Z,_,Z,(),λp6 H6 n6=>?_⟩;let h6:=n6.same _ _ hr5;show⟨r,_,_,Z,Z,h6,(),λH7 c7=>?_⟩;show dn _ _ ⟨some (.int bv),⇑p4,xs++[.ref p6],ts++[(av,bv)],by rw[eav];rfl,(s05.trans n6.same).chg nw.fresh c7,c7.here,?_,?_,⟨λt ht=>?_,?_⟩,λt ht=>?_,λt ht=>?_⟩
   ·show eN (Paired.cD hp5 λv t q=>(qI.same n6.same q).chg h6 c7) (qI.chg h6 c7 ⟨p6,Z,n6.here⟩)
   ·rw[bK];show ts.length+1<=_;omega
   ·rcases cM.mp ht with ht|ht
    ·show hw.ok t ht
    ·rw[bQ.mp ht];show⟨by show 0<=av;omega,by show av<bv;omega,by show bv<n;omega⟩
   ·show Us.mpr ⟨hw.up,wL _ _,λt ht u hu=>?_⟩;rw[bQ.mp hu];show t.1<av\/(t.1=av/\t.2<bv);let:=hlt t ht;omega
   ·rcases cM.mp ht with ht|ht
    ·let:=hlt t ht;omega
    ·rw[bQ.mp ht];show av<(i:Int)\/(av=(i:Int)/\bv<(i:Int)+1+((j+1:Nat):Int));omega
   ·rcases cM.mp ht with ht|ht
    ·show bi t ht
    ·rw[bQ.mp ht];show hrow
  ·rintro σ H3 ⟨bb,bo,xs,ts,rfl,sm,hr3,hp,hz,hw,hlt,bi⟩;show dn1 _ _ ⟨_,bb,bo,xs,ts,Z,sm,hr3,hp,(),hw,λt ht=>by let:=hlt t ht;omega,bi⟩
 ·rintro σ H2 ⟨aa,bb,bo,xs,ts,rfl,sm,hr2,hp,hz,hw,hlt,bi⟩;let few:=hw.few hn;show⟨_,Z,q r xs ts H2 sm nw.fresh hr2 hp (λt ht=>hw.ok t ht) hw.nd bi ()⟩
abbrev lC:Stmt:=top 45
def fQ:bR ["_law_ties_here","_law_rows_here","_law_k","_law_early","_law_above","_law_bag","_law_mine","_law_steps","_law_j"] Bm (aG lC):={}
inductive Cm(K:aH)(d:Nat)(vs:af)(H:Hp)(Q:VK)(u_3:XK):Prop
 |mk (r l:Addr) (tx ys:af) (tb:ar) (rs:List zW) (n most k:Nat) (early:Bool) (_:vs=[.ref r,.ref l,.int (k:Int),.bl early]) (_:H r=↥tx) (_:Paired (qI H) tx tb) (_:tb.length<=100) (_:H l=↥ys) (_:Paired (Oz l H) ys rs) (_:Rw n most rs []) (_:most<=4) (_:rs.length<=20) (_:n<=10) (_:k<rs.length) (_:rs.length<=k+d) (_:∀p xs H',aL H H'->H p=none->H' p=↥xs->Paired (tB H') xs (oH early tb rs.length (zX rs) (fG rs) d k)->Q (.ref p) H')
noncomputable def uL(m:Nat)(up:Nat->Nat)(k i:Nat):ay:=(List.range i).filter λj=>decide (k<j)&&decide (up j=k)
def a5c(m:Nat)(up:Nat->Nat)(k:Nat):uL m up k (k+1)=[]:=by
 unfold uL;rw[List.filter_eq_nil_iff];grind
def ž{m:Nat}{up:Nat->Nat}{k i:Nat}(h:i<=m)(L:Nat->ax):((uL m up k i).flatMap L).length<=((gQ m up k).flatMap L).length:=by
 unfold uL gQ;let e:List.range m=List.range i++(List.range (m-i)).map (i + ·):=by
  rw[<-List.range_add];congr 1;omega
 rw[e,yV,Ux,bK];omega
def Lx{m:Nat}{up:Nat->Nat}{k i:Nat}(h:k<i):uL m up k (i+1)=uL m up k i++if up i=k then [i]else []:=by
 unfold uL;rw[wR,yV];grind
def jJ{β:Type}{R:α->β->Prop}{xs xs':List α}{ys ys':List β}(h:Paired R xs ys)(q:Paired R xs' ys'):Paired R (xs++xs') (ys++ys'):=by
 induction h with
 |nil=>show q
 |cons a _ ih=>show .cons a ih
def Jw{ta tb:TT}{H:Hp}{b1 b2:Bool}{Q:Bool->Hp->Prop}(h1:∀Q:Bool->Hp->Prop,Q b1 H->ta σ H Q)(h2:∀Q:Bool->Hp->Prop,Q b2 H->tb σ H Q)(h:Q (b1&&b2) H):a0t ta tb σ H Q:=by
 show h1 _ ?_;grind
def Gw{a:Addr}{tt:TT}{H:Hp}(xs:ae)(c:Int->Bool)(S:Int->cu)(hx:bB K H a (xs.map V.int))(l9:xs.length<=900)
  (hs:∀(v:Int) (H1:Hp) (N:VK) (Z98:Hp->Prop),v∈xs->aL H H1->(c v=true->∀p H2,iH H1 p (.tup (S v).vs) H2->N (.ref p) H2)->(c v=false->Z98 H1)->g (.int v) (qg ix σ) H1 λσ2 H2=>tt σ2 H2 λb H3=>if b=true then te σ2 H3 N else Z98 H3)
  (hd:∀H1 p ys H2,aL H H1->iH H1 p (.lst ys) H2->Paired (tB H2) ys ((xs.filter c).map S)->Q (.ref p) H2):lY ix g tt te σ H Q (â K a):=by
 show qU (K:=K) (a:=a) (xs:=xs.map V.int) (λi ys H'=>aL H H'/\Paired (tB H') ys (((xs.take i).filter c).map S)) ⟨aL.refl _,.nil⟩ (λi ys H' hi ⟨s,p⟩=>⟨s.seq hx,?_⟩) (λi x ys H' hi ⟨s,p⟩=>?_) (λys H' ⟨s,p⟩ q hq=>?_)
 ·rw[aU p,aJ];let:=yQ c (xs.take i);rw[dN]at this;show fC (dz ())
 ·rw[cV]at hi;let⟨v,hv,rfl⟩:=j4.mp hi;let et:xs.take (i+1)=xs.take i++[v]:=by rw[iR,hv];rfl
  show hs v H' _ _ (gU hv) s (λcv p2 H2 n2=>⟨s.trans n2.same,?_⟩) (λcv=>⟨s,?_⟩)
  ·rw[et,yV,cW,Nr,cv];show eN (Paired.cD p λ_ _ h=>h.same n2.same) ⟨p2,Z,n2.here⟩
  ·rw[et,yV,cW,Nr,cv];simp only[Bool.false_eq_true,if_false,List.filter_nil,List.map_nil,List.append_nil];show p
 ·let nq:iH H' q (.lst ys) (cX H' q (.lst ys)):=iH.nC hq;rw[aJ,gJ]at p;show hd H' q ys _ s nq (Paired.cD p λ_ _ h=>h.same nq.same)
def Α(Fo:Dn K mg "_law_laid" lC Bm):⋯ 1 Fo.f Fo.fd Bm (Cm K 0):=by
 show Fo.F.ok fQ (len:=λvs H Q E h=>?_) (λdZ A outer s H vs Q E hr h=>?_)
 ·let⟨r,l,tx,ys,tb,rs,n,most,k,early,_,_,_,_,_,_,_,_,_,_,h1,h2,_⟩:=h;omega
 ·let⟨r,l,tx,ys,tb,rs,n,most,k,early,_,_,_,_,_,_,_,_,_,_,h1,h2,_⟩:=h;omega
def Β(B:Bl mg)(Fo:Dn K mg "_law_laid" lC Bm)(d:Nat)(gZ4:⋯ (d+1) Fo.f Fo.fd Bm (Cm K d)):⋯ (d+2) Fo.f Fo.fd Bm (Cm K (d+1)):=by
 show Fo.F.ok fQ λdZ A outer s H vs Q E hr h=>?_;let⟨r,l,tx,ys,tb,rs,n,most,k,early,rfl,hT,pT,a2c,hL,pL,W,m4,r20,dh,kl,dk,q⟩:=h;let hv:(A.deeper (PyProof.Rows.envOfC "_law_laid" (aG lC) s⁻¹ Fo.f dZ)).units+65<cLine:=by let:=hr.un;omega
 let ly:=aU pL;let ltx:=aU pT;let T:=W.T;let⟨vk,hxk,⟨pk,bk,rfl,Ž,hbk,nbk,lbk⟩⟩:=cI pL (uR kl);let hW4:∀j,(fG rs j).length<=4:=λj=>cC (W.few j) m4;let b10:∀j,(fG rs j).length<=10:=λj=>cC (hW4 j) ();let full:=Lq T hW4 r20 early a2c (f:=d+1) kl;obtain⟨L,eL⟩:∃L:Nat->ax,L=λj=>oH early tb rs.length (zX rs) (fG rs) d j++(nR (fG rs) j k++[.join]):=⟨_,Z⟩;obtain⟨M0,eM⟩:∃M0:ax,M0=(.leaf::(fG rs k).map .inn)++if early=true then(vp (zX rs) (fG rs) tb k).map λt=>.tie t.1 t.2 else []:=⟨_,Z⟩
 let eS:oH early tb rs.length (zX rs) (fG rs) (d+1) k=(M0++(gQ rs.length (zX rs) k).flatMap L)++if early=true then []else(vp (zX rs) (fG rs) tb k).map λt=>.tie t.1 t.2:=by rw[eL,eM];rfl
 rw[eS]at q full;rw[bK,bK]at full;let a83:(vp (zX rs) (fG rs) tb k).length<=100:=cC (yQ _ _) a2c;let lM:M0.length<=120:=by
  rw[eM,bK,iM,aJ];let:=b10 k;cases early with
  |true=>rw[aD Z,aJ];omega
  |false=>rw[aA cL];show _+0<=_;omega
 show⟨_,(aB (aV 4 fQ.nd (cH aj))
   (g8 (cJ (aN tE (pv 2) aq)
   (aF (aV 4 fQ.nd (aP (aO (K:=K) Z) (aP (bf (K:=K) Z) (pv 1) (aP (aO (K:=K) Z) (aP (bf (K:=K) Z) (pv 1) (pv 2)) aq)) aq)))
   bx)
   (aB (aV 5 fQ.nd (aP (aO (K:=K) Z) (aP (bf (K:=K) Z) (pv 1) (pv 2)) aq))
   (aB (HD (i:=6) ŗ [none,none,some 5,some 4] fQ.nd Z Z (by kernel_rfl) Z (dU (K:=K) Z (pv 0)) (λ_ _ _ _ _=>(jb (K:=K) (n:=2) Z Z (bN (aM 0 (show(ŗ:ag).Nodup by decide)) (bN (aM 1 (show(ŗ:ag).Nodup by decide)) gW)))) (λ_ _ _ _ _=>(tG (PW.pt (lX (aN (qX (K:=K) Z hv) (pv 0) (pv 2) (by with_unfolding_all rfl)) (lX (aN (qX (K:=K) Z hv) (pv 1) (pv 2) (by with_unfolding_all rfl)) (mJ (mR (PW.pt (lX (aN (qX (K:=K) Z hv) (pv 0) (pv 3) (by with_unfolding_all rfl)) (mJ (aN (qX (K:=K) Z hv) (pv 1) (pv 3) (by with_unfolding_all rfl)))))))))))) (λ_ _ _ _ _=>(bL (O fY (O (pv 0) (O (pv 1) aj))))) (by rfl))
   (aB (aV 7 fQ.nd (bA jy (cH (O (bL (O fY aj)) aj)) (jF ["_law_v"] [none]  (by kernel_rfl) Z (dU (K:=K) Z (pv 5)) (λ_ _ _ _ _=>(aM 0 (show(["_law_v"]:ag).Nodup by decide))) (λ_ _ _ _ _=>gk) λ_ _ _ _ _=>(bL (O fY (O (pv 0) aj))))))
   (g8 (cJ (cY (K:=K) Z (pv 3) λ_=>rfl)
   (aF (aV 7 fQ.nd (bA jy (pv 7) (pv 6))))
   bx)
   (aB (iV iI Z (Df Z B.range (O (bA dH (pv 2) aq) (O (aW (b8 (K:=K) Z) Z B.len () (O (pv 1) aj)) aj))) (aM 8 fQ.nd)
   (aF (cJ (aN mZ (aP (aO (K:=K) Z) (aP (bf (K:=K) Z) (pv 1) (pv 8)) aq) (pv 2))
   (aB (aV 7 fQ.nd (bA jy (bA jy (pv 7) (aY gZ4 hr Z Fo.m Fo.F.kp Fo.b .nil bZ (O (pv 0) (O (pv 1) (O (pv 8) (O (pv 3) aj)))))) (jF ["_law_v","_law_bag"] [none,some 5]  (by kernel_rfl) Z (dU (K:=K) Z (aP (aO (K:=K) Z) (aP (bf (K:=K) Z) (pv 1) (pv 8)) aq)) (λ_ _ _ _ _=>(aM 0 (show(["_law_v","_law_bag"]:ag).Nodup by decide))) (λ_ _ _ _ _=>(tG (aN (gO (K:=K) Z hv) (pv 0) (pv 1) (by with_unfolding_all rfl)))) λ_ _ _ _ _=>(bL (O fY (O (pv 0) aj))))))
   (aF (aV 7 fQ.nd (bA jy (bA jy (pv 7) (jF ["_law_v","_law_rows_here","_law_j"] [none,some 1,some 8]  (by kernel_rfl) Z (dU (K:=K) Z (pv 5)) (λ_ _ _ _ _=>(aM 0 (show(["_law_v","_law_rows_here","_law_j"]:ag).Nodup by decide))) (λ_ _ _ _ _=>(tG (aN (gO (K:=K) Z hv) (pv 0) (aP (aO (K:=K) Z) (aP (bf (K:=K) Z) (pv 1) (pv 2)) aq) (by with_unfolding_all rfl)))) λ_ _ _ _ _=>(bL (O fY (O (pv 0) aj))))) (cH (O (bL (O fY aj)) aj))))))
   bx)))
   (aB (cJ (cY (K:=K) Z (pv 3) λ_=>rfl)
   (aF (bI (pv 7)))
   bx)
   (aF (bI (bA jy (pv 7) (pv 6)))))))))))),?_⟩
 show⟨(),λpa H7 n7=>?_⟩;let s7:=n7.same;show⟨λσ' H'=>∃(pA:Addr) (ab:ae),σ'=[⇑r,⇑l,some (.int (k:Int)),some (.bl early),⇑pA,none,none,none,none]/\H'=H7/\H7 pA=↥(ab.map V.int)/\∀t:Int×Int,(¬(t.1∈ab/\t.2∈ab))↔(k=0\/¬(t.1∈fG rs (zX rs k)/\t.2∈fG rs (zX rs k))),?_,?_⟩
 ·show⟨_,Z,_,_,Z,Z,_,Z,?_⟩;by_cases k0:k=0
  ·rw[cG ()];show cQ ⟨pa,[],Z,Z,n7.here,λt=>⟨λ_=>.inl k0,λ_ z=>absurd z.1 fj⟩⟩
  ·rw[bh ()];let ul:=T.ups k () kl;let a7k:=Ž;rw[W.ru k () kl]at a7k;let⟨vu,hxu,⟨pu,bu,rfl,hTu,hbu,nbu,lbu⟩⟩:=cI pL (uR (show zX rs k<rs.length by omega));show iC ⟨_,Z,_,Z,_,Z,l,_,_,_,Z,Z,bB.of (s7 _ _ hL),bU hxk,pk,_,_,_,Z,Z,cO.of (s7 _ _ a7k),Z,l,_,_,_,Z,Z,bB.of (s7 _ _ hL),bU hxu,pu,_,_,_,Z,Z,cO.of (s7 _ _ hTu),Z,⟨bu,_,Z,Z,s7 _ _ hbu,λt=>⟨λh=>.inr h,λh=>h.elim (λz=>absurd z k0) id⟩⟩⟩
 rintro σ' H8 ⟨pA,ab,rfl,rfl,hA,mA⟩;show⟨_,Z,_,Z,l,_,_,_,Z,Z,bB.of (s7 _ _ hL),bU hxk,pk,_,_,_,Z,Z,cO.of (s7 _ _ Ž),Z,⟨_,Z,r,Z,⟨_,bB.of (s7 _ _ hT)⟩,qU (K:=K) (a:=r) (xs:=tx) (λi yo H'=>aL H8 H'/\Paired (tB H') yo (((tb.take i).filter λt=>decide (jx (zX rs) (fG rs) k t)).map λt=>.tie t.1 t.2)) ⟨aL.refl _,.nil⟩ (λi yo H' hi ⟨s,p⟩=>⟨bB.of (s _ _ (s7 _ _ hT)),?_⟩) (λi x yo H9 hx ⟨s9',p9⟩=>?_) λyo H9 ⟨s9',p9⟩ pM hpM=>?_⟩⟩
 ·rw[aU p,aJ];let:=yQ (λt=>decide (jx (zX rs) (fG rs) k t)) (tb.take i);rw[dN]at this;show fC (dz ())
 ·let⟨t,ht,⟨px,rfl,hpx⟩⟩:=bC pT hx;let et:tb.take (i+1)=tb.take i++[t]:=by rw[iR,ht];rfl
  let s9:=s7.trans s9';show⟨px,_,Z,cO.of (s9 _ _ hpx),Z,_,_,Z,_,_,Z,Z,?_⟩;let hb9:=s9 _ _ hbk;let hA9:=s9' _ _ hA;rw[et,yV,cW,Nr];show Jw (b1:=decide (t.1∈fG rs k)) (b2:=decide (t.2∈fG rs k) && !(decide (t.1∈ab)&&decide (t.2∈ab))) (λQ h=>⟨_,Z,_,Z,wZ (bB.of hb9) ⟨_,Z,h⟩⟩) (λQ h=>Jw (b1:=decide (t.2∈fG rs k)) (b2:=!(decide (t.1∈ab)&&decide (t.2∈ab))) (λQ h=>⟨_,Z,_,Z,wZ (bB.of hb9) ⟨_,Z,h⟩⟩) (λQ h=>Jw (b1:=decide (t.1∈ab)) (b2:=decide (t.2∈ab)) (Q:=λb H'=>Q (!b) H') (λQ h=>⟨_,Z,_,Z,wZ (bB.of hA9) ⟨_,Z,h⟩⟩) (λQ h=>⟨_,Z,_,Z,wZ (bB.of hA9) ⟨_,Z,h⟩⟩) h) h) ?_;let eh:(decide (t.1∈fG rs k)&&(decide (t.2∈fG rs k) && !(decide (t.1∈ab)&&decide (t.2∈ab))))=decide (jx (zX rs) (fG rs) k t):=by
   rw[rO,fX,fX,eE,eE,eE];unfold jx;rw[<-mA t];by_cases c1:t.1∈ab<;>by_cases c2:t.2∈ab<;>simp[c1,c2]
  rw[eh];show qH (λc=>?_) (λc=>?_)
  ·rw[aD c];show⟨_,Z,_,Z,(),λp10 Á sZ=>⟨s9'.trans sZ.same,?_⟩⟩;show eN (Paired.cD p9 λ_ _ h=>h.same sZ.same) ⟨p10,Z,sZ.here⟩
  ·rw[aA c];show⟨s9',?_⟩;rw[List.filter_nil,List.map_nil,jB];show p9
 rw[ltx,gJ]at p9;let nM:iH H9 pM (.lst yo) (cX H9 pM (.lst yo)):=iH.nC hpM;generalize cX H9 pM (.lst yo)=Á at nM ⊢;let a5d:Paired (tB Á) yo ((vp (zX rs) (fG rs) tb k).map λt=>.tie t.1 t.2):=Paired.cD p9 λ_ _ h=>h.same nM.same;let a8L:=aU a5d;rw[aJ]at a8L;let a7l:=s7.trans (s9'.trans nM.same);let a84:=(s9'.trans nM.same) _ _ hA;show⟨(),λp1 H1 n1=>⟨(),λp2 H2 n2=>?_⟩⟩;let s2:=a7l.trans (n1.same.trans n2.same);show⟨_,Z,bk,Z,⟨_,bB.of (s2 _ _ hbk)⟩,?_⟩;show Gw (fG rs k) (λ_=>true) cu.inn (bB.of (s2 _ _ hbk)) (by let:=b10 k;omega) (λv H3 N Z98 _ s3 hN hM=>?_) (λH3 p3 ys3 H4 s3 n4 p4=>?_)
 ·show⟨_,Z,(),λp H5 n5=>hN Z p H5 n5⟩
 rw[List.filter_eq_self.mpr (λ_ _=>rfl)]at p4;let ť:=s3.trans n4.same;let l4:=aU p4;rw[aJ]at l4;show⟨p2,p3,_,_,Z,Z,ť _ _ n2.here,n4.here,(by let:=b10 k;show 1+ys3.length<=1000;omega),λp5 H5 n5=>?_⟩;let a2d:aL Á H5:=n1.same.trans (n2.same.trans (ť.trans n5.same));let s5':=a7l.trans a2d;let f5':H p5=none:=(s2.trans ť).free n5.fresh;let P5':Paired (tB H5) ([.ref p1]++ys3) (.leaf::(fG rs k).map cu.inn):=.cons ⟨p1,Z,n5.same _ _ (ť _ _ (n2.same _ _ n1.here))⟩ (Paired.cD p4 λ_ _ h=>h.same n5.same);let hM5:=a2d _ _ nM.here;show⟨λσ' H'=>∃(pS0:Addr) (xs:af),σ'=[⇑r,⇑l,some (.int (k:Int)),some (.bl early),⇑pA,⇑bk,⇑pM,⇑pS0,none]/\aL H5 H'/\H pS0=none/\H' pS0=↥xs/\Paired (tB H') xs M0,?_,?_⟩
 ·show⟨_,Z,early,Z,?_⟩;cases early with
  |false =>
   show cQ ⟨p5,_,Z,aL.refl _,f5',n5.here,?_⟩;rw[eM,aA cL,jB];show P5'
  |true =>
   show iC ⟨_,Z,_,Z,p5,pM,_,_,Z,Z,n5.here,hM5,(by let:=b10 k;rw[bK];show 1+ys3.length+_<=1000;omega),λp6 H6 n6=>⟨p6,_,Z,n6.same,s5'.free n6.fresh,n6.here,?_⟩⟩;rw[eM,aD rfl];show jJ (Paired.cD P5' λ_ _ h=>h.same n6.same) (Paired.cD a5d λ_ _ h=>h.same (a2d.trans n6.same))
 rintro σ' H6' ⟨pS0,xs0,rfl,s56,f5,hS0,P5⟩;let s5:=s5'.trans s56;let hL5:=s5 _ _ hL;let hMM:=s56 _ _ hM5;let a7m:Paired (tB H6') yo ((vp (zX rs) (fG rs) tb k).map λt=>.tie t.1 t.2):=Paired.cD a5d λ_ _ h=>h.same (a2d.trans s56);show⟨_,Z,_,_,Z,Z,_,Z,l,_,Z,.inl (bB.of hL5),_,_,Z,⟨(),(),(),()⟩,?_⟩;show xX (n:=_) (λi σ H'=>∃(jj:Option V) (pS:Addr) (xs:af),σ=[⇑r,⇑l,some (.int (k:Int)),some (.bl early),⇑pA,⇑bk,⇑pM,⇑pS,jj]/\aL H H'/\aL H6' H'/\H pS=none/\H' pS=↥xs/\Paired (tB H') xs (M0++(uL rs.length (zX rs) k (k+1+i)).flatMap L))
  ⟨none,pS0,_,Z,s5,aL.refl _,f5,hS0,by rw[a5c,List.flatMap_nil,jB];show P5⟩ ?_ ?_
 ·rintro i σ H6 hi ⟨jj,pS,xs,rfl,s6,s6m,fS,hS,pS'⟩;let jl:k+1+i<rs.length:=by rw[ly]at hi;omega
  obtain⟨j,ej⟩:∃j,j=k+1+i:=⟨_,Z⟩;let ejI:(k:Int)+1+(i:Int)=(j:Int):=()
  rw[ejI];rw[<-ej]at jl pS';let ej2:k+1+(i+1)=j+1:=()
  rw[ej2,Lx (show k<j by omega)];let⟨vj,hxj,⟨pj,bj,rfl,hTj,hbj,nbj,lbj⟩⟩:=cI pL (uR jl);rw[W.ru j () jl]at hTj;let pre:=ž (up:=zX rs) (k:=k) (show j+1<=rs.length by omega) L;rw[Lx (show k<j by omega)]at pre;let lxs:=aU pS';rw[bK]at lxs;show⟨_,Z,_,Z,l,_,_,_,Z,Z,bB.of (s6 _ _ hL),bU hxj,pj,_,_,_,Z,Z,cO.of (s6 _ _ hTj),Z,_,Z,Z,_,Z,?_⟩;by_cases c:zX rs j=k
  ·rw[aD c]at pre ⊢;rw[show decide (upV (some ((zX rs j:Nat):Int))=V.int (k:Int))=true from bh (by rw[c];rfl)];show iC ?_;let eLj:L j=oH early tb rs.length (zX rs) (fG rs) d j++((uJ (fG rs j) (fG rs k)).map .out++(uJ (fG rs k) (fG rs j)).map .inn++[.join]):=by rw[eL];rfl
   rw[Ux,bK,List.flatMap_singleton]at pre;let lLj:=congrArg List.length eLj;rw[bK,bK,bK,aJ,aJ]at lLj;let lJ1:[cu.join].length=1:=rfl;show⟨_,Z,_,Z,_,Z,_,Z,_,Z,r,l,tx,ys,tb,rs,n,most,j,early,Z,s6 _ _ hT,Paired.cD pT λ_ _ h=>qI.same s6 h,a2c,s6 _ _ hL,Paired.cD pL λ_ _ h=>Oz.same s6 h,W,m4,r20,dh,jl,(),λpJ xJ H7 s7 fJ hJ pJ'=>?_⟩;let lJ:=aU pJ';show⟨pS,pJ,_,_,Z,Z,s7 _ _ hS,hJ,(),λp8 H8 n8=>?_⟩;let s68:=s7.trans n8.same;let s8:=s6.trans s68;show⟨_,Z,_,Z,l,_,_,_,Z,Z,bB.of (s8 _ _ hL),bU hxj,pj,_,_,_,Z,Z,cO.of (s8 _ _ hTj),Z,bj,Z,⟨_,bB.of (s8 _ _ hbj)⟩,?_⟩;show Gw (fG rs j) (λv=>!decide (v∈fG rs k)) cu.out (bB.of (s8 _ _ hbj)) (by let:=b10 j;omega) (λv H9 N Z98 _ s9 hN hM=>?_) (λH9 p9 y9 Á s9 sZ p10=>?_)
   ·show⟨_,Z,_,Z,oU (bB.of ((s8.trans s9) _ _ hbk)) ⟨_,Z,qH (λe=>?_) λe=>hM (GX.mpr e)⟩⟩;show⟨_,Z,(),λp H5 n5=>hN e p H5 n5⟩
   let l10:=aU p10;rw[aJ]at l10;let a85:y9.length=(uJ (fG rs j) (fG rs k)).length:=l10;let a5e:=s9.trans sZ.same;show⟨p8,p9,_,_,Z,Z,a5e _ _ n8.here,sZ.here,by rw[bK];omega,λp11 H11 Bu=>?_⟩;let s11:=s8.trans (a5e.trans Bu.same);show⟨_,Z,_,Z,bk,Z,⟨_,bB.of (s11 _ _ hbk)⟩,?_⟩;show Gw (fG rs k) (λv=>!decide (v∈fG rs j)) cu.inn (bB.of (s11 _ _ hbk)) (by let:=b10 k;omega) (λv H12 N Z98 _ s12 hN hM=>?_) (λH12 p12 y12 H13 s12 n13 p13=>?_)
   ·show⟨_,Z,_,Z,_,Z,l,_,_,_,Z,Z,bB.of ((s11.trans s12) _ _ hL),bU hxj,pj,_,_,_,Z,Z,cO.of ((s11.trans s12) _ _ hTj),Z,oU (bB.of ((s11.trans s12) _ _ hbj)) ⟨_,Z,qH (λe=>?_) λe=>hM (GX.mpr e)⟩⟩;show⟨_,Z,(),λp H5 n5=>hN e p H5 n5⟩
   let l13:=aU p13;rw[aJ]at l13;let a86:y12.length=(uJ (fG rs k) (fG rs j)).length:=l13;let Δ:=s12.trans n13.same;show⟨p11,p12,_,_,Z,Z,Δ _ _ Bu.here,n13.here,by rw[bK,bK];omega,λp14 H14 n14=>?_⟩;show⟨(),λp15 H15 n15=>⟨(),λp16 H16 n16=>?_⟩⟩;let Ε:=n15.same.trans n16.same;show⟨p14,p16,_,_,Z,Z,Ε _ _ n14.here,n16.here,(by rw[bK,bK,bK];show _+1<=1000;omega),λp17 H17 n17=>?_⟩;let a3b:=n14.same.trans (Ε.trans n17.same);let a3c:=Bu.same.trans (Δ.trans a3b);let a5f:=a5e.trans a3c;let s17:=s8.trans a5f;let a7n:=n8.same.trans a5f;show⟨_,p17,_,Z,s17,s6m.trans (s68.trans a5f),?_,n17.here,?_⟩
   ·show(s11.trans (Δ.trans (n14.same.trans Ε))).free n17.fresh
   ·rw[Ux,List.flatMap_singleton,eLj,<-rM,<-rM,<-rM,<-rM];show jJ (jJ (jJ (jJ (Paired.cD pS' λ_ _ h=>h.same (s7.trans a7n)) (Paired.cD pJ' λ_ _ h=>h.same a7n)) (Paired.cD p10 λ_ _ h=>h.same a3c)) (Paired.cD p13 λ_ _ h=>h.same a3b)) (.cons ⟨p15,Z,n17.same _ _ (n16.same _ _ n15.here)⟩ .nil)
  ·rw[aA c,jB];rw[show decide (upV (some ((zX rs j:Nat):Int))=V.int (k:Int))=false from cG (λz=>c (by let:=V.int.inj z;omega))];show cQ ⟨_,pS,xs,Z,s6,s6m,fS,hS,pS'⟩
 rintro σ H6 ⟨jj,pS,xs,rfl,s6,s6m,fS,hS,pS'⟩;let eK:uL rs.length (zX rs) k (k+1+((ys.length:Int)-((k:Int)+1)).toNat)=gQ rs.length (zX rs) k:=by
  unfold uL gQ;congr 2;omega
 rw[eK]at pS';show⟨_,Z,early,Z,?_⟩;cases early with
 |true =>
  rw[aD Z,jB]at q;show iC ⟨_,Z,q pS xs H6 s6 fS hS pS'⟩
 |false =>
  rw[aA cL]at q;let lxs:=aU pS';rw[bK]at lxs;show cQ ⟨_,Z,_,Z,pS,pM,_,_,Z,Z,hS,s6m _ _ hMM,(),λp9 H9 n9=>q p9 _ H9 (s6.trans n9.same) (s6.free n9.fresh) n9.here (jJ (Paired.cD pS' λ_ _ h=>h.same n9.same) (Paired.cD a7m λ_ _ h=>h.same (s6m.trans n9.same)))⟩
theorem Cp(B:Bl mg)(Fo:Dn K mg "_law_laid" lC Bm):∀d:Nat,⋯ (d+1) Fo.f Fo.fd Bm (Cm K d)
 |0=>Α Fo
 |d+1=>Β B Fo d (Cp B Fo d)
end K
namespace X7
open PySem.W PySem.Calls PyProof.Rows PySem.MeetsSeq
abbrev lsO(z:Array Value)(n:Nat):Obj:={ cls:=.type "list",dict:=none,data:=.seq z n,slots:=#[]}
def a3d(z:Array Value)(x:Value)(eq:Nat->Bool)(A:Around)(h:Heap):Prop:=∀s':Shared,s'.heap=h->∀m (hm:m<z.size),SeqAt.EqAt A s' z[m] x (eq m)
def a5g{l:Addr}{z:Array Value}{n:Nat}{x:Value}{eq:Nat->Bool}{j:Nat}(hj:j<z.size)(hit:eq j=true)(hz:z.size<=sizeLine)(k:Nat) :
  ∀i:Nat,j-i=k->i<=j->(∀m (hm:m<z.size),i<=m->m<j->eq m=false)->Meets (Builtin.«list.remove.loop» ⟨[.ref l,x,rawInt i],[]⟩)
   (λA R s=>s^^^l=some (lsO z n)/\a3d z x eq A.in1 s.heap/\R (.ok (.ret .none)) (s•s.heap.update l (Obj.mapSeq λxs=>xs.eraseIdxIfInBounds j))):=by
 induction k with
 |zero =>
  intro i hk ij hn prog w A R s h;let⟨hp,g,d,tq,os⟩:=s;let⟨ol,he,h⟩:=h;obtain rfl:i=j:=()
  wp_walk using yX ol
  let hi:z[((i:Nat):Int).toNat]?=some z[i]:=by simp[hj]
  rw[hi];show M (he _ Z i hj prog w _ _ ?_);rw[hit];let hz':(z.eraseIdxIfInBounds i).size<=sizeLine+1:=by
   let:=size_erased z i;omega
  wp_walk using (Ny ol Z (hz:=hz) (_hz':=hz')),yX ol
  simpa using h
 |succ k ih =>
  intro i hk ij hn prog w A R s h;let⟨hp,g,d,tq,os⟩:=s;let⟨ol,he,h⟩:=h;let lb:i<z.size:=()
  wp_walk using yX ol
  let hi:z[((i:Nat):Int).toNat]?=some z[i]:=by simp[lb]
  let ic:((i:Int)+1)=((i+1:Nat):Int):=by push_cast;rfl
  rw[hi];show M (he _ Z i lb prog w _ _ ?_);rw[hn i lb (aK _) ()]
  wp_walk
  rw[ic];show⟨lU plain_remove_loop _,jU entry_remove_loop ?_⟩;rw[j5 plain_remove_loop _];show ih (i+1) () () (λm hm h1 h2=>hn m hm () h2) prog w A R _ ⟨ol,he,h⟩
def a5h{l:Addr}{z:Array Value}{n:Nat}{x:Value}{eq:Nat->Bool}{j:Nat}(hj:j<z.size)(hit:eq j=true)(hn:∀m (hm:m<z.size),m<j->eq m=false)(hz:z.size<=sizeLine) :
  Meets (Builtin.«list.remove» ⟨[.ref l,x],[]⟩) (λA R s=>s^^^l=some (lsO z n)/\a3d z x eq A.in1 s.heap/\R (.ok (.ret .none)) (s•s.heap.update l (Obj.mapSeq λxs=>xs.eraseIdxIfInBounds j))):=by
 intro prog w A R s h;let⟨hp,g,d,tq,os⟩:=s;let⟨ol,he,h⟩:=h
 wp_walk using yX ol
 show⟨lU plain_remove_loop _,jU entry_remove_loop ?_⟩;rw[j5 plain_remove_loop _];show a5g hj hit hz _ 0 Z (dG _) (λm hm _ h2=>hn m hm h2) prog w A R _ ⟨ol,he,h⟩
end X7
namespace L2
open PyProof.Rows X7
section
variable{X:Cx}{K:aH}
def Qf(K:aH):V->af->Hp->VK->Prop:=λx vs H Q=>∃l xs y d ds j,x=.ref l/\vs=[y]/\H l=↥xs/\JM K H y d/\vN K H xs ds/\SeqAt.shaped d=true/\(∀e∈ds,SeqAt.shaped e=true)/\
 j<xs.length/\PyData.eqv (ds.getD j .none) d=true/\(∀m<j,PyData.eqv (ds.getD m .none) d=false)/\∀H',tH H l (.lst (xs.eraseIdx j)) H'->Q .non H'
def Sx{Y:aE}{σ:St}{H:Hp}{s:Shared}(I:bF X Y σ H s):∀{xs:af}{us:aw}{ds:List PyData},cN xs us->vN X.K H xs ds->ds.length=us.length/\∀i,i<us.length->∃as,Reads s.heap (us.getD i .none) (ds.getD i .none) as
 |_,_,_,.nil,.nil=>⟨Z,λi h=>absurd h (wU _)⟩
 |_,_,_,.cons r t,.cons a b=>by
  let⟨e,q⟩:=Sx I t b
  show⟨by rw[iM,iM,e],λi h=>?_⟩
  cases i with
  |zero=>show a.reads I r
  |succ i =>
   let:=q i (by simpa using h)
   simpa using this
theorem Jx:∀{xs:af}{us:aw} (j:Nat),cN xs us->cN (xs.eraseIdx j) (us.eraseIdx j)
 |_,_,_,.nil=>.nil
 |_,_,0,.cons r t=>t
 |_,_,j+1,.cons r t=>.cons r (Jx j t)
def Ì(hv:X.A.units+65<cLine):Ow X "list.remove" (Qf X.K):=by
 intro Y s σ H x vs v us Q I rx rv h;let⟨l,xs,y,d,ds,j,rfl,rfl,hH,hd,hds,sd,sds,hj,hit,hn,q⟩:=h;cases rx;let⟨u,rfl,ru⟩:=vals1 rv;let⟨z,bY,n,r,ol,e⟩:=I.V1 hH;let hlen:=r.length;let⟨as,ra⟩:=hd.reads I ru;let⟨el,rs⟩:=Sx I r hds;let hjz:j<bY.toArray.size:=by rw[gV];omega
 show zp F.slot_list_remove ⟨_,e,Z⟩ F.entry_list_remove (F.args_list_remove_2 _ _) (X7.a5h (z:=bY.toArray) (eq:=λm=>PyData.eqv (ds.getD m .none) d) hjz hit (λm _ hm=>hn m hm) (by rw[gV];omega)) ⟨e,λs' es m hm=>?_,?_⟩
 ·let hm':m<bY.length:=by simpa using hm
  let⟨bs,rb⟩:=rs m hm';let eg:bY.getD m .none=bY.toArray[m]:=by simp[hm']
  rw[eg]at rb;let sm:SeqAt.shaped (ds.getD m .none)=true:=sds _ (by rw[gB,bO ()];show oJ _);rw[<-es]at rb ra;show SeqAt.eqAt_reads _ _ _ _ _ _ _ _ rb ra (yO sm) (yO sd) (SeqAt.room_of_shaped sm hv)
 ·show⟨.non,_,I.a0L (its':=bY.eraseIdx j) hH e ?_ (Jx j r) ?_,Z,q _ tH.nC⟩
  ·simp[Array.eraseIdxIfInBounds];omega
  ·let:=List.length_eraseIdx_le xs j;omega
def W8(e:X.K=K)(hv:X.A.units+65<cLine):Ow X "list.remove" (Qf K):=by subst e;show Ì hv
end
end L2
namespace K
open L2 Lw Bg
variable{b:ae}{L:aI}
namespace Go
section
variable{n:Nat}{ts:ar}{ss:ax}
structure a2e(n:Nat)(ts:ar)(ss:ax):Prop where
 dh:n<=10
 go:∀i,i<=ss.length->(aX n ts ss i).2=true
 sb:∀(k:Nat) (s:cu),ss[k]?=some s->StB n ts ss k s
 se:∀(k:Nat) (s:cu),ss[k]?=some s->StE n ts ss k s
 last:∀j∈(aX n ts ss ss.length).1.pile,fH n ts ss j=[]
 ties:∀t∈ts,cu.tie t.1 t.2∈ss
set_option tactic.hygienic true in
def a3e(dh:n<=10)(sW:Bv n ts ss (cF n ts ss)=.ok):a2e n ts ss:=by
 let go:=ŭ dh sW;show⟨dh,go,λk s h=>a1U (zL go dh h),λk s h=>zL go dh h,λj hj=>?_,λt ht=>?_⟩
 ·unfold Bv at sW;split at sW
  ·cases sW
  ·split at sW
   ·rename_i e;let:fH n ts ss j∈Li (cF n ts ss):=fD.mpr ⟨j,hj,Z⟩;grind
   ·cases sW
 ·unfold Bv at sW;split at sW
  ·cases sW
  ·split at sW
   ·split at sW
    ·cases sW
    ·split at sW
     ·cases sW
     ·rename_i e;let:=CN.mp e t ht;simpa using this
   ·cases sW
end
end Go
namespace Up
def Gx(s:cu){i:Nat}(hi:i<5):decide (V.str s.word=V.str (Fe i))=decide (s.tag=i):=by
 let h:=Ip s.tag (Wy s) i hi;rw[Ir];grind
def Ζ(s:cu):decide (V.str s.word=V.str "leaf")=decide (s.tag=0):=Gx s (i:=0) ()
def a7o(s:cu):decide (V.str s.word=V.str "in")=decide (s.tag=1):=Gx s (i:=1) ()
def a3f(s:cu):decide (V.str s.word=V.str "out")=decide (s.tag=3):=Gx s (i:=3) ()
def a5i(s:cu):decide (V.str s.word=V.str "join")=decide (s.tag=4):=Gx s (i:=4) ()
end Up
def W9{n:Nat}(dh:n<=10){zs:ae}{v:Int}(ab:b.Pairwise (· < ·))(hb:∀v∈b,0<=v/\v<(n:Int))(v0:0<=v)(vn:v<(n:Int))(nv:v∉b)(pz:zs.Perm (b++[v]))(sz:zs.Pairwise (· <= ·)):zs=fu b [v]:=by
 let nd:zs.Nodup:=pz.nodup_iff.mpr (uf.mpr ⟨Go.Ca ab,wL _ _,λx hx y hy e=>nv ()⟩);let az:zs.Pairwise (· < ·):=(List.pairwise_and_iff.mpr ⟨sz,nd⟩).imp λh=>by omega
 show Go.vX az (Go.vY _) λx=>?_;rw[pz.mem_iff,cM];show(Go.nA dh hb λy hy=>by rw[bQ.mp hy];show⟨v0,vn⟩).symm
def Xa(F:ae)(k:Nat):(F.map V.int).eraseIdx k=(F.eraseIdx k).map V.int:=by
 induction F generalizing k with
 |nil=>rfl
 |cons x r ih =>
  cases k with
  |zero=>rfl
  |succ k =>
   grind
def a2f{K:aH}{H:Hp}{l:Addr}{T:ae}{v:Int}{Q:VK}(hl:H l=↥(T.map V.int))(c:v∈T)(q:∀H',tH H l (.lst ((T.erase v).map V.int)) H'->Q .non H'):Qf K (.ref l) [.int v] H Q:=by
 let jl:=Mt c;let e1:=List.erase_eq_eraseIdx_of_idxOf (l:=T) (a:=v) (i:=T.idxOf v) rfl;let eg:∀m,m<T.length->(T.map PyData.int).getD m .none=.int (T.getD m 0):=λm hm=>by
  rw[gB,cV,bO hm,gB,bO hm];rfl
 show⟨l,_,_,.int v,T.map PyData.int,T.idxOf v,Z,Z,hl,.int v,vN.ints T,Z,λe he=>?_,by rw[aJ];show jl,?_,λm hm=>?_,λH' ch=>q H' ?_⟩
 ·let⟨z,_,rfl⟩:=fD.mp he;rfl
 ·rw[eg _ jl,gB,bO jl,Ve,List.getElem_idxOf jl,PyData.eqv];grind
 ·let ml:m<T.length:=()
  let:=List.not_of_lt_findIdx (p:=λx=>x==v) (xs:=T) (i:=m) hm;rw[eg _ ml,gB,bO ml,Ve,PyData.eqv];simpa using this
 ·rw[Xa,<-e1]at ch;show ch
abbrev tX:Stmt:=top 46
def gn:bR ["_law_steps","_law_pile","_law_tops_here","_law_aheads","_law_k","_law_ahead","_law_bag"] ["_law_steps"] (aG tX):={}
def Xb{B:ae}{v:Int}(nd:B.Nodup):B.erase v=mF B [v]:=by
 rw[nd.erase_eq_filter];show List.filter_congr λx _=>?_;grind
noncomputable def NI(j:Nat):V:=.int (j:Int)
noncomputable def ahF(fd:ay):V:=match fd.getLast? with
 |some j=>.int (j:Int)
 |none=>.non
noncomputable def ubF(n:Nat)(ts:ar)(ss:ax)(fd:ay):ae:=match fd.getLast? with
 |some j=>Go.fH n ts ss j
 |none=>[]
inductive Qq(L:aI)(H:Hp)(v:V)(b:ae):Prop
 |mk (p:_) (_:v=.ref p) (_:H p=↥(b.map V.int)) (_:p∉L)
def Qq.same{H H':Hp}{v:V}(s:aL H H')(h:Qq L H v b):Qq L H' v b:=by
 let⟨p,e,h1,h2⟩:=h;show⟨p,e,s _ _ h1,h2⟩
def Qq.chg{H H':Hp}{v:V}{a:Addr}{o:HO}(m:a∈L)(c:tH H a o H')(h:Qq L H v b):Qq L H' v b:=by
 let⟨p,e,h1,h2⟩:=h;show⟨p,e,(c.rest p λz=>h2 ()).trans h1,h2⟩
def Qq.mono{Z98:aI}{H:Hp}{v:V}(i:∀x∈Z98,x∈L)(h:Qq L H v b):Qq Z98 H v b:=by
 let⟨p,e,h1,h2⟩:=h;show⟨p,e,h1,λz=>h2 (i _ z)⟩
def Qq.new{H H':Hp}{v:V}{q:Addr}{o:HO}(m:iH H q o H')(h:Qq L H v b):Qq (L++[q]) H' v b:=by
 let⟨p,e,h1,h2⟩:=h;show⟨p,e,m.same _ _ h1,λz=>?_⟩;rcases cM.mp z with z|z
 ·show h2 z
 ·let:=m.fresh;grind
inductive a2g(H:Hp)(pS pp pt pa:Addr)(n:Nat)(ts:ar)(ss:ax)(i:Nat)(pl:ay)(b:ae)(ah:V)(σ:St)(G:Hp):Prop
 |mk (pb:Addr) (tx:af) (_:σ=[⇑pS,⇑pp,⇑pt,⇑pa,some (.int (i:Int)),some ah,⇑pb]) (_:aL H G) (_:G pp=↥(pl.map NI)) (_:G pt=↥tx) (_:Paired (Qq [pp,pt,pa,pb] G) tx ((List.range i).map (Go.fH n ts ss))) (_:G pa=↥((List.range i).map λk=>ahF (Go.oE n ts ss k))) (_:G pb=↥(b.map V.int)) (_:H pb=none) (_:pb≠pp) (_:pb≠pt) (_:pb≠pa)
inductive a7p(H:Hp)(pS pp pt pa:Addr)(n:Nat)(ts:ar)(ss:ax)(i:Nat)(σ:St)(G:Hp):Prop
 |mk (tx:af) (o4 o5 o6:Option V) (_:σ=[⇑pS,⇑pp,⇑pt,⇑pa,o4,o5,o6]) (_:aL H G) (_:G pp=↥((aX n ts ss i).1.pile.map NI)) (_:G pt=↥tx) (_:Paired (Qq [pp,pt,pa] G) tx ((List.range i).map (Go.fH n ts ss))) (_:G pa=↥((List.range i).map λk=>ahF (Go.oE n ts ss k)))
inductive Η(vs:af)(H:Hp)(Q:VK)(u_3:XK):Prop
 |mk (pS:Addr) (xs:af) (ss:ax) (n:Nat) (ts:ar) (_:vs=[.ref pS]) (_:H pS=↥xs) (_:Paired (tB H) xs ss) (_:ss.length<=800) (_:Go.a2e n ts ss) (_:∀r pt pa tx H',aL H H'->H' r=↥[.ref pt,.ref pa]->H' pt=↥tx->Paired (Qq [] H') tx ((List.range ss.length).map (Go.fH n ts ss))->H' pa=↥((List.range ss.length).map λk=>ahF (Go.oE n ts ss k))->Q (.ref r) H')
section
variable{P:Program}{w:World}{K:aH}{mg:Str->Option Value}{base:Heap}
abbrev DZ9(K:PySem.W.Frag)(mg:Str->Option Value):=Dn K mg "_law_tops" tX ["_law_steps"]
def Qg(B:Bl mg)(Í:DZ9 K mg):⋯ 1 Í.f Í.fd ["_law_steps"] Η:=by
 show Í.F.ok gn λdZ A outer s H vs Q E hr h=>?_;let⟨pS,xs,ss,n,ts,rfl,hS,qS,l8,R,q⟩:=h;let hv:(A.deeper (PyProof.Rows.envOfC "_law_tops" (aG tX) s⁻¹ Í.f dZ)).units+65<cLine:=by let:=hr.un;omega
 show⟨_,(aB (aV 1 gn.nd (cH aj))
   (aB (aV 2 gn.nd (cH aj))
   (aB (aV 3 gn.nd (cH aj))
   (aB (iV iI Z (jP Z B.range (O (aW (b8 (K:=K) Z) Z B.len () (O (pv 0) aj)) aj)) (aM 4 gn.nd)
   (aB (aV 5 gn.nd rU)
   (aB (aV 6 gn.nd (cH aj))
   (g8 (cJ (aN Km (aP (aO (K:=K) Z) (aP (bf (K:=K) Z) (pv 0) (pv 4)) aq) fY)
   (aB (aV 5 gn.nd (mK (K:=K) Z gR MP MT Bh (pv 1)))
   (aF (aV 6 gn.nd (fZ (jH (K:=K) Z) Z B.list () (O (aP (bf (K:=K) Z) (pv 2) (pv 5)) aj)))))
   bx)
   (g8 (cJ (aN mZ (aP (aO (K:=K) Z) (aP (bf (K:=K) Z) (pv 0) (pv 4)) aq) fY)
   (aF (eY (mK (K:=K) Z gR MP MT Bh (pv 1))))
   bx)
   (g8 (cJ (aN mZ (aP (aO (K:=K) Z) (aP (bf (K:=K) Z) (pv 0) (pv 4)) aq) fY)
   (aF (aV 6 gn.nd (aW (Ba (K:=K) Z) Z B.sorted () (O (bA jy (pv 6) (cH (O (aP (aO (K:=K) Z) (aP (bf (K:=K) Z) (pv 0) (pv 4)) aq) aj))) aj))))
   bx)
   (g8 (cJ (aN mZ (aP (aO (K:=K) Z) (aP (bf (K:=K) Z) (pv 0) (pv 4)) aq) fY)
   (aF (eY (gZ (K:=K) Z gR PySem.F.slot_list_remove PySem.F.type_list_remove (W8 (K:=K) Z hv) (pv 6) (O (aP (aO (K:=K) Z) (aP (bf (K:=K) Z) (pv 0) (pv 4)) aq) aj))))
   bx)
   (aB (eY (gZ (K:=K) Z gR PySem.F.slot_list_append PySem.F.type_list_append fL (pv 2) (O (pv 6) aj)))
   (aB (eY (gZ (K:=K) Z gR PySem.F.slot_list_append PySem.F.type_list_append fL (pv 3) (O (pv 5) aj)))
   (aF (eY (gZ (K:=K) Z gR PySem.F.slot_list_append PySem.F.type_list_append fL (pv 1) (O (pv 4) aj)))))))))))))
   (aF (bI (cH (O (pv 2) (O (pv 3) aj))))))))),?_⟩
 show⟨(),λpp H1 n1=>⟨(),λpt H2 n2=>⟨(),λpa H3 n3=>?_⟩⟩⟩;let s3:=n1.same.trans (n2.same.trans n3.same);let fpp:H pp=none:=n1.fresh;let fpt:H pt=none:=n1.same.free n2.fresh;let fpa:H pa=none:=(n1.same.trans n2.same).free n3.fresh;let lx:=aU qS;let tp:=Go.R8 R.dh R.sb;let tpp:pt≠pp:=λz=>by let:=n2.fresh;rw[z,n1.here]at this;cases this
 let app:pa≠pp:=λz=>by let:=n3.fresh;rw[z,n2.same _ _ n1.here]at this;cases this
 let apt:pa≠pt:=λz=>by let:=n3.fresh;rw[z,n2.here]at this;cases this
 show⟨_,Z,pS,_,Z,.inl (bB.of (s3 _ _ hS)),_,Z,(),(),?_⟩;rw[jf];show zP (n:=xs.length) (λi σ G=>a7p H pS pp pt pa n ts ss i σ G) ⟨[],_,_,_,Z,s3,n3.same _ _ (n2.same _ _ n1.here),n3.same _ _ n2.here,.nil,n3.here⟩ ?_ ?_
 ·rintro D i σ G0 hi ⟨tx,o4,o5,o6,rfl,sG0,Î,a5j,pT0,a2h⟩ dn _;rw[show(0:Int)+(i:Int)=(i:Int) by omega];let kl:i<ss.length:=()
  let hs:=bO kl;let SB:=R.sb i _ hs;let SE:=R.se i _ hs;let⟨vx,è,RN,rfl,hst⟩:=cI qS hs;let split:=tY (dX ss[i] (aX n ts ss i).1) (aX n ts ss i).1.pile;rw[<-SE.feed]at split;let pil:=SE.pile;let lpl:=(jA R.dh (R.go (i+1) ())).pl;let lp0:=(jA R.dh (R.go i ())).pl;rw[pil,bK,Cw]at lpl;generalize (aX n ts ss i).1.pile.take (dX ss[i] (aX n ts ss i).1)=tV at split pil lpl;generalize ss[i]=st at hs SB hst;rw[<-split]at Î;show⟨(),λpb G1 m1=>?_⟩;let TV:pb≠pp:=λz=>by let:=m1.fresh;grind
  let Xc:pb≠pt:=λz=>by let:=m1.fresh;grind
  let Xd:pb≠pa:=λz=>by let:=m1.fresh;grind
  let WQ:=sG0.trans m1.same;let small:∀{b:ae},(∃j,j<ss.length/\b=Go.fH n ts ss j)->b.length<=10:=λ⟨j,hj,e⟩=>by rw[e];show a7f R.dh (Go.Ca (tp j hj).1) (tp j hj).2
  show Bt (P:=λσ' G'=>a2g H pS pp pt pa n ts ss i (tV++(Go.oE n ts ss i).dropLast) (ubF n ts ss (Go.oE n ts ss i)) (ahF (Go.oE n ts ss i)) σ' G') λJ1 ji ij=>⟨J1,?_,?_⟩
  ·show⟨_,Z,_,Z,pS,_,_,_,Z,Z,bB.of (WQ _ _ hS),bU è,RN,st.vs,0,.str st.word,Z,Z,cO.of (WQ _ _ hst),tO st,Z,_,Z,?_⟩;rw[Up.Ζ];by_cases c0:st.tag=0
   ·rw[bh c0];let ef:Go.oE n ts ss i=[]:=by cases SB<;>first|assumption|cases c0
    rw[ef]at Î;show cQ (ji _ _ ?_);rw[ef];show⟨pb,tx,Z,WQ,m1.same _ _ Î,m1.same _ _ a5j,Paired.cD pT0 λ_ _ z=>z.new m1,m1.same _ _ a2h,m1.here,sG0.free m1.fresh,TV,Xc,Xd⟩
   ·rw[cG c0];obtain⟨f0,j,ef,lt⟩:∃f0 j,Go.oE n ts ss i=f0++[j]/\j<i:=by
     cases SB with
     |leaf=>show absurd Z c0
     | @inn i' v ef lt=>show⟨[],i',ef,lt⟩
     | @tie i' a b ef lt=>show⟨[],i',ef,lt⟩
     | @out i' v ef lt=>show⟨[],i',ef,lt⟩
     | @join i' j' ef lt lt'=>show⟨[i'],j',ef,lt'⟩
    let e1:(Go.oE n ts ss i).dropLast=f0:=by rw[ef,CJ]
    let e2:ubF n ts ss (Go.oE n ts ss i)=Go.fH n ts ss j:=by unfold ubF;rw[ef,M4]
    let e3:ahF (Go.oE n ts ss i)=NI j:=by unfold ahF;rw[ef,M4];rfl
    rw[ef,<-rM,cW]at Î;let a7q:G1 pp=↥((tV++f0).map NI++[NI j]):=m1.same _ _ Î;let htj:((List.range i).map (Go.fH n ts ss))[j]?=some (Go.fH n ts ss j):=by rw[cV,Uy lt];rfl
    let⟨vj,hvj,pj,rfl,hpj,npj⟩:=cI pT0 htj;show iC ⟨_,Z,.inl ⟨Z,_,bB.of a7q⟩,pp,_,NI j,Z,Z,a7q,λG2 c2=>?_⟩;let a7r:G2 pt=↥tx:=(c2.rest pt tpp).trans (m1.same _ _ a5j);let a8M:G2 pj=↥((Go.fH n ts ss j).map V.int):=(c2.rest pj λz=>npj (by rw[z];show aZ)).trans (m1.same _ _ hpj);show⟨_,Z,_,Z,pt,_,_,_,Z,Z,bB.of a7r,bU hvj,pj,_,Z,.inl (bB.of a8M),λp3 G3 m3=>?_⟩;let s2:=WQ.chg fpp c2;let fp3:=s2.free m3.fresh;show ji _ _ ?_;rw[e1,e2,e3];show⟨p3,tx,Z,s2.trans m3.same,m3.same _ _ c2.here,m3.same _ _ a7r,Paired.cD pT0 λ_ _ z=>((z.same m1.same).chg aZ c2).new m3,m3.same _ _ ((c2.rest pa app).trans (m1.same _ _ a2h)),m3.here,fp3,?_,?_,?_⟩
    ·intro z;let:=m3.fresh;rw[z,c2.here]at this;cases this
    ·intro z;let:=m3.fresh;grind
    ·intro z;let:=m3.fresh;rw[z,(c2.rest pa app).trans (m1.same _ _ a2h)]at this;cases this
  clear Î a5j pT0 a2h m1 WQ TV Xc Xd;intro σ1 G mj;let⟨pb,tx,rfl,sG,Cr,hpt,pT,hpa,hb,fb,TV,Xc,Xd⟩:=ij _ _ mj;clear ji ij mj;show Bt (P:=λσ' G'=>a2g H pS pp pt pa n ts ss i tV (ubF n ts ss (Go.oE n ts ss i)) (ahF (Go.oE n ts ss i)) σ' G') λJ2 ji ij=>⟨J2,?_,?_⟩
  ·show⟨_,Z,_,Z,pS,_,_,_,Z,Z,bB.of (sG _ _ hS),bU è,RN,st.vs,0,.str st.word,Z,Z,cO.of (sG _ _ hst),tO st,Z,_,Z,?_⟩;rw[Up.a5i];by_cases c0:st.tag=4
   ·rw[bh c0];obtain⟨i',ed⟩:∃i',(Go.oE n ts ss i).dropLast=[i']:=by
     cases SB with
     | @join i' j' ef=>grind
     |_=>cases c0
    rw[ed,cW]at Cr;show iC ⟨_,Z,.inl ⟨Z,_,bB.of Cr⟩,pp,_,NI i',Z,Z,Cr,λG2 c2=>ji _ _ ⟨pb,tx,Z,sG.chg fpp c2,c2.here,(c2.rest pt tpp).trans hpt,Paired.cD pT λ_ _ z=>z.chg aZ c2,(c2.rest pa app).trans hpa,(c2.rest pb TV).trans hb,fb,TV,Xc,Xd⟩⟩
   ·rw[cG c0];let ed:(Go.oE n ts ss i).dropLast=[]:=by
     cases SB with
     |join=>show absurd Z c0
     |leaf ef=>rw[ef];rfl
     |inn ef=>rw[ef];rfl
     |tie ef=>rw[ef];rfl
     |out ef=>rw[ef];rfl
    rw[ed,jB]at Cr;show cQ (ji _ _ ⟨pb,tx,Z,sG,Cr,hpt,pT,hpa,hb,fb,TV,Xc,Xd⟩)
  clear Cr hpt pT hpa hb sG TV Xc Xd fb;intro σ1 G mj;let⟨pb,tx,rfl,sG,Cr,hpt,pT,hpa,hb,fb,TV,Xc,Xd⟩:=ij _ _ mj;clear ji ij mj;let lub:(ubF n ts ss (Go.oE n ts ss i)).length<=10:=by
   unfold ubF;cases eg:(Go.oE n ts ss i).getLast? with
   |none=>grind
   |some j=>show small ⟨j,rR (SE.lt j (List.mem_of_getLast? eg)) kl,Z⟩
  show Bt (P:=λσ' G'=>a2g H pS pp pt pa n ts ss i tV (if st.tag=1 then Go.fH n ts ss i else ubF n ts ss (Go.oE n ts ss i)) (ahF (Go.oE n ts ss i)) σ' G') λJ3 ji ij=>⟨J3,?_,?_⟩
  ·show⟨_,Z,_,Z,pS,_,_,_,Z,Z,bB.of (sG _ _ hS),bU è,RN,st.vs,0,.str st.word,Z,Z,cO.of (sG _ _ hst),tO st,Z,_,Z,?_⟩;rw[Up.a7o];by_cases c0:st.tag=1
   ·rw[bh c0];obtain⟨v,i',rfl,eu,lt,v0,vn,nv,et⟩:∃v i',st=.inn v/\ubF n ts ss (Go.oE n ts ss i)=Go.fH n ts ss i'/\i'<i/\0<=v/\v<(n:Int)/\v∉Go.fH n ts ss i'/\Go.fH n ts ss i=fu (Go.fH n ts ss i') [v]:=by
     cases SB with
     | @inn i' v ef lt v0 vn nv et=>show⟨v,i',Z,by rw[ef];rfl,lt,v0,vn,nv,et⟩
     |_=>cases c0
    rw[eu]at hb lub;show iC ⟨_,Z,_,Z,_,Z,pS,_,_,_,Z,Z,bB.of (sG _ _ hS),bU è,RN,_,1,.int v,Z,Z,cO.of (sG _ _ hst),Z,(),λp1 G1 m1=>⟨pb,p1,_,_,Z,Z,m1.same _ _ hb,m1.here,(),λp2 G2 m2=>?_⟩⟩;show⟨p2,(Go.fH n ts ss i')++[v],Z,bB.of (by rw[m2.here,cW];rfl),(),λp3 G3 zs m3 pz sz=>?_⟩;let ez:=W9 R.dh (tp i' ()).1 (tp i' ()).2 v0 vn nv pz sz;rw[ez,<-et]at m3;let s3:=m1.same.trans (m2.same.trans m3.same);let s2:=m1.same.trans m2.same;let ne:∀{p:Addr}{o:HO},G p=some o->p3≠p:=λh z=>by let:=m3.fresh;rw[z,s2 _ _ h]at this;cases this
    rw[aD c0]at ji;show ji _ _ ⟨p3,tx,Z,sG.trans s3,s3 _ _ Cr,s3 _ _ hpt,Paired.cD pT λ_ _ z=>(Qq.mono (Z98:=[pp,pt,pa]) (λ_ h=>qz [pb] h) (z.same s2)).new m3,s3 _ _ hpa,m3.here,(sG.trans s2).free m3.fresh,ne Cr,ne hpt,ne hpa⟩
   ·rw[cG c0];rw[aA c0]at ji;show cQ (ji _ _ ⟨pb,tx,Z,sG,Cr,hpt,pT,hpa,hb,fb,TV,Xc,Xd⟩)
  clear Cr hpt pT hpa hb sG TV Xc Xd fb;intro σ1 G mj;let⟨pb,tx,rfl,sG,Cr,hpt,pT,hpa,hb,fb,TV,Xc,Xd⟩:=ij _ _ mj;clear ji ij mj;show Bt (P:=λσ' G'=>a2g H pS pp pt pa n ts ss i tV (Go.fH n ts ss i) (ahF (Go.oE n ts ss i)) σ' G') λJ4 ji ij=>⟨J4,?_,?_⟩
  ·show⟨_,Z,_,Z,pS,_,_,_,Z,Z,bB.of (sG _ _ hS),bU è,RN,st.vs,0,.str st.word,Z,Z,cO.of (sG _ _ hst),tO st,Z,_,Z,?_⟩;rw[Up.a3f];by_cases c0:st.tag=3
   ·rw[bh c0];obtain⟨v,i',rfl,eu,lt,mv,et⟩:∃v i',st=.out v/\ubF n ts ss (Go.oE n ts ss i)=Go.fH n ts ss i'/\i'<i/\v∈Go.fH n ts ss i'/\Go.fH n ts ss i=mF (Go.fH n ts ss i') [v]:=by
     cases SB with
     | @out i' v ef lt mv et=>show⟨v,i',Z,by rw[ef];rfl,lt,mv,et⟩
     |_=>cases c0
    rw[aA (),eu]at hb;show iC ⟨_,Z,.inl ⟨Z,_,bB.of hb⟩,_,Z,_,Z,pS,_,_,_,Z,Z,bB.of (sG _ _ hS),bU è,RN,_,1,.int v,Z,Z,cO.of (sG _ _ hst),Z,?_⟩;dsimp only[a0B];show a2f hb mv λG2 c2=>?_;rw[Xb (Go.Ca (tp i' ()).1),<-et]at c2;show ji _ _ ⟨pb,tx,Z,sG.chg fb c2,(c2.rest pp TV.symm).trans Cr,(c2.rest pt Xc.symm).trans hpt,Paired.cD pT λ_ _ z=>z.chg (bH _ (bH _ (bH _ aZ))) c2,(c2.rest pa Xd.symm).trans hpa,c2.here,fb,TV,Xc,Xd⟩
   ·rw[cG c0];let eb:(if st.tag=1 then Go.fH n ts ss i else ubF n ts ss (Go.oE n ts ss i))=Go.fH n ts ss i:=by
     cases SB with
     |leaf ef et=>rw[ef,et];rfl
     |inn=>rfl
     |tie ef lt _ _ _ et=>rw[ef,et];rfl
     |out=>show absurd Z c0
     |join ef lt lt' e1 et=>rw[ef,et,e1];rfl
    rw[eb]at hb;show cQ (ji _ _ ⟨pb,tx,Z,sG,Cr,hpt,pT,hpa,hb,fb,TV,Xc,Xd⟩)
  clear Cr hpt pT hpa hb sG TV Xc Xd fb;intro σ1 G mj;let⟨pb,tx,rfl,sG,Cr,hpt,pT,hpa,hb,fb,TV,Xc,Xd⟩:=ij _ _ mj;clear ji ij mj;let lt0:tx.length=i:=by rw[aU pT,aJ,vD]
  show⟨_,Z,.inl ⟨Z,_,bB.of hpt⟩,_,Z,pt,_,_,Z,Z,hpt,(),λG1 c1=>⟨_,Z,.inl ⟨Z,_,bB.of ((c1.rest pa apt).trans hpa)⟩,_,Z,pa,_,_,Z,Z,(c1.rest pa apt).trans hpa,(),λG2 c2=>⟨_,Z,.inl ⟨Z,_,bB.of ((c2.rest pp app.symm).trans ((c1.rest pp tpp.symm).trans Cr))⟩,_,Z,pp,_,_,Z,Z,(c2.rest pp app.symm).trans ((c1.rest pp tpp.symm).trans Cr),(),λG3 c3=>dn _ _ ⟨tx++[.ref pb],_,_,_,Z,((sG.chg fpt c1).chg fpa c2).chg fpp c3,?_,(c3.rest pt tpp).trans ((c2.rest pt apt.symm).trans c1.here),?_,?_⟩⟩⟩⟩
  ·rw[c3.here,pil,cW];rfl
  ·rw[wR,cW];let go:∀{v b},Qq [pp,pt,pa] G v b->Qq [pp,pt,pa] G3 v b:=λz=>((z.chg (bH _ aZ) c1).chg (bH _ (bH _ aZ)) c2).chg aZ c3;show eN (Paired.cD pT λ_ _ z=>go ?_) (go ⟨pb,Z,hb,?_⟩)
   ·let⟨p,e,h1,h2⟩:=z;show⟨p,e,h1,λz=>h2 (qz [pb] z)⟩
   grind
  ·rw[(c3.rest pa app).trans c2.here,wR,cW];rfl
 ·rintro σ G ⟨tx,o4,o5,o6,rfl,sG,Cr,hpt,pT,hpa⟩;rw[show xs.length=ss.length from lx]at pT hpa;show⟨_,Z,_,Z,(),λr G2 m2=>?_⟩;show q r pt pa tx G2 (sG.trans m2.same) m2.here (m2.same _ _ hpt) (Paired.cD pT λ_ _ z=>by
   let⟨p,e,h1,_⟩:=z;show⟨p,e,m2.same _ _ h1,fj⟩) (m2.same _ _ hpa)
end
end K
namespace L2
open PyProof.Rows
section
variable{X:Cx}
def a7s:af->Hp->VK->Prop:=λxs H Q=>∃a J,xs=[.ref a]/\H a=some (.dK J)/\Q (.int ((J.length:Nat):Int)) H
def Ï:jE X (.builtin "len") a7s:=by
 intro Y s σ H xs us Q I r h;let⟨a,J,rfl,e,q⟩:=h;let⟨u,rfl,rx⟩:=vals1 r;cases rx;show a6u I (.inl e) λt s' I'=>⟨.int _,H,I',⟨t,Z⟩,q⟩
end
section
variable{X:Cx}{K:aH}
inductive a5k(K:aH)(x:V)(y:V)(H:Hp)(Q:VK):Prop
 |mk (a b xs ys:_) (_:x=.ref a) (_:y=.ref b) (_:cO K H a xs) (_:cO K H b ys) (_:ys≠[]) (_:xs.length+ys.length<=1000) (_:∀p H',aL H H'->cO K H' p (xs++ys)->Q (.ref p) H')
def Θ(e:X.K=K):qQ X (binaryOp .Add) (a5k K):=by
 subst e;intro Y s σ H x y v u Q I rx ry h;let⟨a,b,xs,ys,rfl,rfl,ha,hb,ny,hz,q⟩:=h;by_cases c:xs=[]
 ·cases rx;cases ry;let⟨bY,r1,p1,_⟩:=I.tuple ha;let⟨its2,r2,p2,_⟩:=I.tuple hb;let⟨⟨cls,dd,data,sl⟩,ho,hc,n,hd⟩:=id p1;let⟨⟨cls2,dd2,data2,sl2⟩,ho2,hc2,n2,hd2⟩:=id p2;simp only at hc hd hc2 hd2;subst hc hd hc2 hd2;show Oc ⟨_,ho,Z⟩ ⟨_,ho2,Z⟩ Nj NZ MK Mw (Mu _ _)
   (tuple_addW0 a b bY.toArray its2.toArray n n2 dd dd2 sl sl2 (by simp[r1.Af.mpr c])) ⟨ho,ho2,⟨.ref b,H,I,Z,q b H (aL.refl _) (by rw[c];show hb)⟩⟩
 ·show Ű Z Y s σ H _ _ v u Q I rx ry ⟨a,b,xs,ys,Z,Z,ha,hb,c,ny,hz,λp H' n=>q p H' n.same (cO.of n.here)⟩
end
end L2
namespace K
open L2 Lw Bg
variable{K:aH}{P:Program}{w:World}{mg:Str->Option Value}{base:Heap}{kd:Int}
abbrev jR:Stmt:=top 47
def nU:bR ["_law_found","_law_size","_law_state","_law_row","_law_one"] Rt (aG jR):={}
def a3g:kitOne K (.type "tuple") (.type "tuple")=some true:=by rfl
def a7t:kitOne K (.type "dict") (.type "dict")=some true:=by rfl
inductive Xe(vs:af)(H:Hp)(Q:VK)(u_3:XK):Prop
 |mk (t:Addr) (m:Nat) (J:List (aS×V)) (T:bW) (_:vs=[.ref t,.int m]) (_:H t=some (.dT J)) (_:rA H J T) (_:(∀x∈T,x.1.length=m)) (_:m<=10) (_:T.length<=900) (_:∀H',aL H H'->Q (.bl true) H')
def Jy(B:Bl mg)(Ð:Dn K mg "_law_formed" jR Rt):⋯ 1 Ð.f Ð.fd Rt Xe:=by
 show Ð.F.ok nU λdZ A outer s H vs Q E hr h=>?_;let⟨t,m,J,T,rfl,ht,hT,hm,m10,lT,q⟩:=h;let hw1:(A.deeper (PyProof.Rows.envOfC "_law_formed" (aG jR) s⁻¹ Ð.f dZ)).units+1<cLine:=by let:=hr.un;omega
 show⟨_,(aB (cJ (mR (cY (K:=K) Z (aW (iZ (K:=K) Z) Z B.isinstance () (O (pv 0) (O (tD (v:=.ty "dict") (u:=.type "dict") Z B.dict () Z) aj))) λ_=>rfl))
   (aF (bI wg))
   bx)
   (aB (uV (iV iI Z (rF (mK (K:=K) Z rK Cu Cv rE (pv 0))) (jb (K:=K) (n:=2) Z Z (bN (aM 2 nU.nd) (bN (aM 3 nU.nd) gW)))
   (aB (cJ (PW.pt (Aa (mR (cY (K:=K) Z (aW (iZ (K:=K) Z) Z B.isinstance () (O (pv 2) (O (tD (v:=.ty "tuple") (u:=.type "tuple") Z B.tuple () Z) aj))) λ_=>rfl)) (Aa (aN Km (aW (b8 (K:=K) Z) Z B.len () (O (pv 2) aj)) (pv 1)) (Aa (mR (cY (K:=K) Z (aW (iZ (K:=K) Z) Z B.isinstance () (O (pv 3) (O (tD (v:=.ty "tuple") (u:=.type "tuple") Z B.tuple () Z) aj))) λ_=>rfl)) (zq (aN Km (aW (b8 (K:=K) Z) Z B.len () (O (pv 3) aj)) aq))))))
   (aF (bI wg))
   bx)
   (aF (iV iI Z (Gf (K:=K) Z (bA (Θ (K:=K) Z) (pv 2) (pv 3))) (aM 4 nU.nd)
   (aF (cJ (PW.pt (Aa (mR (cY (K:=K) Z (aW (iZ (K:=K) Z) Z B.isinstance () (O (pv 4) (O (tD (v:=.ty "int") (u:=.type "int") Z B.int () Z) aj))) λ_=>rfl)) (zq (cY (K:=K) Z (aW (iZ (K:=K) Z) Z B.isinstance () (O (pv 4) (O (tD (v:=.ty "bool") (u:=.type "bool") Z B.bool () Z) aj))) λ_=>rfl))))
   (aF (bI wg))
   bx)))))))
   (aF (bI wg)))),?_⟩
 show⟨_,Z,_,_,_,_,_,Z,Z,rZ.dT ht,a7t,_,Z,cQ ⟨_,Z,.inr (.inr (.inl ⟨Z,.inr ⟨_,ht⟩⟩)),t,J,Z,Z,ht,λpv H1 n1=>⟨pv,t,J,Z,n1.here,n1.same _ _ ht,λo as pk=>?_⟩⟩⟩;let h1t:=n1.same _ _ ht;let Qp:Nd H (cX H1 t (.iw o (.dT J))):=(Nd.of n1.same).trans (Nd.iw h1t);let J0:cX H1 t (.iw o (.dT J)) t=some (.iw o (.dT J)):=dw;let RG:∀c,c≠t->cX H1 t (.iw o (.dT J)) c=H1 c:=λc hc=>aQ hc;generalize cX H1 t (.iw o (.dT J))=G0 at pk Qp J0 RG ⊢;let lk:=aU hT;let la:=aU pk;show sE (λi σ G=>(T3 (λo2 o3 o4=>[⇑t,some (.int m),o2,o3,o4]) σ)/\aL G0 G) ⟨⟨_,_,_,Z⟩,aL.refl _⟩ (λi σ G _ h=>h.2 _ _ J0) ?_ ?_
 ·rintro i a0 v0 σ G p G1 ha0 hv0 ⟨⟨o2,o3,o4,rfl⟩,sG⟩ nw;let⟨kv,hkv,hak⟩:=bC pk ha0;let⟨⟨st,row⟩,hsx,ek,p2,Ñ,hrow⟩:=bC hT hkv;let ek:kv.1=qp st:=ek;let hv0':v0=kv.2:=by
   rw[cV,hkv]at hv0;show(dO hv0).symm
  let Ñ:kv.2=.ref p2:=Ñ;rw[Ñ]at hv0';subst hv0';rw[ek]at hak;let s1:=sG.trans nw.same;let hold:G1 a0= ~~~(st.map V.int):=s1 _ _ (oW.Im hak);let uZ:G1 p2= ~~~[.int row.m,.int row.b]:=s1 _ _ (Qp.tups _ _ hrow);let ls:st.length=m:=hm _ (gU hsx);show⟨p,_,Z,cO.of nw.here,Z,_,_,Z,_,_,Z,Z,⟨_,Z,_,_,_,_,_,Z,Z,rZ.tup hold,a3g,_,Z,cQ ⟨_,Z,a0,_,Z,.inr (cO.of hold),_,Z,Z,_,Z,?_⟩⟩⟩;rw[show(!decide (V.int (((st.map V.int).length:Nat):Int)=V.int (m:Int)))=false by grind];show cQ ⟨_,Z,_,_,_,_,_,Z,Z,rZ.tup uZ,a3g,_,Z,cQ ⟨_,Z,p2,_,Z,.inr (cO.of uZ),Z,_,Z,cQ ?_⟩⟩;let lst:([.int row.m,.int row.b]:af)=[row.m,row.b].map V.int:=rfl;rw[lst]at uZ;show⟨_,Z,_,Z,a0,p2,_,_,Z,Z,cO.of hold,cO.of uZ,(λz=>by cases z),(by rw[aJ];show _+2<=1000;omega),λp3 G2 s2 h3=>?_⟩;rw[<-cW]at h3;show⟨p3,Z,⟨_,h3⟩,?_⟩;show Xz (xs:=(st++[row.m,row.b]).map V.int) (λi σ H'=>(T1 (λo4=>[⇑t,some (.int m),⇑a0,⇑p2,o4]) σ)/\H'=G2) ⟨⟨_,Z⟩,Z⟩ (λi σ H' _ ⟨_,e⟩=>by rw[e];show h3) ?_ ?_
  ·rintro i x σ H' hx ⟨⟨o3,rfl⟩,rfl⟩;rw[cV]at hx;let⟨z,_,rfl⟩:=j4.mp hx;show⟨_,Z,_,_,_,_,_,Z,Z,rZ.int _,En,_,Z,cQ ⟨_,Z,_,_,_,_,_,Z,Z,rZ.int _,Ao,_,Z,cQ ⟨⟨_,Z⟩,Z⟩⟩⟩
  ·rintro σ H' ⟨⟨o4,rfl⟩,rfl⟩;show⟨⟨_,_,_,Z⟩,s1.trans s2⟩
 ·rintro σ G ⟨⟨o2,o3,o4,rfl⟩,sG⟩;show⟨t,o,J,J,ht,sG _ _ J0,q _ λc u e=>?_⟩;by_cases z:c=t
  ·rw[z]at e ⊢;rw[dw,<-e,ht]
  ·rw[aQ z];show sG c u ?_;rw[RG c z];show n1.same _ _ e
namespace D1
noncomputable def iW:ae->ae->ae
 |N,[]=>N
 |N,x::r=>iW (if x∈N then N else N++[x]) r
def YQ(c:Int)(ls:ae):dF:=c::ls.map λx=>(((iW [0] ls).idxOf x:Nat):Int)
theorem Jz{x:Int}:∀{ls N:ae},iW N (ls++[x])=if x∈iW N ls then iW N ls else iW N ls++[x]
 | [],_=>rfl
 |_::ls,_=>Jz (ls:=ls)
theorem Ea:∀{ls N:ae},∃Z98,iW N ls=N++Z98
 | [],N=>⟨[],(jB N).symm⟩
 |x::ls,N=>by
  let⟨Z98,e⟩:=Ea (ls:=ls) (N:=if x∈N then N else N++[x])
  show ∃Z98,iW (if x∈N then N else N++[x]) ls=_
  grind
def Ò{ls N:ae}{x:Int}(h:x∈N):(iW N ls).idxOf x=N.idxOf x:=by
 let⟨Z98,e⟩:=Ea (ls:=ls) (N:=N);rw[e,Ng,aD h]
theorem Ly{b:ae}:∀{a N:ae},iW N (a++b)=iW (iW N a) b
 | [],_=>rfl
 |_::a,_=>Ly (a:=a)
theorem Lz{x:Int}:∀{ls N:ae},x∈ls->x∈iW N ls
 |y::ls,N,h=>by
  show x∈iW (if y∈N then N else N++[y]) ls
  let⟨Z98,e⟩:=Ea (ls:=ls) (N:=if y∈N then N else N++[y])
  rcases bT.mp h with rfl|h
  ·grind
  ·show Lz h
theorem Eb:∀(ls N:ae),(iW N ls).length<=N.length+ls.length
 | [],N=>aK _
 |x::ls,N=>by
  show cC (Eb ls _) ?_
  grind
def TX(bD:Bool)(s:dF)(p:Nat):bc:=(if bD then []else [YQ (fU s 0) ((s.drop 1).take p++[0]++s.drop (p+1))])++if fU s 0=0 then [YQ 0 ((s.drop 1).take p++[99]++s.drop (p+1))]else []
def FP(s:dF)(p:Nat):Option (dF×Int) :=
 if 0<fU s (p+1)/\fU s (p+1)∉(s.drop 1).take p++s.drop (p+2)then(if((s.drop 1).take p++s.drop (p+2)).any (λx=>decide (0<x))then none else some (YQ 1 ((s.drop 1).take p++s.drop (p+2)),0))
 else some (YQ (fU s 0) ((s.drop 1).take p++s.drop (p+2)),0)
def putAll(x:dF×fV):bc->bW->bW
 | [],T=>T
 |k::ks,T=>putAll x ks (lG T k x.2)
def xR(bD:Bool)(p:Nat):bW->bW->bW
 | [],T=>T
 |x::S,T=>xR bD p S (putAll x (TX bD x.1 p) T)
theorem LC{bD:Bool}{p:Nat}{x:dF×fV}:∀{S T:bW},xR bD p (S++[x]) T=putAll x (TX bD x.1 p) (xR bD p S T)
 | [],_=>rfl
 |_::S,_=>LC (S:=S)
theorem JB{x:dF×fV}:∀(ks:bc) (T:bW),(putAll x ks T).length<=T.length+ks.length
 | [],T=>aK _
 |k::ks,T=>by
  let:=JB (x:=x) ks (lG T k x.2)
  let:=Io T k x.2
  rw[iM]
  show(putAll x ks _).length<=_
  omega
theorem JC{x:dF×fV}{b:bc}:∀{a:bc}{T:bW},putAll x (a++b) T=putAll x b (putAll x a T)
 | [],_=>rfl
 |_::a,_=>JC (a:=a)
def a2i{bD:Bool}{s:dF}{p:Nat}:(TX bD s p).length<=2:=by
 unfold TX;rw[bK];split<;>split<;>show Nat.le_of_ble_eq_true rfl
theorem Sy{bD:Bool}{p:Nat}:∀(S T:bW),(xR bD p S T).length<=T.length+S.length*2
 | [],T=>by show T.length<=_;omega
 |x::S,T=>by
  let h1:=Sy (bD:=bD) (p:=p) S (putAll x (TX bD x.1 p) T)
  let h2:=JB (x:=x) (TX bD x.1 p) T
  let h3:=a2i (bD:=bD) (s:=x.1) (p:=p)
  rw[iM,Nat.add_mul,Nat.one_mul]
  show(xR bD p S _).length<=_
  omega
def a7u(p:Nat)(k:dF):dF:=YQ (fU k 0) ((k.drop 1).take p++k.drop (p+2))
set_option maxRecDepth 100000 in
def a5l:((List.range 4).all λm=>(Lk.ű m).all λs=>(List.range (m+1)).all λp=>[true,false].all λtl=>decide ((TX tl s p)=((if tl then []else [xP s (p+1) 0])++if fU s 0=0 then [0::Lk.iK (xP s.tail p (s.length:Int))]else []))&&(TX tl s p).all (λk=>decide (a7u p k=s))&&decide (TX tl s p).Nodup)=true:=by decide
set_option maxRecDepth 100000 in
def a2j:((List.range 5).all λm=>(Lk.ű m).all λs=>(List.range m).all λp=>decide ((FP s p).toList=(yx [] λ_=>0).out s p 0))=true:=by decide
noncomputable def rw0(r:fV):fV:=⟨r.m,r.b,[]⟩
def strip(T:bW):bW:=T.map λx=>(x.1,rw0 x.2)
noncomputable def Fp(kd b o:Int):Int:=if decide (o>b)=decide (kd=1)then o else b
def putD(kd:Int)(T:bW)(s:dF)(m b:Int):bW:=match qY T s with
 |none=>lG T s ⟨m+0,b,[]⟩
 |some o=>lG T s ⟨m+o.m,Fp kd b o.b,[]⟩
def Ι{T:bW}{s:dF}{m b:Int}:(putD kd T s m b).length<=T.length+1:=by
 unfold putD;split<;>show Io _ _ _
def LK(T:bW)(s:dF):qY (strip T) s=(qY T s).map rw0:=by
 unfold qY strip
 induction T with
 |nil=>rfl
 |cons x T ih =>
  grind
def Ec(T:bW)(s:dF)(r:fV):strip (lG T s r)=lG (strip T) s (rw0 r):=by
 unfold strip lG;rw[Ho];show List.map _ (if(T.any λx=>decide (x.1=s))=true then _ else _)=if(T.any λx=>decide (x.1=s))=true then _ else _
 by_cases c:(T.any λx=>decide (x.1=s))=true
 ·rw[aD c,aD c,lV,lV];show vA λx _=>?_;grind
 grind
def a7v(kd:Int)(bt:Int->Int->Bool):Prop:=∀a b,(if bt a b=true then a else b)=Fp kd a b
def a7w(h:kd≠1):a7v kd λa b=>decide (a<b):=λa b=>by
 unfold Fp;grind
def Κ{bt:Int->Int->Bool}(hb:a7v kd bt){T:bW}{s:dF}{m b:Int}{src:bc}:strip (jN bt T s ⟨m,b,src⟩)=putD kd (strip T) s m b:=by
 unfold jN putD;rw[LK];cases e:qY T s with
 |none=>rw[Ec];show lG _ _ ⟨m,b,[]⟩=lG _ _ ⟨m+0,b,[]⟩;grind
 |some o =>
  rw[Ec];show lG _ _ ⟨o.m+m,(wj bt ⟨m,b,src⟩ o).b,[]⟩=lG _ _ ⟨m+o.m,Fp kd b o.b,[]⟩;let:(wj bt ⟨m,b,src⟩ o).b=Fp kd b o.b:=by
   rw[<-hb];unfold wj;split<;>rfl
  grind
def SJ{T:bW}{s u:dF}{r:fV}(h:qY T u=none)(ne:u≠s):qY (lG T s r) u=none:=by
 rw[<-h];unfold qY lG;by_cases c:(T.any λx=>decide (x.1=s))=true
 ·rw[aD c];clear c h
  induction T with
  |nil=>rfl
  |cons x T ih =>
   grind
 grind
def Λ{bt:Int->Int->Bool}{T:bW}{s:dF}{r:fV}(h:qY T s=none):jN bt T s r=lG T s r:=by
 unfold jN;rw[h]
def wH(p:Nat):bW->bW->bW
 | [],T=>T
 |x::S,T=>wH p S (match FP x.1 p with|none=>T|some y=>putD 0 T y.1 x.2.m (x.2.b+y.2))
theorem Ed{p:Nat}{x:dF×fV}:∀{S T:bW},wH p (S++[x]) T=match FP x.1 p with|none=>wH p S T|some y=>putD 0 (wH p S T) y.1 x.2.m (x.2.b+y.2)
 | [],_=>rfl
 |_::S,_=>Ed (S:=S)
theorem SM{p:Nat}:∀(S T:bW),(wH p S T).length<=T.length+S.length
 | [],T=>aK _
 |x::S,T=>by
  show cC (SM S _) ?_
  rw[iM]
  cases FP x.1 p with
  |none=>grind
  |some y =>
   let:=Ι (kd:=0) (T:=T) (s:=y.1) (m:=x.2.m) (b:=x.2.b+y.2)
   grind
def a5m{bD:ae}{cost:Int×Int->Int}{m:Nat}{s:dF}{p v:Nat}(m4:m<=4)(h:Lk.qw m s=true)(hp:p<m):(yx bD cost).out s p v=(FP s p).toList:=by
 let:=Lk.DW a2j (show m<5 by omega) h;rw[gH]at this;show(dB (this p (gA.mpr hp))).symm
def a7x{bD:ae}{cost:Int×Int->Int}{m:Nat}{s:dF}{p v:Nat}(m3:m<=3)(h:Lk.qw m s=true)(hp:p<=m):(yx bD cost).inn s p v=(TX (decide ((v:Int)∈bD)) s p).map (λk=>(k,0))/\(∀k∈TX (decide ((v:Int)∈bD)) s p,a7u p k=s)/\(TX (decide ((v:Int)∈bD)) s p).Nodup:=by
 let:=Lk.DW a5l (show m<4 by omega) h;rw[gH]at this;let:=this p (gA.mpr ());rw[gH]at this;let:=this (decide ((v:Int)∈bD)) ();rw[fX,fX,gH]at this;let⟨⟨e,r⟩,nd⟩:=this;let e:=dB e;let nd:=dB nd;show⟨?_,λk hk=>dB (r k hk),nd⟩;rw[e,cW];show _++_=_;grind
theorem LQ{bt:Int->Int->Bool}{x:dF×fV}:∀{ks:bc}{T:bW},ks.Nodup->(∀k∈ks,qY T k=none)->strip (jz bt x.1 x.2 (ks.map λk=>(k,0)) T)=putAll (x.1,rw0 x.2) ks (strip T)/\∀u,qY T u=none->u∉ks->qY (jz bt x.1 x.2 (ks.map λk=>(k,0)) T) u=none
 | [],T,_,_=>⟨Z,λ_ h _=>h⟩
 |k::ks,T,nd,h=>by
  rw[iQ]at nd
  let e:jN bt T k ⟨x.2.m,x.2.b+0,[x.1]⟩=lG T k ⟨x.2.m,x.2.b,[x.1]⟩:=by
   rw[Λ (h k aZ),Int.add_zero]
  let⟨i1,i2⟩:=LQ (bt:=bt) (x:=x) (ks:=ks) (T:=lG T k ⟨x.2.m,x.2.b,[x.1]⟩) nd.2 λm' hm=>SJ (h m' (bH _ hm)) λz=>nd.1 (z▸hm)
  rw[cA]
  show strip (jz bt x.1 x.2 _ (jN bt T k ⟨x.2.m,x.2.b+0,[x.1]⟩))=_/\∀u,_->_->qY (jz bt x.1 x.2 _ (jN bt T k ⟨x.2.m,x.2.b+0,[x.1]⟩)) u=none
  rw[e]
  show⟨i1.trans ?_,λu hu ne=>i2 u (SJ hu λz=>ne ()) λhm=>ne (bH _ hm)⟩
  rw[Ec]
  rfl
theorem SN{bD:ae}{cost:Int×Int->Int}{v:Int}{B:ae}{m:Nat}(v0:0<=v)(m3:m<=3)(hp:B.idxOf v<=m) :
  ∀{S T:bW},(S.map (·.1)).Nodup->(∀x∈S,Lk.qw m x.1=true)->(∀x∈S,∀k∈TX (decide (v∈bD)) x.1 (B.idxOf v),qY T k=none)->strip (jW (yx bD cost) (.inn v) B S T)=xR (decide (v∈bD)) (B.idxOf v) (strip S) (strip T)
 | [],T,_,_,_=>rfl
 |x::S,T,nd,hl,hn=>by
  rw[cA,iQ]at nd
  let ev:((v.toNat:Nat):Int)=v:=()
  let I:=λy (hy:y∈x::S)=>a7x (bD:=bD) (cost:=cost) (v:=v.toNat) m3 (hl y hy) hp
  rw[ev]at I
  show strip (jW (yx bD cost) (.inn v) B S (jz (yx bD cost).bt x.1 x.2 ((yx bD cost).inn x.1 (B.idxOf v) v.toNat) T))=xR _ (B.idxOf v) (strip S) (putAll (x.1,rw0 x.2) (TX _ x.1 (B.idxOf v)) (strip T))
  let⟨e1,e2,e3⟩:=I x aZ
  rw[e1]
  let⟨i1,i2⟩:=LQ (bt:=(yx bD cost).bt) (x:=x) e3 (hn x aZ)
  rw[<-i1]
  show SN v0 m3 hp nd.2 (λy hy=>hl y (bH _ hy)) λy hy k hk=>i2 _ (hn y (bH _ hy) k hk) λz=>nd.1 (fD.mpr ⟨y,hy,?_⟩)
  rw[<-(I y (bH _ hy)).2.1 k hk,e2 k z]
theorem Ef{bD:ae}{cost:Int×Int->Int}{v:Int}{B:ae}{m:Nat}(m4:m<=4)(hp:B.idxOf v<m) :
  ∀{S T:bW},(∀x∈S,Lk.qw m x.1=true)->strip (jW (yx bD cost) (.out v) B S T)=wH (B.idxOf v) (strip S) (strip T)
 | [],T,_=>rfl
 |x::S,T,ht=>by
  show strip (jW (yx bD cost) (.out v) B S (jz (yx bD cost).bt x.1 x.2 ((yx bD cost).out x.1 (B.idxOf v) v.toNat) T))=wH _ (strip S) (match FP x.1 (B.idxOf v)with|none=>strip T|some y=>putD 0 (strip T) y.1 x.2.m (x.2.b+y.2))
  rw[a5m m4 (ht x aZ) hp]
  let ht':=λy hy=>ht y (bH _ hy)
  cases e:FP x.1 (B.idxOf v)with
  |none=>show Ef m4 hp ht'
  |some y =>
   show strip (jW (yx bD cost) (.out v) B S (jN (yx bD cost).bt T y.1 ⟨x.2.m,x.2.b+y.2,[x.1]⟩))=wH _ (strip S) (putD 0 (strip T) y.1 x.2.m (x.2.b+y.2))
   rw[<-Κ (kd:=0) (a7w ())]
   show Ef m4 hp ht'
end D1
abbrev jd:Stmt:=top 48
def pZ:bR ["_law_closed","_law_labels","_law_names","_law_state","_law_label"] Il (aG jd):={}
inductive a2k(vs:af)(H:Hp)(Q:VK)(u_3:XK):Prop
 |mk (c:Int) (a:Addr) (ls:ae) (_:vs=[.int c,.ref a]) (_:H a=↥(ls.map V.int)) (_:ls.length<=60) (_:∀p H',aL H H'->oW H' p (D1.YQ c ls)->Q (.ref p) H')
def yJ(B:Bl mg)(Eg:Dn K mg "_law_named" jd Il):⋯ 1 Eg.f Eg.fd Il a2k:=by
 show Eg.F.ok pZ λdZ A outer s H vs Q E hr h=>?_;let⟨c,a,ls,rfl,ha,l6,q⟩:=h;let hv:(A.deeper (PyProof.Rows.envOfC "_law_named" (aG jd) s⁻¹ Eg.f dZ)).units+65<cLine:=by let:=hr.un;omega
 show⟨_,(aB (aV 2 pZ.nd (cH (O aq aj)))
   (aB (aV 3 pZ.nd (cH (O (pv 0) aj)))
   (aB (iV iI Z (dU (K:=K) Z (pv 1)) (aM 4 pZ.nd)
   (g8 (cJ (aN (gO (K:=K) Z hv) (pv 4) (pv 2) (by with_unfolding_all rfl))
   (aF (eY (gZ (K:=K) Z gR PySem.F.slot_list_append PySem.F.type_list_append fL (pv 2) (O (pv 4) aj))))
   bx)
   (aF (eY (gZ (K:=K) Z gR PySem.F.slot_list_append PySem.F.type_list_append fL (pv 3) (O (gZ (K:=K) Z PySem.F.plainAttrs_list PySem.F.slot_list_index PySem.F.type_list_index uX (pv 2) (O (pv 4) aj)) aj))))))
   (aF (bI (fZ ur Z B.tuple () (O (pv 3) aj))))))),?_⟩
 show⟨(),λpn H1 n1=>⟨_,Z,(),λps H2 n2=>?_⟩⟩;let sX:=n1.same.trans n2.same;let ha2:=sX _ _ ha;let fpn:H pn=none:=n1.fresh;let fps:H ps=none:=n1.same.free n2.fresh;let ne:ps≠pn:=λz=>by let:=n2.fresh;rw[z,n1.here]at this;cases this
 let nan:a≠pn:=λz=>by grind
 let nas:a≠ps:=λz=>by grind
 let up:∀{G:Hp},(∀b u,b≠pn->b≠ps->H2 b=some u->G b=some u)->aL H G:=λ{G} s b u e=>s b u (λz=>by grind) (λz=>by grind) (sX _ _ e);show⟨_,Z,a,Z,⟨_,bB.of ha2⟩,Z0 (P:=λi σ G=>P4 (T1 (λo4=>[some (.int c),⇑a,⇑pn,⇑ps,o4]) σ) (∀b u,b≠pn->b≠ps->H2 b=some u->G b=some u) (λ_:Unit=>G pn=↥((D1.iW [0] (ls.take i)).map V.int)) λ_=>G ps=↥(((D1.YQ c ls).take (i+1)).map V.int)) λZ97 ji ij=>uO (K:=K) (a:=a) (xs:=ls.map V.int) Z97 (ji _ _ _ ⟨⟨_,Z⟩,λ_ _ _ _ e=>e,⟨⟩,n2.same _ _ n1.here,n2.here⟩) (λi σ G _ h=>bB.of ((ij _ _ _ h).s _ _ nan nas ha2)) ?_ ?_⟩
 ·intro i x σ G hx h1;let⟨⟨o4,rfl⟩,sG,_,hN,hS⟩:=ij _ _ _ h1;rw[cV]at hx;let⟨z,hz,rfl⟩:=j4.mp hx;let il:i<ls.length:=(dY.mp hz).1;let et:ls.take (i+1)=ls.take i++[z]:=by rw[iR,hz];rfl
  let ln:=D1.Eb (ls.take i) [0];rw[dN]at ln;let l1:([0]:ae).length=1:=rfl;show Bt (P:=λσ' G'=>σ'=[some (.int c),⇑a,⇑pn,⇑ps,some (.int z)]/\(∀b u,b≠pn->b≠ps->H2 b=some u->G' b=some u)/\G' pn=↥((D1.iW [0] (ls.take (i+1))).map V.int)/\G' ps=↥(((D1.YQ c ls).take (i+1)).map V.int)) λJ1 jm mj=>⟨J1,?_,?_⟩
  ·rw[et,D1.Jz]at jm;show⟨_,Z,_,Z,oU (bB.of hN) ⟨_,Z,?_⟩⟩;by_cases c0:z∈D1.iW [0] (ls.take i)
   ·rw[bh c0];rw[aD c0]at jm;show cQ (jm _ _ ⟨Z,sG,hN,hS⟩)
   ·rw[cG c0];rw[aA c0]at jm;show iC ⟨_,Z,.inl ⟨Z,_,bB.of hN⟩,_,Z,pn,_,_,Z,Z,hN,(),λG1 cg=>jm _ _ ⟨Z,λb u h1 h2 e=>(cg.rest b h1).trans (sG b u h1 h2 e),by rw[cg.here,cW];rfl,(cg.rest ps ne).trans hS⟩⟩
  intro σ1 G1 h2;let⟨rfl,WQ,hN1,hS1⟩:=mj _ _ h2;clear jm mj h2;let zm:z∈D1.iW [0] (ls.take (i+1)):=D1.Lz ();let iv:=vV zm;let ln2:=D1.Eb (ls.take (i+1)) [0];rw[dN]at ln2;let ei:(D1.iW [0] (ls.take (i+1))).idxOf z=(D1.iW [0] ls).idxOf z:=by
   conv=>rhs;rw[<-tY (i+1) ls]
   rw[D1.Ly,D1.Ò zm]
  let en:(D1.YQ c ls).take (i+1+1)=(D1.YQ c ls).take (i+1)++[(((D1.iW [0] ls).idxOf z:Nat):Int)]:=by
   rw[iR];congr 1;show(ls.map _)[i]?.toList=_;rw[cV,hz];rfl
  show⟨_,Z,.inl ⟨Z,_,bB.of hS1⟩,_,Z,.inl ⟨Z,_,bB.of hN1⟩,_,Z,pn,_,z,_,Z,Z,hN1,iv.1,iv.2,(),ps,_,_,Z,Z,hS1,(by rw[aJ,dN];omega),λG2 cg=>ji _ _ _ ⟨⟨_,Z⟩,λb u h1 h2 e=>(cg.rest b h2).trans (WQ b u h1 h2 e),⟨⟩,(cg.rest pn ne.symm).trans hN1,?_⟩⟩;rw[cg.here,en,cW,<-ei];rfl
 ·intro σ G h1;let⟨⟨o4,rfl⟩,sG,_,hN,hS⟩:=ij _ _ _ h1;rw[aJ,yP (by show(ls.map _).length+1<=_;grind)]at hS;show⟨_,Z,ps,_,Z,.inl ⟨bB.of hS,λl hl=>?_⟩⟩;let n9:=iH.nC (H:=G) (p:=l) (o:=.tup ((D1.YQ c ls).map V.int)) hl;show q l _ ((up sG).trans n9.same) n9.here
abbrev rJ:Stmt:=top 49
def pC:bR ["_law_table","_law_at_here","_law_is_told","_law_due","_law_state","_law_row","_law_left","_law_right"] Ru (aG rJ):={}
inductive a5n(vs:af)(H:Hp)(Q:VK)(u_3:XK):Prop
 |mk (t:Addr) (p m:Nat) (bD:Bool) (J:List (aS×V)) (T:bW) (_:vs=[.ref t,.int p,.bl bD]) (_:H t=some (.dT J)) (_:rA H J T) (_:(∀x∈T,x.1.length=m+1)) (_:p<=m) (_:m<=10) (_:T.length<=400) (_:∀d kd2 H',aL H H'->H' d=some (.dT kd2)->rA H' kd2 (D1.xR bD p T [])->Q (.ref d) H')
def Xf(B:Bl mg)(Eg:Dn K mg "_law_named" jd Il)(Ó:Dn K mg "_law_in" rJ Ru):⋯ 2 Ó.f Ó.fd Ru a5n:=by
 let gZ5:⋯ 1 _ _ _ _:=yJ B Eg;show Ó.F.ok pC λdZ A outer s H vs Q E hr h=>?_;let⟨t,p,m,bD,J,T,rfl,ht,hT,hm,hp,m10,lT,q⟩:=h;let hw1:(A.deeper (PyProof.Rows.envOfC "_law_in" (aG rJ) s⁻¹ Ó.f dZ)).units+1<cLine:=by let:=hr.un;omega
 show⟨_,(aB (aV 3 pC.nd Bf)
   (aB (uV (iV iI Z (rF (mK (K:=K) Z rK Cu Cv rE (pv 0))) (jb (K:=K) (n:=2) Z Z (bN (aM 4 pC.nd) (bN (aM 5 pC.nd) gW)))
   (aB (aV 6 pC.nd (fZ (jH (K:=K) Z) Z B.list () (O (dD jL (pv 4) (d7 aq) (d7 (bA dH (pv 1) aq))) aj)))
   (aB (aV 7 pC.nd (fZ (jH (K:=K) Z) Z B.list () (O (dD jL (pv 4) (d7 (bA dH (pv 1) aq)) fK) aj)))
   (g8 (cJ (mR (cY (K:=K) Z (pv 2) λ_=>rfl))
   (aF (uq (pv 5) (Hv (pv 3) (aY gZ5 hr Z Eg.m Eg.F.kp Eg.b .nil bZ (O (aP (aO (K:=K) Z) (pv 4) aq) (O (bA jy (bA jy (pv 6) (cH (O aq aj))) (pv 7)) aj))) (uU hw1))))
   bx)
   (aF (cJ (aN mZ (aP (aO (K:=K) Z) (pv 4) aq) aq)
   (aF (uq (pv 5) (Hv (pv 3) (aY gZ5 hr Z Eg.m Eg.F.kp Eg.b .nil bZ (O aq (O (bA jy (bA jy (pv 6) (cH (O aq aj))) (pv 7)) aj))) (uU hw1))))
   bx)))))))
   (aF (bI (pv 3))))),?_⟩
 intro d hd;let n0:=iH.nC (H:=H) (p:=d) (o:=.dT []) hd;generalize cX H d (.dT [])=H0 at n0 ⊢;let ht0:=n0.same _ _ ht;show⟨_,Z,.inr (.inr (.inl ⟨Z,.inr ⟨_,ht0⟩⟩)),t,J,Z,Z,ht0,λpv H1 n1=>⟨pv,t,J,Z,n1.here,n1.same _ _ ht0,λo as pk=>?_⟩⟩;let h1t:=n1.same _ _ ht0;let hd1:H1 d=some (.dT []):=n1.same _ _ n0.here;let td:t≠d:=λz=>by rw[z,hd]at ht;cases ht
 let Qp:Nd H (cX H1 t (.iw o (.dT J))):=(Nd.of (n0.same.trans n1.same)).trans (Nd.iw h1t);let J0:cX H1 t (.iw o (.dT J)) t=some (.iw o (.dT J)):=dw;let g0d:cX H1 t (.iw o (.dT J)) d=some (.dT []):=by rw[aQ (Ne.symm td)];show hd1
 let RG:∀c,c≠t->cX H1 t (.iw o (.dT J)) c=H1 c:=λc hc=>aQ hc;generalize cX H1 t (.iw o (.dT J))=G0 at pk Qp J0 g0d RG ⊢;let lk:=aU hT;let la:=aU pk;show Z0 (P:=λi σ G=>P4 (T4 (λo4 o5 o6 o7=>[⇑t,some (.int p),some (.bl bD),⇑d,o4,o5,o6,o7]) σ) (Sd d G0 G) (λkt=>G d=some (.dT kt)) λkt=>rA G kt (D1.xR bD p (T.take i) [])) λZ97 ji ij=>sE Z97 (ji _ _ _ ⟨⟨_,_,_,_,Z⟩,.refl,[],g0d,.nil⟩) (λi σ G _ h=>(ij _ _ _ h).s _ _ td J0) ?_ ?_
 ·intro i a0 v0 σ G pq G1 ha0 hv0 h1 nw;let⟨⟨o4,o5,o6,o7,rfl⟩,sG,kt,hkt,J5⟩:=ij _ _ _ h1;let⟨kv,hkv,hak⟩:=bC pk ha0;let⟨⟨st,row⟩,hsx,ek,p2,Ñ,hrow⟩:=bC hT hkv;let ek:kv.1=qp st:=ek;let hv0':v0=kv.2:=by
   rw[cV,hkv]at hv0;show(dO hv0).symm
  let Ñ:kv.2=.ref p2:=Ñ;rw[Ñ]at hv0';subst hv0';rw[ek]at hak;let WK:aL G G1:=nw.same;let Z1:Nd G0 G1:=(Nd.sd sG g0d).trans (.of WK);let hold:oW G1 a0 st:=oW.Im (Z1.tups _ _ hak);let uZ:G1 p2= ~~~[.int row.m,.int row.b]:=Z1.tups _ _ (Qp.tups _ _ hrow);let ls:st.length=m+1:=hm _ (gU hsx);let hTi:T.take (i+1)=T.take i++[(st,row)]:=by rw[iR,hsx];rfl
  let Μ:=WK _ _ hkt;show⟨pq,_,Z,cO.of nw.here,Z,_,_,Z,_,_,Z,Z,⟨_,Z,_,Z,_,Z,_,_,Z,Z,_,Z,a0,_,Z,hold,λb1 K1 s1 h1=>?_⟩⟩;try dsimp only at h1
  rw[show((p:Int)+1)=((1+p:Nat):Int) by omega,show(1:Int)=((1:Nat):Int)from Z,Yj]at h1;show⟨b1,_,Z,.inr (cO.of h1),λpl K2 n2=>?_⟩;let sX:=s1.trans n2.same;show⟨_,Z,_,Z,_,_,Z,Z,_,Z,a0,_,Z,sX _ _ hold,λb3 K3 s3 h3=>?_⟩;try dsimp only at h3
  rw[show((p:Int)+1)=((p+1:Nat):Int) by omega,pQ st (p+1) ()]at h3;show⟨b3,_,Z,.inr (cO.of h3),λpr K4 n4=>?_⟩;let Fx:=sX.trans (s3.trans n4.same);let hpl:K4 pl=↥(((st.drop 1).take p).map V.int):=(s3.trans n4.same) _ _ n2.here;let hpr:=n4.here;let Xg:=Fx _ _ Μ;let Ld:K4 a0=_:=Fx _ _ hold;let Ν:=Fx _ _ uZ;let sG4:Sd d G0 K4:=sG.trans (.of (WK.trans Fx));let hT4:rA K4 kt (D1.xR bD p (T.take i) []):=Paired.cD J5 λ_ _ z=>⟨z.1,z.2.keep (.of (WK.trans Fx))⟩;let lt9:(D1.xR bD p (T.take i) []).length<=800:=cC (D1.Sy _ _) (by rw[dN];show 0+_<=_;omega);let nl:pl≠d:=λz=>by rw[z,Xg]at hpl;cases hpl
  let nr:pr≠d:=λz=>by rw[z,Xg]at hpr;cases hpr
  let n2d:p2≠d:=λz=>by rw[z,Xg]at Ν;cases Ν
  let n0d:a0≠d:=λz=>by rw[z,Xg]at Ld;cases Ld
  let ll:((st.drop 1).take p).length<=10:=by rw[dN];omega
  let lr:(st.drop (p+1)).length<=11:=by rw[gw];omega
  let fin:∀(G5:Hp) (kt5:List (aS×V)),Sd d G0 G5->G5 d=some (.dT kt5)->rA G5 kt5 (D1.putAll (st,row) (D1.TX bD st p) (D1.xR bD p (T.take i) []))->Z97 (i+1) [⇑t,some (.int p),some (.bl bD),⇑d,⇑a0,⇑p2,⇑pl,⇑pr] G5:=λG5 kt5 s h1 h2=>ji _ _ _ ⟨⟨_,_,_,_,Z⟩,s,kt5,h1,by rw[hTi,D1.LC];show h2⟩;clear ji ij;generalize D1.xR bD p (T.take i) []=T0 at hT4 lt9 fin;clear sG hkt J5 hold uZ Μ h1 h3 s1 s3 n2 n4;dsimp only[yD];let put:∀{G:Hp}{k:dF}{T1:bW}{kt1:List (aS×V)}{G5:Hp},Sd d K4 G->G d=some (.dT kt1)->rA G kt1 T1->tH G d (.dT (putK kt1 (qp k) (.ref p2))) G5->Sd d K4 G5/\G5 d=some (.dT (putK kt1 (qp k) (.ref p2)))/\rA G5 (putK kt1 (qp k) (.ref p2)) (lG T1 k row):=λ{G k T1 kt1 G5} s h1 h2 c5=>by
   let ts:lH G G5:=λc' ys hc=>by
    rw[c5.rest c' (λz=>by rw[z,h1]at hc;cases hc)];show hc
   show⟨s.trans (.Rx c5),c5.here,Pg (Paired.cD h2 λ_ _ z=>⟨z.1,z.2.keep ts⟩) ⟨p2,Z,(s.trans (.Rx c5)) _ _ n2d Ν⟩⟩
  show Bt (P:=λσ' G=>∃Lb T1,σ'=[⇑t,some (.int p),some (.bl bD),⇑d,⇑a0,⇑p2,⇑pl,⇑pr]/\Sd d K4 G/\G d=some (.dT Lb)/\rA G Lb T1/\T1.length<=801/\T1=D1.putAll (st,row) (if bD then []else [D1.YQ (fU st 0) ((st.drop 1).take p++[0]++st.drop (p+1))]) T0) λJ1 jm mj=>⟨J1,?_,?_⟩
  ·show⟨_,Z,bD,Z,?_⟩;cases bD with
   |true=>show cQ (jm _ _ ⟨kt,T0,Z,.refl,Xg,hT4,(),Z⟩)
   |false =>
    show iC ⟨_,Z,_,Z,_,Z,a0,_,_,.int (fU st 0),Z,Z,cO.of Ld,ç (i:=0) (),_,Z,(),λpz H5 n5=>⟨pl,pz,_,_,Z,Z,n5.same _ _ hpl,n5.here,(by rw[aJ];show _+1<=1000;omega),λpc H6 n6=>⟨_,Z,pc,pr,_,_,Z,Z,n6.here,(n5.same.trans n6.same) _ _ hpr,(by rw[bK,aJ,aJ];show _+1+_<=1000;omega),λpf H7 n7=>⟨_,pf,(st.drop 1).take p++[0]++st.drop (p+1),Z,(by rw[n7.here,cW,cW];rfl),(by rw[bK,bK];show _+1+_<=60;omega),λpk H8 s8 h8=>?_⟩⟩⟩⟩;let Ô:=n5.same.trans (n6.same.trans (n7.same.trans s8));show⟨d,pk,qp _,kt,Z,Z,h8.key,Ô _ _ Xg,(by let:=aU hT4;omega),λG5 c5=>?_⟩;let⟨z1,z2,z3⟩:=put (.of Ô) (Ô _ _ Xg) (Paired.cD hT4 λ_ _ z=>⟨z.1,z.2.keep (.of Ô)⟩) c5;show jm _ _ ⟨_,_,Z,z1,z2,z3,(by let:=Io T0 (D1.YQ (fU st 0) ((st.drop 1).take p++[0]++st.drop (p+1))) row;omega),Z⟩
  intro σ' G h2;let⟨Lb,T1,rfl,sK,hdk,Ž,l8,eT⟩:=mj _ _ h2;clear jm mj h2;let eI:D1.putAll (st,row) (D1.TX bD st p) T0=D1.putAll (st,row) (if fU st 0=0 then [D1.YQ 0 ((st.drop 1).take p++[99]++st.drop (p+1))]else []) T1:=by
   rw[eT];show D1.JC
  let a8N:=sK _ _ nl hpl;let a8O:=sK _ _ nr hpr;show⟨_,Z,a0,_,_,.int (fU st 0),Z,Z,cO.of (sK _ _ n0d Ld),ç (i:=0) (),Z,_,Z,?_⟩;rw[show decide (V.int (fU st 0)=V.int 0)=decide (fU st 0=0)from CT.mpr ⟨V.int.inj,congrArg _⟩];show qH (λe=>?_) (λe=>?_)
  ·rw[aD (dB e)]at eI;show⟨_,Z,_,Z,_,Z,(),λpz H5 n5=>⟨pl,pz,_,_,Z,Z,n5.same _ _ a8N,n5.here,(by rw[aJ];show _+1<=1000;omega),λpc H6 n6=>⟨_,Z,pc,pr,_,_,Z,Z,n6.here,(n5.same.trans n6.same) _ _ a8O,(by rw[bK,aJ,aJ];show _+1+_<=1000;omega),λpf H7 n7=>⟨_,pf,(st.drop 1).take p++[99]++st.drop (p+1),Z,(by rw[n7.here,cW,cW];rfl),(by rw[bK,bK];show _+1+_<=60;omega),λpk H8 s8 h8=>?_⟩⟩⟩⟩;let Ô:=n5.same.trans (n6.same.trans (n7.same.trans s8));show⟨d,pk,qp _,Lb,Z,Z,h8.key,Ô _ _ hdk,(by let:=aU Ž;omega),λG5 c5=>?_⟩;let⟨z1,z2,z3⟩:=put (sK.trans (.of Ô)) (Ô _ _ hdk) (Paired.cD Ž λ_ _ z=>⟨z.1,z.2.keep (.of Ô)⟩) c5;show fin _ _ (sG4.trans z1) z2 (by rw[eI];show z3)
  ·rw[aA λh=>e (bh h)]at eI;show fin _ _ (sG4.trans sK) hdk (by rw[eI];show Ž)
 ·intro σ G h;let⟨⟨o4,o5,o6,o7,rfl⟩,sG,kt,hkt,J5⟩:=ij _ _ _ h;show⟨t,o,J,J,ht0,sG _ _ td J0,?_⟩;rw[la.trans lk,gJ]at J5;let tu:lH G (cX G t (.dT J)):=λc ys hc=>by
   rw[aQ (λz=>by rw[z,sG _ _ td J0]at hc;cases hc)];show hc
  show⟨_,Z,q d kt _ (λc u e=>?_) (by rw[aQ (Ne.symm td)];show hkt) (Paired.cD J5 λ_ _ z=>⟨z.1,z.2.keep tu⟩)⟩;by_cases z:c=t
  ·rw[z]at e ⊢;rw[dw,<-e,ht]
  ·rw[aQ z];show sG c u (λw=>by rw[w,hd]at e;cases e) ?_;rw[RG c z];show(n0.same.trans n1.same) _ _ e
abbrev mY:Stmt:=top 50
def iB:bR ["_law_table","_law_at_here","_law_due","_law_state","_law_row","_law_rest","_law_label","_law_new","_law_best"] Rv (aG mY):={}
inductive a2l(vs:af)(H:Hp)(Q:VK)(u_3:XK):Prop
 |mk (t:Addr) (p m:Nat) (J:List (aS×V)) (T:bW) (_:vs=[.ref t,.int p]) (_:H t=some (.dT J)) (_:rA H J T) (_:(∀x∈T,x.1.length=m+1)) (_:p<m) (_:m<=10) (_:T.length<=900) (_:∀d kd2 H',aL H H'->H' d=some (.dT kd2)->rA H' kd2 (D1.wH p T [])->Q (.ref d) H')
def SQ(B:Bl mg)(Eg:Dn K mg "_law_named" jd Il)(YS:Dn K mg "_law_out" mY Rv):⋯ 2 YS.f YS.fd Rv a2l:=by
 let gZ5:⋯ 1 _ _ _ _:=yJ B Eg;show YS.F.ok iB λdZ A outer s H vs Q E hr h=>?_;let⟨t,p,m,J,T,rfl,ht,hT,hm,hp,m10,lT,q⟩:=h;let hw1:(A.deeper (PyProof.Rows.envOfC "_law_out" (aG mY) s⁻¹ YS.f dZ)).units+1<cLine:=by let:=hr.un;omega
 let hv:(A.deeper (PyProof.Rows.envOfC "_law_out" (aG mY) s⁻¹ YS.f dZ)).units+65<cLine:=by let:=hr.un;omega
 show⟨_,(aB (aV 2 iB.nd Bf)
   (aB (uV (iV iI Z (rF (mK (K:=K) Z rK Cu Cv rE (pv 0))) (jb (K:=K) (n:=2) Z Z (bN (aM 3 iB.nd) (bN (aM 4 iB.nd) gW)))
   (aB (aV 5 iB.nd (bA jy (fZ (jH (K:=K) Z) Z B.list () (O (dD jL (pv 3) (d7 aq) (d7 (bA dH (pv 1) aq))) aj)) (fZ (jH (K:=K) Z) Z B.list () (O (dD jL (pv 3) (d7 (bA dH (pv 1) aq)) fK) aj))))
   (aB (aV 6 iB.nd (aP (aO (K:=K) Z) (pv 3) (bA dH (pv 1) aq)))
   (aB (aV 7 iB.nd (aY gZ5 hr Z Eg.m Eg.F.kp Eg.b .nil bZ (O (aP (aO (K:=K) Z) (pv 3) aq) (O (pv 5) aj))))
   (g8 (cJ (PW.pt (lX (aN tE (pv 6) aq) (mJ (aN (gO (K:=K) Z hv) (pv 6) (pv 5) (by with_unfolding_all rfl)))))
   (aB (cJ (aN tE (aW (b8 (K:=K) Z) Z B.len () (O (jF ["_law_one"] [none]  (by kernel_rfl) Z (dU (K:=K) Z (pv 5)) (λ_ _ _ _ _=>(aM 0 (show(["_law_one"]:ag).Nodup by decide))) (λ_ _ _ _ _=>(tG (aN tE (pv 0) aq))) λ_ _ _ _ _=>(pv 0)) aj)) aq)
   (aF Qx)
   bx)
   (aF (aV 7 iB.nd (aY gZ5 hr Z Eg.m Eg.F.kp Eg.b .nil bZ (O aq (O (pv 5) aj))))))
   bx)
   (aB (aV 8 iB.nd (aP (aO (K:=K) Z) (pv 4) aq))
   (g8 (cJ (PW.pt (lX (aN (Ň hw1) (pv 7) (pv 2) (by with_unfolding_all rfl)) (mJ (aN Ac (aP (aO (K:=K) Z) (Bd hw1 (pv 2) (pv 7) λ_ _=>rfl) aq) (pv 8)))))
   (aF (aV 8 iB.nd (aP (aO (K:=K) Z) (Bd hw1 (pv 2) (pv 7) λ_ _=>rfl) aq)))
   bx)
   (aF (uq (bL (O (bA dH (aP (aO (K:=K) Z) (pv 4) aq) (aP (aO (K:=K) Z) (gZ (K:=K) Z rK CG Uo (a1k hw1) (pv 2) (O (pv 7) (O (bL (O aq (O aq aj))) aj))) aq)) (O (pv 8) aj))) (Hv (pv 2) (pv 7) (uU hw1))))))))))))
   (aF (bI (pv 2))))),?_⟩
 intro d hd;let n0:=iH.nC (H:=H) (p:=d) (o:=.dT []) hd;generalize cX H d (.dT [])=H0 at n0 ⊢;let ht0:=n0.same _ _ ht;show⟨_,Z,.inr (.inr (.inl ⟨Z,.inr ⟨_,ht0⟩⟩)),t,J,Z,Z,ht0,λpv H1 n1=>⟨pv,t,J,Z,n1.here,n1.same _ _ ht0,λo as pk=>?_⟩⟩;let h1t:=n1.same _ _ ht0;let hd1:H1 d=some (.dT []):=n1.same _ _ n0.here;let td:t≠d:=λz=>by rw[z,hd]at ht;cases ht
 let Qp:Nd H (cX H1 t (.iw o (.dT J))):=(Nd.of (n0.same.trans n1.same)).trans (Nd.iw h1t);let J0:cX H1 t (.iw o (.dT J)) t=some (.iw o (.dT J)):=dw;let g0d:cX H1 t (.iw o (.dT J)) d=some (.dT []):=by rw[aQ (Ne.symm td)];show hd1
 let RG:∀c,c≠t->cX H1 t (.iw o (.dT J)) c=H1 c:=λc hc=>aQ hc;generalize cX H1 t (.iw o (.dT J))=G0 at pk Qp J0 g0d RG ⊢;let lk:=aU hT;let la:=aU pk;show Z0 (P:=λi σ G=>P4 (T6 (λo3 o4 o5 o6 o7 o8=>[⇑t,some (.int p),⇑d,o3,o4,o5,o6,o7,o8]) σ) (Sd d G0 G) (λkt=>G d=some (.dT kt)) λkt=>rA G kt (D1.wH p (T.take i) [])) λZ97 ji ij=>sE Z97 (ji _ _ _ ⟨⟨_,_,_,_,_,_,Z⟩,.refl,[],g0d,.nil⟩) (λi σ G _ h=>(ij _ _ _ h).s _ _ td J0) ?_ ?_
 ·intro i a0 v0 σ G pq G1 ha0 hv0 h1 nw;let⟨⟨o3,o4,o5,o6,o7,o8,rfl⟩,sG,kt,hkt,J5⟩:=ij _ _ _ h1;let⟨kv,hkv,hak⟩:=bC pk ha0;let⟨⟨st,row⟩,hsx,ek,p2,Ñ,hrow⟩:=bC hT hkv;let ek:kv.1=qp st:=ek;let hv0':v0=kv.2:=by
   rw[cV,hkv]at hv0;show(dO hv0).symm
  let Ñ:kv.2=.ref p2:=Ñ;rw[Ñ]at hv0';subst hv0';rw[ek]at hak;let WK:aL G G1:=nw.same;let Z1:Nd G0 G1:=(Nd.sd sG g0d).trans (.of WK);let hold:oW G1 a0 st:=oW.Im (Z1.tups _ _ hak);let uZ:G1 p2= ~~~[.int row.m,.int row.b]:=Z1.tups _ _ (Qp.tups _ _ hrow);let ls:st.length=m+1:=hm _ (gU hsx);let hTi:T.take (i+1)=T.take i++[(st,row)]:=by rw[iR,hsx];rfl
  let Μ:=WK _ _ hkt;show⟨pq,_,Z,cO.of nw.here,Z,_,_,Z,_,_,Z,Z,⟨_,Z,_,Z,_,Z,_,_,Z,Z,_,Z,a0,_,Z,hold,λb1 K1 s1 h1=>?_⟩⟩;try dsimp only at h1
  rw[show((p:Int)+1)=((1+p:Nat):Int) by omega,show(1:Int)=((1:Nat):Int)from Z,Yj]at h1;show⟨b1,_,Z,.inr (cO.of h1),λpl K2 n2=>?_⟩;let sX:=s1.trans n2.same;show⟨_,Z,_,Z,_,_,Z,Z,_,Z,a0,_,Z,sX _ _ hold,λb3 K3 s3 h3=>?_⟩;try dsimp only at h3
  rw[show((p:Int)+2)=((p+2:Nat):Int) by omega,pQ st (p+2) ()]at h3;show⟨b3,_,Z,.inr (cO.of h3),λpr K4 n4=>?_⟩;let Fx:=sX.trans (s3.trans n4.same);let ll:((st.drop 1).take p).length<=10:=by rw[dN];omega
  let lr:(st.drop (p+2)).length<=11:=by rw[gw];omega
  show⟨pl,pr,_,_,Z,Z,(s3.trans n4.same) _ _ n2.here,n4.here,(by rw[aJ,aJ];omega),λpc K5 n5=>?_⟩;let s15:=Fx.trans n5.same;let hpc:K5 pc=↥(((st.drop 1).take p++st.drop (p+2)).map V.int):=by rw[n5.here,cW]
  let a3h:oW K5 a0 st:=s15 _ _ hold;let lrs:((st.drop 1).take p++st.drop (p+2)).length<=21:=by rw[bK];omega
  let eo:D1.FP st p=D1.FP st p:=rfl
  conv at eo=>rhs;unfold D1.FP
  clear h1 h3 s1 s3 n2 n4 n5;generalize (st.drop 1).take p++st.drop (p+2)=rest at hpc lrs eo;show⟨_,Z,_,Z,_,_,Z,Z,a0,_,_,.int (fU st (p+1)),Z,Z,cO.of a3h,ç (i:=p+1) (),⟨_,Z,a0,_,_,.int (fU st 0),Z,Z,cO.of a3h,ç (i:=0) (),_,Z,_,pc,rest,Z,hpc,(),λpk K6 s6 hk=>?_⟩⟩;generalize fU st (p+1)=lb at eo ⊢;let a2m:=s6 _ _ hpc;let a7y:∀{G:Hp}{o5 o6 o7 o8:Option V},aL G1 G->D1.FP st p=none->Z97 (i+1) [⇑t,some (.int p),⇑d,⇑a0,⇑p2,o5,o6,o7,o8] G:=λ{G o5 o6 o7 o8} s e=>ji _ _ _ ⟨⟨_,_,_,_,_,_,Z⟩,sG.trans (.of (WK.trans s)),kt,s _ _ Μ,by
   rw[hTi,D1.Ed];lk;rw[e];show Paired.cD J5 λ_ _ z=>⟨z.1,z.2.keep (.of (WK.trans s))⟩⟩
  show Bt (P:=λσ' G=>∃pn s',σ'=[⇑t,some (.int p),⇑d,⇑a0,⇑p2,⇑pc,some (.int lb),⇑pn,o8]/\aL G1 G/\oW G pn s'/\D1.FP st p=some (s',0)) λJ1 jm mj=>⟨J1,?_,?_⟩
  ·dsimp only[yD];show a69 (c1:=decide (0<lb)) (c2:=!decide (lb∈rest)) (λQ h=>⟨_,Z,_,_,Z,Z,_,Z,h⟩) (λQ h=>⟨_,Z,_,Z,oU (bB.of a2m) ⟨_,Z,h⟩⟩) (λc=>?_) (λc=>?_)
   ·let c':0<lb/\lb∉rest:=⟨dB c.1,by simpa using c.2⟩;rw[aD c']at eo;show⟨_,Z,pc,Z,⟨_,bB.of a2m⟩,?_⟩;show qU (K:=K) (a:=pc) (xs:=rest.map V.int) (λi ys G=>G=K6/\ys=((rest.take i).filter λx=>decide (0<x)).map V.int) ⟨Z,Z⟩ (λi ys G hi ⟨e,ey⟩=>⟨by rw[e];show bB.of a2m,?_⟩) (λi x ys G hx ⟨e,ey⟩=>?_) (λys G ⟨e,ey⟩ pz hpz=>?_)
    ·rw[ey,aJ];show fC (dz (cC (yQ _ _) ?_));rw[dN];omega
    ·subst e;rw[cV]at hx;let⟨z,hz,rfl⟩:=j4.mp hx;let et:rest.take (i+1)=rest.take i++[z]:=by rw[iR,hz];rfl
     show⟨_,Z,_,_,Z,Z,_,Z,qH (λe=>?_) λe=>?_⟩
     ·show⟨_,Z,Z,by rw[et,yV,cW,<-ey,MJ (p:=λx=>decide (0<x)) e];rfl⟩
     ·show⟨Z,by rw[et,yV,cW,<-ey,List.filter_cons_of_neg (p:=λx=>decide (0<x)) e];show(jB _).symm⟩
    ·subst e;rw[aJ,gJ]at ey;let nz:=iH.nC (H:=G) (p:=pz) (o:=.lst ys) hpz;generalize cX G pz (.lst ys)=K7 at nz ⊢;let ly:ys.length=(rest.filter λx=>decide (0<x)).length:=by rw[ey,aJ]
     let hy:0<ys.length↔rest.any (λx=>decide (0<x))=true:=by
      rw[ly,Vd];constructor
      ·intro h;let⟨x,hx⟩:=ó h;show⟨x,jg.mp hx⟩
      ·rintro⟨x,hx,h⟩;show List.length_pos_of_mem (jg.mpr ⟨hx,h⟩)
     show⟨pz,_,Z,.inl (bB.of nz.here),_,_,Z,Z,_,Z,qH (λe=>?_) λe=>?_⟩
     ·let e:0<ys.length:=by let:=dB e;omega
      rw[aD (hy.mp e)]at eo;show a7y (s15.trans (s6.trans nz.same)) eo
     ·let e:¬0<ys.length:=λh=>e (bh ());rw[aA λh=>e (hy.mpr h)]at eo;show⟨_,Z,1,pc,rest,Z,nz.same _ _ a2m,(),λpk2 K8 s8 hk8=>jm _ _ ⟨pk2,_,Z,s15.trans (s6.trans (nz.same.trans s8)),hk8,eo⟩⟩
   ·let c':¬(0<lb/\lb∉rest):=λh=>c ⟨bh h.1,by simpa using h.2⟩;rw[aA c']at eo;show jm _ _ ⟨pk,_,Z,s15.trans s6,hk,eo⟩
  intro σ' G h2;let⟨pn,s',rfl,s1G,hpn,eo⟩:=mj _ _ h2;clear jm mj h2 a7y;let s1':=WK.trans s1G;let a2n:=s1G _ _ Μ;let a3i:=s1G _ _ uZ;let hT2:rA G kt (D1.wH p (T.take i) []):=Paired.cD J5 λ_ _ z=>⟨z.1,z.2.keep (.of s1')⟩;let lkt:=aU hT2;let lt9:(D1.wH p (T.take i) []).length<=900:=cC (D1.SM _ _) (by rw[dN];show 0+_<=_;omega);let fin:∀(G5:Hp) (kt:List (aS×V)),Sd d G0 G5->G5 d=some (.dT kt)->rA G5 kt (D1.putD 0 (D1.wH p (T.take i) []) s' row.m row.b)->∀(v8:V),Z97 (i+1) [⇑t,some (.int p),⇑d,⇑a0,⇑p2,⇑pc,some (.int lb),⇑pn,some v8] G5:=λG5 kt s h1 h2 v8=>ji _ _ _ ⟨⟨_,_,_,_,_,_,Z⟩,s,kt,h1,by
   rw[hTi,D1.Ed];lk;rw[eo];show rA G5 kt (D1.putD 0 _ s' row.m (row.b+0));rw[Int.add_zero];show h2⟩
  clear ji ij;generalize D1.wH p (T.take i) []=T0 at hT2 fin lt9 lkt;let get:∀{G':Hp},aL G G'->oW G' pn s'/\G' d=some (.dT kt):=λ{G'} s=>⟨hpn.keep (.of s),s _ _ a2n⟩;obtain⟨m0,bs,en,hv2⟩:∃m0 bs,D1.putD 0 T0 s' row.m row.b=lG T0 s' ⟨row.m+m0,bs,[]⟩/\((dI kt (qp s')=none/\m0=0/\bs=row.b)\/∃pr b0,dI kt (qp s')=⇑pr/\G pr= ~~~[.int m0,.int b0]/\bs=D1.Fp 0 row.b b0):=by
   rcases Gp s' hT2 with⟨e1,e2⟩|⟨v0,r0,e1,e2,pr,rfl,hr0⟩
   ·show⟨0,row.b,by unfold D1.putD;rw[e2],.inl ⟨e1,Z,Z⟩⟩
   ·show⟨r0.m,_,by unfold D1.putD;rw[e2],.inr ⟨pr,r0.b,e1,hr0,Z⟩⟩
  show⟨_,Z,p2,_,_,.int row.b,Z,Z,cO.of a3i,Z,Bt (P:=λσ' G'=>σ'=[⇑t,some (.int p),⇑d,⇑a0,⇑p2,⇑pc,some (.int lb),⇑pn,some (.int bs)]/\G'=G) λJ3 jm mj=>⟨J3,?_,?_⟩⟩
  ·show⟨_,Z,_,Z,pn,d,qp s',kt,Z,Z,hpn.key,a2n,_,Z,?_⟩;rcases hv2 with⟨e1,_,e3⟩|⟨pr,b0',e1,hr0,e3⟩
   ·rw[e1];show cQ (cQ (jm _ _ ⟨by rw[e3];rfl,Z⟩))
   ·rw[e1];let dg:Fv G d (.ref pn) ⇑pr:=by rw[<-e1];show Fv.t a2n hpn.key
    show iC ⟨_,Z,_,Z,d,.ref pr,Z,dg,pr,_,_,.int b0',Z,Z,cO.of hr0,Z,_,Z,_,_,Z,Z,_,Z,qH (λc=>?_) λc=>?_⟩
    ·let c:b0'<row.b:=dB c;show⟨_,Z,_,Z,d,.ref pr,Z,dg,pr,_,_,.int b0',Z,Z,cO.of hr0,Z,jm _ _ ⟨by rw[e3];unfold D1.Fp;rw[cG (show ¬b0'>row.b by omega),aD ()];rfl,Z⟩⟩
    ·let c:¬b0'<row.b:=λz=>c (bh z);show jm _ _ ⟨?_,Z⟩;rw[e3];unfold D1.Fp;by_cases c3:b0'>row.b
     ·rw[bh c3,aA ()];rfl
     ·rw[cG c3,aD (),show b0'=row.b by omega];rfl
  intro σ' G' h3;let⟨rfl,rfl⟩:=mj _ _ h3;clear jm mj h3;show⟨_,Z,p2,_,_,.int row.m,Z,Z,cO.of a3i,Z,_,Z,.inr (.inr (.inl ⟨Z,.inr ⟨_,a2n⟩⟩)),_,Z,(),λp3 G3 n3=>?_⟩;let⟨g5,g6⟩:=get n3.same;show⟨d,pn,qp s',kt,.ref p3,Z,Z,g5.key,g6,?_⟩;obtain⟨pq,bz,eq1,hq⟩:∃pq bz,(dI kt (qp s')).getD (.ref p3)=.ref pq/\G3 pq= ~~~[.int m0,.int bz]:=by
   rcases hv2 with⟨e1,e2,_⟩|⟨pr,b0',e1,hr0,_⟩
   ·show⟨p3,0,by rw[e1];rfl,by rw[e2];show n3.here⟩
   ·show⟨pr,b0',by rw[e1];rfl,n3.same _ _ hr0⟩
  rw[eq1];show⟨pq,_,_,.int m0,Z,Z,cO.of hq,Z,_,_,Z,Z,_,Z,(),λp4 G4 n4=>?_⟩;let s4:=n3.same.trans n4.same;let⟨g5,g6⟩:=get s4;show⟨_,Z,_,Z,d,pn,qp s',kt,Z,Z,g5.key,g6,(by let:=lkt;omega),λG5 c5=>?_⟩;let ts:lH G4 G5:=λc' ys hc=>by
   rw[c5.rest c' (λz=>by rw[z,g6]at hc;cases hc)];show hc
  show fin G5 _ ((sG.trans (.of (s1'.trans s4))).trans (.Rx c5)) c5.here ?_ _;rw[en];show Pg (Paired.cD hT2 λ_ _ z=>⟨z.1,z.2.keep ((lH.of s4).trans ts)⟩) ⟨p4,Z,ts _ _ n4.here⟩
 ·intro σ G h;let⟨⟨o3,o4,o5,o6,o7,o8,rfl⟩,sG,kt,hkt,J5⟩:=ij _ _ _ h;show⟨t,o,J,J,ht0,sG _ _ td J0,?_⟩;rw[la.trans lk,gJ]at J5;let tu:lH G (cX G t (.dT J)):=λc ys hc=>by
   rw[aQ (λz=>by rw[z,sG _ _ td J0]at hc;cases hc)];show hc
  show⟨_,Z,q d kt _ (λc u e=>?_) (by rw[aQ (Ne.symm td)];show hkt) (Paired.cD J5 λ_ _ z=>⟨z.1,z.2.keep tu⟩)⟩;by_cases z:c=t
  ·rw[z]at e ⊢;rw[dw,<-e,ht]
  ·rw[aQ z];show sG c u (λw=>by rw[w,hd]at e;cases e) ?_;rw[RG c z];show(n0.same.trans n1.same) _ _ e
end K
namespace De
open PyProof.Rows
section
variable{prog:Program}{w:World}{A:Around}{E:∅}{s:Shared}{κ:Type} [DecidableEq κ] {knd:HeapKind prog w κ}
def Xh{nm:String}{a b:Addr}{xa xb:List (κ×Addr×Value)}{Q:Bool->Shared->Prop}(ha:(a==sysModules)=false)(hb:(b==sysModules)=false)(hu:knd.room A)
  (da:s.heap.DictOfH knd a xa) (db:s.heap.DictOfH knd b xb) (len:xa.length=xb.length) (hits:∀x∈xa,∃q,atKey xb x.1=some q/\SeqAt.EqAt A s x.2.2 q.2 true) (h:Q true s) :
  ∎ (Builtin.Dict.samePairs nm a b) Q E s:=by
 let⟨oa,es,ep,hoa,_,hda,hea,hia,hna⟩:=da;let⟨ob,fs,ep',hob,_,hdb,heb,hib,hnb⟩:=db;let la:=Vi hea;let lb:=Vi heb;unfold Builtin.Dict.samePairs Builtin.Dict.showsAll;rw[aA (by simp[ha]),aA (by simp[hb])];show M (ao (M (ao (M (rN hoa hda ?_)))));lk;show M (rN hob hdb ?_);rw[aA (by simp;omega)];show M (wV hoa hda (M ?_));rw[Std.Legacy.Range.forIn_eq_forIn_range'];simp only[Std.Legacy.Range.size,Nat.sub_zero,Nat.add_sub_cancel,Nat.div_one];show wpAny_forIn_list _ (λrest q s'=>s'=s/\q=(none,⟨⟩)/\∃i,rest=List.range' i (es.size-i)/\i<=es.size) _ ?_ ?_ _ _ ⟨Z,Z,0,by simp,dG _⟩
 ·rintro x rest q s' ⟨rfl,rfl,i,hr,hi⟩;let lt:i<es.size:=by
   by_cases c:i<es.size
   ·show c
   ·rw[show es.size-i=0 by omega]at hr;simp at hr
  obtain⟨rfl,hrest⟩:x=i/\rest=List.range' (i+1) (es.size-(i+1)):=by
   rw[show es.size-i=(es.size-(i+1))+1 by omega,List.range'_succ]at hr;show⟨(Oa hr).1,(Oa hr).2⟩
  let lx:x<xa.length:=()
  let ex:xa[x]?=some xa[x]:=bO lx;let ee:es[x]?=some (entryOfKey knd xa[x]):=by rw[entry_at hea x,ex];rfl
  let⟨q,hq,he⟩:=hits xa[x] (oJ lx);show M (rN hoa hda ?_);rw[ee];show wpAny _ _ (holding [Value.ref xa[x].2.1,xa[x].2.2] _ >>= _) _ _ _;show M (eG (M (wpAny_dictFind_heap hu (hia _ (oJ lx)) hob hdb heb hib hnb ?_ ?_)))
  ·intro no;rw[atKey_none_of_get no]at hq;cases hq
  ·intro j p hj;let Ñ:p=q:=dO ((atKey_of_get hnb hj).symm.trans hq);subst Ñ;show M (rN hob hdb ?_);let ef:fs[j]?=some (entryOfKey knd (xa[x].1,p)):=by rw[entry_at heb j,hj];rfl
   rw[ef];show eG (he prog w _ _ ?_);show wpAny _ _ (if(!true)=true then _ else _) _ _ _;rw[aA ()];show M (wV hoa hda ?_);rw[aA (by simp)];show ao ⟨Z,Z,x+1,hrest,lt⟩
 ·rintro q s' ⟨rfl,rfl,i,hr,hi⟩;show ao h
def Ξ{a b:Addr}{xa xb:List (κ×Addr×Value)}{Q:∅}(ha:(a==sysModules)=false)(hb:(b==sysModules)=false)(hr:knd.room A.in1)
  (da:s.heap.DictOfH knd a xa) (db:s.heap.DictOfH knd b xb) (hu:A.units<cLine) (len:xa.length=xb.length) (hits:∀x∈xa,∃q,atKey xb x.1=some q/\SeqAt.EqAt A.in1 s x.2.2 q.2 true) (h:Q (.bool false) s) :
  ∎ (compareOp .NotEq (.ref a) (.ref b)) Q E s:=by
 show wpAny_richCompare_same_room (op:=.NotEq) da.typeIs db.typeIs PySem.F.slot_dict_ne (gG PySem.F.slot_dict_ne da.typeIs PySem.F.entry_dict_ne (M ?_) (PySem.F.args_dict_ne_2 _ _)) hu;unfold Builtin.Dict.dictSlotArgs;show M (Cz da.typeIs (ao (M (vG (T:="dict") db.typeIs PySem.F.sub_dict_dict ?_))));simp only[if_false,Bool.not_true,Bool.false_eq_true];show M (ao (M (ao (M (Xh ha hb hr da db len hits ?_)))));show ao ⟨_,Z,(λz=>by cases z),h⟩
end
end De
namespace L2
open PyProof.Rows Bg
section
variable{X:Cx}{K:aH}
structure Ο(K:aH)(H:Hp)(ka kb:List (aS×V)):Prop where
 len:ka.length=kb.length
 hit:∀p∈ka,∃v d,dI kb p.1=some v/\JM K H p.2 d/\JM K H v d/\SeqAt.shaped d=true
noncomputable def a7z(K:aH)(neg:Bool):R2:=λx y H Q=>∃a b ka kb,x=.ref a/\y=.ref b/\H a=some (.dT ka)/\H b=some (.dT kb)/\Ο K H ka kb/\Q (.bl (!neg)) H
def Xi{Y:aE}{σ:St}{H:Hp}{s:Shared}{ka kb:List (aS×V)}{xa xb:List (aS×Addr×Value)}(I:bF X Y σ H s)(hu:X.A.units+66<cLine)(ra:KT H ka xa)(rb:KT H kb xb)(S:Ο X.K H ka kb) :
  ∀x∈xa,∃q,atKey xb x.1=some q/\SeqAt.EqAt X.A.in1 s x.2.2 q.2 true:=by
 intro x hx;let⟨j,hj,rfl⟩:=qD hx;let⟨p,hp,ep,_,rp⟩:=cI ra (bO hj);let⟨v,d,hv,d1,d2,sd⟩:=S.hit p (gU hp);let rv:=rb.val p.1;rw[hv]at rv;let⟨u,hu2,ru⟩:=oN.some_of rv;rw[<-ep];cases c:atKey xb p.1 with
 |none=>rw[c]at hu2;cases hu2
 |some q =>
  rw[c]at hu2;cases hu2;let⟨as,r1⟩:=d1.reads I rp;let⟨bs,r2⟩:=d2.reads I ru;let:=PySem.W.keq_at (A:=X.A) r1 r2 sd sd ();rw[QV sd]at this;show⟨q,Z,this⟩
def a5o(hu:X.A.units+66<cLine):qQ X (compareOp .NotEq) (a7z X.K true):=by
 intro Y s σ H x y v u Q I rx ry h;let⟨a,b,ka,kb,rfl,rfl,ea,eb,S,q⟩:=h;obtain rfl:v=Value.ref a:=rx;obtain rfl:u=Value.ref b:=ry;let⟨za,sa,xa,ra,da⟩:=Bb I.hok ea;let⟨zb,sb,xb,rb,db⟩:=Bb I.hok eb;let l1:=aU ra;let l2:=aU rb;let l3:=S.len;show De.Ξ sa sb (yU ()) da db () () (Xi I hu ra rb S) ⟨.bl false,H,I,Z,q⟩
def Qh(e:X.K=K)(hu:X.A.units+66<cLine):qQ X (compareOp .NotEq) (a7z K true):=by subst e;show a5o hu
end
end L2
namespace L2
open PyProof.Rows
structure PAw(X:Cx)(es:ba)(t:TA):Prop where
 h:PA X es t
section
variable{X:Cx}
def YT:PAw X [] a0B:=⟨aj⟩
def Qi{i:Int}{j:Nat}{pos:Pos}{es:ba}{t:TA}(hr:PAw X es t):PAw X (.Constant (.int i) j pos::es) (Qz (tC (.int i)) t):=⟨O aq hr.h⟩
end
end L2
namespace L2
open PyProof.Rows
variable{pos:Pos}{Rj:List (TE×TE)}{keys:List (Option Expr)}{values:ba}
def putL(J:List (aS×V))(L:List (aS×Addr×V)):List (aS×V):=L.foldl (λacc x=>putK acc x.1 x.2.2) J
section
variable{X:Cx}{Y:aE}{σ:St}
theorem LR{A:Around}{E:∅}{Q:PUnit->Shared->Prop}{d:Addr}(hu:A.units<cLine):∀(L:List (aS×Addr×V)) {ws:List (Value×Value)}{J:List (aS×V)}{s:Shared}{H:Hp},VV (L.map λx=>(V.ref x.2.1,x.2.2)) ws->bF X Y σ H s->H d=some (.dT J)->
  (∀x∈L,H x.2.1= ~~~(x.1.map kV))->J.length+L.length<sizeLine->(∀s' H',tH H d (.dT (putL J L)) H'->bF X Y σ H' s'->Q PUnit.unit s')->wpAny (model X.prog X.w) A (storeAll d ws) Q E s
 | [],ws,J,s,H,r,I,hd,hk,hz,q=>by
  cases r
  show ao (q s H ⟨hd,λ_ _=>rfl⟩ I)
 |x::L,ws,J,s,H,r,I,hd,hk,hz,q=>by
  cases r with
  | @cons _ u _ us a t =>
  let⟨u1,u2⟩:=u
  let⟨r1,r2⟩:=a
  obtain rfl:u1=Value.ref x.2.1:=r1
  let eb:=hk x aZ
  let⟨z,hds,xs,rel,dd⟩:=Bb I.hok hd
  let lr:=aU rel
  rw[iM]at hz
  let hl:(putK J x.1 x.2.2).length<=sizeLine:=by let:=ql J x.1 x.2.2;omega
  show wpAny _ _ (forIn ((Value.ref x.2.1,u2)::us) _ _) _ _ _
  rw[List.forIn_cons]
  show M (M (UW (hsz:=by omega) (knd:=tupleKind (eX X.prog X.w)) hu (xg I.hok eb) dd λh' ä hs=>?_))
  show ao ?_
  let⟨w,es,ep,hq,h2,h3,h4,_,h5⟩:=ä
  let I2:bF X Y σ (cX H d (.dT (putK J x.1 x.2.2))) { s with heap:=h',toks:=s.toks+(tupleKind (eX X.prog X.w)).draws x.1}:=Bc I (by rw[hd];show lW) hs ⟨w,hq⟩ ⟨hl,hds,_,(rel.put x.1 eb r2).keeps λc ys ec=>by
   rw[aQ (Xr ec hd (λz=>nomatch z))]
   show ec,w,es,ep,hq,h2,h3,h4,h5⟩
  show LR hu L t I2 dw (λy hy=>?_) (by let:=ql J x.1 x.2.2;omega) λs' H' c I'=>q s' H' ⟨c.here,λb n=>(c.rest b n).trans (aQ n)⟩ I'
  let hy':=hk y (bH _ hy)
  rw[aQ (Xr hy' hd (λz=>nomatch z))]
  show hy'
def Xj(Rj:List (TE×TE)):TE:=λσ H Q=>∀p H1,iH H p (.dT []) H1->Wn Rj σ H1 λps H2=>H2 p=some (.dT [])/\∃L:List (aS×Addr×V),ps=L.map (λx=>(V.ref x.2.1,x.2.2))/\(∀x∈L,H2 x.2.1= ~~~(x.1.map kV))/\L.length<=15/\∀H3,tH H2 p (.dT (putL [] L)) H3->Q (.ref p) H3
def Ρ(hu:X.A.units+1<cLine)(h:PPs X pos keys values Rj)(hall:keys.all (·.isSome)=true)(hl:keys.length=values.length)(h0:keys≠[])
  (h15:keys.length<=15):PE X (.Dict keys values pos) (Xj Rj):=by
 intro Y s σ H Q I q;let hn:=I.hok.fresh (aK s⁻¹);let I1:=I.laid (a:=s⁻¹) (o:=.dT []) (h':=s.heap.push { cls:=.type "dict",data:=.dict #[]}) (t':=s.toks) (λ_ _ q=>bM _ q) (aK _) (Rh s.heap I.big);show wpAny_Dict_any hall hl h0 h15 (jr (h Y _ σ _ _ I1 (q _ _ (iH.nC hn))) λws s2 ⟨ps,H2,I2,rel,e,L,ep,hk,l15,q2⟩=>?_);subst ep;show LR () L rel I2 e hk (by rw[gK];grind) λs' H' c I'=>⟨.ref s⁻¹,H',I',Z,q2 H' c⟩
structure PPw(X:Cx)(pos:Pos)(keys:List (Option Expr))(values:ba)(Rj:List (TE×TE)):Prop where
 h:PPs X pos keys values Rj
def a2o:PPw X pos [] [] []:=⟨a1c⟩
def Τ{p1 p2:Pos}{k1 k2:Nat}{es1 es2:ba}{ks:List (Option Expr)}{vs:ba}{t1 t2:TA}(h:PAw X es1 t1)(h':PAw X es2 t2)(hr:PPw X pos ks vs Rj) :
  PPw X pos (some (.Tuple es1 k1 p1)::ks) (.Tuple es2 k2 p2::vs) ((X3 t1,X3 t2)::Rj):=⟨ń (bL h.h) (bL h'.h) hr.h⟩
def Õ(hu:X.A.units+1<cLine)(h:PPw X pos keys values Rj)(hall:@&(keys.all (·.isSome)=true))(hl:@&(keys.length=values.length))(h0:keys≠[]:=by simp)
  (h15:@&(keys.length<=15)):PE X (.Dict keys values pos) (Xj Rj):=Ρ hu h.h hall hl h0 h15
def a5p{r:R2}{a:Expr}{ta:TE}{p1:Pos}(ho:qQ X (compareOp .NotEq) r)(ha:PE X a ta)(hu:X.A.units+1<cLine)(h:PPw X p1 keys values Rj)(hall:@&(keys.all (·.isSome)=true))(hl:@&(keys.length=values.length))(h0:keys≠[]:=by simp)
  (h15:@&(keys.length<=15)):PT X (.Compare a [.NotEq] [.Dict keys values p1] pos) (a2I (tOp r ta (Xj Rj))):=aN ho ha (Õ hu h hall hl h0 h15) (Vu _)
end
end L2
namespace K
open L2 Lw Bg
variable{K:aH}
abbrev lD:Stmt:=top 51
def nY:bR ["_law_found","_law_steps","_law_told","_law_tops_here","_law_aheads","_law_k","_law_v"] Yu (aG lD):={}
namespace D1
def a2p{T:bW}(nd:(T.map (·.1)).Nodup){x:dF×fV}(h:x∈T):qY T x.1=some x.2:=by
 unfold qY
 induction T with
 |nil=>cases h
 |cons y T ih =>
  grind
end D1
def JD{H:Hp}{ka kb:List (aS×V)}{A B:bW}(ha:rA H ka A)(hb:rA H kb B)(e:D1.strip A=B)(nd:(A.map (·.1)).Nodup):Ο K H ka kb where
 len:=by
  rw[aU ha,aU hb,<-e]
  unfold D1.strip
  grind
 hit:=λp hp=>by
  let⟨j,hj,rfl⟩:=qD hp
  let⟨x,hx,ek,q,eq,hq⟩:=bC ha (bO hj)
  let g:=D1.LK A x.1
  rw[D1.a2p nd (gU hx),e]at g
  let ek:ka[j].1=qp x.1:=ek
  let eq:ka[j].2=.ref q:=eq
  rcases Gp x.1 hb with⟨_,e2⟩|⟨v,r,e1,e2,q',rfl,hq'⟩
  ·rw[e2]at g;cases g
  ·rw[e2]at g
   let g:r=D1.rw0 x.2:=dO g
   rw[g]at hq'
   show⟨_,.tuple [.int x.2.m,.int x.2.b],(),by rw[eq];show .tup (cO.of hq) (.cons (.int _) (.cons (.int _) .nil)),.tup (cO.of hq') (.cons (.int _) (.cons (.int _) .nil)),Z⟩
def JF{H:Hp}{J:List (aS×V)}{T:bW}(h:rA H J T):rA H J (D1.strip T):=by
 induction h with
 |nil=>show .nil
 |cons a _ ih=>show .cons a ih
def a7A:kitOne K (.type "list") (.type "list")=some true:=by rfl
inductive Υ(vs:af)(H:Hp)(Q:VK)(u_3:XK):Prop
 |mk (pT pS pm:Addr) (xs yt:af) (ss:ax) (Ts:List bW) (n:Nat) (ts:ar) (tl:ae) (_:vs=[.ref pT,.ref pS,.ref pm]) (_:H pS=↥xs) (_:Paired (tB H) xs ss) (_:ss.length<=800) (_:H pT=↥yt) (_:Paired (WT H) yt Ts) (_:Ts.length=ss.length) (_:Go.a2e n ts ss) (_:H pm=↥(tl.map V.int)) (_:(∀k,k<ss.length->(∀x∈Ts.getD k [],x.1.length=(Go.fH n ts ss k).length+1)/\(Go.fH n ts ss k).length<=4/\(Ts.getD k []).length<=400/\((Ts.getD k []).map (·.1)).Nodup)) (_:(∀k:Nat,ss[k]?=some .leaf->D1.strip (Ts.getD k [])=[([0],⟨1,0,[]⟩)])) (_:(∀(k i:Nat) (v:Int),ss[k]?=some (.inn v)->Go.oE n ts ss k=[i]->D1.strip (Ts.getD k [])=D1.xR (decide (v∈tl)) ((Go.fH n ts ss k).idxOf v) (D1.strip (Ts.getD i [])) [])) (_:(∀(k i:Nat) (v:Int),ss[k]?=some (.out v)->Go.oE n ts ss k=[i]->D1.strip (Ts.getD k [])=D1.wH ((Go.fH n ts ss i).idxOf v) (D1.strip (Ts.getD i [])) [])) (_:∀H',aL H H'->Q (.bl true) H')
def a7B{t:TS}{D:Ends}{σ:St}{H:Hp}{P:St->Hp->Prop}(h2:∀σ' G',P σ' G'->D.nx σ' G')(h1:∀Z97:St->Hp->Prop,(∀σ' G',P σ' G'->Z97 σ' G')->t { D with nx:=Z97} σ H):t D σ H:=h1 D.nx h2
section
variable{P:Program}{w:World}{mg:Str->Option Value}{base:Heap}
def Qj(B:Bl mg)(Í:DZ9 K mg)(Ð:Dn K mg "_law_formed" jR Rt)(Eg:Dn K mg "_law_named" jd Il)(Ó:Dn K mg "_law_in" rJ Ru)(YS:Dn K mg "_law_out" mY Rv)(Ö:Dn K mg "_law_fits" lD Yu):⋯ 3 Ö.f Ö.fd Yu Υ:=by
 let gZ9:⋯ 2 _ _ _ _:=(Qg B Í).mono ();let gZ2:⋯ 2 _ _ _ _:=(Jy B Ð).mono ();let gZ3:⋯ 2 _ _ _ _:=Xf B Eg Ó;let gZ6:⋯ 2 _ _ _ _:=SQ B Eg YS;show Ö.F.ok nY λdZ A outer s H vs Q E hr h=>?_;let⟨pT,pS,pm,xs,yt,ss,Ts,n,ts,tl,rfl,hS,qS,l8,hT,qT,lT,R,hpm,ok,a8P,xR,wH,q⟩:=h;let hu:(A.deeper (PyProof.Rows.envOfC "_law_fits" (aG lD) s⁻¹ Ö.f dZ)).units+66<cLine:=by let:=hr.un;omega
 let hv:(A.deeper (PyProof.Rows.envOfC "_law_fits" (aG lD) s⁻¹ Ö.f dZ)).units+65<cLine:=()
 let hw1:(A.deeper (PyProof.Rows.envOfC "_law_fits" (aG lD) s⁻¹ Ö.f dZ)).units+1<cLine:=by let:=hr.un;omega
 show⟨_,(aB (uq (aY gZ9 hr Z Í.m Í.F.kp Í.b .nil bZ (O (pv 1) aj)) (Rm (K:=K) (n:=2) Z Z (bN (aM 3 nY.nd) (bN (aM 4 nY.nd) gW))))
   (aB (cJ (PW.pt (Aa (mR (cY (K:=K) Z (aW (iZ (K:=K) Z) Z B.isinstance () (O (pv 0) (O (tD (v:=.ty "list") (u:=.type "list") Z B.list () Z) aj))) λ_=>rfl)) (zq (aN Km (aW (b8 (K:=K) Z) Z B.len () (O (pv 0) aj)) (aW (b8 (K:=K) Z) Z B.len () (O (pv 1) aj))))))
   (aF (bI wg))
   bx)
   (aB (iV iI Z (jP Z B.range (O (aW (b8 (K:=K) Z) Z B.len () (O (pv 1) aj)) aj)) (aM 5 nY.nd)
   (aB (cJ (mR (cY (K:=K) Z (aY gZ2 hr Z Ð.m Ð.F.kp Ð.b .nil bZ (O (aP (bf (K:=K) Z) (pv 0) (pv 5)) (O (bA dH (aW (b8 (K:=K) Z) Z B.len () (O (aP (bf (K:=K) Z) (pv 3) (pv 5)) aj)) aq) aj))) λ_=>rfl))
   (aF (bI wg))
   bx)
   (aB (cJ (PW.pt (lX (aN mZ (aP (aO (K:=K) Z) (aP (bf (K:=K) Z) (pv 1) (pv 5)) aq) fY) (mJ (a5p (Qh (K:=K) Z hu) (aP (bf (K:=K) Z) (pv 0) (pv 5)) hw1 (Τ (Qi YT) (Qi (Qi YT)) a2o)))))
   (aF (bI wg))
   bx)
   (g8 (cJ (aN mZ (aP (aO (K:=K) Z) (aP (bf (K:=K) Z) (pv 1) (pv 5)) aq) fY)
   (aB (aV 6 nY.nd (aP (aO (K:=K) Z) (aP (bf (K:=K) Z) (pv 1) (pv 5)) aq))
   (aF (cJ (aN (Qh (K:=K) Z hu) (aP (bf (K:=K) Z) (pv 0) (pv 5)) (aY gZ3 hr Z Ó.m Ó.F.kp Ó.b .nil bZ (O (aP (bf (K:=K) Z) (pv 0) (aP (bf (K:=K) Z) (pv 4) (pv 5))) (O (gZ (K:=K) Z gR Mz MF uX (aP (bf (K:=K) Z) (pv 3) (pv 5)) (O (pv 6) aj)) (O (xY (qX (K:=K) Z hv) (pv 6) (pv 2) (by with_unfolding_all rfl)) aj)))))
   (aF (bI wg))
   bx)))
   bx)
   (aF (cJ (aN mZ (aP (aO (K:=K) Z) (aP (bf (K:=K) Z) (pv 1) (pv 5)) aq) fY)
   (aF (cJ (aN (Qh (K:=K) Z hu) (aP (bf (K:=K) Z) (pv 0) (pv 5)) (aY gZ6 hr Z YS.m YS.F.kp YS.b .nil bZ (O (aP (bf (K:=K) Z) (pv 0) (aP (bf (K:=K) Z) (pv 4) (pv 5))) (O (gZ (K:=K) Z gR Mz MF uX (aP (bf (K:=K) Z) (pv 3) (aP (bf (K:=K) Z) (pv 4) (pv 5))) (O (aP (aO (K:=K) Z) (aP (bf (K:=K) Z) (pv 1) (pv 5)) aq) aj)) aj))))
   (aF (bI wg))
   bx))
   bx))))))
   (aF (bI wg))))),?_⟩
 let lx:=aU qS;let lyt:yt.length=ss.length:=(aU qT).trans lT;show⟨_,Z,pS,xs,ss,n,ts,Z,hS,qS,l8,R,λr pt pa tx G sG hr hpt pTx hpa=>⟨r,[.ref pt,.ref pa],Z,bB.of hr,Z,_,_,Z,_,_,Z,Z,⟨_,Z,_,_,_,_,_,Z,Z,rZ.lst (sG _ _ hT),a7A,_,Z,cQ ⟨_,Z,pT,_,Z,.inl (bB.of (sG _ _ hT)),_,Z,pS,_,Z,.inl (bB.of (sG _ _ hS)),Z,_,Z,?_⟩⟩⟩⟩;rw[show(!decide (V.int ((yt.length:Nat):Int)=V.int ((xs.length:Nat):Int)))=false by grind];show cQ ⟨_,Z,pS,_,Z,.inl (bB.of (sG _ _ hS)),_,Z,(),(),?_⟩;rw[jf];let tp:=Go.R8 R.dh R.sb;show xX (n:=xs.length) (λi σ G'=>(∃o5 o6,σ=[⇑pT,⇑pS,⇑pm,⇑pt,⇑pa,o5,o6])/\aL G G') ⟨⟨_,_,Z⟩,aL.refl _⟩ ?_ ?_
 ·rintro k σ G1 hk ⟨⟨o5,o6,rfl⟩,s1⟩;rw[show(0:Int)+(k:Int)=(k:Int) by omega];let kl:k<ss.length:=()
  let hs:=bO kl;let⟨vx,è,RN,rfl,hst⟩:=cI qS hs;let SB:=R.sb k _ hs;generalize ss[k]=st at hs SB hst;let tabs:∀j,j<ss.length->∃p J,yt[j]?=⇑p/\H p=some (.dT J)/\rA H J (Ts.getD j []):=λj hj=>by
   let hTj:Ts[j]?=some (Ts.getD j []):=()
   let⟨v,hv,p,J,rfl,h1,h2⟩:=cI qT hTj;show⟨p,J,hv,h1,h2⟩
  let⟨p,J,hyk,hpk,hWk⟩:=tabs k kl;let s01:=sG.trans s1;let htk:((List.range ss.length).map (Go.fH n ts ss))[k]?=some (Go.fH n ts ss k):=by rw[cV,Uy kl];rfl
  let⟨vb,hvb,pb,rfl,hpb,_⟩:=cI pTx htk;let⟨ok1,ok4,ok2,ok3⟩:=ok k kl;show⟨_,Z,_,Z,pT,_,_,_,Z,Z,bB.of (s01 _ _ hT),bU hyk,_,Z,_,Z,pt,_,_,_,Z,Z,bB.of (s1 _ _ hpt),bU hvb,pb,_,Z,.inl (bB.of (s1 _ _ hpb)),_,_,Z,Z,?_⟩;rw[aJ];show⟨p,(Go.fH n ts ss k).length+1,J,Ts.getD k [],Z,s01 _ _ hpk,Paired.cD hWk λ_ _ z=>⟨z.1,z.2.keep (.of s01)⟩,ok1,(),(),λG2 s2=>⟨_,Z,cQ ?_⟩⟩;let s12:=s1.trans s2;let sX:=sG.trans s12;dsimp only[Qw];show a7B (t:=ą _ _ _) (P:=λσ' G'=>(∃o6,σ'=[⇑pT,⇑pS,⇑pm,⇑pt,⇑pa,some (.int (k:Int)),o6])/\aL G G') ?_ λZ97 ji=>?_
  rotate_left
  ·show⟨_,Z,_,Z,pS,_,_,_,Z,Z,bB.of (sX _ _ hS),bU è,RN,st.vs,0,.str st.word,Z,Z,cO.of (sX _ _ hst),tO st,Z,_,Z,?_⟩;rw[Up.Ζ];by_cases c0:st.tag=0
   ·rw[bh c0];obtain rfl:st=.leaf:=by
     cases SB with
     |leaf=>rfl
     |_=>cases c0
    show iC ⟨_,Z,_,Z,pT,_,_,_,Z,Z,bB.of (sX _ _ hT),bU hyk,λp6 I0 n6=>⟨(),λc1 I1 i1=>⟨(),λd1 J1 j1=>?_⟩⟩⟩;let r0:=i1.same.trans j1.same;show⟨r0 _ _ n6.here,[(qp [0],c1,.ref d1)],Z,λx hx=>?_,(),λI9 cg=>?_⟩
    ·rw[bQ.mp hx];show j1.same _ _ i1.here
    let s29:aL G2 I9:=(n6.same.trans r0).chg n6.fresh cg;let s09:=sX.trans s29;let hd9:I9 d1= ~~~[.int 1,.int 0]:=by
     rw[cg.rest _ (λz=>by let:=j1.fresh;rw[z,i1.same _ _ n6.here]at this;cases this)];show j1.here
    show⟨p,p6,J,_,Z,Z,s09 _ _ hpk,cg.here,JD (Paired.cD hWk λ_ _ z=>⟨z.1,z.2.keep (.of s09)⟩) (B:=[([0],⟨1,0,[]⟩)]) (.cons ⟨Z,d1,Z,hd9⟩ .nil) (a8P k hs) ok3,_,Z,cQ (ji _ _ ⟨⟨_,Z⟩,s12.trans s29⟩)⟩
   rw[cG c0];show cQ (cQ (ji _ _ ⟨⟨_,Z⟩,s12⟩))
  clear s1 s01 s12 sX o6;rintro σ2 G3 ⟨⟨o6,rfl⟩,s12⟩;let sX:=sG.trans s12;let fed:∀i',Go.oE n ts ss k=[i']->((List.range ss.length).map λk=>ahF (Go.oE n ts ss k))[k]?=some (NI i'):=λi' ef=>by rw[cV,Uy kl,Hg,ef];rfl
  show Bt (P:=λσ' G'=>(∃o6,σ'=[⇑pT,⇑pS,⇑pm,⇑pt,⇑pa,some (.int (k:Int)),o6])/\aL G G') λZ97 ji ij=>⟨Z97,?_,?_⟩
  ·show⟨_,Z,_,Z,pS,_,_,_,Z,Z,bB.of (sX _ _ hS),bU è,RN,st.vs,0,.str st.word,Z,Z,cO.of (sX _ _ hst),tO st,Z,_,Z,?_⟩;rw[Up.a7o];by_cases c1:st.tag=1
   ·rw[bh c1];show iC ?_;obtain⟨v,i',rfl,ef,lt,mv,lt2⟩:∃v i',st=.inn v/\Go.oE n ts ss k=[i']/\i'<k/\v∈Go.fH n ts ss k/\(Go.fH n ts ss k).length=(Go.fH n ts ss i').length+1:=by
     cases SB with
     | @inn i' v ef lt v0 vn nv et=>show⟨v,i',Z,ef,lt,by rw[et];show(Go.nA R.dh (tp i' ()).2 λx hx=>by grind).mpr (.inr (vq v)),by rw[et];show Go.PB R.dh (tp i' ()).1 (tp i' ()).2 ⟨v0,vn⟩ nv⟩
     |_=>cases c1
    let⟨p2,kv2,hy2,hp2,hW2⟩:=tabs i' ();let⟨oi1,oi4,oi2,oi3⟩:=ok i' ();let a7C:=s12 _ _ hpb;let iv:=vV mv;let ls:(D1.strip (Ts.getD i' [])).length<=400:=by unfold D1.strip;grind
    show⟨_,Z,_,Z,pS,_,_,_,Z,Z,bB.of (sX _ _ hS),bU è,RN,_,1,.int v,Z,Z,cO.of (sX _ _ hst),Z,?_⟩;show⟨_,Z,_,Z,pT,_,_,_,Z,Z,bB.of (sX _ _ hT),bU hyk,_,Z,_,Z,_,Z,pa,_,_,_,Z,Z,bB.of (s12 _ _ hpa),bU (fed i' ef),pT,_,_,_,Z,Z,bB.of (sX _ _ hT),bU hy2,_,Z,_,Z,pt,_,_,_,Z,Z,bB.of (s12 _ _ hpt),bU hvb,.inl ⟨Z,_,bB.of a7C⟩,_,Z,pb,_,v,_,Z,Z,a7C,iv.1,iv.2,(),_,Z,_,Z,wZ (bB.of (sX _ _ hpm)) ⟨p2,_,(Go.fH n ts ss i').length,decide (v∈tl),kv2,D1.strip (Ts.getD i' []),Z,sX _ _ hp2,JF (Paired.cD hW2 λ_ _ z=>⟨z.1,z.2.keep (.of sX)⟩),λx hx=>?_,(),(),ls,λd kd2 G4 s4 hd hWd=>?_⟩⟩
    ·let⟨y,hy,rfl⟩:=fD.mp hx;grind
    let Ls:=sX.trans s4;rw[<-xR k i' v hs ef]at hWd;show⟨p,d,J,kd2,Z,Z,Ls _ _ hpk,hd,JD (Paired.cD hWk λ_ _ z=>⟨z.1,z.2.keep (.of Ls)⟩) hWd Z ok3,_,Z,cQ (ji _ _ ⟨⟨_,Z⟩,s12.trans s4⟩)⟩
   ·rw[cG c1];show cQ (ji _ _ ⟨⟨_,Z⟩,s12⟩)
  intro σ' G4 h4;let⟨⟨o6,rfl⟩,Fx⟩:=ij _ _ h4;clear ji ij h4 s12 sX;let Ls:=sG.trans Fx;show⟨_,Z,_,Z,pS,_,_,_,Z,Z,bB.of (Ls _ _ hS),bU è,RN,st.vs,0,.str st.word,Z,Z,cO.of (Ls _ _ hst),tO st,Z,_,Z,?_⟩;rw[Up.a3f];by_cases c3:st.tag=3
  ·rw[bh c3];show iC ?_;obtain⟨v,i',rfl,ef,lt,mv⟩:∃v i',st=.out v/\Go.oE n ts ss k=[i']/\i'<k/\v∈Go.fH n ts ss i':=by
    cases SB with
    | @out i' v ef lt mv et=>grind
    |_=>cases c3
   let⟨p2,kv2,hy2,hp2,hW2⟩:=tabs i' ();let⟨oi1,oi4,oi2,oi3⟩:=ok i' ();let hti:((List.range ss.length).map (Go.fH n ts ss))[i']?=some (Go.fH n ts ss i'):=()
   let⟨vi,hvi,pi,rfl,hpi,_⟩:=cI pTx hti;let a7D:=Fx _ _ hpi;let iv:=vV mv;let ls:(D1.strip (Ts.getD i' [])).length<=400:=by unfold D1.strip;grind
   show⟨_,Z,_,Z,pT,_,_,_,Z,Z,bB.of (Ls _ _ hT),bU hyk,_,Z,_,Z,_,Z,pa,_,_,_,Z,Z,bB.of (Fx _ _ hpa),bU (fed i' ef),pT,_,_,_,Z,Z,bB.of (Ls _ _ hT),bU hy2,_,Z,_,Z,_,Z,pa,_,_,_,Z,Z,bB.of (Fx _ _ hpa),bU (fed i' ef),pt,_,_,_,Z,Z,bB.of (Fx _ _ hpt),bU hvi,.inl ⟨Z,_,bB.of a7D⟩,_,Z,_,Z,pS,_,_,_,Z,Z,bB.of (Ls _ _ hS),bU è,RN,_,1,.int v,Z,Z,cO.of (Ls _ _ hst),Z,pi,_,v,_,Z,Z,a7D,iv.1,iv.2,(),?_⟩;show⟨p2,_,(Go.fH n ts ss i').length,kv2,D1.strip (Ts.getD i' []),Z,Ls _ _ hp2,JF (Paired.cD hW2 λ_ _ z=>⟨z.1,z.2.keep (.of Ls)⟩),λx hx=>?_,xu mv,(),(),λd kd2 G5 s5 hd hWd=>?_⟩
   ·let⟨y,hy,rfl⟩:=fD.mp hx;grind
   let s05:=Ls.trans s5;rw[<-wH k i' v hs ef]at hWd;show⟨p,d,J,kd2,Z,Z,s05 _ _ hpk,hd,JD (Paired.cD hWk λ_ _ z=>⟨z.1,z.2.keep (.of s05)⟩) hWd Z ok3,_,Z,cQ ⟨⟨_,_,Z⟩,Fx.trans s5⟩⟩
  ·rw[cG c3];show cQ ⟨⟨_,_,Z⟩,Fx⟩
 ·rintro σ G1 ⟨⟨o5,o6,rfl⟩,s1⟩;show q _ (sG.trans s1)
end
end K
namespace L2
open PyProof.Rows
section
variable{X:Cx}
inductive SX(x:V)(vs:af)(H:Hp)(Q:VK):Prop
 |mk (a:Addr) (k:Key) (J:List (Key×V)) (v:V) (_:x=.ref a) (_:vs=[kV k,v]) (_:H a=some (.dK J)) (_:J.length<=900) (_:∀y,dI J k=some y->Q y H) (_:dI J k=none->∀H',tH H a (.dK (putK J k v)) H'->Q v H')
def xT:Ow X "dict.setdefault" SX:=by
 intro Y s σ H x xs v us Q I rx rs h;let⟨a,k,J,y,rfl,rfl,e,l9,old,new⟩:=h;obtain rfl:v=Value.ref a:=rx;let⟨u,u2,rfl,ru,ZL⟩:=vals2 rs;let⟨z,hd,vs,rel,dd⟩:=Ł I.hok e;let lv:=rel.length;let rv:=rel.val k;show Hl Ms dd.typeIs ò (î _ _ _) (kt_meets_setdefault (eX X.prog X.w) (k:=k) a (Ia ru) hd u2) ⟨vs,dd,(),λp ep=>?_,λen h' ä hs=>?_⟩
 ·cases c:dI J k with
  |none =>
   rw[c]at rv;let:=oN.none_of rv;grind
  |some y0 =>
   rw[c]at rv;let⟨w',hw,VP⟩:=oN.some_of rv;rw[ep]at hw;cases hw;show⟨y0,H,I.tok _,VP,old y0 c⟩
 ·let he:∃q,h'.get? a=some q:=let⟨q,_,_,hq,_⟩:=ä;⟨q,hq⟩
  let cn:dI J k=none:=by
   cases c:dI J k with
   |none=>rfl
   |some y0 =>
    rw[c]at rv;let⟨w',hw,_⟩:=oN.some_of rv;grind
  let lp:(putK J k y).length<=J.length+1:=by
   unfold putK;split
   ·rw[aJ];omega
   ·rw[bK];show aK _
  show⟨y,_,Bc I (by rw[e];show lW) hs he (ł (by rw[gK];omega) hd (rel.put k ZL) ä),ZL,new cn _ tH.nC⟩
inductive a7E(x:V)(vs:af)(H:Hp)(Q:VK):Prop
 |mk (a:Addr) (k:Key) (J:List (Key×V)) (v:V) (_:x=.ref a) (_:vs=[kV k,v]) (_:H a=some (.dK J)) (_:Q ((dI J k).getD v) H)
def a2q:Ow X "dict.get" a7E:=by
 intro Y s σ H x xs v us Q I rx rs h;let⟨a,k,J,y,rfl,rfl,e,q⟩:=h;obtain rfl:v=Value.ref a:=rx;let⟨u,u2,rfl,ru,ZL⟩:=vals2 rs;let⟨z,hd,vs,rel,dd⟩:=Ł I.hok e;show Hl CG dd.typeIs Ui (Uc _ _ _) (meets_dict_get_default (eX X.prog X.w) (k:=k) a (Ia ru) hd u2) ⟨_,dd.mapOf,⟨_,H,I.tok _,(rel.val k).getD ZL,q⟩⟩
end
end L2
namespace L2
open PyProof.Rows
section
variable{X:Cx}
def Ø{Y:aE}{σ:St}{H:Hp}{p it:Addr}{ys:af}{bs:List Bool}{R:Result->Shared->Prop}(hc:X.calm=true)(hq:cO X.K H p ys)(ht:jo X.K H ys bs)(f:Dd X Y H it) :
  ∀(k i:Nat) (s:Shared),ys.length-i=k->bF X Y σ H s->s.heap.IsTupleIter it p i->(∀s',bF X Y σ H s'->R (.ok (.ret (.bool ((bs.drop i).any id)))) s')->
  codeAny (model X.prog X.w) X.A (.builtin "any.loop" ⟨[.ref it],[]⟩) R s:=by
 let⟨f0,f1,f2,f3,f4,f5⟩:=f;intro k
 induction k with
 |zero =>
  intro i s hk I st hR;let⟨bY,rv,pl,hz⟩:=I.tuple hq;let hl:=rv.length;show jU Nm ?_;rw[j5 wQ _];show wpAny _ X.A.in1 (pyNext (.ref it) >>= _) _ _ s;show M (wpAny_pyNext_tuple_end (I.ok.hd hc) st (show s.heap.IsTuple p bY.toArray from pl) (by simp;omega) λh' eb=>?_);show M (j9 (ao ?_));let q:=hR _ (I.turned (t':=s.toks) (λb o hb e=>eb b o hb e) f0 f1 f3 f4 f5);let hlb:bs.length=ys.length:=(aU ht).symm;rw[GD ()]at q;show q
 |succ k ih =>
  intro i s hk I st hR;let⟨bY,rv,pl,hz⟩:=I.tuple hq;let hl:=rv.length;let hlt:i<ys.length:=()
  let hx:ys[i]?=some ys[i]:=by simp[hlt]
  let⟨u,hu,ru⟩:=rv.get hx;let⟨b,hb,tb⟩:=ht.get hx;show jU Nm ?_;rw[j5 wQ _];show wpAny _ X.A.in1 (pyNext (.ref it) >>= _) _ _ s;show M (wpAny_pyNext_tuple_item st (show s.heap.IsTuple p bY.toArray from pl) (x:=u) () λh' st' sb=>?_);let I1:bF X Y σ H (s•h'):=I.turned (t':=s.toks) (λb o hb e=>(sb.2 b hb).trans e) f0 f1 f3 f4 f5;let hdb:bs.drop i=b::bs.drop (i+1):=by
   let⟨hlb,eb⟩:=dY.mp hb;rw[yM hlb,eb]
  rw[hdb]at hR;let I1p:bF X (Y++rY [it] h') σ H (s•h'):=I1.pinned (fp:=[it]) (λc hcc=>by rw[bQ.mp hcc];show⟨f0,f1,f2,f3,f4,f5⟩) λc hcc=>by
   rw[bQ.mp hcc];let⟨o,e,c',d⟩:=st';grind
  show M (eG (iJ (Om (X:=X.in1.nox) _ _ σ H ys[i] u (λc H'=>c=b/\H'=H) ((bF.in1 I1p).wish _) ru ⟨b,tb,Z,Z⟩) (λc s2 ⟨H',I2,e1,e2⟩=>?_) λ_ _ z=>False.elim z));rw[e2]at I2;subst e1;let I2':bF X (Y++rY [it] h') σ H s2:=bF.of_in1 I2.rW;let QH:bF X Y σ H s2:=I2'.uN;let st2:s2.heap.IsTupleIter it p (i+1):=st'.at λo e=>(I2'.pin (it,o) (gq _ (gq _ (oO (bQ.mpr Z) e)))).1;show M (zj ?_);cases c with
  |false =>
   simp only[Bool.false_eq_true,if_false];show ao ⟨lU wQ _,ih (i+1) s2 () QH st2 λs' I'=>by simpa using hR s' I'⟩
  |true =>
   simp only[if_true];show M (j9 (ao ?_));simpa using hR s2 QH
def S5(hc:X.calm=true):jE X (.builtin "any") (λxs H Q=>∃p ys bs,xs=[.ref p]/\cO X.K H p ys/\jo X.K H ys bs/\Q (.bl (bs.any id)) H):=by
 intro Y s σ H xs us Q I r h;let⟨p,ys,bs,rfl,hq,ht,q⟩:=h;let⟨u,rfl,rx⟩:=vals1 r;cases rx;show UG F.kind_any F.plain_any F.entry_any (F.args_any1 _) ?_;unfold Builtin.«any»;show M (m:=oneArg "any" _) (ao ?_);let⟨bY,rv,pl,hz⟩:=I.tuple hq;show M (M6 (show s.heap.IsTuple p bY.toArray from pl) ?_);let I1:bF X Y σ H (s•s.heap.push { cls:=.type "tuple_iterator",data:=.fields #[.ref p,.int 0 0]}):=I.kept (t':=s.toks) λb o e=>bM _ e;show ao ⟨lU wQ _,Ø hc hq ht (I.Fq (aK _) (I.hok.fresh (aK _))) ys.length 0 _ (wX _) I1 ⟨_,cB _ Z,Z,Z⟩ λs' I'=>?_⟩;show⟨.bl _,H,I',Z,by simpa using q⟩
end
def a7F(K:aH):af->Hp->VK->Prop:=λxs H Q=>∃p ys bs,xs=[.ref p]/\cO K H p ys/\jo K H ys bs/\Q (.bl (bs.any id)) H
def JG{X:Cx}{K:aH}(e:X.K=K)(hc:X.calm=true):jE X (.builtin "any") (a7F K):=by subst e;show S5 hc
end L2
namespace L2
open PyProof.Rows Bg
section
variable{X:Cx}
def a7G(t:TS):TS:=λD σ H=>t { D with nx:=λσ1 H1=>∃d J,H1 d=some (.dT J)/\∀o,D.nx σ1 (cX H1 d (.iw o (.dT J)))} σ H
def a5q{st:Stmt}{t:TS}(h:PS X st t):PS X st (a7G t):=by
 intro Y s σ H D I q;show jr (h Y s σ H _ I q) λf s1 z=>?_;cases f with
 |next =>
  let⟨σ1,H1,I1,d,J,e,q1⟩:=z;let⟨_,_,xs,_,o,_,_,ho,_⟩:=Bb I1.hok e;show⟨σ1,_,I1.O9 (o':=.iw o (.dT J)) e (λ_ z=>by cases z) (λ_ z=>by cases z) (λ_ z=>by cases z) (I1.Rn e λ_ _ z=>by cases z) ⟨ho,I1.hok d _ e⟩,q1 o⟩
 |brk=>show z
 |cont=>show z
 |ret u=>show z
end
end L2
namespace Te
open PyProof.Rows
open AutoSeq1 (wpAny_loadPart')
variable{Q:∅}
section
variable{prog:Program}{w:World}{A:Around}{E:∅}{s:Shared}{q t:Addr}{i:Nat}{ys:Array Value}
def nref(t:Addr):¬((Value.ref t==Value.none)=true):=cL
def more{y:Value}(hq:s.heap.IsTupleIter q t i)(ht:s.heap.IsTuple t ys)(hy:ys[i]?=some y)
  (k:∀g,g.IsTupleIter q t (i+1)->Heap.SameBut q s.heap g->Q y (s•g)):∎ (Builtin.SmallTypes.nextOf (.ref q)) Q E s:=by
 let ty:=hq.typeIs;let⟨oq,g1,g2,g3⟩:=hq;let⟨ot,g4,_,m,g5⟩:=ht;unfold Builtin.SmallTypes.nextOf;show M (nD (name:=Str.ofString "__next__") ty Mi (gG Mi ty ì ((show wpAny _ _ (field (.ref q) 0 >>= _) _ _ s from M (gM g1 g3 (x:=.ref t) Z ((show wpAny _ _ (if(Value.ref t==Value.none)=true then _ else _) _ _ s from ?_))))) (ë _)));rw[aA (nref t)];show(show wpAny _ _ (field (.ref q) 1 >>= _) _ _ s from M (gM g1 g3 (x:=.int i 0) Z ((show wpAny _ _ (seqItems? (.ref t) >>= _) _ _ s from M (qG g4 g5 ?_)))));simp only[Int.toNat_natCast,hy];show M (wpAny_setField g1 g3 (by simp) (ao ⟨y,Z,ao (k _ ⟨_,Cy _ g1 (Obj.isFreed_of_fields (Obj.data_mapFields g3 _)),(Obj.cls_mapFields ..).trans g2,?_⟩ (qF ..))⟩));rw[Obj.data_mapFields g3];simp[rawInt]
def a2r(hh:A.handled=none)(hq:s.heap.IsTupleIter q t i)(ht:s.heap.IsTuple t ys)(hy:ys[i]?=none)
  (k:∀g e,Heap.ExtBut q s.heap g->(∃o,g.get? e=some o/\o.cls=.type "StopIteration")->E (.ref e) (s•g)):∎ (Builtin.SmallTypes.nextOf (.ref q)) Q E s:=by
 let ty:=hq.typeIs;let⟨oq,g1,g2,g3⟩:=hq;let⟨ot,g4,_,m,g5⟩:=ht;unfold Builtin.SmallTypes.nextOf;show M (nD (name:=Str.ofString "__next__") ty Mi (gG Mi ty ì ((show wpAny _ _ (field (.ref q) 0 >>= _) _ _ s from M (gM g1 g3 (x:=.ref t) Z ((show wpAny _ _ (if(Value.ref t==Value.none)=true then _ else _) _ _ s from ?_))))) (ë _)));rw[aA (nref t)];show(show wpAny _ _ (field (.ref q) 1 >>= _) _ _ s from M (gM g1 g3 (x:=.int i 0) Z ((show wpAny _ _ (seqItems? (.ref t) >>= _) _ _ s from M (qG g4 g5 ?_)))));simp only[Int.toNat_natCast,hy];show M (j9 (M (wpAny_setField g1 g3 (by simp) (show wpAny _ _ (newExc (.type "StopIteration") [] >>= _) _ _ _ from M ?_))));simp only[newExc,newTuple];show M (jT (M (m:=firstArgMember _ _) (Hq (a:=Value.none) (by first|rfl|(simp only[firstArgMember];rfl)) (jT ?_ (by size_fits)))) (by size_fits));simp only[raiseNew];show M (N6 ?_);first
  |rw[show A.in1.handled=none from hh]
  |rw[hh]
 show M (ao (Oe (k _ _ (((qF ..).extBut.push _).push _) ⟨_,cB _ Z,Z⟩)))
def keepI{h h':Heap}(x:h.IsTupleIter q t i)(k:∀o,h.get? q=some o->h'.get? q=some o):h'.IsTupleIter q t i:=by
 let⟨o,e,r⟩:=x;show⟨o,k o e,r⟩
def a3j{h h':Heap}(x:h.IsTuple t ys)(k:∀o,h.get? t=some o->h'.get? t=some o):h'.IsTuple t ys:=by
 let⟨o,e,r⟩:=x;show⟨o,k o e,r⟩
def draws(hh:A.handled=none)(q t:Addr)(ne:t≠q)(ys:Array Value):Draws prog w A q [q,t] ys.size (λj v=>ys[j]?=some v) (λj h=>h.IsTupleIter q t j/\h.IsTuple t ys) where
 live:=λ_ _ st=>by
  let⟨⟨o,e,_⟩,_⟩:=st
  grind
 frame:=λ_ _ _ st k=>⟨keepI st.1 λo e=>k q (by simp) o e,a3j st.2 λo e=>k t (by simp) o e⟩
 item:=λj s Q E lt st k=>more st.1 st.2 (y:=ys[j]) (by simp[lt]) λg hg sb=>k _ g s.toks (by simp[lt]) ⟨hg,a3j st.2 λo e=>sb.extBut _ _ ne e⟩ sb
 done:=λs Q E st k=>a2r hh st.1 st.2 (by simp) k
end
set_option tactic.hygienic true in
def Χ(t:Addr)(ys:Array Value)(m:Nat)(dct:Option Addr)(sl:Array (Option Value)) :
  Meets (Builtin.«enumerate.__new__» ⟨[.type "enumerate",.ref t],[]⟩) (λ_ R s=>s^^^t=some { cls:=.type "tuple",dict:=dct,data:=.seq ys m,slots:=sl}/\
   R (.ok (.ret (.ref (s.heap.push { cls:=.type "tuple_iterator",data:=.fields #[.ref t,.int 0 0]}).objs.size))) (s•(s.heap.push { cls:=.type "tuple_iterator",data:=.fields #[.ref t,.int 0 0]}).push { cls:=.type "enumerate",data:=.fields #[.none,.bool false,.ref s⁻¹,rawInt 0,.none,.none]})) :=
 .of_wp λprog w A R s h=>by
  let⟨hp,g,d,tk,os⟩:=s;let⟨hl,h⟩:=h;let sub:=sub_enumerate;let hT:Heap.IsTuple (Shared.heap ⟨hp,g,d,tk,os⟩) t ys:=⟨_,hl,Z,m,Z⟩
  wp_walk using yX hl
  show wpAny_stack_any λst=>ao ?_;split
  ·rename_i c _ _ _ _ _;cases(c==Value.type "enumerate")<;>(wp_walk using yX hl,M6 hT;show⟨_,Z,h⟩)
  ·wp_walk using yX hl,M6 hT
   show⟨_,Z,h⟩
section
variable{prog:Program}{w:World}{A:Around}{E:∅}{s:Shared}
def Ù{t:Addr}{ys:Array Value}(hT:s.heap.IsTuple t ys)
  (h:∀g,IsEnum g (s⁻¹+1) s⁻¹ 0 .none->g.IsTupleIter s⁻¹ t 0->(∀b o,s^^^b=some o->g.get? b=some o)->Q (.ref (s⁻¹+1)) (s•g)) :
  ∎ (call (.type "enumerate") [.ref t]) Q E s:=by
 let⟨⟨c,dct,dt,sl⟩,hl,hc,n,hd⟩:=hT;replace hc:c=.type "tuple" := hc;replace hd:dt=.seq ys n:=hd;subst hc hd;show callType_new PySem.F.called_enumerate () (PySem.F.typeCall_enumerate_1 _) (PySem.F.newCall_enumerate_1 _) (λobj=>PySem.F.args_object_init_2 obj _) PySem.F.entry_enumerate_new (Χ t ys n dct sl) ⟨hl,?_⟩;let sz:(s.heap.push { cls:=.type "tuple_iterator",data:=.fields #[.ref t,.int 0 0]}).objs.size=s⁻¹+1:=oK ..;show _/\_;rw[sz];let he:IsEnum ((s.heap.push { cls:=.type "tuple_iterator",data:=.fields #[.ref t,.int 0 0]}).push { cls:=.type "enumerate",data:=.fields #[.none,.bool false,.ref s⁻¹,rawInt 0,.none,.none]}) (s⁻¹+1) s⁻¹ 0 .none:=by
  let:=cB (s.heap.push { cls:=.type "tuple_iterator",data:=.fields #[.ref t,.int 0 0]}) (o:={ cls:=.type "enumerate",data:=.fields #[.none,.bool false,.ref s⁻¹,rawInt 0,.none,.none]}) rfl;rw[sz]at this;show this
 show⟨⟨_,he,Z⟩,h _ he ⟨_,bM _ (cB _ Z),Z,Z⟩ λb o x=>bM _ (bM _ x)⟩
end
end Te
namespace L2
open PyProof.Rows
variable{K:aH}
def Ω(K:aH)(a:Addr):It :=
 ⟨λi H=>∃xs x,cO K H a xs/\xs[i]?=some x,λi H x H'=>∃p y,x=.ref p/\iH H p (.tup [.int i,y]) H'/\∀xs,cO K H a xs->xs[i]?=some y,λi H=>∃xs,cO K H a xs/\xs.length=i⟩
def Ma{h:Heap}{a it:Addr}{ys:Array Value}{i:Nat}(ht:h.IsTuple a ys)(hi:h.IsTupleIter it a i):a≠it:=λz=>by
 let⟨o,e,c,_⟩:=ht;let⟨o',e',c',_⟩:=hi;grind
def Xk{P:Program}{w:World}{elts:ba}{k:Nat}{pos:Pos}(a it e:Addr)(hei:e≠it):Turn P w K (.Tuple elts k pos) (Ω K a) [e,it] e (λi h=>(∃old,IsEnum h e it i old)/\h.IsTupleIter it a i) where
 mem:=by simp
 obj:=λi h st b hb=>by
  let⟨⟨old,he⟩,hit⟩:=st
  rcases bT.mp hb with rfl|hb
  ·grind
  ·rw[bQ.mp hb]
   let⟨o,e1,c,d⟩:=hit
   grind
 keep:=λi h h' st kk=>by
  let⟨⟨old,he⟩,hit⟩:=st
  show⟨⟨old,kk e (by simp) _ he⟩,Te.keepI hit λo q=>kk it (by simp) o q⟩
 item:=by
  intro X hP hw hK hc i Y s σ H E I hf st hg
  subst hP hw hK
  let⟨xs,x,hq,hx⟩:=hg
  let⟨bY,rv,pl,hz⟩:=I.tuple hq
  let pl:s.heap.IsTuple a bY.toArray:=pl
  let⟨u,hu,ru⟩:=rv.get hx
  let⟨⟨old,he⟩,hit⟩:=st
  let hlt:i<bY.toArray.size:=by
   grind
  let hea:e≠a:=λz=>by
   let⟨o,e1,c,_⟩:=pl
   grind
  show wpAny_pyNext_enum_itemD (Te.draws (show X.A.in1.handled=none from I.ok.hd hc) it a (Ma pl hit) bY.toArray) he ⟨hit,pl⟩ hlt hei () λu' h' tk hu' ho hst hT hsz hk=>?_
  let eu:u'=u:=by
   let:bY[i]?=some u':=by simpa using hu'
   rw[hu]at this
   show(dO this).symm
  subst eu
  show⟨_,Z,ö ho λh2 he2 hs2=>?_⟩
  let eT:s⁻¹≠e:=iU (bw he)
  let iT:s⁻¹≠it:=by
   let⟨o,e1,_⟩:=hit
   show iU (bw e1)
  let hT2:h2.get? s⁻¹=some { cls:=.type "tuple",data:=.seq #[.int i tk,u']}:=(hs2.2 _ eT).trans hT
  let kp:∀b o,b∉[e,it]->s^^^b=some o->h2.get? b=some o:=λb o hb q=>by
   simp only[List.mem_cons,List.not_mem_nil,or_false,not_or]at hb
   show(hs2.2 b hb.1).trans (hk b o hb.1 hb.2 q)
  let I1:bF X Y σ H { s with heap:=h2,toks:=tk+1}:=(Gk I [e,it] (λc hc=>hf c hc) kp).tok (tk+1)
  let hfree:H s⁻¹=none:=I.hok.fresh (aK _)
  let I2:bF X Y σ (cX H s⁻¹ (.tup [.int i,x])) { s with heap:=h2,toks:=tk+1}:=by
   show bF.track I1 hfree I.sz (iU I.lt) (λy c q=>?_) (λp hp=>b7 (bw (I.pin p hp).1)) ⟨(by show 2<=sizeLine;decide),[.int i tk,u'],.cons ⟨_,Z⟩ (.cons ru .nil),⟨_,hT2,Z,_,Z⟩⟩
   let⟨v,oc,q1,_⟩:=I.cell y c q
   show b7 (bw q1)
  show⟨.ref s⁻¹,_,I2,Z,⟨_,x,Z,iH.nC hfree,λys hy=>by rw[I.Kl hy hq];show hx⟩,⟨⟨u',?_⟩,Te.keepI hst.1 λo q=>(hs2.2 it (Ne.symm hei)).trans q⟩,λb hb=>?_⟩
  ·grind
  ·let f0:=(hf b hb).1
   rw[aQ ?_]
   ·show f0
   grind
 done:=by
  intro X hP hw hK hc i Y s σ H E I hf st hg
  subst hP hw hK
  let⟨xs,hq,hx⟩:=hg
  let⟨bY,rv,pl,hz⟩:=I.tuple hq
  let pl:s.heap.IsTuple a bY.toArray:=pl
  let⟨⟨old,he⟩,hit⟩:=st
  let⟨g0,g1,g2,g3,g4,g5⟩:=hf it (by simp)
  let hl:bY.toArray.size=i:=by rw[gV,<-hx];show rv.length.symm
  show wpAny_pyNext_enum_endD (Te.draws (show X.A.in1.handled=none from I.ok.hd hc) it a (Ma pl hit) bY.toArray) he ⟨(),pl⟩ λh' eb=>⟨Z,I.turned (t':=s.toks) (λb o hb q=>eb b o hb q) g0 g1 g3 g4 g5⟩
 self:=λ_ _ _ _ _ st h=>by
  let⟨⟨old,he⟩,_⟩:=st
  show Nb he h
section
variable{X:Cx}
def a5r(K:aH)(ta:TA):TI:=λσ H R=>ta σ H λvs H1=>∃a,vs=[.ref a]/\(∃xs,cO K H1 a xs)/\R (Ω K a) H1
def η{elts:ba}{k:Nat}{tpos:Pos}{l:Expr}{ta:TA}{p pos:Pos}(e0:X.K=K)(hg:Gl X "enumerate")(hm:X.mg "enumerate" = none)(ha:PA X [l] ta)(hs:@&(starEach [l] X.env=[(false,eval l X.env)])) :
  PI X (.Tuple elts k tpos) (.Call (.Name "enumerate" p) [l] [] pos) (a5r K ta):=by
 subst e0;intro Y s σ H R I h;show vB (uo I hg hm boot_enumerate (wJ (jr (ha pos Y s σ H _ I h) λus s1 ⟨vs,H1,I1,r1,q1⟩=>?_) hs (by rfl)));let⟨a,e,⟨xs,hq⟩,q⟩:=q1;subst e;let⟨u,rfl,ru⟩:=vals1 r1;cases ru;let⟨bY,rv,pl,hz⟩:=I1.tuple hq;show Te.Ù (show s1.heap.IsTuple a bY.toArray from pl) λh' he hit hk=>Nb he ?_;let I2:bF X Y σ H1 (s1•h'):=I1.kept (t':=s1.toks) hk;show⟨s1⁻¹+1,[s1⁻¹+1,s1⁻¹],_,_,H1,Z,I2,Xk a s1⁻¹ (s1⁻¹+1) (iU (wO _)),⟨⟨_,he⟩,hit⟩,λb hb=>?_,q⟩;let hb':s1⁻¹<=b:=by
  grind
 show I1.Fq hb' (I1.hok.fresh hb')
end
def Ú{a:Addr}{xs:af}{g:TG}{tb:TS}{D:Ends}{σ:St}{H:Hp}(Pv:Nat->St->Hp->Prop)(h0:Pv 0 σ H)(hl:∀i σ H,i<=xs.length->Pv i σ H->cO K H a xs)
  (hs:∀(i:Nat) x σ H p H',xs[i]?=some x->Pv i σ H->iH H p (.tup [.int i,x]) H'->g (.ref p) σ H' λσ2 H2=>tb { D with nx:=Pv (i+1),ct:=Pv (i+1),bk:=D.nx} σ2 H2) (hd:∀σ H,Pv xs.length σ H->D.nx σ H) :
  ∃W:Nat->Nat->St->Hp->Prop,(∃m,W 0 m σ H)/\∀i m σ H,W i m σ H->
   ((Ω K a).stop i H/\D.nx σ H)\/((Ω K a).go i H/\∃N:St->Hp->Prop,(∀σ' H',N σ' H'->∃m',m'<m/\W (i+1) m' σ' H')/\∀x H',(Ω K a).Xw i H x H'->g x σ H' λσ2 H2=>tb { D with nx:=N,ct:=N,bk:=D.nx} σ2 H2):=by
 show⟨λi m σ H=>m=xs.length-i/\i<=xs.length/\Pv i σ H,⟨xs.length,by simp,dG _,h0⟩,?_⟩;rintro i m σ H ⟨rfl,hi,p⟩;let q:=hl i σ H hi p;by_cases hlt:i<xs.length
 ·show .inr ⟨⟨xs,xs[i],q,by simp[hlt]⟩,Pv (i+1),λσ' H' p'=>⟨xs.length-(i+1),(),Z,hlt,p'⟩,λx H' y=>?_⟩;let⟨pp,y0,rfl,nw,ex⟩:=y;show hs i y0 σ H pp H' (ex xs q) p nw
 ·let e:i=xs.length:=()
  subst e;show .inl ⟨⟨xs,q,Z⟩,hd σ H p⟩
end L2
namespace K
open L2 Lw Bg
variable{P:Program}{w:World}{mg:Str->Option Value}{base:Heap}{a:Addr}{tup:Bool}{X:Cx}{bD cs ms:ae}{σ:St}{m:Nat}{cost:Int×Int->Int}{Q:VK}
abbrev vZ:Stmt:=top 35
def uM:bR ["numbers","met","number"] ["numbers"] (aG vZ):={}
abbrev qy:Stmt:=top 39
def Û:bR Bo Bo (aG qy):={}
namespace Lk
noncomputable def kvI(L:ae):List (Key×V):=L.zipIdx.map λx=>((Sum.inl x.1:Key),V.int ((x.2:Int)+1))
def a2s(L:ae):(kvI L).length=L.length:=by unfold kvI;rw[aJ,List.length_zipIdx]
def θ(L:ae)(x:Int):kvI (L++[x])=kvI L++[((Sum.inl x:Key),V.int ((L.length:Int)+1))]:=by
 unfold kvI;grind
def Qk{L:ae}(nd:L.Nodup)(x:Int):dI (kvI L) (Sum.inl x)=if x∈L then some (.int (((L.idxOf x+0:Nat):Int)+1))else none:=by
 unfold kvI;let go:∀(L:ae) (k:Nat),L.Nodup->dI ((L.zipIdx k).map λx=>((Sum.inl x.1:Key),V.int ((x.2:Int)+1))) (Sum.inl x)=if x∈L then some (.int (((L.idxOf x+k:Nat):Int)+1))else none:=by
  intro L
  induction L with
  |nil=>intro k _;rfl
  |cons y L ih =>
   intro k nd;let nd':=iQ.mp nd;let ih:=ih (k+1) nd'.2;unfold dI at ih ⊢;rw[List.zipIdx_cons,cA];by_cases c:y=x
   ·subst c;rw[vy (by show bh Z),aD aZ,Ut,Nat.zero_add];rfl
   ·rw[vz (by show λz=>c (Sum.inl.inj (dB z))),ih];by_cases d:x∈L
    ·rw[aD d,aD (bH _ d),Vj,show(y==x)=false by simpa using c];show some (V.int (((L.idxOf x+(k+1):Nat):Int)+1))=some (V.int (((L.idxOf x+1+k:Nat):Int)+1));congr 3;omega
    ·rw[aA d,aA (λz=>by rcases bT.mp z with z|z;show c z.symm;show d z)]
 show go L 0 nd
def Xl(L:ae)(a b:ae):firsts L (a++b)=firsts (firsts L a) b:=by
 induction a generalizing L with
 |nil=>rfl
 |cons x a ih=>show ih _
set_option tactic.hygienic true in
theorem Eh:∀{r L:ae},L.Nodup->(firsts L r).Nodup
 | [],_,h=>h
 |x::r,L,h=>by
  show(firsts (if 0<x/\x∉L then L++[x]else L) r).Nodup
  show Eh ?_
  split
  ·rename_i c
   show uf.mpr ⟨h,wL _ _,λa ha b hb e=>c.2 (by rw[<-bQ.mp hb,<-e];show ha)⟩
  ·show h
theorem zQ{y:Int}:∀{r L:ae},y∈firsts L r↔y∈L\/(0<y/\y∈r)
 | [],L=>by simp[firsts]
 |x::r,L=>by
  show y∈firsts (if 0<x/\x∉L then L++[x]else L) r↔_
  rw[zQ (r:=r)]
  grind
theorem JH:∀{r L:ae},(firsts L r).length<=L.length+r.length
 | [],_=>aK _
 |x::r,L=>by
  show cC (JH (r:=r)) ?_
  rw[iM]
  split
  ·rw[bK];show L.length+1+_<=_;omega
  ·omega
end Lk
def sS(K:aH)(tup:Bool)(H:Hp)(a:Addr)(ns:ae):Prop:=match tup with
 |true=>cO K H a (ns.map V.int)
 |false=>bB K H a (ns.map V.int)
def sS.keep{K:aH}{H H':Hp}{ns:ae}(s:aL H H')(h:sS K tup H a ns):sS K tup H' a ns:=by
 cases tup with
 |true=>show s.vP h
 |false=>show s.seq h
def ItN(K:aH)(tup:Bool)(a:Addr):It:=match tup with
 |true=>Itt K a
 |false=>â K a
def a7H(K:aH)(tup:Bool)(tl:TE):TI:=match tup with
 |true=>a3A K tl
 |false=>ĉ K tl
noncomputable def a7I(K:aH)(tup:Bool):R2:=match tup with
 |true=>a0I K
 |false=>a0H K
def Xm{K:aH}{tg l:Expr}{tl:TE}(e:X.K=K)(hl:PE X l tl):PI X tg l (a7H K tup tl):=by
 cases tup with
 |true=>show Gf e hl
 |false=>show dU e hl
def ξ{K:aH}(e:X.K=K):IxR X (a7I K tup):=by
 cases tup with
 |true=>show aO e
 |false=>show bf e
def Xn{K:aH}{i:Nat}{H:Hp}{ns:ae}{R:It->Hp->Prop}(hv:σ[i]?=some ⇑a)(h:sS K tup H a ns)(q:R (ItN K tup a) H):a7H K tup (Vq i) σ H R:=by
 cases tup with
 |true=>show⟨_,hv,a,Z,⟨_,h⟩,q⟩
 |false=>show⟨_,hv,a,Z,⟨_,h⟩,q⟩
def ο{K:aH}{H:Hp}{ns:ae}{j:Nat}(h:sS K tup H a ns)(hj:j<ns.length)(q:Q (.int (fU ns j)) H):a7I K tup (.ref a) (.int j) H Q:=by
 cases tup with
 |true=>show⟨a,_,_,_,Z,Z,h,ç hj,q⟩
 |false=>show⟨a,_,_,_,Z,Z,h,ç hj,q⟩
def a2t{K:aH}{ns:ae}{g:TG}{tb:TS}{D:Ends}{H:Hp}(Pv:Nat->St->Hp->Prop)(h0:Pv 0 σ H)(hl:∀i σ H,i<=(ns.map V.int).length->Pv i σ H->sS K tup H a ns)
  (hs:∀i x σ H,(ns.map V.int)[i]?=some x->Pv i σ H->g x σ H λσ2 H2=>tb { D with nx:=Pv (i+1),ct:=Pv (i+1),bk:=D.nx} σ2 H2) (hd:∀σ H,Pv (ns.map V.int).length σ H->D.nx σ H) :
  ∃W:Nat->Nat->St->Hp->Prop,(∃m,W 0 m σ H)/\∀i m σ H,W i m σ H->
   ((ItN K tup a).stop i H/\D.nx σ H)\/((ItN K tup a).go i H/\∃N:St->Hp->Prop,(∀σ' H',N σ' H'->∃m',m'<m/\W (i+1) m' σ' H')/\∀x H',(ItN K tup a).Xw i H x H'->g x σ H' λσ2 H2=>tb { D with nx:=N,ct:=N,bk:=D.nx} σ2 H2):=by
 cases tup with
 |true=>show Xz Pv h0 hl hs hd
 |false=>show uO Pv h0 hl hs hd
def ς{K:aH}{ns:ae}{ix:List (Option Nat)}{g:TG}{tt:TT}{te:TE}{H1:Hp}(Pv:Nat->af->Hp->Prop)(h0:Pv 0 [] H1)(hl:∀i ys H,i<=(ns.map V.int).length->Pv i ys H->sS K tup H a ns/\ys.length<=sizeLine)
  (hs:∀i x ys H,(ns.map V.int)[i]?=some x->Pv i ys H->g x (qg ix σ) H λσ2 H2=>tt σ2 H2 λb H3=>if b=true then te σ2 H3 λv H4=>Pv (i+1) (ys++[v]) H4 else Pv (i+1) ys H3)
  (hd:∀ys H,Pv (ns.map V.int).length ys H->∀p,H p=none->Q (.ref p) (cX H p (.lst ys))):lY ix g tt te σ H1 Q (ItN K tup a):=by
 cases tup with
 |true=>show YC Pv h0 hl hs hd
 |false=>show qU Pv h0 hl hs hd
inductive a2u(K:aH)(tup:Bool)(vs:af)(H:Hp)(Q:VK)(u_3:XK):Prop
 |mk (a:Addr) (ns:ae) (_:vs=[.ref a]) (_:sS K tup H a ns) (_:ns.length<=60) (_:∀p H',aL H H'->oW H' p (Lk.iK ns)->Q (.ref p) H')
inductive υ(K:aH)(tup:Bool)(vs:af)(H:Hp)(Q:VK)(u_3:XK):Prop
 |mk (a:Addr) (ns:ae) (i j:Nat) (_:vs=[.ref a,.int i,.int j]) (_:sS K tup H a ns) (_:ns.length<=60) (_:i<ns.length) (_:j<ns.length) (_:∀p H',aL H H'->H p=none->H' p=↥((Lk.TQ ns i j).map V.int)->Q (.ref p) H')
section
variable{K:aH}
abbrev S6(K:PySem.W.Frag)(mg:Str->Option Value):=Dn K mg "renumbered" vZ ["numbers"]
def qd(tup:Bool)(B:Bl mg)(jZ:S6 K mg):⋯ 1 jZ.f jZ.fd ["numbers"] (a2u K tup):=by
 show jZ.F.ok uM λdZ A outer s H vs Q E hr h=>?_;let⟨a,ns,rfl,ha,l6,q⟩:=h;show⟨_,(aB (aV 1 uM.nd Ri)
   (aB (iV iI Z (Xm (K:=K) (tup:=tup) Z (pv 0)) (aM 2 uM.nd)
   (aF (cJ (aN tE (pv 2) aq)
   (aF (eY (gZ (K:=K) Z rK Ms ô xT (pv 1) (O (pv 2) (O (bA dH (aW Ï Z B.len () (O (pv 1) aj)) aq) aj)))))
   bx)))
   (aF (bI (fZ ur Z B.tuple () (O (jF ["number","met"] [none,some 1]  (by kernel_rfl) Z (Xm (K:=K) (tup:=tup) Z (pv 0)) (λ_ _ _ _ _=>(aM 0 (show(["number","met"]:ag).Nodup by decide))) (λ_ _ _ _ _=>gk) λ_ _ _ _ _=>(gZ (K:=K) Z rK CG Uo a2q (pv 1) (O (pv 0) (O (pv 0) aj)))) aj)))))),?_⟩
 intro m hm;let n0:=iH.nC (H:=H) (p:=m) (o:=.dK []) hm;generalize cX H m (.dK [])=H0 at n0 ⊢;let nd:=Lk.Eh (r:=ns) (L:=[]) vH;let up:∀{G:Hp},(∀c o,c≠m->H0 c=some o->G c=some o)->aL H G:=λ{G} s c o e=>s c o (λz=>by grind) (n0.same _ _ e);show Xn Z (ha.keep n0.same) (Z0 (P:=λi σ G=>P3 (T1 (λo2=>[⇑a,⇑m,o2]) σ) (∀c o,c≠m->H0 c=some o->G c=some o) λ_:Unit=>G m=some (.dK (Lk.kvI (Lk.firsts [] (ns.take i))))) λZ97 ji ij=>a2t (ns:=ns) Z97 (ji _ _ _ ⟨⟨_,Z⟩,λ_ _ _ h=>h,⟨⟩,n0.here⟩) (λi σ G _ h=>ha.keep (up (ij _ _ _ h).s)) ?_ ?_)
 ·intro i x σ G hx h1;let⟨⟨o2,rfl⟩,sG,_,hG⟩:=ij _ _ _ h1;rw[cV]at hx;let⟨z,hz,rfl⟩:=j4.mp hx;let et:ns.take (i+1)=ns.take i++[z]:=by rw[iR,hz];rfl
  let nd':=Lk.Eh (r:=ns.take i) (L:=[]) vH;let lf:=Lk.JH (r:=ns.take i) (L:=[]);rw[dN]at lf;let lk:=Lk.a2s (Lk.firsts [] (ns.take i));let e2:Lk.firsts [] (ns.take (i+1))=if 0<z/\z∉Lk.firsts [] (ns.take i)then Lk.firsts [] (ns.take i)++[z]else Lk.firsts [] (ns.take i):=by rw[et,Lk.Xl];rfl
  show⟨_,Z,_,_,Z,Z,_,Z,qH (λc=>?_) λc=>?_⟩
  ·let c:0<z:=dB c;show⟨_,Z,.inr (.inr (.inl ⟨Z,.inl ⟨_,hG⟩⟩)),_,Z,_,Z,m,_,Z,hG,_,_,Z,Z,m,.inl z,_,_,Z,Z,hG,?_,λy hy=>?_,λhn G1 cg=>?_⟩
   ·grind
   ·show ji _ _ _ ⟨⟨_,Z⟩,sG,⟨⟩,?_⟩;rw[e2,aA]
    ·show hG
    ·rintro⟨_,nz⟩;rw[Lk.Qk nd',aA nz]at hy;cases hy
   ·let nz:z∉Lk.firsts [] (ns.take i):=λmz=>by
     rw[Lk.Qk nd',aD mz]at hn;cases hn
    show ji _ _ _ ⟨⟨_,Z⟩,λc o hc e=>by rw[cg.rest c hc];show sG c o hc e,⟨⟩,?_⟩;rw[e2,aD ⟨c,nz⟩,cg.here,Lk.θ,ŀ _ hn,lk]
  ·let c:¬0<z:=λh=>c (bh h);show ji _ _ _ ⟨⟨_,Z⟩,sG,⟨⟩,?_⟩;rw[e2,aA (λh=>c h.1)];show hG
 ·intro σ G h1;let⟨⟨o2,rfl⟩,sG,_,hG⟩:=ij _ _ _ h1;clear ji ij h1;rw[aJ,gJ]at hG;let sH:=up sG;show Xn Z (ha.keep sH) ?_;show ς (ns:=ns) (λi ys G'=>G'=G/\ys=((Lk.iK ns).take i).map V.int) ⟨Z,Z⟩ (λi ys G' hi ⟨e,ey⟩=>⟨by rw[e];show ha.keep sH,?_⟩) (λi x ys G' hx ⟨e,ey⟩=>?_) (λys G' ⟨e,ey⟩ pr hpr=>?_)
  ·let:(Lk.iK ns).length=ns.length:=by unfold Lk.iK;grind
   rw[ey,aJ,dN];show fC (dz ())
  ·subst e;rw[cV]at hx;let⟨z,hz,rfl⟩:=j4.mp hx;let er:(Lk.iK ns)[i]?=some (if 0<z then(((Lk.firsts [] ns).idxOf z:Nat):Int)+1 else z):=by unfold Lk.iK;rw[cV,hz];rfl
   show⟨_,Z,.inr (.inr (.inl ⟨Z,.inl ⟨_,hG⟩⟩)),_,Z,_,Z,m,.inl z,_,_,Z,Z,hG,Z,?_⟩;rw[ey,iR,er,cW];congr 1;show [(dI (Lk.kvI (Lk.firsts [] ns)) (.inl z)).getD (V.int z)]=[V.int (if 0<z then(((Lk.firsts [] ns).idxOf z:Nat):Int)+1 else z)];rw[Lk.Qk nd];by_cases c:0<z
   ·rw[aD c,aD (Lk.zQ.mpr (.inr ⟨c,gU hz⟩))];rfl
   ·rw[aA c,aA (λmz=>by rcases Lk.zQ.mp mz with z'|z';cases z';show c z'.1)];rfl
  ·subst e;rw[aJ,show ns.length=(Lk.iK ns).length by unfold Lk.iK;grind,gJ]at ey;let n1:=iH.nC (o:=.lst ys) hpr;generalize cX G' pr (.lst ys)=G1 at n1 ⊢;show⟨pr,ys,Z,.inl ⟨bB.of n1.here,λl hl=>?_⟩⟩;let n2:=iH.nC (o:=.tup ys) hl;show q l _ (sH.trans (n1.same.trans n2.same)) ?_;show _=some (HO.tup ((Lk.iK ns).map V.int));rw[<-ey];show n2.here
end
section
variable{K:aH}
def Mf(tup:Bool)(rB:Dn K mg "merged" qy Bo):⋯ 1 rB.f rB.fd Bo (υ K tup):=by
 show rB.F.ok Û λdZ A outer s H vs Q E hr h=>?_;let⟨a,ns,i,j,rfl,ha,l6,li,lj,q⟩:=h;show⟨_,(aF (bI (jF ["number","numbers","one","other"] [none,some 0,some 1,some 2]  (by kernel_rfl) Z (Xm (K:=K) (tup:=tup) Z (pv 0)) (λ_ _ _ _ _=>(aM 0 (show(["number","numbers","one","other"]:ag).Nodup by decide))) (λ_ _ _ _ _=>gk) λ_ _ _ _ _=>(qe (aN mZ (pv 0) (aP (ξ (K:=K) (tup:=tup) Z) (pv 1) (pv 3))) (aP (ξ (K:=K) (tup:=tup) Z) (pv 1) (pv 2)) (pv 0))))),Xn Z ha ?_⟩;let lm:(Lk.TQ ns i j).length=ns.length:=by unfold Lk.TQ;rw[aJ]
 show ς (ns:=ns) (λk ys G=>G=H/\ys=((Lk.TQ ns i j).take k).map V.int) ⟨Z,Z⟩ (λk ys G hk ⟨e,ey⟩=>⟨by rw[e];show ha,?_⟩) (λk x ys G hx ⟨e,ey⟩=>?_) (λys G ⟨e,ey⟩ pr hpr=>?_)
 ·rw[ey,aJ,dN];show fC (dz ())
 ·subst e;rw[cV]at hx;let⟨z,hz,rfl⟩:=j4.mp hx;let er:(Lk.TQ ns i j)[k]?=some (if z=fU ns j then fU ns i else z):=by unfold Lk.TQ;rw[cV,hz];rfl
  rw[ey,iR,er,cW];show⟨_,Z,_,Z,_,Z,ο ha lj ⟨Z,_,Z,qH (λc=>?_) λc=>?_⟩⟩
  ·let c:z=fU ns j:=V.int.inj (dB c);rw[aD c];show⟨_,Z,_,Z,ο ha li ⟨Z,Z⟩⟩
  ·let c:¬z=fU ns j:=λe=>c (bh (congrArg V.int e));rw[aA c];show⟨_,Z,Z,Z⟩
 ·subst e;rw[aJ,<-lm,gJ]at ey;let n1:=iH.nC (o:=.lst ys) hpr;show q pr _ n1.same n1.fresh (by rw[n1.here,ey])
end
namespace Lk
def xU{s:dF}(h:qw m s=true):s.length=m+1:=by
 unfold qw at h;rw[fX]at h;simpa using h.1
def S7{s:dF}(h:qw m s=true):(∃r,s=1::r/\r.length=m/\∀x∈r,x=0)\/∃r,s=0::r/\r.length=m/\(∀x∈r,0<=x/\x<=(m:Int))/\iK r=r:=by
 let l:=xU h;unfold qw at h;rw[fX,Nz]at h;cases s with
 |nil=>cases l
 |cons a r =>
  let lr:r.length=m:=by simpa using l
  rcases h.2 with h|h
  ·rw[fX,gH]at h;let e:a=1:=by simpa [fU]using h.1
   grind
  ·rw[fX,fX,gH]at h;let e:a=0:=by simpa [fU]using h.1.1
   show .inr ⟨r,by rw[e],lr,λx hx=>by simpa using h.1.2 x hx,by simpa using h.2⟩
end Lk
inductive TY(C:Addr)(n:Nat)(ts:ar)(bD cs:ae)(H:Hp)(d:Addr):Prop
 |mk (dx pg pt:Addr) (xs:af) (l u pw pc:Addr) (ob:Obj) (_:H d=some (.ins C dx (fsQ pg (.ref l) (.ref u)++[(("told" : Str),V.ref pw),(("costs" : Str),V.ref pc)]))) (_:H pg= ~~~[.int n,.ref pt]) (_:H pt=↥xs) (_:Paired (qI H) xs ts) (_:ts.length<=1000) (_:oW H l [0]) (_:oW H u [1]) (_:H pw=↥(bD.map V.int)) (_:H pc=some (.iw ob (.dT ((ts.map pK).zip (cs.map V.int)))))
def TY.keep{C:Addr}{n:Nat}{ts:ar}{H H':Hp}{d:Addr}(a:Nd H H')(h:TY C n ts bD cs H d):TY C n ts bD cs H' d:=by
 let⟨dx,pg,pt,xs,l,u,pw,pc,ob,h1,h2,h3,h4,h5,h6,h7,h8,h9⟩:=h;show⟨dx,pg,pt,xs,l,u,pw,pc,ob,a _ _ (λ_ z=>by cases z) (λ_ z=>by cases z) h1,a.tups _ _ h2,a.lst h3,Paired.cD h4 λ_ _ z=>WX a.tups z,h5,a.tups _ _ h6,a.tups _ _ h7,a.lst h8,a _ _ (λ_ z=>by cases z) (λ_ z=>by cases z) h9⟩
def TY.ins{K:aH}{C:Addr}{n:Nat}{ts:ar}{bD cs:ae}{H:Hp}{d:Addr}(h:TY C n ts bD cs H d):∃dx fs,H d=some (.ins C dx fs)/\(∀m,m∈(Yo:ag)->fs.lookup m=none)/\
  (∃a,fs.lookup ("leaf" : Str)=⇑a/\oW H a [0])/\(∃a,fs.lookup ("whole" : Str)=⇑a/\oW H a [1])/\∃g,fs.lookup ("graph" : Str)=some g/\uw K H g n ts:=by
 let⟨dx,pg,pt,xs,l,u,pw,pc,ob,h1,h2,h3,h4,h5,h6,h7,h8,h9⟩:=h;show⟨dx,_,h1,λm hm=>?_,⟨l,Z,h6⟩,⟨u,Z,h7⟩,.ref pg,Z,pg,pt,Z,cO.of h2,xs,bB.of h3,Paired.cD h4 λ_ _ ⟨p,e,h⟩=>⟨p,e,cO.of h⟩,h5⟩;let go:∀m∈(Yo:ag),(m==("graph" : Str))=false/\(m==("leaf" : Str))=false/\(m==("whole" : Str))=false/\(m==("told" : Str))=false/\(m==("costs" : Str))=false:=()
 let⟨g1,g2,g3,g4,g5⟩:=go m hm;unfold fsQ;simp only[List.cons_append,List.nil_append,List.lookup_cons,g1,g2,g3,g4,g5,List.lookup_nil]
def a2v{ts:ar}(l:cs.length=ts.length){t:Int×Int}(h:t∈ts):dI ((ts.map pK).zip (cs.map V.int)) (pK t)=some (.int (cs.getD (ts.idxOf t) 0)):=by
 induction ts generalizing cs with
 |nil=>cases h
 |cons a ts ih =>
  cases cs with
  |nil=>cases l
  |cons c cs =>
   unfold dI at ih ⊢;rw[cA,cA,List.zip_cons_cons];by_cases e:a=t
   ·subst e;rw[vy (by show bh Z),Ut];rfl
   ·rw[vz (by show λz=>e (Ņ (dB z))),ih (by simpa using l) ((bT.mp h).resolve_left λz=>e z.symm),Vj,show(a==t)=false by simpa using e];rfl
noncomputable def S8(ts:ar)(cs:ae)(t:Int×Int):Int:=cs.getD (ts.idxOf t) 0
theorem Mg{P:Program}{w:World}:∀bs:List Bool,Paired (λv (x:Bool)=>∀u,cZ v u->(Dk.Ie P w).is x u=true) (bs.map V.bl) bs
 | []=>.nil
 |b::bs=>.cons (λu e=>by
   let e:u=Value.bool b:=e
   rw[e]
   show Nq b) (Mg bs)
section
variable{K:aH}{C:Addr}{n:Nat}{ts:ar}
def wI{κ:Type} [DecidableEq κ] (d_:Dm K C "is_better" "Question.is_better" jc xq) (pq:PQ κ) (hb:pq.bt=λa b=>decide (a<b)) (At:Hp->Addr->Prop):⋯ 1 d_.f d_.fd xq (Ry pq At):=by
 show d_.F.ok wF λdZ A outer s H vs Q E hr h=>?_;let⟨d,a,b,rfl,hD,q⟩:=h;show⟨_,(aF (bI (xY Ac (pv 1) (pv 2)))),?_⟩;rw[hb]at q;show⟨_,Z,_,Z,_,_,Z,Z,q⟩
def FQ(B:Bl mg)(d_:Dm K C "shared" "Links.shared" nJ KN)(At:Hp->Addr->Prop):⋯ 1 d_.f d_.fd KN (Rz (Dk.Ie P w) (yx bD cost) At):=by
 show d_.F.ok FJ λdZ A outer s H vs Q E hr h=>?_;let⟨d,a,m,st,rfl,hD,ha,ok,m4,q⟩:=h;let l1:=Lk.xU (ok m4);show⟨_,(aF (bI (fZ ur Z B.tuple () (O (jF ["number"] [none]  (by kernel_rfl) Z (Gf (K:=K) Z (dD jL (pv 1) (d7 aq) fK)) (λ_ _ _ _ _=>(aM 0 (show(["number"]:ag).Nodup by decide))) (λ_ _ _ _ _=>gk) λ_ _ _ _ _=>(xY tE (pv 0) aq)) aj)))),⟨_,Z,_,Z,a,_,Z,ha,λb1 H1 s1 h1=>?_⟩⟩;try dsimp only at h1
 rw[show(1:Int)=((1:Nat):Int)from Z,pQ st 1 ()]at h1;show⟨b1,Z,⟨_,cO.of h1⟩,?_⟩;show YC (K:=K) (a:=b1) (xs:=(st.drop 1).map V.int) (λi ys G=>G=H1/\ys=(((st.drop 1).take i).map λx=>decide (0<x)).map V.bl) ⟨Z,Z⟩ (λi ys G hi ⟨e,ey⟩=>⟨by rw[e];show cO.of h1,?_⟩) (λi x ys G hx ⟨e,ey⟩=>?_) (λys G ⟨e,ey⟩ pr hpr=>?_)
 ·rw[ey,aJ,aJ,dN,gw];show fC (dz ())
 ·subst e;rw[cV]at hx;let⟨y,hy,rfl⟩:=j4.mp hx;show⟨_,Z,_,_,Z,Z,Z,?_⟩;rw[ey,iR,hy,cW,cW];rfl
 ·subst e;rw[aJ,gJ]at ey;let n1:=iH.nC (o:=.lst ys) hpr;generalize cX G pr (.lst ys)=G1 at n1 ⊢;show⟨pr,ys,Z,.inl ⟨bB.of n1.here,λl hl=>?_⟩⟩;let n2:=iH.nC (o:=.tup ys) hl;show q l _ (s1.trans (n1.same.trans n2.same)) ⟨ys,n2.here,?_⟩;rw[ey];show Paired _ _ (st.tail.map λx=>decide (0<x));rw[<-CW];show Mg _
end
section
variable{K:aH}{C:Addr}{n:Nat}{ts:ar}
def TY.a7J{H:Hp}{d:Addr}(h:TY C n ts bD cs H d):∃dx fs pw,H d=some (.ins C dx fs)/\fs.lookup ("told" : Str)=⇑pw/\H pw=↥(bD.map V.int):=by
 let⟨dx,pg,pt,xs,l,u,pw,pc,ob,h1,h2,h3,h4,h5,h6,h7,h8,h9⟩:=h;show⟨dx,_,pw,h1,Z,h8⟩
def TY.costs{H:Hp}{d:Addr}(h:TY C n ts bD cs H d):∃dx fs pc ob,H d=some (.ins C dx fs)/\fs.lookup ("costs" : Str)=⇑pc/\H pc=some (.iw ob (.dT ((ts.map pK).zip (cs.map V.int)))):=by
 let⟨dx,pg,pt,xs,l,u,pw,pc,ob,h1,h2,h3,h4,h5,h6,h7,h8,h9⟩:=h;show⟨dx,_,pc,ob,h1,Z,h9⟩
def YW(s:dF)(p:Nat)(x:Int):(xP s p x).length=s.length+1:=by
 unfold xP;grind
def Gy(ns:ae):(Lk.iK ns).length=ns.length:=by unfold Lk.iK;rw[aJ]
def a7K{H:Hp}{b:Addr}{J:List (aS×V)}{k:aS}(e:Rd H a (.dT J))(eb:H b= ~~~(k.map kV)):Fv H a (.ref b) (dI J k):=.inr ⟨J,k,b,e,Z,eb,Z⟩
def FT(B:Bl mg)(cl:Cls K C)(nt:jC K C "told")(d_:Dm K C "put_in" "Links.put_in" kW yF)(uI:Dn K mg "with_number" jq Fb)(jZ:S6 K mg):⋯ 2 d_.f d_.fd yF (a2R (yx bD cost) (TY C n ts bD cs)):=by
 let a7L:⋯ 1 _ _ _ _:=Jk uI;let Xo:⋯ 1 _ _ _ _:=qd true B jZ;show d_.F.ok qM λdZ A outer s H vs Q E hr h=>?_;let⟨d,a,m,spot,v,st,rfl,hD,ha,ok,m4,sp,q⟩:=h;let hv:(A.deeper (PyProof.Rows.envOfC "Links.put_in" (aG kW) s⁻¹ d_.f dZ)).units+65<cLine:=by let:=hr.un;omega
 let ls:=Lk.xU (ok m4);show⟨_,(aB (aV 4 qM.nd (cH aj))
   (g8 (cJ (aN (gO (K:=K) Z hv) (pv 3) (Gm (K:=K) Z (pv 0) Z) (by with_unfolding_all rfl))
   (aF (eY (gZ (K:=K) Z gR PySem.F.slot_list_append PySem.F.type_list_append fL (pv 4) (O (bL (O (aY a7L hr Z uI.m uI.F.kp uI.b .nil bZ (O (pv 1) (O (bA dH (pv 2) aq) (O aq aj)))) (O aq aj))) aj))))
   bx)
   (g8 (cJ (mR (cY (K:=K) Z (aP (aO (K:=K) Z) (pv 1) aq) λ_=>rfl))
   (aB (aV 5 qM.nd (aY a7L hr Z uI.m uI.F.kp uI.b .nil bZ (O (dD jL (pv 1) (d7 aq) fK) (O (pv 2) (O (aW (b8 (K:=K) Z) Z B.len () (O (pv 1) aj)) aj)))))
   (aF (eY (gZ (K:=K) Z gR PySem.F.slot_list_append PySem.F.type_list_append fL (pv 4) (O (bL (O (bA tU (bL (O aq aj)) (aY Xo hr Z jZ.m jZ.F.kp jZ.b .nil bZ (O (pv 5) aj))) (O aq aj))) aj)))))
   bx)
   (aF (bI (pv 4)))))),?_⟩
 show⟨(),λpT H1 n1=>?_⟩;let⟨dx,fs,pw,h1,hl,hw⟩:=hD.a7J;obtain⟨L0,eL0⟩:∃L0:List (dF×Int),L0=if(v:Int)∈bD then []else [(xP st (spot+1) 0,(0:Int))]:=⟨_,Z⟩
 show Bt (P:=λσ' G=>∃xs,σ'=[⇑d,⇑a,some (.int (spot:Int)),some (.int (v:Int)),⇑pT,none]/\aL H G/\G pT=↥xs/\Paired (å G) xs L0/\H pT=none) λZ97 ji ij=>⟨Z97,?_,?_⟩
 ·show⟨_,Z,_,Z,d,C,dx,fs,.ref pw,Z,n1.same _ _ h1,cl,nt,hl,oU (bB.of (n1.same _ _ hw)) ⟨_,Z,?_⟩⟩;by_cases c:(v:Int)∈bD
  ·rw[bh c];show cQ (ji _ _ ⟨[],Z,n1.same,n1.here,?_,n1.fresh⟩);rw[eL0,aD c];show .nil
  ·rw[cG c];show iC ⟨_,Z,.inl ⟨Z,_,bB.of n1.here⟩,_,Z,_,Z,_,_,Z,Z,a,st,spot+1,0,Z,ha.keep (.of n1.same),(),(),λb G1 s1 hb=>⟨(),λp2 G2 n2=>⟨pT,[],_,Z,Z,n2.same _ _ (s1 _ _ n1.here),(),λG3 cg=>?_⟩⟩⟩;let s2:=s1.trans n2.same;let sT:=s2 _ _ n1.here;show ji _ _ ⟨_,Z,(n1.same.trans s2).chg n1.fresh cg,cg.here,?_,n1.fresh⟩;rw[eL0,aA c];let k3:lH G2 G3:=λc' ys hc=>by
    rw[cg.rest c' (λz=>by grind)];show hc
   show .cons ⟨p2,b,Z,k3 _ _ n2.here,(hb.keep (.of n2.same)).keep k3⟩ .nil
 intro σ' G h2;let⟨xs,rfl,sG,hT,pT',fT⟩:=ij _ _ h2;clear ji ij h2;let lx:xs.length<=1:=by
  rw[aU pT',eL0];split<;>simp
 let haG:=ha.keep (.of sG);obtain⟨L1,eL1⟩:∃L1:List (dF×Int),L1=L0++if fU st 0=0 then [(0::Lk.iK (xP st.tail spot (st.length:Int)),0)]else []:=⟨_,Z⟩
 let fin:∀(xs:af) (G':Hp),aL H G'->G' pT=↥xs->Paired (å G') xs L1->Q (.ref pT) G':=λxs G' s h p=>q pT xs G' s h (by rw[eL1,eL0]at p;show p);show Bt (P:=λσ' G=>(∃o5,σ'=[⇑d,⇑a,some (.int (spot:Int)),some (.int (v:Int)),⇑pT,o5])/\Q (.ref pT) G) λZ97 ji ij=>⟨Z97,?_,?_⟩
 ·show⟨_,Z,a,_,_,.int (fU st 0),Z,Z,cO.of haG,ç (i:=0) (),fU st 0 != 0,Z,?_⟩;by_cases c:fU st 0=0
  ·rw[c];rw[aD c]at eL1;show iC ⟨_,Z,_,Z,a,_,Z,haG,λb1 G1 s1 h1=>?_⟩;try dsimp only at h1
   rw[show(1:Int)=((1:Nat):Int)from Z,pQ st 1 ()]at h1;show⟨_,Z,_,Z,a,_,Z,.inr (cO.of (haG.keep (.of s1))),?_⟩;rw[aJ];show⟨b1,st.drop 1,spot,_,Z,h1,by rw[gw];omega,by rw[gw];omega,λb2 G2 s2 h2=>?_⟩;let sX:=s1.trans s2;let hT2:=sX _ _ hT;show⟨_,Z,.inl ⟨Z,_,bB.of hT2⟩,(),λp3 G3 n3=>⟨_,Z,b2,_,Z,cO.of (h2.keep (.of n3.same)),?_,λp4 G4 s4 h4=>?_⟩⟩
   ·rw[YW,gw];omega
   show⟨p3,p4,_,_,Z,Z,s4 _ _ n3.here,h4,?_,λp5 G5 s5 h5=>⟨(),λp6 G6 n6=>⟨pT,xs,_,Z,Z,n6.same _ _ (s5 _ _ (s4 _ _ (n3.same _ _ hT2))),(),λG7 cg=>?_⟩⟩⟩
   ·rw[aJ,Gy,YW,gw];show 1+_<=1000;omega
   let s36:=n3.same.trans (s4.trans (s5.trans n6.same));let sT:=(sX.trans s36) _ _ hT;let k7:lH G6 G7:=λc' ys hc=>by
    rw[cg.rest c' (λz=>by grind)];show hc
   show ji _ _ ⟨⟨_,Z⟩,fin (xs++[.ref p6]) G7 ((sG.trans (sX.trans s36)).chg fT cg) cg.here ?_⟩;rw[eL1];show eN (Paired.cD pT' λ_ _ z=>z.keep ((lH.of (sX.trans s36)).trans k7)) ⟨p6,p5,Z,k7 _ _ n6.here,k7 _ _ (n6.same _ _ ?_)⟩;rw[h5,<-CW];rfl
  ·rw[show(fU st 0 != 0)=true by simpa using c];rw[aA c,jB]at eL1;show cQ (ji _ _ ⟨⟨_,Z⟩,fin xs G sG hT ()⟩)
 ·intro σ' G' h2;let⟨⟨o5,rfl⟩,h⟩:=ij _ _ h2;show⟨_,Z,h⟩
end
def a7M{a b:TT}{H:Hp}{Q:Bool->Hp->Prop}{c1 c2:Bool}(h1:∀Q:Bool->Hp->Prop,Q c1 H->a σ H Q)(h2:∀Q:Bool->Hp->Prop,Q c2 H->b σ H Q)(h:Q (c1&&c2) H):a0t a b σ H Q:=by
 show h1 _ ?_;cases c1 with
 |false=>show cQ h
 |true=>show iC (h2 _ h)
section
variable{K:aH}{C:Addr}{n:Nat}{ts:ar}
def Ke(B:Bl mg)(cl:Cls K C)(nc:jC K C "costs")(lc:cs.length=ts.length)(d_:Dm K C "tied" "Links.tied" nP Rr)(jZ:S6 K mg)(rB:Dn K mg "merged" qy Bo):⋯ 2 d_.f d_.fd Rr (a2T (yx bD (S8 ts cs)) (TY C n ts bD cs) (λt=>t∈ts)):=by
 let a5s:⋯ 1 _ _ _ _:=Mf true rB;let Xo:⋯ 1 _ _ _ _:=qd false B jZ;show d_.F.ok uF λdZ A outer s H vs Q E hr h=>?_;let⟨d,a,p,m,iG,cP,t,st,rfl,hD,ha,ok,m4,o1,o2,ne,ti,hp,q⟩:=h;let hw1:(A.deeper (PyProof.Rows.envOfC "Links.tied" (aG nP) s⁻¹ d_.f dZ)).units+1<cLine:=by let:=hr.un;omega
 let ls:=Lk.xU (ok m4);show⟨_,(aB (aV 5 uF.nd (dD jL (pv 1) (d7 aq) fK))
   (aB (aV 6 uF.nd (cH (O (bL (O (pv 1) (O aq aj))) aj)))
   (g8 (cJ (PW.pt (lX (aN tE (aP (aO (K:=K) Z) (pv 5) (pv 2)) aq) (lX (aN tE (aP (aO (K:=K) Z) (pv 5) (pv 3)) aq) (mJ (aN Km (aP (aO (K:=K) Z) (pv 5) (pv 2)) (aP (aO (K:=K) Z) (pv 5) (pv 3)))))))
   (aF (eY (gZ (K:=K) Z gR PySem.F.slot_list_append PySem.F.type_list_append fL (pv 6) (O (bL (O (bA tU (bL (O aq aj)) (aY Xo hr Z jZ.m jZ.F.kp jZ.b .nil bZ (O (aY a5s hr Z rB.m rB.F.kp rB.b .nil bZ (O (pv 5) (O (pv 2) (O (pv 3) aj)))) aj))) (O (Bd hw1 (Gm (K:=K) Z (pv 0) Z) (pv 4) λ_ _=>rfl) aj))) aj))))
   bx)
   (aF (bI (pv 6)))))),?_⟩
 show⟨_,Z,_,Z,a,_,Z,ha,λb1 H1 s1 h1=>?_⟩;try dsimp only at h1
 rw[show(1:Int)=((1:Nat):Int)from Z,pQ st 1 ()]at h1;let ln:(st.drop 1).length=m:=()
 let aa:∀i,fU (st.drop 1) i=fU st (i+1):=λi=>by
  unfold fU;grind
 show⟨_,Z,(),λp2 H2 n2=>⟨(),λpT H3 n3=>?_⟩⟩;let ye:=s1.trans (n2.same.trans n3.same);let hb3:cO K H3 b1 ((st.drop 1).map V.int):=cO.of (n3.same _ _ (n2.same _ _ h1));let fT:H pT=none:=(s1.trans n2.same).free n3.fresh;let base0:å H3 (.ref p2) (st,(0:Int)):=⟨p2,a,Z,n3.same _ _ n2.here,ha.keep (.of ye)⟩;obtain⟨L1,eL1⟩:∃L1:List (dF×Int),L1=(st,(0:Int))::if 0<fU st (iG+1)/\0<fU st (cP+1)/\fU st (iG+1)≠fU st (cP+1)then [(0::Lk.iK (Lk.TQ st.tail iG cP),S8 ts cs t)]else []:=⟨_,Z⟩
 let fin:∀(xs:af) (G':Hp),aL H G'->G' pT=↥xs->Paired (å G') xs L1->Q (.ref pT) G':=λxs G' s h p=>q pT xs G' s h (by rw[eL1]at p;show p);show Bt (P:=λσ' G=>σ'=[⇑d,⇑a,some (.int (iG:Int)),some (.int (cP:Int)),⇑p,⇑b1,⇑pT]/\Q (.ref pT) G) λZ97 ji ij=>⟨Z97,?_,?_⟩
 ·let t1:VN ((st.drop 1).map V.int) (iG:Int)=some (.int (fU st (iG+1))):=by rw[ç (),aa]
  let t2:VN ((st.drop 1).map V.int) (cP:Int)=some (.int (fU st (cP+1))):=by rw[ç (),aa]
  dsimp only[Qw,a0u,ą];show a7M (c1:=decide (0<fU st (iG+1))) (c2:=decide (0<fU st (cP+1))&&decide (fU st (iG+1)≠fU st (cP+1))) (λQ h=>⟨_,Z,_,Z,b1,_,_,_,Z,Z,hb3,t1,_,_,Z,Z,_,Z,h⟩) (λQ h=>a7M (c1:=decide (0<fU st (cP+1))) (c2:=decide (fU st (iG+1)≠fU st (cP+1))) (λQ h=>⟨_,Z,_,Z,b1,_,_,_,Z,Z,hb3,t2,_,_,Z,Z,_,Z,h⟩) (λQ h=>⟨_,Z,_,Z,b1,_,_,_,Z,Z,hb3,t1,_,Z,_,Z,b1,_,_,_,Z,Z,hb3,t2,Z,_,Z,?_⟩) h) (qH (λc=>?_) λc=>?_)
  ·rw[show(!decide (V.int (fU st (iG+1))=V.int (fU st (cP+1))))=decide (fU st (iG+1)≠fU st (cP+1)) by grind];show h
  ·let c':0<fU st (iG+1)/\0<fU st (cP+1)/\fU st (iG+1)≠fU st (cP+1):=by
    grind
   rw[aD c']at eL1;let⟨dx,fs,pc,ob,g1,g2,g3⟩:=hD.costs;show⟨_,Z,.inl ⟨Z,_,bB.of n3.here⟩,(),λp4 G4 n4=>⟨_,Z,_,Z,_,Z,b1,st.drop 1,iG,cP,Z,n4.same.vP hb3,(),(),(),λp5 G5 s5 f5 h5=>⟨p5,_,Z,bB.of h5,?_,λp6 G6 s6 h6=>⟨p4,p6,_,_,Z,Z,s6 _ _ (s5 _ _ n4.here),h6,?_,λp7 G7 s7 h7=>?_⟩⟩⟩⟩
   ·unfold Lk.TQ;rw[aJ];omega
   ·rw[aJ,Gy];unfold Lk.TQ;rw[aJ];show 1+_<=1000;omega
   let s47:=n4.same.trans (s5.trans (s6.trans s7));let s07:=ye.trans s47;show⟨_,Z,d,C,dx,fs,.ref pc,Z,s07 _ _ g1,cl,nc,g2,_,Z,pc,.int (S8 ts cs t),Z,?_,(),λp8 G8 n8=>⟨pT,[.ref p2],_,Z,Z,n8.same _ _ (s47 _ _ n3.here),(by show 1<1000;decide),λG9 cg=>?_⟩⟩
   ·let e:=a2v lc ti;rw[show S8 ts cs t=cs.getD (ts.idxOf t) 0 from Z,<-e];show a7K (.inr ⟨ob,s07 _ _ g3⟩) (s07 _ _ hp)
   let Ô:=s47.trans n8.same;let sT:=Ô _ _ n3.here;let k9:lH G8 G9:=λc' ys hc=>by
    rw[cg.rest c' (λz=>by grind)];show hc
   show ji _ _ ⟨Z,fin [.ref p2,.ref p8] G9 ((ye.trans Ô).chg fT cg) cg.here ?_⟩;rw[eL1];show .cons ((base0.keep (.of Ô)).keep k9) (.cons ⟨p8,p7,Z,k9 _ _ n8.here,k9 _ _ (n8.same _ _ ?_)⟩ .nil);rw[h7,<-CW];rfl
  ·let c':¬(0<fU st (iG+1)/\0<fU st (cP+1)/\fU st (iG+1)≠fU st (cP+1)):=λh=>c (by
    grind)
   rw[aA c']at eL1;show ji _ _ ⟨Z,fin [.ref p2] H3 ye n3.here (by rw[eL1];show .cons base0 .nil)⟩
 ·intro σ' G' h2;let⟨rfl,h⟩:=ij _ _ h2;show⟨_,Z,h⟩
end
section
variable{K:aH}{C:Addr}
def a5t{x:Int}{s:dF}:inV (V.int x) (s.map V.int)=decide (x∈s):=by
 induction s with
 |nil=>rfl
 |cons y s ih =>
  rw[cA];show(eqV (V.int y) (V.int x)||inV (V.int x) (s.map V.int))=_;rw[ih];show((y==x)||decide (x∈s))=_;grind
def a2w{s:dF}{p:Nat}(h:p<s.length):(qu s p).length+1=s.length:=by
 unfold qu;grind
def zR(B:Bl mg)(d_:Dm K C "taken_out" "Links.taken_out" jX yF)(At:Hp->Addr->Prop)(Pl:Nat->Prop)(wG:Dn K mg "without_number" gb Fd)(jZ:S6 K mg):⋯ 2 d_.f d_.fd yF (a2S (yx bD cost) At Pl):=by
 let a8Q:⋯ 1 _ _ _ _:=BX wG;let Xo:⋯ 1 _ _ _ _:=qd true B jZ;show d_.F.ok mX λdZ A outer s H vs Q E hr h=>?_;let⟨d,a,m,spot,v,st,rfl,hD,ha,ok,m4,sp,pv0,q⟩:=h;let ls:=Lk.xU (ok m4);show⟨_,(aB (aV 4 mX.nd (aP (aO (K:=K) Z) (pv 1) (bA dH (pv 2) aq)))
   (aB (aV 5 mX.nd (aY a8Q hr Z wG.m wG.F.kp wG.b .nil bZ (O (dD jL (pv 1) (d7 aq) fK) (O (pv 2) aj))))
   (aB (cJ (PW.pt (Aa (aN mZ (pv 4) aq) (zq (aN (a0Q (K:=K) Z) (pv 4) (pv 5) (by with_unfolding_all rfl)))))
   (aF (bI (cH (O (bL (O (bA tU (dD jL (pv 1) fK (d7 aq)) (aY Xo hr Z jZ.m jZ.F.kp jZ.b .nil bZ (O (pv 5) aj))) (O aq aj))) aj))))
   bx)
   (aF (bI (qe (cY (K:=K) Z (aW (JG (K:=K) Z Z) Z B.any () (O (pv 5) aj)) λ_=>rfl) (cH aj) (cH (O (bL (O (bA tU (bL (O aq aj)) (pv 5)) (O aq aj))) aj)))))))),?_⟩
 show⟨_,Z,_,Z,_,_,Z,Z,a,_,_,.int (fU st (spot+1)),Z,Z,cO.of ha,ç (i:=spot+1) (),⟨_,Z,_,Z,a,_,Z,ha,λb1 H1 s1 h1=>?_⟩⟩;try dsimp only at h1
 rw[show(1:Int)=((1:Nat):Int)from Z,pQ st 1 ()]at h1;show⟨_,Z,b1,st.drop 1,spot,Z,h1,(),(),λb2 H2 s2 h2=>?_⟩;rw[CW]at h2;let sX:=s1.trans s2;let ha2:=ha.keep (.of sX);let ld:(qu st.tail spot).length+1=m:=by
  let:=a2w (s:=st.tail) (p:=spot) ();grind
 let q:∀(r:Addr) (xs:af) (H':Hp),aL H H'->H' r=↥xs->Paired (å H') xs (if fU st (spot+1)=0\/fU st (spot+1)∈qu st.tail spot then [(st.take 1++Lk.iK (qu st.tail spot),(0:Int))]else if(qu st.tail spot).any (λx=>decide (x≠0))=true then []else [(1::qu st.tail spot,0)])->Q (.ref r) H':=q;generalize qu st.tail spot=left at h2 ld q;generalize fU st (spot+1)=nb at q ⊢;dsimp only[Qw,a0u,ą];show orQ (c1:=decide (nb=0)) (c2:=decide (nb∈left)) (λQ h=>⟨_,Z,Z,_,Z,by rw[show decide (V.int nb=V.int 0)=decide (nb=0)from CT.mpr ⟨V.int.inj,congrArg _⟩];show h⟩) (λQ h=>⟨_,Z,_,Z,b2,_,Z,.inr (cO.of h2),Z,Lg left,_,Z,by rw[aA cL,a5t];show h⟩) (qH (λc=>?_) λc=>?_)
 ·let c':nb=0\/nb∈left:=by
   grind
  rw[aD c']at q;show⟨_,Z,_,Z,a,_,Z,ha2,λb3 H3 s3 h3=>?_⟩;try dsimp only at h3
  rw[show(1:Int)=((1:Nat):Int)from Z,Pq st 1 ()]at h3;show⟨_,Z,b2,_,Z,cO.of (s3 _ _ h2),(),λb4 H4 s4 h4=>⟨b3,b4,_,_,Z,Z,s4 _ _ h3,h4,?_,λb5 H5 s5 h5=>⟨(),λp6 H6 n6=>⟨(),λp7 H7 n7=>q p7 _ H7 (sX.trans (s3.trans (s4.trans (s5.trans (n6.same.trans n7.same))))) n7.here (.cons ⟨p6,b5,Z,n7.same _ _ n6.here,n7.same _ _ (n6.same _ _ ?_)⟩ .nil)⟩⟩⟩⟩
  ·rw[aJ,aJ,dN,Gy];omega
  grind
 ·let c':¬(nb=0\/nb∈left):=λh=>c (by
   grind)
  rw[aA c']at q;let tr:jo K H2 (left.map V.int) (left.map λx=>x != 0):=by
   clear c c' q h2 ld
   induction left with
   |nil=>show .nil
   |cons x s ih=>show .cons Z ih
  let ea:((left.map λx=>x != 0).any id)=left.any λx=>decide (x≠0):=by
   rw[Ho];congr 1;funext x;grind
  show⟨_,Z,b2,_,_,Z,cO.of h2,tr,_,Z,?_⟩;rw[ea];show qH (λe=>?_) (λe=>?_)
  ·rw[aD e]at q;show⟨(),λp7 H7 n7=>q p7 _ H7 (sX.trans n7.same) n7.here .nil⟩
  ·rw[aA e]at q;show⟨(),λb3 H3 n3=>⟨_,Z,b3,b2,_,_,Z,Z,n3.here,n3.same _ _ h2,?_,λb5 H5 s5 h5=>⟨(),λp6 H6 n6=>⟨(),λp7 H7 n7=>q p7 _ H7 (sX.trans (n3.same.trans (s5.trans (n6.same.trans n7.same)))) n7.here (.cons ⟨p6,b5,Z,n7.same _ _ n6.here,n7.same _ _ (n6.same _ _ ?_)⟩ .nil)⟩⟩⟩⟩
   ·grind
   grind
end
def a3k{r1 r2:R2}(h1:IxR X r1)(h2:IxR X r2):IxR X (λx y H Q=>r1 x y H Q\/r2 x y H Q):=λa b c d e f g h i j k l m n o p=>o.elim (λo=>h1 a b c d e f g h i j k l m n o p) (λo=>h2 a b c d e f g h i j k l m n o p)
namespace Lk
def YX{r r':ae}(e:(r.map λx=>decide (0<x))=r'.map λx=>decide (0<x))(z:∀x∈r,x=0)(p:∀x∈r',0<=x):∀x∈r',x=0:=by
 induction r generalizing r' with
 |nil=>cases r' with
  |nil=>grind
  |cons a s=>cases e
 |cons a r ih=>cases r' with
  |nil=>cases e
  |cons b s =>
   rw[cA,cA,List.cons.injEq]at e;intro x hx;rcases bT.mp hx with rfl|hx
   ·let h1:=e.1;rw[z a aZ]at h1;let:=p x aZ;let h2:¬0<x:=λh=>by rw[bh h]at h1;cases h1
    omega
   ·show ih e.2 (λx h=>z x (bH _ h)) (λx h=>p x (bH _ h)) x hx
def any_zero{s:ae}(h:∀x∈s,x=0):s.any (λx=>x != 0)=false:=by
 rw[List.any_eq_false];intro x hx;rw[h x hx];decide
def a2x{st t lo hi:dF}(h:qw m st=true)(h':qw m t=true)(sh:(st.tail.map λx=>decide (0<x))=t.tail.map λx=>decide (0<x))(e:(lo=st/\hi=t)\/(lo=t/\hi=st))(nl:¬hi<lo):(fU hi 0≠0/\jnL st t=if lo.any (λx=>x != 0)=true then []else [hi])\/(fU hi 0=0/\jnL st t=jnO st.tail t.tail):=by
 let lt:∀r r':ae,((0:Int)::r:ae)<(1:Int)::r':=λr r'=>by rw[Uk];show .inl ()
 rcases S7 h with⟨r,rfl,l1,z1⟩|⟨r,rfl,l1,z1,_⟩<;>rcases S7 h' with⟨r',rfl,l2,z2⟩|⟨r',rfl,l2,z2,_⟩
 ·left;rcases e with⟨rfl,rfl⟩|⟨rfl,rfl⟩
  ·show⟨by show(1:Int)≠0;decide,by rw[aD (by rw[oM];rfl)];rfl⟩
  ·show⟨by show(1:Int)≠0;decide,by rw[aD (by rw[oM];rfl)];rfl⟩
 ·let zz:=YX sh z1 λx hx=>(z2 x hx).1;left;rcases e with⟨rfl,rfl⟩|⟨rfl,rfl⟩
  ·grind
  ·show⟨by show(1:Int)≠0;decide,by rw[any_zero (λx hx=>by grind),aA cL];rfl⟩
 ·let zz:=YX sh.symm z2 λx hx=>(z1 x hx).1;left;rcases e with⟨rfl,rfl⟩|⟨rfl,rfl⟩
  ·show⟨by show(1:Int)≠0;decide,by rw[any_zero (λx hx=>by grind),aA cL];rfl⟩
  grind
 ·right;rcases e with⟨rfl,rfl⟩|⟨rfl,rfl⟩
  ·show⟨Z,Z⟩
  ·show⟨Z,Z⟩
def a7N{q:ay}(pm:q.Perm (List.range 2)):q=[0,1]\/q=[1,0]:=by
 let l:=pm.length_eq
 match q,l,pm with
 | [x,y],_,pm =>
  let hx:=gA.mp (pm.mem_iff.mp (aZ:x∈[x,y]));let hy:=gA.mp (pm.mem_iff.mp (bH x (vq y)));let nd:=pm.nodup_iff.mpr Va;let ne:x≠y:=λe=>(iQ.mp nd).1 (by rw[e];show vq y);let:(x=0/\y=1)\/(x=1/\y=0):=()
  rcases this with⟨rfl,rfl⟩|⟨rfl,rfl⟩
  ·show .inl rfl
  ·show .inr rfl
def Ü{k:Nat}{r:ay}{ns:ae}:Pu ms (k::r) ns=if 0<fU ms k/\ms.idxOf (fU ms k)<k then(if fU ns (ms.idxOf (fU ms k))=fU ns k then none else Pu ms r (TQ ns (ms.idxOf (fU ms k)) k))else Pu ms r ns:=rfl
def χ{ns:ae}:Pu ms [] ns=some ns:=rfl
end Lk
def bG.exs{α:Type}{K:aH}{CX:TF}{k:Nat}{f:Addr}{fd:FuncData}{ps:ag}{sp:α->Sp}(F:∀a,bG P w K mg base CX k f fd ps (sp a)):bG P w K mg base CX k f fd ps (λvs H Q E=>∃a,sp a vs H Q E) :=
 ⟨λvs H Q E ⟨a,h⟩=>(F a).len vs H Q E h,λA outer s H args us vs Q E hr he hb hv ⟨a,hs⟩=>(F a).run A outer s H args us vs Q E hr he hb hv hs⟩
def Ql{pd:Addr}{G:Hp}{J:List (Key×V)}{i:Nat}{z:Int}(hd:G pd=some (.dK J))(lk:J.length<=i)(l9:i<=900)(hv:∀x,dI J (.inl x)=if x∈ms.take i then some (.int (ms.idxOf x:Nat))else none)(hz:ms[i]?=some z)
  (h:∀kvs' G1,(∀c o,c≠pd->G c=some o->G1 c=some o)->G1 pd=some (.dK kvs')->kvs'.length<=i+1->(∀x,dI kvs' (.inl x)=if x∈ms.take (i+1)then some (.int (ms.idxOf x:Nat))else none)->Q (.int (ms.idxOf z:Nat)) G1):SX (.ref pd) [.int z,.int i] G Q:=by
 let et:ms.take (i+1)=ms.take i++[z]:=by rw[iR,hz];rfl
 show .mk pd (.inl z) J (.int i) Z Z hd () (λy hy=>?_) λhn G1 cg=>?_
 ·let m:z∈ms.take i:=by
   grind
  rw[hv,aD m]at hy;cases hy;show h J G (λ_ _ _ e=>e) hd () λx=>?_;grind
 ·let m:z∉ms.take i:=λm=>by grind
  let e:ms.idxOf z=i:=by
   let e2:ms=(ms.take i++[z])++ms.drop (i+1):=by rw[<-et,tY]
   let il:i<ms.length:=(dY.mp hz).1;rw[e2,Ng,aD (gq _ aZ),Ng,aA m,dN,Ut];omega
  let:=h (putK J (.inl z) (.int i)) G1 (λc o hc e=>(cg.rest c hc).trans e) cg.here (cC (ql _ _ _) ()) λx=>by
   rw[Ŀ,hv,et];grind
  grind
inductive JnI(f:Option V->Option V->Option V->Option V->St)(H:Hp)(pd:Addr)(r0 ms:ae)(i:Nat)(σ:St)(G:Hp):Prop
 |mk (tup:Bool) (an:Addr) (ns:ae) (J:List (Key×V)) (o7 o8 o9:Option V) (_:σ=f ⇑an o7 o8 o9) (_:∀c o,c≠pd->H c=some o->G c=some o) (_:G an=some (bif tup then .tup (ns.map V.int)else .lst (ns.map V.int))) (_:G pd=some (.dK J)) (_:J.length<=i) (_:∀x,dI J (.inl x)=if x∈ms.take i then some (.int (ms.idxOf x:Nat))else none) (_:ns.length=ms.length) (_:Lk.Pu ms ((List.range ms.length).drop i) ns=Lk.Pu ms (List.range ms.length) r0)
section
variable{K:aH}{C:Addr}
def FW(B:Bl mg)(d_:Dm K C "joined" "Links.joined" nO xq)(At:Hp->Addr->Prop)(jZ:S6 K mg)(rB:Dn K mg "merged" qy Bo):⋯ 2 d_.f d_.fd xq (RB (yx bD cost) At):=by
 let Xo:⋯ 1 _ _ _ _:=bG.exs λb:Bool=>qd b B jZ;let a5s:⋯ 1 _ _ _ _:=bG.exs λb:Bool=>Mf b rB;show d_.F.ok eZ λdZ A outer s H vs Q E hr h=>?_;let⟨d,a,b,m,st,t,rfl,hD,ha,hb,ok,ok',m4,sh,q⟩:=h;show⟨_,(aB (uq (aW (vR (K:=K) Z) Z B.sorted () (O (cH (O (pv 1) (O (pv 2) aj))) aj)) (Rm (K:=K) (n:=2) Z Z (bN (aM 3 eZ.nd) (bN (aM 4 eZ.nd) gW))))
   (aB (cJ (cY (K:=K) Z (aP (aO (K:=K) Z) (pv 4) aq) λ_=>rfl)
   (aF (bI (qe (cY (K:=K) Z (aW (JG (K:=K) Z Z) Z B.any () (O (pv 3) aj)) λ_=>rfl) (cH aj) (cH (O (pv 4) aj)))))
   bx)
   (aB (aV 5 eZ.nd (dD jL (pv 1) (d7 aq) fK))
   (aB (aV 6 eZ.nd Ri)
   (aB (iV iI Z (η (K:=K) Z Z B.enumerate (O (dD jL (pv 2) (d7 aq) fK) aj)) (jb (K:=K) (n:=2) Z Z (bN (aM 7 eZ.nd) (bN (aM 8 eZ.nd) gW)))
   (aB (aV 9 eZ.nd (gZ (K:=K) Z rK Ms ô xT (pv 6) (O (pv 8) (O (pv 7) aj))))
   (aF (cJ (PW.pt (lX (aN tE (pv 8) aq) (mJ (aN Ac (pv 9) (pv 7)))))
   (aB (cJ (aN mZ (aP (a3k (bf (K:=K) Z) (aO (K:=K) Z)) (pv 5) (pv 9)) (aP (a3k (bf (K:=K) Z) (aO (K:=K) Z)) (pv 5) (pv 7)))
   (aF (bI (cH aj)))
   bx)
   (aF (aV 5 eZ.nd (aY a5s hr Z rB.m rB.F.kp rB.b .nil bZ (O (pv 5) (O (pv 9) (O (pv 7) aj)))))))
   bx))))
   (aF (bI (cH (O (bA tU (bL (O aq aj)) (aY Xo hr Z jZ.m jZ.F.kp jZ.b .nil bZ (O (pv 5) aj))) aj))))))))),?_⟩
 let os:=ok m4;let ot:=ok' m4;let lst:=Lk.xU os;let ltt:=Lk.xU ot;show⟨_,Z,_,Z,(),λp1 H1 n1=>?_⟩;show⟨p1,[.ref a,.ref b],[st,t],Z,bB.of n1.here,.cons ⟨a,Z,cO.of (n1.same _ _ ha)⟩ (.cons ⟨b,Z,cO.of (n1.same _ _ hb)⟩ .nil),λns hn=>?_,by show 2<64;decide,λqq p2 H2 pm pw n2=>?_⟩
 ·rcases bT.mp hn with e|e
  ·rw[e];intro z;rw[z]at lst;cases lst
  ·rw[bQ.mp e];intro z;rw[z]at ltt;cases ltt
 let sX:=n1.same.trans n2.same;obtain⟨al,ah,lo,hi,hp2,hal,hah,el,nl⟩:∃(al ah:Addr) (lo hi:dF),H2 p2=↥[.ref al,.ref ah]/\oW H2 al lo/\oW H2 ah hi/\((lo=st/\hi=t)\/(lo=t/\hi=st))/\¬hi<lo:=by
  rcases Lk.a7N pm with rfl|rfl
  ·show⟨a,b,st,t,n2.here,ha.keep (.of sX),hb.keep (.of sX),.inl ⟨Z,Z⟩,(uc.mp pw).1 t (vq t)⟩
  ·show⟨b,a,t,st,n2.here,hb.keep (.of sX),ha.keep (.of sX),.inr ⟨Z,Z⟩,(uc.mp pw).1 st (vq st)⟩
 let llo:lo.length=m+1:=by rcases el with⟨e,_⟩|⟨e,_⟩<;>rw[e]<;>assumption
 let lhi:hi.length=m+1:=by rcases el with⟨_,e⟩|⟨_,e⟩<;>rw[e]<;>assumption
 let Z97:=Lk.a2x os ot sh el nl;show⟨p2,[.ref al,.ref ah],Z,bB.of hp2,Z,_,_,Z,_,_,Z,Z,⟨_,Z,ah,_,_,.int (fU hi 0),Z,Z,cO.of hah,ç (i:=0) (),fU hi 0 != 0,Z,?_⟩⟩;let q:∀(r:Addr) (xs:af) (H':Hp),aL H H'->H' r=↥xs->Paired (SvL H') xs (Lk.jnL st t)->Q (.ref r) H':=q;rcases Z97 with⟨h0,ej⟩|⟨h0,ej⟩
 ·rw[show(fU hi 0 != 0)=true by simpa using h0];let tr:jo K H2 (lo.map V.int) (lo.map λx=>x != 0):=by
   clear ej nl el llo hal
   induction lo with
   |nil=>show .nil
   |cons x s ih=>show .cons Z ih
  let ea:((lo.map λx=>x != 0).any id)=lo.any λx=>x != 0:=by rw[Ho];rfl
  show iC ⟨_,Z,al,_,_,Z,cO.of hal,tr,_,Z,?_⟩;rw[ea];show qH (λe=>?_) (λe=>?_)
  ·rw[aD e]at ej;show⟨(),λp7 H7 n7=>q p7 _ H7 (sX.trans n7.same) n7.here (by rw[ej];show .nil)⟩
  ·rw[aA e]at ej;show⟨_,Z,(),λp7 H7 n7=>q p7 _ H7 (sX.trans n7.same) n7.here (by rw[ej];show .cons ⟨ah,Z,hah.keep (.of n7.same)⟩ .nil)⟩
 rw[h0,show((0:Int) != 0)=false from rfl];show cQ ?_;clear nl el hal hah llo lhi hp2;rw[ej]at q;let ha2:=ha.keep (.of sX);show⟨_,Z,_,Z,a,_,Z,ha2,λan H3 s3 h3=>?_⟩;try dsimp only at h3
 rw[show(1:Int)=((1:Nat):Int)from Z,pQ st 1 (),CW]at h3;intro pd hd;let n4:=iH.nC (H:=H3) (p:=pd) (o:=.dK []) hd;generalize cX H3 pd (.dK [])=H4 at n4 ⊢;let Ls:=sX.trans (s3.trans n4.same);show⟨_,Z,_,Z,b,_,Z,hb.keep (.of Ls),λpo H5 s5 h5=>?_⟩;try dsimp only at h5
 rw[show(1:Int)=((1:Nat):Int)from Z,pQ t 1 (),CW]at h5;let fpd:H2 pd=none:=s3.free n4.fresh;let ne:po≠pd:=λz=>by let:=s5 _ _ n4.here;rw[<-z,h5]at this;cases this
 let lr:st.tail.length=m:=by rw[List.length_tail];omega
 let lm:t.tail.length=m:=by rw[List.length_tail];omega
 generalize t.tail=ms at h5 q lm;generalize st.tail=r0 at h3 q lr;show⟨po,Z,⟨_,cO.of h5⟩,?_⟩;let u5:∀{G:Hp},(∀c o,c≠pd->H5 c=some o->G c=some o)->aL H G:=λ{G} sG c o e=>by
  show sG c o (λz=>?_) (s5 _ _ (Ls _ _ e));let e2:=sX _ _ e;rw[z,fpd]at e2;cases e2
 show Z0 (P:=λi σ G=>JnI (λo5 o7 o8 o9=>[⇑d,⇑a,⇑b,⇑al,⇑ah,o5,⇑pd,o7,o8,o9]) H5 pd r0 ms i σ G) λZ97 ji ij=>?_;show Ú (K:=K) (a:=po) (xs:=ms.map V.int) Z97 (ji _ _ _ (.mk true an r0 [] none none none Z (λ_ _ _ e=>e) (s5 _ _ (n4.same _ _ h3)) (s5 _ _ n4.here) (dG _) (λx=>by rw[NQ,aA fj];rfl) () Z)) (λi σ G _ h=>?_) ?_ ?_
 ·let⟨_,_,_,_,_,_,_,_,sG,_⟩:=ij _ _ _ h;show cO.of (sG _ _ ne h5)
 ·intro i x σ G0 p G hx h1 nn;let⟨tup,an,ns,J,o7,o8,o9,rfl,sG0,hN0,hd0,lk,hv,ln,ej⟩:=ij _ _ _ h1;rw[cV]at hx;let⟨z,hz,rfl⟩:=j4.mp hx;let il:i<ms.length:=(dY.mp hz).1;let az:fU ms i=z:=by unfold fU;rw[gB,hz];rfl
  let sG:∀c o,c≠pd->H5 c=some o->G c=some o:=λc o hc e=>nn.same _ _ (sG0 c o hc e);let hN:=nn.same _ _ hN0;let hd1:=nn.same _ _ hd0;let nd:an≠pd:=λe=>by rw[e,hd0]at hN0;cases tup<;>cases hN0
  let et:ms.take (i+1)=ms.take i++[z]:=by rw[iR,hz];rfl
  let ix:z∈ms->ms.idxOf z<ms.length:=List.idxOf_lt_length_iff.mpr;let zm:z∈ms:=gU hz;let er:(List.range ms.length).drop i=i::(List.range ms.length).drop (i+1):=by
   rw[yM (by rw[vD];show il),List.getElem_range]
  rw[er,Lk.Ü,az]at ej;show⟨p,[.int i,.int z],Z,cO.of nn.here,Z,_,_,Z,_,_,Z,Z,⟨_,Z,.inr (.inr (.inl ⟨Z,.inl ⟨_,hd1⟩⟩)),_,Z,_,Z,Ql hd1 lk () hv hz λkvs' G1 WQ hd2 lk' hv'=>?_⟩⟩;let Z9:∀c o,c≠pd->H5 c=some o->G1 c=some o:=λc o hc e=>WQ c o hc (sG c o hc e);let hN1:=WQ _ _ nd hN;let lt2:=ix zm;dsimp only[yD];show a69 (c1:=decide (0<z)) (c2:=decide (ms.idxOf z<i)) (λQ h=>⟨_,Z,_,_,Z,Z,_,Z,h⟩) (λQ h=>⟨_,Z,_,Z,_,_,Z,Z,_,Z,by rw[show decide (((ms.idxOf z:Nat):Int)<(i:Int))=decide (ms.idxOf z<i)from CT.mpr Int.ofNat_lt];show h⟩) (λc=>?_) (λc=>?_)
  ·let c1:0<z:=dB c.1;let c2:ms.idxOf z<i:=dB c.2;rw[aD ⟨c1,c2⟩]at ej;let ixn:∀{j:Nat}{R:VK},j<ms.length->R (.int (fU ns j)) G1->a0H K (.ref an) (.int j) G1 R\/a0I K (.ref an) (.int j) G1 R:=λ{j R} hj h=>by
    let:=ç (s:=ns) (i:=j) ();cases tup with
    |true=>show .inr ⟨an,_,_,_,Z,Z,cO.of hN1,this,h⟩
    |false=>show .inl ⟨an,_,_,_,Z,Z,bB.of hN1,this,h⟩
   show⟨_,Z,_,Z,ixn lt2 ⟨_,Z,_,Z,ixn il ⟨Z,_,Z,?_⟩⟩⟩;rw[show decide (V.int (fU ns (ms.idxOf z))=V.int (fU ns i))=decide (fU ns (ms.idxOf z)=fU ns i)from CT.mpr ⟨V.int.inj,congrArg _⟩];show qH (λe=>?_) (λe=>?_)
   ·rw[aD (dB e)]at ej;show⟨(),λp7 H7 n7=>q p7 _ H7 ((u5 Z9).trans n7.same) n7.here ?_⟩;unfold Lk.jnO;rw[<-ej];show .nil
   ·rw[aA λh=>e (bh h)]at ej;show⟨_,Z,_,Z,_,Z,tup,an,ns,ms.idxOf z,i,Z,?_,(),(),(),λp6 H6 s6 f6 h6=>?_⟩
    ·unfold sS;cases tup with
     |true=>show cO.of hN1
     |false=>show bB.of hN1
    ·show ji _ _ _ (.mk false p6 _ kvs' _ _ _ Z (λc o hc e=>s6 _ _ (Z9 c o hc e)) h6 (s6 _ _ hd2) lk' hv' (by unfold Lk.TQ;rw[aJ];show ln) ej)
  ·let c':¬(0<z/\ms.idxOf z<i):=λh=>c ⟨bh h.1,bh h.2⟩;rw[aA c']at ej;show ji _ _ _ (.mk tup an ns kvs' _ _ _ Z Z9 hN1 hd2 lk' hv' ln ej)
 ·intro σ G h1;let⟨tup,an,ns,J,o7,o8,o9,rfl,sG,hN,hd0,lk,hv,ln,ej⟩:=ij _ _ _ h1;rw[aJ,List.drop_eq_nil_of_le (by rw[vD];omega),Lk.χ]at ej;show⟨(),λb3 H3' n3=>⟨_,Z,tup,an,ns,Z,?_,(),λb4 H4' s4' h4=>⟨b3,b4,_,_,Z,Z,s4' _ _ n3.here,h4,?_,λb5 H5' s5' h5'=>⟨(),λp7 H7 n7=>q p7 _ H7 ((u5 sG).trans (n3.same.trans (s4'.trans (s5'.trans n7.same)))) n7.here ?_⟩⟩⟩⟩
  ·unfold sS;cases tup with
   |true=>show cO.of (n3.same _ _ hN)
   |false=>show bB.of (n3.same _ _ hN)
  ·rw[aJ,Gy];show 1+_<=1000;omega
  ·unfold Lk.jnO;rw[<-ej];show .cons ⟨b5,Z,n7.same _ _ h5'⟩ .nil
end
section
variable{K:aH}
noncomputable def a5u(B:Bl mg)(D:Bx K mg)(n:Nat)(ts:ar)(bD cs:ae)(lc:cs.length=ts.length)(uI:Dn K mg "with_number" jq Fb)(wG:Dn K mg "without_number" gb Fd)(jZ:S6 K mg)(rB:Dn K mg "merged" qy Bo):JV P w K mg base Bool where
 C:=D.C
 cl:=D.cl
 knd:=Dk.Ie P w
 pq:=yx bD (S8 ts cs)
 At:=TY D.C n ts bD cs
 Pl:=λ_=>True
 Ti:=λt=>t∈ts
 n:=n
 ts:=ts
 keep:=λa h=>TY.keep a h
 ins:=λh=>TY.ins h
 uy:=D.uy
 qZ:=D.qZ
 pH:=D.pH
 tL:=⟨_,_,D.tQ.mt,D.tQ.b,(wI D.tQ _ Z _).mono ()⟩
 uW:=⟨_,_,D.BK.mt,D.BK.b,(FQ B D.BK _).mono ()⟩
 Bp:=⟨_,_,D.BL.mt,D.BL.b,(FW B D.BL _ jZ rB).mono ()⟩
 Bq:=⟨_,_,D.BP.mt,D.BP.b,(FT B D.cl D.Jg D.BP uI jZ).mono ()⟩
 tM:=⟨_,_,D.tR.mt,D.tR.b,(zR B D.tR _ _ wG jZ).mono ()⟩
 Ph:=⟨_,_,D.Pk.mt,D.Pk.b,(Ke B D.cl D.BJ lc D.Pk jZ rB).mono ()⟩
end
abbrev xV:Stmt:=top 3
def Ý:bR KZ KZ (aG xV):={}
inductive a7O(K:aH)(vs:af)(H:Hp)(Q:VK)(u_3:XK):Prop
 |mk (n:Int) (a:Addr) (ns:ae) (_:vs=[.int n,.ref a]) (_:bB K H a (ns.map V.int)) (_:ns.length<=1000) (_:∀H',aL H H'->Q (.bl (V8 n ns)) H')
section
variable{K:aH}
def Þ(B:Bl mg)(lK:DK K mg)(jO:Dn K mg "is_below" fM sI)(FZ:Dn K mg "is_set" xV KZ):⋯ 3 FZ.f FZ.fd KZ (a7O K):=by
 let Ũ:⋯ 2 _ _ _ _:=xH B lK jO;show FZ.F.ok Ý λdZ A outer s H vs Q E hr h=>?_;let⟨n,a,ns,rfl,hS,hz,q⟩:=h;show⟨_,(aB (cJ (mR (cY (K:=K) Z (aW (Dh (K:=K) Z Z) Z B.all () (O (jF ["v","n"] [none,some 0]  (by kernel_rfl) Z (dU (K:=K) Z (pv 1)) (λ_ _ _ _ _=>(aM 0 (show(["v","n"]:ag).Nodup by decide))) (λ_ _ _ _ _=>gk) λ_ _ _ _ _=>(aY Ũ hr Z jO.m jO.F.kp jO.b .nil bZ (O (pv 1) (O (pv 0) aj)))) aj)) λ_=>rfl))
   (aF (bI wg))
   bx)
   (aF (bI (aW (Dh (K:=K) Z Z) Z B.all () (O (jF ["k","places"] [none,some 1]  (by kernel_rfl) Z (Df Z B.range (O aq (O (aW (b8 (K:=K) Z) Z B.len () (O (pv 1) aj)) aj))) (λ_ _ _ _ _=>(aM 0 (show(["k","places"]:ag).Nodup by decide))) (λ_ _ _ _ _=>gk) λ_ _ _ _ _=>(xY Ac (aP (bf (K:=K) Z) (pv 1) (bA Oj (pv 0) aq)) (aP (bf (K:=K) Z) (pv 1) (pv 0)))) aj))))),?_⟩
 show⟨_,Z,a,Z,⟨_,hS⟩,?_⟩;show HF (λx=>match x with |.int v=>some (.bl (decide (0<=v/\v<n)))|_=>none) hS (by rw[aJ];show hz) (λx H1 N hx sm hN=>?_) (λH1 p H1' sm hp=>?_)
 ·let⟨v,hv,rfl⟩:=fD.mp hx;show⟨_,Z,_,Z,n,some v,Z,hN H1 sm⟩
 let e1:(ns.map V.int).filterMap (λx=>match x with |.int v=>some (V.bl (decide (0<=v/\v<n)))|_=>none)=(ns.map λv=>decide (0<=v/\v<n)).map V.bl:=by
  rw[lV];show a0S λv _=>rfl
 rw[e1]at hp;show⟨p,_,_,Z,bB.of hp.here,jo.bls _,_,Z,?_⟩;let s1:aL H H1':=sm.trans hp.same;let e2:((ns.map λv=>decide (0<=v/\v<n)).all id)=ns.all λv=>decide (0<=v/\v<n):=by rw[Od];rfl
 rw[e2];cases c:ns.all λv=>decide (0<=v/\v<n)with
 |false =>
  show iC ?_;let e:V8 n ns=false:=by unfold V8;rw[c];rfl
  rw[e]at q;show q _ s1
 |true =>
  show cQ ?_;let hl:((ns.map V.int).length:Int)=ns.length:=()
  show⟨_,Z,a,_,Z,.inl (s1.seq hS),1,_,Z,⟨(),(),(),()⟩,?_⟩;let en:((((ns.map V.int).length:Nat):Int)-1).toNat=ns.length-1:=()
  rw[en];show X4 (λi=>some (.bl (decide (ns.getD i 0<ns.getD (i+1) 0)))) () (λi H2 N hi sm2 hN=>?_) (λH2 p2 H2' sm2 hp2=>?_)
  ·show⟨_,Z,_,Z,_,_,Z,Z,a,_,_,_,Z,Z,sm2.seq (s1.seq hS),Gg () (),_,Z,_,Z,a,_,_,_,Z,Z,sm2.seq (s1.seq hS),Gg () (),_,_,Z,Z,?_⟩;let z1:(1+(i:Int)-1).toNat=i:=()
   let z2:(1+(i:Int)).toNat=i+1:=()
   rw[z1,z2];show hN H2 sm2
  ·let e3:(List.range (ns.length-1)).filterMap (λi=>some (V.bl (decide (ns.getD i 0<ns.getD (i+1) 0))))=((List.range (ns.length-1)).map λi=>decide (ns.getD i 0<ns.getD (i+1) 0)).map V.bl:=by
    rw[lV];show vQ λ_ _=>rfl
   rw[e3]at hp2;show⟨p2,_,_,Z,bB.of hp2.here,jo.bls _,?_⟩;let e:V8 n ns=((List.range (ns.length-1)).map λi=>decide (ns.getD i 0<ns.getD (i+1) 0)).all id:=by
    unfold V8 Eo;rw[c,Od];rfl
   rw[e]at q;show q _ (s1.trans (sm2.trans hp2.same))
end
def Kpt(H H' G:Hp):Prop:=∀c u,(H c=none\/∀ys,u≠.lst ys)->H' c=some u->G c=some u
def Sd.a8R{K:aH}{d C dx:Addr}{fs:be}{H H':Hp}{xs:af}(e:Sd d H H')(hd:H d=some (.ins C dx fs))(h:bB K H a xs):bB K H' a xs:=by
 rcases h with(h|⟨o,h⟩)|h
 ·show .inl (.inl (e _ _ (λz=>by grind) h))
 ·show .inl (.inr ⟨o,e _ _ (λz=>by grind) h⟩)
 ·show .inr h
def Sd.tupI{K:aH}{d C dx:Addr}{fs:be}{H H':Hp}{xs:af}(e:Sd d H H')(hd:H d=some (.ins C dx fs))(h:cO K H a xs):cO K H' a xs:=by
 rcases h with(h|⟨o,h⟩)|h
 ·show .inl (.inl (e _ _ (λz=>by grind) h))
 ·show .inl (.inr ⟨o,e _ _ (λz=>by grind) h⟩)
 ·show .inr h
def Sd.wtI{K:aH}{d C dx:Addr}{fs:be}{H H':Hp}(e:Sd d H H')(hd:H d=some (.ins C dx fs)):∀{v:V}{o:Option (ae)},WtV K H v o->WtV K H' v o
 |_,none,h=>h
 |_,some _,⟨a,e1,h⟩=>⟨a,e1,e.a8R hd h⟩
def Sd.a7P{d C dx:Addr}{fs:be}{H H':Hp}(e:Sd d H H')(hd:H d=some (.ins C dx fs)){v:V}{t:Int×Int}(h:qI H v t):qI H' v t:=by
 let⟨p,e1,h⟩:=h;show⟨p,e1,e _ _ (λz=>by grind) h⟩
abbrev pG:Stmt:=top 32
def S9:bR K9 K9 (aG pG):={}
inductive a2y(K:aH)(vs:af)(H:Hp)(Q:VK)(u_3:XK):Prop
 |mk (t:Addr) (xs:af) (ts:ar) (v:V) (o:Option (ae)) (_:vs=[.ref t,v]) (_:H t=↥xs) (_:Paired (qI H) xs ts) (_:ts.Nodup) (_:ts.length<=100) (_:WtV K H v o) (_:∀ws,o=some ws->ws.length<=200) (_:R5 ts.length o=true) (_:∀p H',aL H H'->H p=none->H' p=some (.dT ((ts.map pK).zip ((wtL ts.length o).map V.int)))->Q (.ref p) H')
def a2z{H H1:Hp}(s:aL H H1){xs:af}{ts:ar}(h:Paired (qI H) xs ts):Paired (KyL H1) xs (ts.map pK):=by
 induction h with
 |nil=>show .nil
 |cons a _ ih =>
  let⟨p,e,h⟩:=a;show .cons ⟨p,e,s _ _ h⟩ ih
def a2A{o:Option (ae)}(h:R5 m o=true):(wtL m o).length=m:=by
 cases o with
 |none=>show List.length_replicate
 |some ws =>
  unfold R5 at h;rw[fX]at h;show dB h.1
section
variable{K:aH}
def Tc(B:Bl mg)(Bz:mg "zip" = none)(Ct:Cts mg)(lK:DK K mg)(jO:Dn K mg "is_below" fM sI)(BZ:Dn K mg "weights_of" lQ Ik)(Ei:Dn K mg "costs_of" pG K9):⋯ 4 Ei.f Ei.fd K9 (a2y K):=by
 let a8S:⋯ 3 _ _ _ _:=Kc B Ct lK jO BZ;show Ei.F.ok S9 λdZ A outer s H vs Q E hr h=>?_;let⟨t,xs,ts,v,o,rfl,ht,pT,nd,l1,hV,hw,ok,q⟩:=h;let hw2:(A.deeper (PyProof.Rows.envOfC "costs_of" (aG pG) s⁻¹ Ei.f dZ)).units+2<cLine:=by let:=hr.un;omega
 show⟨_,(aF (bI (ō Z hw2 Z B.dict Z Bz (O (pv 0) (O (aY a8S hr Z BZ.m BZ.F.kp BZ.b .nil bZ (O (aW (b8 (K:=K) Z) Z B.len () (O (pv 0) aj)) (O (pv 1) aj))) aj))))),?_⟩;let lx:=aU pT;show⟨_,Z,_,Z,t,_,Z,.inl (bB.of ht),_,Z,ts.length,v,o,by rw[lx];rfl,hV,l1,hw,ok,λpw H1 s1 f1 h1=>?_⟩;show⟨t,pw,xs,_,ts.map pK,Z,s1 _ _ ht,h1,?_,(by rw[aJ,aJ,a2A ok]),?_,(by rw[aJ];omega),λp H2 n2=>q p H2 (s1.trans n2.same) ?_ n2.here⟩
 ·show a2z s1 pT
 ·show wN.mpr (nd.imp λ{a b} h e=>h (Ņ e))
 ·show s1.free n2.fresh
end
inductive a2B(K:aH)(C:Addr)(vs:af)(H:Hp)(Q:VK)(u_3:XK):Prop
 |mk (d dx g t hv:Addr) (n:Nat) (xs:af) (ts:ar) (tl:ae) (v:V) (o:Option (ae)) (_:vs=[.ref d,.ref g,.ref hv,v]) (_:H d=some (.ins C dx [])) (_:cO K H g [.int n,.ref t]) (_:H t=↥xs) (_:Paired (qI H) xs ts) (_:ts.Nodup) (_:ts.length<=100) (_:H hv=↥(tl.map V.int)) (_:tl≠[]) (_:tl.Nodup) (_:∀x∈tl,0<=x/\x<(n:Int)) (_:tl.length<64) (_:WtV K H v o) (_:∀ws,o=some ws->ws.length<=200) (_:R5 ts.length o=true) (_:∀H',Sd d H H'->(∀G,Kpt H H' G->TY C n ts tl (wtL ts.length o) G d)->Q .non H')
section
variable{K:aH}
def Kf(B:Bl mg)(Bz:mg "zip" = none)(Ct:Cts mg)(gP:vW K mg)(cU:Bx K mg)(lK:DK K mg)(jO:Dn K mg "is_below" fM sI)(FZ:Dn K mg "is_set" xV KZ)(BZ:Dn K mg "weights_of" lQ Ik)(Ei:Dn K mg "costs_of" pG K9):⋯ 6 cU.fP.f cU.fP.fd Yq (a2B K cU.C):=by
 let yC:⋯ 5 _ _ _ _:=(DR B gP cU.cl cU.pH cU.uy cU.qZ).mono ();let a8T:⋯ 5 _ _ _ _:=(Tc B Bz Ct lK jO BZ Ei).mono ();let a8U:⋯ 5 _ _ _ _:=(Þ B lK jO FZ).mono ();show cU.fP.F.ok Bw (λvs H Q E h=>?_) (λdZ A outer s H vs Q E hr h=>?_)
 ·let⟨d,dx,g,t,hv,n,xs,ts,tl,v,o,rfl,_⟩:=h;rfl
 let⟨d,dx,g,t,hv,n,xs,ts,tl,v,o,rfl,hd,hg,ht,pT,nd,l1,hh,ne,tnd,tb,t64,hV,hw,ok,q⟩:=h;show⟨_,(aB (cJ (PW.pt (Aa (mR (cY (K:=K) Z (pv 2) λ_=>rfl)) (zq (mR (cY (K:=K) Z (aY a8U hr Z FZ.m FZ.F.kp FZ.b .nil bZ (O (aP (aO (K:=K) Z) (pv 1) aq) (O (aW (Ba (K:=K) Z) Z B.sorted () (O (pv 2) aj)) aj))) λ_=>rfl)))))
   (aF Ab)
   bx)
   (aB (eY (a1f Z gP.m gP.Fl yC hr gP.fP.b .nil bZ (O (pv 0) (O (pv 1) (O (bL (O aq aj)) (O (bL (O aq aj)) aj))))))
   (aB (Hx (pv 0) (fZ (jH (K:=K) Z) Z B.list () (O (pv 2) aj)) Z)
   (aF (a5q (Hx (pv 0) (aY a8T hr Z Ei.m Ei.F.kp Ei.b .nil bZ (O (aP (aO (K:=K) Z) (pv 1) aq) (O (pv 3) aj))) Z)))))),?_⟩
 let lx:xs.length<=1000:=by rw[aU pT];omega
 let nhd:hv≠d:=λe=>by grind
 show⟨_,Z,true,.inl ⟨_,bB.of hh,?_⟩,cQ ⟨_,Z,g,_,_,V.int n,Z,Z,hg,bU (j:=0) Z,_,Z,hv,tl,Z,bB.of hh,t64,λp9 H9 zs n9 pz pw9=>⟨n,p9,zs,Z,bB.of n9.here,?_,λH0 s0=>⟨true,?_,cQ ?_⟩⟩⟩⟩
 ·cases tl with
  |nil=>grind
  |cons=>rfl
 ·rw[pz.length_eq];omega
 ·show Eq.symm ((a0V _ _).mpr ⟨λx hx=>tb x (pz.mem_iff.mp hx),?_⟩);show(pw9.and (pz.nodup_iff.mpr tnd)).imp λ{a b} h=>by omega
 let sA:aL H H0:=n9.same.trans s0;show⟨_,Z,_,Z,(),λp1 H1 m1=>⟨(),λp2 H2 m2=>?_⟩⟩;let s2:aL H H2:=sA.trans (m1.same.trans m2.same);show⟨d,dx,g,t,n,xs,.ref p1,.ref p2,Z,s2 _ _ hd,s2.vP hg,s2 _ _ ht,lx,λpg pt H3 s3 ft h3d h3g h3t=>?_⟩;let e3:Sd d H H3:=λc o hc hh=>s3 c o hc (s2 _ _ hh);let np1:p1≠d:=λe=>by let:=m1.fresh;rw[e,sA _ _ hd]at this;cases this
 let np2:p2≠d:=λe=>by let:=m2.fresh;rw[e,m1.same _ _ (sA _ _ hd)]at this;cases this
 let h3l:H3 p1= ~~~[.int 0]:=s3 _ _ np1 (m2.same _ _ m1.here);let h3u:H3 p2= ~~~[.int 1]:=s3 _ _ np2 m2.here;show⟨_,Z,hv,_,Z,.inl (bB.of (e3 _ _ nhd hh)),λpw H4 n4=>?_⟩;show⟨_,Z,d,_,_,_,Z,n4.same _ _ h3d,cU.cl,cU.Jg,(by show 3<1000;decide),?_⟩;generalize hU:cX H4 d _=U;let u1:tH H4 d (.ins cU.C dx (fsQ pg (.ref p1) (.ref p2)++[(("told" : Str),V.ref pw)])) U:=by rw[<-hU];show tH.nC
 let e4:Sd d H U:=λc o hc hh=>(u1.rest c hc).trans (n4.same _ _ (e3 c o hc hh));let nt:t≠d:=λe=>by grind
 show⟨_,Z,g,_,_,V.ref t,Z,Z,e4.tupI hd hg,bU (j:=1) Z,_,Z,t,xs,ts,v,o,Z,e4 _ _ nt ht,Paired.cD pT λ_ _ h=>e4.a7P hd h,nd,l1,e4.wtI hd hV,hw,ok,λpc H5 s5 f5 h5=>?_⟩;show⟨_,Z,d,_,_,_,Z,s5 _ _ u1.here,cU.cl,cU.BJ,(by show 4<1000;decide),?_⟩;generalize hU2:cX H5 d _=U2;let u2:tH H5 d (.ins cU.C dx (fsQ pg (.ref p1) (.ref p2)++[(("told" : Str),V.ref pw),(("costs" : Str),V.ref pc)])) U2:=by rw[<-hU2];show tH.nC
 let npc:pc≠d:=λe=>by rw[e,u1.here]at f5;cases f5
 show⟨pc,_,(u2.rest pc npc).trans h5,λob=>?_⟩;generalize hU3:cX U2 pc _=U3;let u3:tH U2 pc (.iw ob (.dT ((ts.map pK).zip ((wtL ts.length o).map V.int)))) U3:=by rw[<-hU3];show tH.nC
 let e3U:∀c u,c≠d->H3 c=some u->U c=some u:=λc u hc e=>(u1.rest c hc).trans (n4.same _ _ e);let eU:∀c u,c≠d->U c=some u->U3 c=some u:=λc u hc e=>by
  rw[u3.rest c (λz=>by grind),u2.rest c hc];show s5 _ _ e
 let up:∀c u,c≠d->H3 c=some u->U3 c=some u:=λc u hc e=>eU c u hc (e3U c u hc e);let nI:∀{c u},(∀dx fs,u≠.ins cU.C dx fs)->H3 c=some u->c≠d:=λ{c u} hn e z=>by grind
 let fpw:H pw=none:=by
  cases hh:H pw with
  |none=>rfl
  |some u =>
   let f:=n4.fresh;let:=e3 pw u (λz=>by grind) hh;grind
 let npw:pw≠d:=λz=>by grind
 let hUd:U3 d=some (.ins cU.C dx (fsQ pg (.ref p1) (.ref p2)++[(("told" : Str),V.ref pw),(("costs" : Str),V.ref pc)])):=(u3.rest d npc.symm).trans u2.here;let hUw:U3 pw=↥(tl.map V.int):=eU _ _ npw ((u1.rest pw npw).trans n4.here);let pT3:Paired (qI U3) xs ts:=Paired.cD pT λ_ _ h=>by
  let⟨pp,e1,e2⟩:=e3.a7P hd h;show⟨pp,e1,up _ _ (nI (λ_ _ z=>by cases z) e2) e2⟩
 let hUg:=up _ _ (nI (λ_ _ z=>by cases z) h3g) h3g;let hUt:=up _ _ (nI (λ_ _ z=>by cases z) h3t) h3t;show q U3 (λc u hc e=>up c u hc (e3 c u hc e)) λG k=>⟨dx,pg,pt,xs,p1,p2,pw,pc,ob,k _ _ (.inr λ_ z=>by cases z) hUd,k _ _ (.inr λ_ z=>by cases z) hUg,k _ _ (.inl (s2.free ft)) hUt,Paired.cD pT3 λ_ _ ⟨p,e,h⟩=>⟨p,e,k _ _ (.inr λ_ z=>by cases z) h⟩,(),k _ _ (.inr λ_ z=>by cases z) (up _ _ np1 h3l),k _ _ (.inr λ_ z=>by cases z) (up _ _ np2 h3u),k _ _ (.inl fpw) hUw,k _ _ (.inr λ_ z=>by cases z) u3.here⟩
end
namespace Lk
set_option maxRecDepth 100000 in
def a2C:((List.range 5).all λm=>decide ((ű m).length<=400))=true:=by decide
def a5v{l:bc}(m4:m<=4)(nd:l.Nodup)(h:∀s∈l,qw m s=true):l.length<=400 :=
 cC (a7j nd λs hs=>Px (h s hs)) (dB (gH.mp a2C m (gA.mpr ())))
end Lk
structure a3l(n:Nat)(ts:ar)(ss:ax)(tl:ae)(Ts:List bW):Prop where
 len:Ts.length=ss.length
 ok:∀k,k<ss.length->(∀x∈Ts.getD k [],x.1.length=(Go.fH n ts ss k).length+1)/\(Go.fH n ts ss k).length<=4/\(Ts.getD k []).length<=400/\((Ts.getD k []).map (·.1)).Nodup
 leaf:∀k:Nat,ss[k]?=some .leaf->D1.strip (Ts.getD k [])=[([0],⟨1,0,[]⟩)]
 inn:∀(k i:Nat) (v:Int),ss[k]?=some (.inn v)->Go.oE n ts ss k=[i]->D1.strip (Ts.getD k [])=D1.xR (decide (v∈tl)) ((Go.fH n ts ss k).idxOf v) (D1.strip (Ts.getD i [])) []
 out:∀(k i:Nat) (v:Int),ss[k]?=some (.out v)->Go.oE n ts ss k=[i]->D1.strip (Ts.getD k [])=D1.wH ((Go.fH n ts ss i).idxOf v) (D1.strip (Ts.getD i [])) []
def tp4{n:Nat}{ts:ar}{ss:ax}(b4:∀b∈(cF n ts ss).aR,b.length<=4)(k:Nat):(Go.fH n ts ss k).length<=4:=by
 grind
def a5w{n:Nat}{ts:ar}{ss:ax}{tl:ae}(R:Go.a2e n ts ss)(b4:∀b∈(cF n ts ss).aR,b.length<=4)(tk:∀j,j<ss.length->yI (yx tl cost) (Go.fH n ts ss j).length ((Go.Cd (yx tl cost) n ts ss ss.length).getD j [])):a3l n ts ss tl (Go.Cd (yx tl cost) n ts ss ss.length):=by
 let tp:=Go.R8 R.dh R.sb;let st:∀k,k<ss.length->∀x∈(Go.Cd (yx tl cost) n ts ss ss.length).getD k [],Lk.qw (Go.fH n ts ss k).length x.1=true:=λk kl x hx=>(tk k kl).ok x hx (tp4 b4 k);show⟨mL _ _ _ _ _,λk kl=>⟨λx hx=>Lk.xU (st k kl x hx),tp4 b4 k,?_,(tk k kl).nd⟩,λk hs=>?_,λk i v hs ef=>?_,λk i v hs ef=>?_⟩
 ·let:=Lk.a5v (tp4 b4 k) (tk k kl).nd λs hs=>by
   let⟨x,hx,rfl⟩:=fD.mp hs;show st k kl x hx
  rwa [aJ]at this
 ·let kl:=(dY.mp hs).1;let ef:Go.oE n ts ss k=[]:=by
   let SB:=R.sb k _ hs;cases SB with
   |leaf ef=>show ef
  rw[Go.xQ _ kl,Go.Ce,ef];rfl
 ·let kl:=(dY.mp hs).1;obtain⟨lt,hv,nv,et⟩:i<k/\(0<=v/\v<(n:Int))/\v∉Go.fH n ts ss i/\Go.fH n ts ss k=fu (Go.fH n ts ss i) [v]:=by
   let SB:=R.sb k _ hs;cases SB with
   |inn ef' lt v0 vn nv et =>
    rw[ef]at ef';cases ef';show⟨lt,⟨v0,vn⟩,nv,et⟩
  let il:i<ss.length:=rR lt kl;let ei:(Go.Cd (yx tl cost) n ts ss k).getD i []=(Go.Cd (yx tl cost) n ts ss ss.length).getD i []:=(Go.xQ _ lt).trans (Go.xQ _ il).symm;let ti:=tk i il;let mj:=λx=>Go.nA (v:=x) R.dh (tp i il).2 (λy hy=>by rw[bQ.mp hy];show hv);let ej:fu (Go.fH n ts ss k) (Go.fH n ts ss i)=Go.fH n ts ss k:=(Go.vg R.dh (tp k kl).1 (tp k kl).2 λx hx=>by rw[et];show(mj x).mpr (.inl hx)).1;let ll:(Go.fH n ts ss k).length=(Go.fH n ts ss i).length+1:=by rw[et];show Go.PB R.dh (tp i il).1 (tp i il).2 hv nv
  let mv:v∈Go.fH n ts ss k:=by rw[et];show(mj v).mpr (.inr (vq v))
  let il2:=xu mv;let t4:=tp4 b4 k;rw[Go.xQ _ kl,Go.Ce,getD_at hs,ef];show D1.strip (jW (yx tl cost) (.inn v) (fu (Go.fH n ts ss k) (Go.fH n ts ss i)) ((Go.Cd (yx tl cost) n ts ss k).getD i []) [])=_;rw[ej,ei];show D1.SN hv.1 (m:=(Go.fH n ts ss i).length) () () ti.nd (st i il) λ_ _ _ _=>rfl
 ·let kl:=(dY.mp hs).1;obtain⟨lt,mv,et⟩:i<k/\v∈Go.fH n ts ss i/\Go.fH n ts ss k=mF (Go.fH n ts ss i) [v]:=by
   let SB:=R.sb k _ hs;cases SB with
   |out ef' lt mv et =>
    grind
  let il:i<ss.length:=rR lt kl;let ei:(Go.Cd (yx tl cost) n ts ss k).getD i []=(Go.Cd (yx tl cost) n ts ss ss.length).getD i []:=(Go.xQ _ lt).trans (Go.xQ _ il).symm;rw[Go.xQ _ kl,Go.Ce,getD_at hs,ef];show D1.strip (jW (yx tl cost) (.out v) (fu (Go.fH n ts ss k) (Go.fH n ts ss i)) ((Go.Cd (yx tl cost) n ts ss k).getD i []) [])=_;rw[(Go.vg R.dh (tp i il).1 (tp i il).2 λx hx=>by rw[et]at hx;show(jg.mp hx).1).2,ei];show D1.Ef (tp4 b4 i) (xu mv) (st i il)
def bG.sub{K:aH}{CX:TF}{k:Nat}{f:Addr}{fd:FuncData}{ps:ag}{sp sp':Sp}(F:bG P w K mg base CX k f fd ps sp)(m:∀vs H Q E,sp' vs H Q E->sp vs H Q E):bG P w K mg base CX k f fd ps sp' :=
 ⟨λvs H Q E h=>F.len vs H Q E (m vs H Q E h),λA outer s H args us vs Q E hr he hb hv hs=>F.run A outer s H args us vs Q E hr he hb hv (m vs H Q E hs)⟩
structure Drw where
 n:Nat
 ts:ar
 tl:ae
 cs:ae
 lc:cs.length=ts.length
inductive a2D(K:aH)(C:Addr)(vs:af)(H:Hp)(Q:VK)(u_3:XK):Prop
 |mk (pL d:Addr) (xs:af) (ss:ax) (n:Nat) (ts:ar) (tl cs:ae) (_:vs=[.ref pL,.ref d]) (_:cs.length=ts.length) (_:TY C n ts tl cs H d) (_:n<=10) (_:∀t∈ts,t.1≠t.2) (_:bB K H pL xs) (_:Paired (uD K H) xs ss) (_:ss.length<=800) (_:Bv n ts ss (cF n ts ss)=.ok) (_:∀b∈(cF n ts ss).aR,b.length<=4) (_:∀pT yt Ts H',a3l n ts ss tl Ts->aL H H'->H' pT=↥yt->Paired (WT H') yt Ts->Q (.ref pT) H')
section
variable{K:aH}
def ß(B:Bl mg)(Bz:mg "zip" = none)(cU:Bx K mg)(U:Used w K mg)(Ct:Cts mg)(lK:DK K mg)(jO:Dn K mg "is_below" fM sI)(oh:Dn K mg "joint" nH jM)(mW:Dn K mg "less" qK jM)(sY:Dn K mg "bag_behind" fO Bk)(wD:Dn K mg "run" Fi mq)(u9:Dn K mg "fault_behind" eV EY)(yq:Dn K mg "run_whole" kY mq)(yu:Ů K mg)(BR:Dn K mg "run_narrow" lN mq)(wB:Dn K mg "states_behind" fW Ez)(qJ:Dn K mg "note" uz Bj)(yj:Dn K mg "fill_along" jK Ih)(xG:Dn K mg "fill_joined" iz Ii)(zB:Dn K mg "going_up" mV Ij)(zJ:a1O K mg)(BV:Dn K mg "tables" xO KQ)(uI:Dn K mg "with_number" jq Fb)(wG:Dn K mg "without_number" gb Fd)(jZ:S6 K mg)(rB:Dn K mg "merged" qy Bo):⋯ 12 BV.f BV.fd KQ (a2D K cU.C):=by
 let QL:=λx:Drw=>(Ä (P:=P) (base:=base) B Bz Ct U (a5u B cU x.n x.ts x.tl x.cs x.lc uI wG jZ rB) lK jO oh mW sY wD u9 yq yu BR wB qJ yj xG zB zJ BV);show _root_.K.bG.sub (bG.exs QL) λvs H Q E h=>?_;let⟨pL,d,xs,ss,n,ts,tl,cs,rfl,lc,at0,dh,ne,hL,pL',l8,sW,b4,q⟩:=h;let R:=Go.a3e dh sW;let ga:=(Go.W4 (P:=P) (w:=w) (base:=base) (a5u B cU n ts tl cs lc uI wG jZ rB) (okL _ _) (λ_ _=>trivial) (λ_ h=>h) ne dh l8 sW b4 ss.length (aK _)).ok;let g:=Go.Ī (P:=P) (w:=w) (base:=base) (a5u B cU n ts tl cs lc uI wG jZ rB) (okL _ _) (λ_ _=>trivial) (λ_ h=>h) ne dh l8 sW b4;let Fc:=a5w R b4 ga;show⟨⟨n,ts,tl,cs,lc⟩,d,pL,xs,ss,Z,at0,dh,hL,pL',l8,sW,b4,g.1,g.2,λpT yt H' s hT qT=>q pT yt _ H' Fc s hT qT⟩
end
structure PSw(X:Cx)(s:Stmt)(t:TS):Prop where
 h:PS X s t
structure à(X:Cx)(ss:List Stmt)(t:TS):Prop where
 h:Qv X ss t
def a0a:à X [] Qw:=⟨bx⟩
def gF{s:Stmt}{ss:List Stmt}{t:TS}{ts:TS}(h:PSw X s t)(hs:à X ss ts):à X (s::ss) (a0u t ts):=⟨aB h.h hs.h⟩
def a0b{s:Stmt}{ss:List Stmt}{t:TS}{ts:TS}(h:PSw X s t)(hs:à X ss ts):à X (s::ss) (a6h t ts):=⟨g8 h.h hs.h⟩
abbrev Mh:Stmt:=top 52
def qO:bR ["_law_script","_law_n","_law_most","_law_rows_here","_law_web","_law_steps","_law_prices","_law_keys","_law_told","_law_handed","_law_question"] ["_law_script"] (aG Mh):={}
def a2E{G G0 G':Hp}{d:Addr}(s:aL G G0)(f:G d=none)(h:Sd d G0 G'):aL G G':=λc o e=>h c o (λz=>by grind) (s c o e)
section
variable{K:aH}
def a5x(B:Bl mg)(Bz:mg "zip" = none)(gP:vW K mg)(cU:Bx K mg)(U:Used w K mg)(Ct:Cts mg)(lK:DK K mg)(jO:Dn K mg "is_below" fM sI)(FZ:Dn K mg "is_set" xV KZ)(oh:Dn K mg "joint" nH jM)(mW:Dn K mg "less" qK jM)(sY:Dn K mg "bag_behind" fO Bk)(wD:Dn K mg "run" Fi mq)(u9:Dn K mg "fault_behind" eV EY)(yq:Dn K mg "run_whole" kY mq)(yu:Ů K mg)(BR:Dn K mg "run_narrow" lN mq)(wB:Dn K mg "states_behind" fW Ez)(qJ:Dn K mg "note" uz Bj)(yj:Dn K mg "fill_along" jK Ih)(xG:Dn K mg "fill_joined" iz Ii)(zB:Dn K mg "going_up" mV Ij)(zJ:a1O K mg)(BV:Dn K mg "tables" xO KQ)(BZ:Dn K mg "weights_of" lQ Ik)(Ei:Dn K mg "costs_of" pG K9)(uI:Dn K mg "with_number" jq Fb)(wG:Dn K mg "without_number" gb Fd)(jZ:S6 K mg)(rB:Dn K mg "merged" qy Bo)(nZ:Dn K mg "_law_at" rH KR)(dZ7:Dn K mg "_law_rows" tW Yr)(ż:Dn K mg "_law_ties" qx Yt)(Fo:Dn K mg "_law_laid" lC Bm)(Í:DZ9 K mg)(Ð:Dn K mg "_law_formed" jR Rt)(Eg:Dn K mg "_law_named" jd Il)(Ó:Dn K mg "_law_in" rJ Ru)(YS:Dn K mg "_law_out" mY Rv)(Ö:Dn K mg "_law_fits" lD Yu)(Qm:Dn K mg "law" Mh ["_law_script"]):⋯ 24 Qm.f Qm.fd ["_law_script"] (a2L K):=by
 let Sw:⋯ 23 _ _ _ _:=(zO B nZ).mono ();let gZ7:⋯ 23 _ _ _ _:=(Qc B nZ dZ7).mono ();let gZ8:⋯ 23 _ _ _ _:=(Qe B nZ ż).mono ();let gZ4:⋯ 23 _ _ _ _:=(Cp B Fo 20).mono ();let gZ1:⋯ 23 _ _ _ _:=(Qj B Í Ð Eg Ó YS Ö).mono ();let Ej:⋯ 22 _ _ _ _:=(Kf B Bz Ct gP cU lK jO FZ BZ Ei).mono ();let a8V:⋯ 23 _ _ _ _:=(ß B Bz cU U Ct lK jO oh mW sY wD u9 yq yu BR wB qJ yj xG zB zJ BV uI wG jZ rB).mono ();show Qm.F.ok qO λdZ A outer s H vs Q E hr h=>?_;let⟨a,ns,rfl,hS,h63,q⟩:=h;let hu:(A.deeper (PyProof.Rows.envOfC "law" (aG Mh) s⁻¹ Qm.f dZ)).units+68<cLine:=by let:=hr.un;omega
 let hu:(A.deeper (PyProof.Rows.envOfC "law" (aG Mh) s⁻¹ Qm.f dZ)).units+64<cLine:=()
 let hw1:(A.deeper (PyProof.Rows.envOfC "law" (aG Mh) s⁻¹ Qm.f dZ)).units+1<cLine:=()
 show⟨_,(à.h (gF ⟨(aV 1 qO.nd (bA dH aq (bA jV (aY Sw hr Z nZ.m nZ.F.kp nZ.b .nil bZ (O (pv 0) (O aq aj))) aq)))⟩
   (gF ⟨(aV 2 qO.nd (bA dH aq (bA jV (aY Sw hr Z nZ.m nZ.F.kp nZ.b .nil bZ (O (pv 0) (O aq aj))) aq)))⟩
   (a0b ⟨(cJ (aN mZ (bA jV (bA a0x (aY Sw hr Z nZ.m nZ.F.kp nZ.b .nil bZ (O (pv 0) (O aq aj))) aq) aq) aq)
   (aF (aV 1 qO.nd aq))
   bx)⟩
   (gF ⟨(aV 3 qO.nd (aY gZ7 hr Z dZ7.m dZ7.F.kp dZ7.b .nil bZ (O (pv 0) (O (pv 1) (O (pv 2) aj)))))⟩
   (gF ⟨(aV 4 qO.nd (bL (O (pv 1) (O (aY gZ8 hr Z ż.m ż.F.kp ż.b .nil bZ (O (pv 0) (O (pv 3) (O (pv 1) aj)))) aj))))⟩
   (gF ⟨(aV 5 qO.nd (bA jy (aY gZ4 hr Z Fo.m Fo.F.kp Fo.b .nil bZ (O (aP (aO (K:=K) Z) (pv 4) aq) (O (pv 3) (O aq (O (xY mZ (bA jV (aY Sw hr Z nZ.m nZ.F.kp nZ.b .nil bZ (O (pv 0) (O aq aj))) aq) aq) aj))))) (jF ["_law_v"] [none]  (by kernel_rfl) Z (dU (K:=K) Z (aP (aO (K:=K) Z) (aP (bf (K:=K) Z) (pv 3) aq) aq)) (λ_ _ _ _ _=>(aM 0 (show(["_law_v"]:ag).Nodup by decide))) (λ_ _ _ _ _=>gk) λ_ _ _ _ _=>(bL (O fY (O (pv 0) aj))))))⟩
   (gF ⟨(HD (i:=6) ["_law_k","_law_script"] [none,some 0] qO.nd Z Z (by kernel_rfl) Z (jP Z B.range (O (aW (b8 (K:=K) Z) Z B.len () (O (aP (aO (K:=K) Z) (pv 4) aq) aj)) aj)) (λ_ _ _ _ _=>(aM 0 (show(["_law_k","_law_script"]:ag).Nodup by decide))) (λ_ _ _ _ _=>gk) (λ_ _ _ _ _=>(bA jV (aY Sw hr Z nZ.m nZ.F.kp nZ.b .nil bZ (O (pv 1) (O (bA dH aq (pv 0)) aj))) (bA a3E aq aq))) (by rfl))⟩
   (gF ⟨(aV 7 qO.nd (aW (vR (K:=K) Z) Z B.sorted () (O (jF Ys [none,some 0]  (by kernel_rfl) Z (jP Z B.range (O (pv 1) aj)) (λ_ _ _ _ _=>(aM 0 (show(Ys:ag).Nodup by decide))) (λ_ _ _ _ _=>gk) λ_ _ _ _ _=>(bL (O (bA jV (aY Sw hr Z nZ.m nZ.F.kp nZ.b .nil bZ (O (pv 1) (O (bA dH aq (pv 0)) aj))) aq) (O (pv 0) aj)))) aj)))⟩
   (gF ⟨(aV 8 qO.nd (dD (uQ (K:=K) Z) (jF KY [none,none]  (by kernel_rfl) Z (dU (K:=K) Z (pv 7)) (λ_ _ _ _ _=>(jb (K:=K) (n:=2) Z Z (bN (aM 0 (show(KY:ag).Nodup by decide)) (bN (aM 1 (show(KY:ag).Nodup by decide)) gW)))) (λ_ _ _ _ _=>gk) λ_ _ _ _ _=>(pv 1)) fK (d7 (bA dH aq (bA jV (aY Sw hr Z nZ.m nZ.F.kp nZ.b .nil bZ (O (pv 0) (O aq aj))) (pv 1))))))⟩
   (gF ⟨(aV 9 qO.nd (fZ (jH (K:=K) Z) Z B.list () (O (pv 8) aj)))⟩
   (gF ⟨(aV 10 qO.nd (a0C cU.mkd Ej hr Z cU.m cU.fP.b .nil bZ (O (pv 4) (O (pv 9) (O (pv 6) aj)))))⟩
   (gF ⟨(cJ (aN (XS (K:=K) Z hu) (pv 9) (pv 8))
   (aF (bI wg))
   bx)⟩
   (gF ⟨(eY (mK (K:=K) Z gR PySem.F.slot_list_reverse PySem.F.type_list_reverse Rk (pv 9)))⟩
   (gF ⟨(eY (mK (K:=K) Z gR MP MT Bh (pv 9)))⟩
   (gF ⟨(bI (aY gZ1 hr Z Ö.m Ö.F.kp Ö.b .nil bZ (O (aY a8V hr Z BV.m BV.F.kp BV.b .nil bZ (O (pv 5) (O (pv 10) aj))) (O (pv 5) (O (pv 8) aj)))))⟩
   a0a)))))))))))))))),?_⟩
 show⟨_,Z,a,ns,0,Z,hS,h63,(),(),λz0=>⟨_,_,Z,Z,(show(0:Int)<_ by decide),_,_,Z,Z,?_⟩⟩;show⟨_,Z,a,ns,1,Z,hS,h63,(),(),λz1=>⟨_,_,Z,Z,(show(0:Int)<_ by decide),_,_,Z,Z,?_⟩⟩;let u0:=ug z0 (show(6:Int)≠0 by decide);let u1:=ud z0 (show(0:Int)<6 by decide);let w0:=ug z1 (show(3:Int)≠0 by decide);let w1:=ud z1 (show(0:Int)<3 by decide);show Bt (P:=λσ' H'=>∃(n most:Nat),σ'=[⇑a,some (.int (n:Int)),some (.int (most:Int)),none,none,none,none,none,none,none,none]/\H'=H/\1<=n/\n<=10/\2<=most/\most<=4) λJ1 ji ij=>⟨J1,?_,?_⟩
 ·obtain⟨n0,e0⟩:∃n0:Nat,1+z0%6=(n0:Int):=⟨(1+z0%6).toNat,()⟩;obtain⟨m0,e1⟩:∃m0:Nat,2+z1%3=(m0:Int):=⟨(2+z1%3).toNat,()⟩;show⟨_,Z,a,ns,0,Z,hS,h63,(),(),λz2=>⟨_,_,Z,Z,⟨(),()⟩,_,_,Z,Z,(show(0:Int)<_ by decide),Z,_,Z,qH (λc=>?_) λc=>?_⟩⟩
  ·show ji _ _ ⟨10,m0,by rw[<-e1];rfl,Z,(),(),(),()⟩
  ·show ji _ _ ⟨n0,m0,by rw[<-e0,<-e1];rfl,Z,(),(),(),()⟩
 intro σ1 H1 h1;let⟨n,most,rfl,rfl,n1,dh,m2,m4⟩:=ij _ _ h1;clear ji ij h1;show⟨_,Z,_,Z,_,Z,a,ns,n,most,Z,hS,h63,dh,(),(),λl ys rs H2 s2 fl hl pl R r20=>?_⟩;show⟨_,Z,_,Z,_,Z,_,Z,a,l,ns,ys,rs,n,Z,hS.same s2,h63,hl,pl,(),dh,λr tx ts H4 s4 fr hr4 pt tbd nd bi l45=>?_⟩;show⟨(),λpg H5 n5=>?_⟩;let s25:=s4.trans n5.same;let s05:=s2.trans s25;let hr5:=n5.same _ _ hr4;let pt5:=Paired.cD pt λ_ _ h=>qI.same n5.same h;let T:=R.T;let hl5:=s25 _ _ hl;let pl5:=Paired.cD pl λ_ _ h=>Oz.same s25 h;let hg5:=n5.here;show⟨_,Z,pg,_,1,.ref r,Z,Z,cO.of hg5,Z,_,Z,_,Z,a,ns,7,Z,hS.same s05,h63,(),(),λz7=>⟨_,_,Z,Z,(show(0:Int)<_ by decide),Z,?_⟩⟩;obtain⟨early,eea⟩:∃early:Bool,decide (V.int (z7%2)=V.int 1)=early:=⟨_,Z⟩;lk;rw[eea];show⟨r,l,tx,ys,ts,rs,n,most,0,early,Z,hr5,pt5,(),hl5,pl5,R,m4,r20,dh,T.pos,(),λp4 x4 H7 s7 f4 h4 q4=>?_⟩;let⟨v0,hx0,⟨pk,bk,rfl,Ž,hbk,nbk,lbk⟩⟩:=cI pl5 (uR T.pos);show⟨_,Z,l,_,_,_,Z,Z,bB.of (s7 _ _ hl5),bU (j:=0) hx0,pk,_,_,_,Z,Z,cO.of (s7 _ _ Ž),Z,bk,Z,⟨_,bB.of (s7 _ _ hbk)⟩,?_⟩;let hW4:∀j,(fG rs j).length<=4:=λj=>cC (R.few j) m4;let b10:(fG rs 0).length<=4:=hW4 0;show Gw (fG rs 0) (λ_=>true) cu.out (bB.of (s7 _ _ hbk)) () (λv H8 N Z98 _ s8 hN hM=>⟨_,Z,(),λp H9 n9=>hN Z p H9 n9⟩) (λH8 p5 x5 H9 s8 n9 q9=>?_);rw[List.filter_eq_self.mpr (λ_ _=>rfl)]at q9;let s79:=s8.trans n9.same;let l4:=aU q4;let l9:=aU q9;rw[aJ]at l9;let ll:=Lq T hW4 r20 early (show ts.length<=100 by omega) (f:=20) T.pos;show⟨p4,p5,_,_,Z,Z,s79 _ _ h4,n9.here,(),λpW Á nW=>?_⟩;let a2F:=s7.trans (s79.trans nW.same);obtain⟨ss,ess⟩:∃ss,ss=zM early ts rs.length (zX rs) (fG rs) 20:=⟨_,Z⟩;let qW:Paired (tB Á) (x4++x5) ss:=by
  rw[ess];show jJ (Paired.cD q4 λ_ _ h=>tB.same (s79.trans nW.same) h) (Paired.cD q9 λ_ _ h=>tB.same nW.same h)
 let lss:ss.length<=800:=by
  rw[<-aU qW,bK];omega
 let⟨sW,b4⟩:=Ê (n:=n) (wd:=4) (ts:=ts) T dh hW4 nd (λt ht=>bi t ht) (λv v0 vn=>(R.cov v v0 vn).resolve_left fj) (show rs.length<=20 from r20) early;rw[<-ess]at sW b4;let RP:=Go.a3e dh sW;let a8W:=s05.trans a2F;let xl:=aU qW;let a7Q:=a2F _ _ hr5;let a7R:=a2F _ _ hg5;let ltx:=aU pt5;show⟨_,Z,pg,_,1,.ref r,Z,Z,cO.of a7R,Z,r,_,Z,.inl (bB.of a7Q),_,Z,(),(),?_⟩;rw[jf];show Am (λi zs H'=>H'=Á/\∃ws:ae,zs=ws.map V.int/\ws.length=i/\∀x∈ws,0<=x/\x<10^30) ⟨Z,[],Z,Z,λx h=>absurd h fj⟩ (λi zs H' hi ⟨e,ws,e1,l1,_⟩=>?_) (λi zs H' hi ⟨e,ws,e1,l1,b1⟩=>?_) ?_
 ·rw[e1,aJ,l1];show fC (dz ())
 ·subst e;show⟨_,Z,_,Z,_,_,Z,Z,a,ns,_,Z,hS.same a8W,h63,(),(),λz=>⟨_,_,Z,Z,⟨(),(),()⟩,_,_,Z,Z,(show(0:Int)<10^30 by decide),Z,ws++[z%10^30],?_,?_,λx hx=>?_⟩⟩
  ·rw[e1,cW];rfl
  ·rw[bK,l1];rfl
  ·rcases cM.mp hx with h|h
   ·show b1 x h
   ·rw[bQ.mp h];show⟨ug z (),ud z ()⟩
 rintro zs a5y ⟨rfl,ws,rfl,lw,wb⟩ pw hpw;let Bu:=iH.nC (H:=a5y) (p:=pw) (o:=.lst (ws.map V.int)) hpw;generalize cX a5y pw (.lst (ws.map V.int))=H11 at Bu ⊢;rw[ltx]at lw;let wok:R5 ts.length (some ws)=true:=by
  unfold R5;rw[fX,eE,gH];show⟨lw,λx hx=>?_⟩;let:=wb x hx;rw[fX,eE,eE];show⟨this.1,this.2⟩
 let a7S:=a2F.trans Bu.same;let a8X:=s05.trans a7S;let a7T:=hS.same a8X;show⟨_,Z,_,Z,(),(),?_⟩;rw[jf];show a2Y dh (aL.refl H11) (λi G R hi s1 hR=>⟨_,Z,_,Z,_,_,Z,Z,a,ns,_,Z,a7T.same s1,h63,(),(),λz=>⟨_,_,Z,Z,(show(0:Int)<_ by decide),_,Z,(),λp2 H2 n2=>hR _ p2 H2 n2⟩⟩) λps zs H1 lps s1 hp pk hpk=>?_;let n2:=iH.nC (H:=H1) (p:=pk) (o:=.lst (ps.map V.ref)) hpk;generalize cX H1 pk (.lst (ps.map V.ref))=H2 at n2 ⊢;show a2Z (zs:=zs) dh lps n2.here (λk p h=>n2.same _ _ (hp k p h)) λqq p3 H3 pq' n3=>⟨_,Z,p3,Z,⟨_,bB.of n3.here⟩,a3a (zs:=zs) dh lps pq' n3.here (λk p h=>(n2.same.trans n3.same) _ _ (hp k p h)) λp5 H5 n5=>?_⟩;let s5:=s1.trans (n2.same.trans (n3.same.trans n5.same));let pu:(qq.map λi=>((i:Nat):Int)).Perm (rng n):=YM pq';generalize (qq.map λi=>((i:Nat):Int))=us at n5 pu;let lu:us.length=n:=by rw[pu.length_eq,aJ,vD]
 let h5:=n5.here;show⟨_,Z,a,ns,5,Z,a7T.same s5,h63,(),(),λz5=>?_⟩;let y0:=ug z5 (show(n:Int)≠0 by omega);let y1:=ud z5 (show(0:Int)<(n:Int) by omega);obtain⟨c,ec⟩:∃c:Nat,1+z5%(n:Int)=(c:Int):=⟨(1+z5%(n:Int)).toNat,()⟩;show⟨_,Z,_,_,Z,Z,(show(0:Int)<(n:Int) by omega),_,_,Z,Z,_,Z,p5,_,Z,bB.of h5,λp6 H6 n6=>?_⟩;try dsimp only at n6
 rw[ec,Jc _ _ (),<-Hj]at n6;let tnd:(us.take c).Nodup:=(pu.nodup_iff.mpr (Lr n)).sublist (GP _ _);let tb:∀x∈us.take c,0<=x/\x<(n:Int):=λx hx=>Qa.mp (pu.mem_iff.mp (j6 hx));let a8Y:(us.take c).length=c:=()
 generalize us.take c=tl at n6 tnd tb a8Y;show⟨_,Z,p6,_,Z,.inl (bB.of n6.here),λp7 H7 n7=>?_⟩;let s57:=s5.trans (n6.same.trans n7.same);show⟨_,Z,_,Z,_,Z,λd dx fd fdx ned=>?_⟩;let s0:aL H7 (cX (cX H7 dx (.own d)) d (.ins cU.C dx [])):=(Aq fdx _).trans (Aq (by rw[aQ (Ne.symm ned)];show fd) _);let hd0:cX (cX H7 dx (.own d)) d (.ins cU.C dx []) d=some (.ins cU.C dx []):=dw;generalize cX (cX H7 dx (.own d)) d (.ins cU.C dx [])=G0 at s0 hd0 ⊢;let sA:=s57.trans s0;let hh0:=s0 _ _ n7.here;show⟨d,dx,pg,r,p7,n,tx,ts,tl,.ref pw,some ws,Z,hd0,cO.of (sA _ _ (Bu.same _ _ a7R)),sA _ _ (Bu.same _ _ a7Q),Paired.cD pt5 λ_ _ h=>qI.same (a7S.trans sA) h,nd,(),hh0,(λz=>by grind),tnd,tb,(),⟨pw,Z,bB.of (sA _ _ Bu.here)⟩,(λws' e=>by grind),wok,λH8 sd at0=>⟨Z,?_⟩⟩;let s78:=a2E s0 fd sd;let h7:=s78 _ _ n7.here;let h6:=s78 _ _ (n7.same _ _ n6.here);show⟨_,Z,_,Z,_,_,.lst (bB.of h7) (vN.ints tl),.lst (bB.of h6) (vN.ints tl),shaped_ints tl,shaped_ints tl,_,Z,?_⟩;rw[aD Z,QV (shaped_ints tl)];show cQ ⟨_,Z,.inl ⟨Z,_,bB.of h7⟩,p7,_,Z,Z,h7,λG1 c1=>?_⟩;obtain⟨xr,yr,er⟩:∃(xr:af) (yr:V),(tl.map V.int).reverse=xr++[yr]:=by
  cases tl with
  |nil=>grind
  |cons x r=>grind
 let c1h:=c1.here;rw[er]at c1h;show⟨_,Z,.inl ⟨Z,_,bB.of c1h⟩,p7,xr,yr,Z,Z,c1h,λG2 c2=>?_⟩;let g2:∀c' u,c'≠p7->H8 c'=some u->G2 c'=some u:=λc' u hc e=>(c2.rest c' hc).trans ((c1.rest c' hc).trans e);let n67:∀{c' u},H6 c'=some u->c'≠p7:=λ{c' u} e z=>by let:=n7.fresh;grind
 let s2G:aL H6 G2:=λc' u e=>g2 c' u (n67 e) (s78 _ _ (n7.same _ _ e));let sG:aL a5y G2:=Bu.same.trans (s5.trans (n6.same.trans s2G));show⟨_,Z,_,Z,pW,d,x4++x5,ss,n,ts,tl,ws,Z,lw,at0 G2 (λc' u hc e=>g2 c' u (λz=>?_) e),dh,λt ht=>by grind,bB.of (sG _ _ nW.here),Paired.cD qW λ_ _ h=>tB.v (tB.same sG h),lss,sW,b4,λpT yt Ts H9 Fc s9 hT qT=>?_⟩
 ·grind
 let sG9:=sG.trans s9;show⟨_,Z,_,Z,pT,pW,p6,x4++x5,yt,ss,Ts,n,ts,tl,Z,sG9 _ _ nW.here,Paired.cD qW λ_ _ h=>tB.same sG9 h,lss,hT,qT,Fc.len,RP,(s2G.trans s9) _ _ n6.here,Fc.ok,Fc.leaf,Fc.inn,Fc.out,λH18 s18=>q _⟩
end
end K
namespace L2
open PyProof.Rows
noncomputable def á{A:Type}:Nat->(List A->Prop)->Prop
 |0,P=>P []
 |n+1,P=>∀a,á n λr=>P (a::r)
theorem a0c{A:Type}:∀(us:List A) {P:List A->Prop},á us.length P->P us
 | [],_,h=>h
 |a::r,_,h=>a0c r (h a)
def dW{K:aH}{h:Heap}{mg:Str->Option Value}{x:Str}{st:Stmt}{ps:ag}{f:Addr}{oc:Value}{od an:Option Addr}{osl:Array (Option Value)}{kV doc pm dZ ct:Value}(X:K.In h)(G:h.Ns mainGlobals mg)
  (a:nsIn K mainGlobals x=some ⇑f) (l:K.lookup f=some ⟨oc,od,.func (fnOf x x (gY st) (gj st) (aG st) .none kV doc pm an dZ ct),osl⟩) (c:codeIn K dZ x=true) (k:keepIn K (.ref f)=true)
  (hb:∀(kV doc pm:Value) (an:Option Addr) (dZ ct:Value),á ps.length λus=>bindArgs (fnOf x x (gY st) (gj st) (aG st) .none kV doc pm an dZ ct) ⟨us,[]⟩=pure (ps.zip us)) :
  Nonempty (Dn K mg x st ps) :=
 a6l X G a l c k λ_ _ _ _ _ _ us hl=>a0c us (hl▸hb ..)
noncomputable def zT {K:aH}{C:Addr}{m qual:Str}{st:Stmt}{ps:ag}{f:Addr}{oc:Value}{od an:Option Addr}{osl:Array (Option Value)}{kV doc pm dZ ct:Value}
  (a:findIn K (.ref C) m=some ⇑f) (i:isFn K (.ref f)=true)
  (l:K.lookup f=some ⟨oc,od,.func (fnOf m qual (gY st) (gj st) (aG st) .none kV doc pm an dZ ct),osl⟩) (c:codeIn K dZ qual=true) (k:keepIn K (.ref f)=true)
  (h:∀(kV doc pm:Value) (an:Option Addr) (dZ ct:Value),á ps.length λus=>bindArgs (fnOf m qual (gY st) (gj st) (aG st) .none kV doc pm an dZ ct) ⟨us,[]⟩=pure (ps.zip us)):Dm K C m qual st ps :=
 a6y a i l c k λ_ _ _ _ _ _ us hl=>a0c us (hl▸h ..)
noncomputable def a2G {K:aH}{C:Addr}{m qual:Str}{st:Stmt}{ps:ag}{f T:Addr}{oc oT:Value}{od an dT:Option Addr}{osl sT:Array (Option Value)}{kV doc pm dZ ct:Value}{nT:Nat}
  (a:findIn K (.ref C) m=some ⇑f) (i:isFn K (.ref f)=true)
  (l:K.lookup f=some ⟨oc,od,.func (fnOf m qual (gY st) (gj st) (aG st) (.ref T) kV doc pm an dZ ct),osl⟩) (c:codeIn K dZ qual=true) (k:keepIn K (.ref f)=true)
  (lT:K.lookup T=some ⟨oT,dT,.seq #[.none] nT,sT⟩)
  (h:∀(kV doc pm:Value) (an:Option Addr) (dZ ct:Value),á ps.length λus=>∃g,bindArgs (fnOf m qual (gY st) (gj st) (aG st) (.ref T) kV doc pm an dZ ct) ⟨us,[]⟩=seqItems? (.ref T) >>= g/\g (some #[.none])=pure (ps.zip us))
  (h1:∀(kV doc pm:Value) (an:Option Addr) (dZ ct:Value),á (ps.length-1) λus=>∃g,bindArgs (fnOf m qual (gY st) (gj st) (aG st) (.ref T) kV doc pm an dZ ct) ⟨us,[]⟩=seqItems? (.ref T) >>= g/\g (some #[.none])=pure (ps.zip (us++[.none]))):DmD K C m qual st ps :=
 a4y a i l c k lT (λ_ _ _ _ _ _ us hl=>a0c us (hl▸h ..)) λ_ _ _ _ _ _ us hl=>a0c us (Nat.eq_sub_of_add_eq hl▸h1 ..)
end L2
open PySem.W PyProof.Rows
inductive PySem.W.Fast:Prop|tw2145049619448034103|tw14025797985820407273|tw11261584144412140581|tw17258490247725977412|tw11982243731878671696|tw9606494286563189490|tw2100677352455371729|tw4000164740054472242|tw7463354267200406324|tw12392287819853129684|tw2330071960441175354|tw15526639756528741211|tw3214441669164498651|tw6508396748442101249|tw17778168424137471930|tw6070590076218885118|tw7958426506383400413|tw8857144364070411258|tw7525227982141390286|tw11621017823180175084|tw17820705565054446363|tw17215119083147930828|tw11525070358942243162|tw8652548655484732635|tw10125655059208488368|tw4006915694124116653|tw4758920367328622924|tw7084355899095273905|tw2655906089238317422|tw6564879572018453419|tw18001810732205764895|tw11499193475332937234|tw1252679826144431471|tw9560324123185692416|tw10999976645407691988|tw1646221271546465880|tw1940371004027573989|tw11765476467681864797|tw2027466304318583183|tw14357295592236452171|tw5816054763678847374|tw59161599607762847|tw7603153620392488212|tw17720763971212712568|tw12220040175763917437|tw784440821574227164|tw9223641970023287241|tw17508209883296802300|tw5236735009979914070|tw11680195223920017155|tw13376287661803308944|tw4337447570290557326|tw12331422915342887260|tw11895894345409280363|tw16830884388823469745|tw2343090238900669165|tw12713855009461489481|tw18174196795706076621|tw5793020816174504215|tw7361265053161236138|tw13286794654857368492|tw17575643184490697096|tw12856492768828859346|tw15139555241337344497|tw4551328522021165632|tw8283263805298435901|tw14445055468588600418|tw9229996531440873461|tw15871914998379865167|tw10212669200469847553|tw12357778608747883614|tw6295449895044947703|tw920926390876353707|tw16693904203086324173|tw5897038584924310802|tw9961923842090071797|tw16990423938738668806|tw17669349464993801859|tw6917151727425835263|tw16741424778493944442|tw11322470043924649888|tw12482793101689839261|tw7763608578498128880|tw2205157130515678309|tw2831353415936830217|tw10369961939212472743|tw17159172290128092794|tw4066418132217989341|tw9360690950811798523|tw10139142732377934548|tw12598092122546380459|tw3146805925019921875|tw16470799916521132834|tw10309316086384520570|tw2282053594392295749|tw1888527580446653233|tw279916006203585994|tw17440474883860348468|tw5088686844865973114|tw609719584019785061|tw10509465127770669471|tw2174345512427573431|tw11559927966433635230|tw6581735348181846261|tw1436077807108602038|tw8069912607238642082|tw14941909314652381278|tw6214966991329305624|tw16062079187864789572|tw16569879016608463357|tw7395639855174081592|tw6993837330734723388|tw15470980384013198761|tw10378615353051583313|tw12099078366489323803|tw12648846977407428026|tw18442874478555302412|tw7590734926170261072|tw17807762306991042030|tw8613949293512142457|tw7365239994116879569|tw5681782686453765932|tw16302770511857467764|tw7619010951408153774|tw3283937708458644274|tw827162875598437515|tw4054928061868146490|tw10760637209301889016|tw12840182433882637032|tw12045285282254876059|tw8280308707056088994|tw6614345472605789189|tw7148706767055998924|tw7269651292910191331|tw629601083442985828|tw18297584579133366372|tw16874033542048657103|tw16227751519652255917|tw14259100233823968684|tw13627999454475641505|tw11974703518567283711|tw7120068761951617447|tw7757137325342034109|tw5853306715656114868|tw5757004628399908953|tw5681092589459216473|tw1264376631700715425|tw16400972868248661856|tw7142531179870023931|tw1202142199708520421|tw1988511139973574847|tw1734566105504183829|tw2341726771568498273|tw6917581567683084113|tw16608549387126556476|tw12620177073952775564|tw16470393579942431295|tw17762568860287784180|tw1522578144203943313|tw12137878474970339474|tw8425171119475963700|tw2911257224327314105|tw15468404841614127940|tw5615766266342334880|tw4034415558526529892|tw18007463139613976156|tw9701884366412941171|tw10305130313173134358|tw1975245251834469153|tw14205421764509665327|tw4617522054498748054|tw7586929198939620940|tw16934015822286831405|tw10102691044840114366|tw14766911490516740473|tw5531814990994601514|tw3080245039100544757|tw8431290854371792445|tw6759098664013824324|tw5205869658301662659|tw5162044938521239717|tw1569446456711833537|tw1527296279507126338|tw13678412038876385453|tw13241570153270476666|tw13118387780447359540|tw1280705695852061910|tw5935311313753801425|tw10415063828130996075|tw12086936731434979948|tw13756586505979281600|tw6086383660792050592|tw16295116406829110962|tw11756159967987473678|tw16465572783167738157|tw15491113380466667615|tw13096557658481699974|tw1884800528053103501|tw5416154595447062804|tw12505361732437411205|tw5982182513532396968|tw561655647476375451|tw2459343107134040145|tw9306075419694800300|tw891505070769082628|tw8790193491488449571|tw8709487210345237991|tw8119337601406647423|tw7982998846055658534|tw7690298945456610691|tw7276710832364880534|tw7153033740850022963|tw6923598179618110806|tw6543944042099311906|tw6517894223093812800|tw5938437154706893665|tw5264498148956138759|tw5116928417639667301|tw4869985739650950281|tw4450753483577603468|tw4390725801015624292|tw3993188567482289663|tw3679570800317593341|tw2701286676147296218|tw2393214683301721382|tw18220600774445453316|tw16759115362236138623|tw16746062713671025140|tw16103884766867811943|tw15668369145687955019|tw15200355458822835027|tw14462513422603216797|tw13948192827229318196|tw13880724925465194262|tw12361088252319549626|tw11428398063253274949|tw1134121875950370757|tw17105558245904326297|tw8843445560855724166|tw7236019371807245237|tw6479114956644195760|tw4898849654017059235|tw2809395826854147434|tw13139766022919921759|tw10825767860663275655|tw10283484152438507607|tw14721695432872274857|tw11836030064414420443|tw9069083817091354655|tw669505826367715605|tw11459278743580635113
set_option maxRecDepth 100000 in
set_option maxHeartbeats 0 in
theorem PySem.Challenge.cw_bagwood_k70_links_in_and_out_holds : PySem.Challenge.rw_bagwood_k70_links_in_and_out.Holds := by
 w_on;o_law;k_head;(case hw=>w_witness2)
 k_fill
 refine L2.Ę (l:=PySem.Challenge.rw_bagwood_k70_links_in_and_out) (n:=63) (k:=24) (x:="_law_script") (CX:=L2.gh) (sp:=Lw.a2L) rfl (by decide) rfl ⟨rfl,by decide,by decide⟩ (λw h Z99=>PySem.W.kIn_of Z99) ?F ?S ?C
 case F =>
  intro w mg fa h KX G hmg
  have B:L2.Bl mg:=by
   refine' L2.a6m KX G ?z1 ?z2 ?z3 ?z4 ?z5 ?z6 ?z7 ?z8 ?z9 ?z10 ?z11 ?z12 ?z13 ?z14 ?z15 ?z16 ?z17
   all_goals k_is
  have Bz:mg "zip" = none:=by
   refine' PySem.W.mg_none_of KX G ?z
   k_is
  obtain⟨lK⟩:Nonempty (L2.Dn (L2.KOf KX) mg "is_whole" K.zE ["thing"]):=by dsimp only[L2.KOf];refine' L2.dW KX G ?a ?l ?c ?k (λ_ _ _ _ _ _ _=>rfl);case a|l|c|k=>k_is
  obtain⟨jO⟩:Nonempty (L2.Dn (L2.KOf KX) mg "is_below" K.fM ["n","thing"]):=by dsimp only[L2.KOf];refine' L2.dW KX G ?a ?l ?c ?k (λ_ _ _ _ _ _ _ _=>rfl);case a|l|c|k=>k_is
  obtain⟨FZ⟩:Nonempty (L2.Dn (L2.KOf KX) mg "is_set" K.xV ["n","places"]):=by dsimp only[L2.KOf];refine' L2.dW KX G ?a ?l ?c ?k (λ_ _ _ _ _ _ _ _=>rfl);case a|l|c|k=>k_is
  obtain⟨oh⟩:Nonempty (L2.Dn (L2.KOf KX) mg "joint" K.nH ["one","other"]):=by dsimp only[L2.KOf];refine' L2.dW KX G ?a ?l ?c ?k (λ_ _ _ _ _ _ _ _=>rfl);case a|l|c|k=>k_is
  obtain⟨mW⟩:Nonempty (L2.Dn (L2.KOf KX) mg "less" K.qK ["one","other"]):=by dsimp only[L2.KOf];refine' L2.dW KX G ?a ?l ?c ?k (λ_ _ _ _ _ _ _ _=>rfl);case a|l|c|k=>k_is
  obtain⟨sY⟩:Nonempty (L2.Dn (L2.KOf KX) mg "bag_behind" K.fO ["graph","done","step","used"]):=by dsimp only[L2.KOf];refine' L2.dW KX G ?a ?l ?c ?k (λ_ _ _ _ _ _ _ _ _ _=>rfl);case a|l|c|k=>k_is
  obtain⟨wD⟩:Nonempty (L2.Dn (L2.KOf KX) mg "run" K.Fi ["graph","steps"]):=by dsimp only[L2.KOf];refine' L2.dW KX G ?a ?l ?c ?k (λ_ _ _ _ _ _ _ _=>rfl);case a|l|c|k=>k_is
  obtain⟨u9⟩:Nonempty (L2.Dn (L2.KOf KX) mg "fault_behind" K.eV ["graph","steps","tops","pile"]):=by dsimp only[L2.KOf];refine' L2.dW KX G ?a ?l ?c ?k (λ_ _ _ _ _ _ _ _ _ _=>rfl);case a|l|c|k=>k_is
  obtain⟨yq⟩:Nonempty (L2.Dn (L2.KOf KX) mg "run_whole" K.kY ["graph","steps"]):=by dsimp only[L2.KOf];refine' L2.dW KX G ?a ?l ?c ?k (λ_ _ _ _ _ _ _ _=>rfl);case a|l|c|k=>k_is
  obtain⟨yu⟩:Nonempty (L2.Dn (L2.KOf KX) mg "refuse_wide" K.uG ["bags"]):=by dsimp only[L2.KOf];refine' L2.dW KX G ?a ?l ?c ?k (λ_ _ _ _ _ _ _=>rfl);case a|l|c|k=>k_is
  obtain⟨BR⟩:Nonempty (L2.Dn (L2.KOf KX) mg "run_narrow" K.lN ["graph","steps"]):=by dsimp only[L2.KOf];refine' L2.dW KX G ?a ?l ?c ?k (λ_ _ _ _ _ _ _ _=>rfl);case a|l|c|k=>k_is
  obtain⟨wB⟩:Nonempty (L2.Dn (L2.KOf KX) mg "states_behind" K.fW ["question","old","step","bag"]):=by dsimp only[L2.KOf];refine' L2.dW KX G ?a ?l ?c ?k (λ_ _ _ _ _ _ _ _ _ _=>rfl);case a|l|c|k=>k_is
  obtain⟨qJ⟩:Nonempty (L2.Dn (L2.KOf KX) mg "note" K.uz ["question","table","state","row"]):=by dsimp only[L2.KOf];refine' L2.dW KX G ?a ?l ?c ?k (λ_ _ _ _ _ _ _ _ _ _=>rfl);case a|l|c|k=>k_is
  obtain⟨yj⟩:Nonempty (L2.Dn (L2.KOf KX) mg "fill_along" K.jK ["question","table","source","step","bag"]):=by dsimp only[L2.KOf];refine' L2.dW KX G ?a ?l ?c ?k (λ_ _ _ _ _ _ _ _ _ _ _=>rfl);case a|l|c|k=>k_is
  obtain⟨xG⟩:Nonempty (L2.Dn (L2.KOf KX) mg "fill_joined" K.iz ["question","table","source","another"]):=by dsimp only[L2.KOf];refine' L2.dW KX G ?a ?l ?c ?k (λ_ _ _ _ _ _ _ _ _ _=>rfl);case a|l|c|k=>k_is
  obtain⟨zB⟩:Nonempty (L2.Dn (L2.KOf KX) mg "going_up" K.mV ["steps","question","tops","feeds"]):=by dsimp only[L2.KOf];refine' L2.dW KX G ?a ?l ?c ?k (λ_ _ _ _ _ _ _ _ _ _=>rfl);case a|l|c|k=>k_is
  obtain⟨zJ⟩:Nonempty (L2.Dn (L2.KOf KX) mg "without_sources" K.jY ["table"]):=by dsimp only[L2.KOf];refine' L2.dW KX G ?a ?l ?c ?k (λ_ _ _ _ _ _ _=>rfl);case a|l|c|k=>k_is
  obtain⟨BV⟩:Nonempty (L2.Dn (L2.KOf KX) mg "tables" K.xO ["steps","question"]):=by dsimp only[L2.KOf];refine' L2.dW KX G ?a ?l ?c ?k (λ_ _ _ _ _ _ _ _=>rfl);case a|l|c|k=>k_is
  obtain⟨BZ⟩:Nonempty (L2.Dn (L2.KOf KX) mg "weights_of" K.lQ ["many","weights"]):=by dsimp only[L2.KOf];refine' L2.dW KX G ?a ?l ?c ?k (λ_ _ _ _ _ _ _ _=>rfl);case a|l|c|k=>k_is
  obtain⟨Ei⟩:Nonempty (L2.Dn (L2.KOf KX) mg "costs_of" K.pG ["ties","costs"]):=by dsimp only[L2.KOf];refine' L2.dW KX G ?a ?l ?c ?k (λ_ _ _ _ _ _ _ _=>rfl);case a|l|c|k=>k_is
  obtain⟨uI⟩:Nonempty (L2.Dn (L2.KOf KX) mg "with_number" K.jq ["state","spot","number"]):=by dsimp only[L2.KOf];refine' L2.dW KX G ?a ?l ?c ?k (λ_ _ _ _ _ _ _ _ _=>rfl);case a|l|c|k=>k_is
  obtain⟨wG⟩:Nonempty (L2.Dn (L2.KOf KX) mg "without_number" K.gb ["state","spot"]):=by dsimp only[L2.KOf];refine' L2.dW KX G ?a ?l ?c ?k (λ_ _ _ _ _ _ _ _=>rfl);case a|l|c|k=>k_is
  obtain⟨jZ⟩:Nonempty (L2.Dn (L2.KOf KX) mg "renumbered" K.vZ ["numbers"]):=by dsimp only[L2.KOf];refine' L2.dW KX G ?a ?l ?c ?k (λ_ _ _ _ _ _ _=>rfl);case a|l|c|k=>k_is
  obtain⟨rB⟩:Nonempty (L2.Dn (L2.KOf KX) mg "merged" K.qy ["numbers","one","other"]):=by dsimp only[L2.KOf];refine' L2.dW KX G ?a ?l ?c ?k (λ_ _ _ _ _ _ _ _ _=>rfl);case a|l|c|k=>k_is
  obtain⟨nZ⟩:Nonempty (L2.Dn (L2.KOf KX) mg "_law_at" K.rH ["_law_script","_law_k"]):=by dsimp only[L2.KOf];refine' L2.dW KX G ?a ?l ?c ?k (λ_ _ _ _ _ _ _ _=>rfl);case a|l|c|k=>k_is
  obtain⟨dZ7⟩:Nonempty (L2.Dn (L2.KOf KX) mg "_law_rows" K.tW ["_law_script","_law_n","_law_most"]):=by dsimp only[L2.KOf];refine' L2.dW KX G ?a ?l ?c ?k (λ_ _ _ _ _ _ _ _ _=>rfl);case a|l|c|k=>k_is
  obtain⟨ż⟩:Nonempty (L2.Dn (L2.KOf KX) mg "_law_ties" K.qx ["_law_script","_law_rows_here","_law_n"]):=by dsimp only[L2.KOf];refine' L2.dW KX G ?a ?l ?c ?k (λ_ _ _ _ _ _ _ _ _=>rfl);case a|l|c|k=>k_is
  obtain⟨Fo⟩:Nonempty (L2.Dn (L2.KOf KX) mg "_law_laid" K.lC ["_law_ties_here","_law_rows_here","_law_k","_law_early"]):=by dsimp only[L2.KOf];refine' L2.dW KX G ?a ?l ?c ?k (λ_ _ _ _ _ _ _ _ _ _=>rfl);case a|l|c|k=>k_is
  obtain⟨Í⟩:Nonempty (L2.Dn (L2.KOf KX) mg "_law_tops" K.tX ["_law_steps"]):=by dsimp only[L2.KOf];refine' L2.dW KX G ?a ?l ?c ?k (λ_ _ _ _ _ _ _=>rfl);case a|l|c|k=>k_is
  obtain⟨Ð⟩:Nonempty (L2.Dn (L2.KOf KX) mg "_law_formed" K.jR ["_law_found","_law_size"]):=by dsimp only[L2.KOf];refine' L2.dW KX G ?a ?l ?c ?k (λ_ _ _ _ _ _ _ _=>rfl);case a|l|c|k=>k_is
  obtain⟨Eg⟩:Nonempty (L2.Dn (L2.KOf KX) mg "_law_named" K.jd ["_law_closed","_law_labels"]):=by dsimp only[L2.KOf];refine' L2.dW KX G ?a ?l ?c ?k (λ_ _ _ _ _ _ _ _=>rfl);case a|l|c|k=>k_is
  obtain⟨Ó⟩:Nonempty (L2.Dn (L2.KOf KX) mg "_law_in" K.rJ ["_law_table","_law_at_here","_law_is_told"]):=by dsimp only[L2.KOf];refine' L2.dW KX G ?a ?l ?c ?k (λ_ _ _ _ _ _ _ _ _=>rfl);case a|l|c|k=>k_is
  obtain⟨YS⟩:Nonempty (L2.Dn (L2.KOf KX) mg "_law_out" K.mY ["_law_table","_law_at_here"]):=by dsimp only[L2.KOf];refine' L2.dW KX G ?a ?l ?c ?k (λ_ _ _ _ _ _ _ _=>rfl);case a|l|c|k=>k_is
  obtain⟨Ö⟩:Nonempty (L2.Dn (L2.KOf KX) mg "_law_fits" K.lD ["_law_found","_law_steps","_law_told"]):=by dsimp only[L2.KOf];refine' L2.dW KX G ?a ?l ?c ?k (λ_ _ _ _ _ _ _ _ _=>rfl);case a|l|c|k=>k_is
  obtain⟨Qm⟩:Nonempty (L2.Dn (L2.KOf KX) mg "law" K.Mh ["_law_script"]):=by dsimp only[L2.KOf];refine' L2.dW KX G ?a ?l ?c ?k (λ_ _ _ _ _ _ _=>rfl);case a|l|c|k=>k_is
  obtain⟨U⟩:Nonempty (L2.Used w (L2.KOf KX) mg):=by
   dsimp only[L2.KOf]
   refine' L2.a1d KX G ?a ?l ?c
   (case a=>k_is);(case l=>k_is);(case c=>exact⟨_,_,_,_,_,_,_,_,_,_,rfl⟩)
  obtain⟨gP⟩:Nonempty (K.vW (L2.KOf KX) mg):=by dsimp only[L2.KOf];refine'⟨{C:=_,cl:=⟨?pg,?hd,?po,?sa⟩,m:=PySem.W.mg_of KX G ?a,fP:=L2.zT (st:=K.lZ) (ps:=["self","graph","leaf","whole"]) ?sU ?sV ?zU ?zV ?v5 (λ_ _ _ _ _ _ _ _ _ _=>rfl),Fl:=⟨?ga,⟨.type "type",?Td,?Tf⟩,?v5⟩,mkd:=⟨?mk,?sU,?sV,?kc⟩}⟩;case a|pg|hd|po|sa|mk|kc|sU|sV|zU|zV|v5|ga|Tf|Td=>k_is
  obtain⟨cU⟩:Nonempty (K.Bx (L2.KOf KX) mg):=by dsimp only[L2.KOf];refine'⟨{C:=_,cl:=⟨?pg,?hd,?po,?sa⟩,m:=PySem.W.mg_of KX G ?a,pH:=?pH,uy:=?uy,qZ:=?qZ,Jg:=?Jg,BJ:=?BJ,fP:=L2.a2G (st:=K.pB) (ps:=["self","graph","told","costs"]) ?sU ?sV ?zU ?zV ?v5 ?Xp (λ_ _ _ _ _ _ _ _ _ _=>⟨_,rfl,rfl⟩) (λ_ _ _ _ _ _ _ _ _=>⟨_,rfl,rfl⟩),tQ:=L2.zT (st:=K.jc) (ps:=["self","one","other"]) ?Tg ?Tj ?Tn ?Tp ?Tq (λ_ _ _ _ _ _ _ _ _=>rfl),BK:=L2.zT (st:=K.nJ) (ps:=["self","state"]) ?a0d ?a0e ?a0f ?a0g ?a0h (λ_ _ _ _ _ _ _ _=>rfl),BL:=L2.zT (st:=K.nO) (ps:=["self","one","other"]) ?a0i ?a0j ?a0k ?a0l ?a0m (λ_ _ _ _ _ _ _ _ _=>rfl),BP:=L2.zT (st:=K.kW) (ps:=["self","state","spot","v"]) ?a0n ?a0o ?a0p ?a0q ?a0r (λ_ _ _ _ _ _ _ _ _ _=>rfl),Pk:=L2.zT (st:=K.nP) (ps:=["self","state","one","other","tie"]) ?a5z ?a5A ?a5B ?a5C ?a5D (λ_ _ _ _ _ _ _ _ _ _ _=>rfl),tR:=L2.zT (st:=K.jX) (ps:=["self","state","spot","v"]) ?Tr ?Tt ?Tv ?Tw ?Tz (λ_ _ _ _ _ _ _ _ _ _=>rfl),mkd:=⟨?mk,?sU,?sV,?kc⟩}⟩;(case a|pg|hd|po|sa|mk|kc|sU|sV|zU|zV|v5|Xp|Tg|Tj|Tn|Tp|Tq|a0d|a0e|a0f|a0g|a0h|a0i|a0j|a0k|a0l|a0m|a0n|a0o|a0p|a0q|a0r|a5z|a5A|a5B|a5C|a5D|Tr|Tt|Tv|Tw|Tz=>k_is);case pH|uy|qZ|Jg|BJ=>unfold L2.jC;k_is
  obtain⟨Ct⟩:Nonempty (K.Cts mg):=by
   refine' K.a4P KX G ?Ga ?JK
   case Ga|JK=>k_is
  exact L2.a3W hmg Qm λbase=>K.a5x B Bz gP cU U Ct lK jO FZ oh mW sY wD u9 yq yu BR wB qJ yj xG zB zJ BV BZ Ei uI wG jZ rB nZ dZ7 ż Fo Í Ð Eg Ó YS Ö Qm
 case S=>exact λK H a ns hl hO hS=>⟨a,ns,rfl,Lw.ã.of hO hS,hl,λ_=>rfl⟩
 case C=>exact λ_ _ _ _ z=>z
