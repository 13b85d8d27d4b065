import PyProof.Rows.All
import Wide.All
import OpenK.AllK
import Wide.FinOn
import PySem.Challenge.RW_bagwood_k71_links_by_ties
set_option Elab.async false
set_option linter.all false
set_option compiler.extract_closed false
set_option genSizeOf false
set_option tactic.hygienic false
set_option maxRecDepth 100000
local macro_rules | `(tactic| omega) => `(tactic| first | lia | omega (config := {}))
set_option maxHeartbeats 16000000
local macro_rules | `(tactic| decide) => `(tactic| decide +kernel)
local macro_rules | `(()) => `(by first|decide|omega|exact Nat.le_of_ble_eq_true rfl|grind)
local macro_rules | `($x⁻¹) => `(($x).heap.objs.size)
set_option hygiene false
local macro_rules|`(tactic|let $d:letDecl)=>`(tactic|have $d:letDecl)
local macro_rules|`(tactic|let $p:term:=$v)=>do{let q←p.raw.rewriteBottomUpM fun|`(⟨$x,*⟩)=>(do{let y:=x.getElems.map fun z=>⟨z.1⟩;`(rcasesPat|⟨$[$y],*⟩)})|`($x:ident)=>`(rcasesPat|$x:ident)|`(_)=>`(rcasesPat|_)|x=>pure x;`(tactic|obtain $(⟨q⟩):rcasesPat:=$v)}
local macro_rules|`(tactic|show $x)=>`(tactic|refine $x)
local macro_rules|`(tactic|lk)=>`(tactic|dsimp only)
local macro_rules|`($x•$y)=>`({ $x with heap:=$y })
local macro_rules|`($x^^^$y)=>`(($x).heap.get? $y)
local macro_rules|`(⇑$x)=>`(some (.ref $x))
local macro_rules|`(↥$x)=>`(some (.lst $x))
local macro_rules|`(~~~$x)=>`(some (.tup $x))
local macro_rules|`(∎)=>`(wpAny (model prog w) A)
local macro_rules|`(⋯)=>`(bF P w K mg base gk)
local macro_rules|`(∅)=>`(Value->Shared->Prop)
open PySem.W (instObj lookIn findIn isFn emptyDict keepIn kitOne fnOf codeIn nsIn)
noncomputable section
def Q_(_:0=0:=by first|rfl|decide):=0
local macro_rules|`(@&$x)=>`(autoParam $x Q_._auto_1)
def Q0_(_:0=0:=by intro _;rfl):=0
def Q1_(_:0=0:=by first|exact Or.inl rfl|exact Or.inr Z):=0
def Q2_(_:0=0:=by first|exact .inl rfl|exact .inr rfl|assumption):=0
def Z{α:Sort _}{a:α}:a=a:=rfl
def M:=@PySem.wpAny_bind
def ao:=@PySem.wpAny_pure
def aH:=@List.length_map
def bC:=@List.getElem?_eq_getElem
def bL:=@PySem.Heap.get?_push_of_some
def bh:=@List.mem_cons_self
def bM:=@List.mem_cons_of_mem
def bG:=@List.mem_singleton
def aR:=@decide_eq_true
def aK:=@Nat.le_refl
def bO:=@List.length_append
def aW:=@PySem.Paired.length
def b7:=@PySem.Heap.get?_push_size
def aA:=@if_neg
def bf:=@PySem.Heap.lt_size
def eG:=@List.getElem?_eq_some_iff
def aB:=@if_pos
def cL:=@Bool.false_ne_true
def cI:=@List.getElem?_map
def bQ:=@List.mem_cons
def cC:=@decide_eq_false
def cH:=@List.mem_append
def dw:=@of_decide_eq_true
def dJ:=@decide_eq_true_iff
def b8:=@List.map_cons
def fQ:=@List.mem_append_right
def bY:=@Nat.ne_of_lt
def dz:=@List.map_append
def gJ:=@PySem.F.plainAttrs_list
def dD:=@Option.some.inj
def cF:=@Nat.le_trans
def eN:=@List.length_take
def eO:=@List.not_mem_nil
def gZ:=@List.mem_of_getElem?
def fW:=@List.size_toArray
def fU:=@Bool.and_eq_true
def dY:=@PySem.wpAny_holding
def cW:=@Nat.zero_le
def gD:=@PySem.wpAny_call_entry
def dM:=@List.mem_map
def jD:=@PySem.Around.under_plainId
def iZ:=@Nat.lt_of_lt_of_le
def iG:=@Int.toNat_natCast
def fX:=@List.mem_range
def g8:=@List.all_eq_true
def ig:=@List.take_length
def lN:=@Option.map_eq_some_iff
def gK:=@PySem.PassesOwn.never
def iH:=@List.length_cons
def iI:=@List.length_drop
def fD:=@Nat.le_of_lt
def m9:=@PySem.wpAny_callSpecial?_slot
def lQ:=@List.mem_of_mem_take
def jb:=@List.nodup_cons
def jW:=@PySem.W.mg_none_of
def jX:=@PySem.wpAny_setField_rec
def jP:=@PySem.wpAny_newObj_type
def jq:=@PySem.codeAny_builtin
def jE:=@List.append_nil
def jr:=@List.take_succ
def jQ:=@List.mem_filter
def oK:=@List.mem_append_left
def gF:=@PySem.wpAny_field
def iJ:=@Nat.ne_of_gt
def rH:=@List.find?_cons_of_pos
def gM:=@PySem.sizeLine_eq
def yD:=@List.take_succ_eq_append_getElem
def tR:=@List.pairwise_singleton
def tU:=@PySem.F.plainAttrs_dict
def mO:=@List.getElem_mem
def qz:=@beq_eq_false_iff_ne
def qC:=@List.getElem_of_mem
def qD:=@PySem.Heap.SameBut.update
def wH:=@PyProof.Rows.callWith_type1
def tV:=@List.find?_cons_of_neg
def jR:=@PySem.plainId_quiet
def oM:=@List.append_assoc
def wI:=@List.getElem?_append_right
def tW:=@List.take_append_drop
def vo:=@List.mem_singleton_self
def iw:=@PySem.wpAny_mono
def vp:=@PySem.SeqAt.canLay_of_shaped
def tX:=@Array.length_toList
def rJ:=@PySem.wpAny_dictEntries
def yE:=@List.getElem?_append_left
def yF:=@List.drop_eq_getElem_cons
def yG:=@Array.getElem?_eq_getElem
def tY:=@List.pairwise_cons
def lR:=@List.map_map
def wJ:=@List.take_of_length_le
def tZ:=@Int.emod_lt_of_pos
def oN:=@PySem.Heap.size_push
def vq:=@List.map_congr_left
def wK:=@List.filterMap_append
def uc:=@List.nodup_append
def vy:=@PySem.wpAny_Call_Name_kw
def qF:=@PySem.wpAny_seqItems
def rK:=@Bool.eq_iff_iff
def rM:=@PySem.W.kia_one
def oO:=@List.any_cons
def jY:=@PySem.wpAny_rule
def vz:=@PySem.wpAny_pyIter_list
def vA:=@List.length_range
def yH:=@PySem.Heap.get?_update_self
def jF:=@PySem.wpAny_ite
def ud:=@Int.emod_nonneg
def uf:=@PySem.wpAny_loadPart'
def vB:=@PySem.wpAny_isInstance
def yI:=@List.mem_of_mem_drop
def Gq:=@List.idxOf_lt_length_of_mem
def mQ:=@True.intro
def Gr:=@List.perm_ext_iff_of_nodup
def wL:=@List.pairwise_map
def Lq:=@PySem.F.slot_tuple_iterator_next
def Lr:=@PyProof.Rows.slot_tuple_getitem
def Ck:=@List.length_singleton
def Cm:=@PySem.wpAny_notOrdered_dict
def Cp:=@PySem.F.slot_dict_get
def Cq:=@List.length_filter_le
def wM:=@Nat.lt_succ_self
def wN:=@PySem.F.plain_any_loop
def yJ:=@PySem.tupleKind_room_in1
def Ls:=@PySem.wpAny_typeNameOfWhole_itemiter
def rN:=@PySem.wpAny_typeOf
def Gs:=@PySem.SetTable.toList_insertAt
def ug:=@PySem.wpAny_attempt
def vC:=@List.nodup_nil
def Lx:=@PySem.wpAny_typeNameOfWhole_keyiter
def Ly:=@PySem.F.slot_dict_itemiterator_next
def Cr:=@List.dropLast_concat
def Gu:=@PySem.F.slot_list_index
def Gv:=@PySem.F.type_list_index
def Gw:=@PySem.F.slot_dict_items
def Gx:=@PySem.F.type_dict_items
def yK:=@Bool.eq_false_iff
def wO:=@List.range_succ
def wQ:=@Nat.not_lt_zero
def Lz:=@PySem.F.slot_dict_keyiterator_next
def wR:=@PySem.wpAny_dictEpoch
def wU:=@PySem.F.slot_zip_next
def LC:=@PySem.F.slot_dict_setdefault
def Cu:=@PySem.mem_of_lookup
def Cv:=@List.length_reverse
def uh:=@Nat.lt_trans
def Gy:=@PySem.wpAny_nextOf_list_item
def vD:=@List.sum_cons
def Cw:=@List.find?_eq_none
def Cy:=@List.filter_append
def Gz:=@Array.getElem?_toList
def yL:=@PySem.wpAny_passesOwn
def Cz:=@PySem.wpAny_truthy_bool
def vG:=@Nat.sub_zero
def GC:=@List.Pairwise.filter
def CG:=@PySem.typeIs_bool
def LK:=@PySem.F.args_tuple_add_2
def LQ:=@List.filterMap_cons_some
def LR:=@PySem.F.entry_tuple_add
def Ma:=@List.length_eq_zero_iff
def Mf:=@List.filter_cons_of_pos
def SM:=@List.eq_nil_iff_forall_not_mem
def yM:=@List.Perm.refl
def vH:=@Nat.le_succ
def Mg:=@PySem.F.slot_tuple_add
def Mh:=@PySem.Heap.get?_update_other
def wV:=@Nat.lt_or_ge
def Mi:=@Array.getElem?_eq_none
def yN:=@Nat.lt_irrefl
def Ì:=@PySem.wpAny_callSpecialIfBoundUnlessNone?_slot
def GD:=@Nat.lt_succ_of_lt
def GF:=@PySem.wpAny_storeSet_of
def SN:=@Array.perm_iff_toList_perm
def Mj:=@List.pairwise_append
def CJ:=@PySem.wpAny_fieldsOf
def Ml:=@List.getLast?_concat
def GJ:=@Nat.le_add_right
def GK:=@decide_eq_decide
def yO:=@Nat.sub_self
def SQ:=@List.pairwise_iff_getElem
def Mp:=@PySem.Heap.get?_update_ne
def SX:=@List.length_filterMap_le
def CK:=@List.drop_one
def GP:=@PySem.wpAny_specialOf
def GQ:=@Option.map_some
def Mq:=@PySem.wpAny_pyIter_tuple
def Mr:=@PySem.W.callWith_K
def Ms:=@List.filterMap_map
def Mt:=@Nat.lt_of_le_of_lt
def Í:=@PySem.F.args_tuple_iterator_next_1
def yP:=@PySem.wpAny_letGo
def S5:=@PyProof.Rows.F.plain_set_update_loop
def S6:=@PySem.F.args_dict_get_3
def S7:=@List.filter_cons_of_neg
def Î:=@PySem.F.entry_tuple_iterator_next
def S8:=@PySem.wpAny_pyNext_list_item
def CN:=@PySem.codeAny_mono
def Mu:=@List.take_sublist
def S9:=@PySem.Calls.callWith_builtin
def Tc:=@List.drop_of_length_le
def Mv:=@PySem.wpAny_pyIter_enum
def Mw:=@PySem.Heap.get?_push_ne
def Td:=@Nat.lt_of_succ_lt_succ
def Mx:=@List.idxOf_append
def GR:=@PySem.isSubtype_stop
def Mz:=@PySem.wpAny_pyIter_slot
def MF:=@PySem.F.args_zip_next_1
def Tf:=@PySem.F.entry_dict_get
def Tg:=@PySem.wpAny_isOneOf_itemiter
def Ï:=@PySem.F.args_dict_itemiterator_next_1
def Tj:=@List.length_replicate
def Tn:=@List.cons_lt_cons_iff
def Tp:=@List.mem_iff_getElem?
def Tq:=@List.getElem?_toArray
def Tr:=@PySem.F.type_dict_get
def Tt:=@PySem.F.slot_list_pop
def Tv:=@PySem.F.type_list_pop
def MJ:=@PySem.noFill_tuple_add
def yQ:=@PySem.call_meets
def MK:=@PySem.F.plain_all_loop
def MN:=@PySem.F.entry_any_loop
def MP:=@List.countP_cons
def MT:=@beq_self_eq_true
def M4:=@List.filter_cons
def M5:=@PySem.wpAny_askSetting
def M6:=@PySem.F.entry_zip_next
def M7:=@PySem.F.slot_bool_hash
def Ð:=@PySem.F.args_dict_setdefault_3
def Ñ:=@PySem.F.entry_dict_itemiterator_next
def GX:=@Bool.true_and
def Tw:=@List.length_dropLast
def Tz:=@List.mem_erase_of_ne
def Ò:=@PySem.F.entry_dict_keyiterator_next
def Ó:=@PySem.F.entry_dict_setdefault
def TF:=@List.idxOf_cons_self
def M8:=@PySem.wpAny_execs_nil
def M9:=@PySem.wpAny_updateSeq
def Nb:=@Bool.or_eq_true
def Ô:=@PySem.F.type_dict_setdefault
def TJ:=@List.filterMap_cons
def TQ:=@PySem.W.plainGet_of
def TV:=@List.filter_sublist
def TX:=@List.flatMap_append
def TY:=@List.getElem?_range
def GZ:=@PySem.call_meetsIn
def Hf:=@List.any_map
def Õ:=@PySem.Calls.Name_function_global
def T6:=@List.mem_filterMap
def T7:=@PySem.call_function_tree
def Ö:=@PySem.wpAny_letOwnedTupleGo_enum
def Nf:=@PySem.wpAny_newTuple
def T8:=@List.getElem_idxOf
def T9:=@of_decide_eq_false
def Ua:=@Array.forIn_toList
def Ng:=@PySem.entryFor_alias
def Ø:=@PySem.F.kt_typeCall_dict_1
def Nh:=@List.take_zero
def Ni:=@List.drop_zero
def Ub:=@List.map_singleton
def Uc:=@List.sum_singleton
def Ù:=@PySem.Calls.call_function_entry
def Ú:=@Classical.byContradiction
def Û:=@List.getLastD_eq_getLast?
def Ud:=@List.any_eq_false
def Ue:=@PySem.Heap.SameBut.refl
def Hg:=@PySem.wpAny_of_eq
def Nj:=@PySem.wpAny_standAt
def Ü:=@Option.isSome_iff_exists
def Nk:=@PySem.seq_tuple_add
def Ý:=@PySem.wpAny_comprehension_free
def Nm:=@PySem.W.mg_of
def Np:=@PySem.wpAny_handled
def Þ:=@PySem.F.args_dict_init_2
def Nq:=@PySem.wpAny_onRaise
def Nr:=@List.cons.inj
def ß:=@List.find?_range_eq_some
def à:=@List.length_erase_of_mem
def Ug:=@PySem.wpAny_execs_cons
def Uh:=@Nat.min_le_right
def Ui:=@PySem.Heap.size_update
def Uj:=@List.nodup_range
def Uk:=@PySem.wpAny_pyIter_zip
def Ul:=@PySem.Heap.IsList.push
def Um:=@List.any_eq_true
def Uo:=@Option.getD_some
def Hh:=@beq_iff_eq
def Nt:=@Nat.le_of_eq
def Nu:=@PySem.concat_meets
def Nv:=@List.all_map
def Uq:=@List.of_mem_zip
def Ur:=@PyProof.Rows.get?_update_seq
def Us:=@PySem.am_miss_of_fast
def Ut:=@PySem.size_of_entries
def Uu:=@List.idxOf_cons
def Uv:=@Nat.min_eq_left
def Uw:=@PySem.isSubtype_type
def Nx:=@PySem.wpAny_throw
def Ux:=@List.all_cons
def Uy:=@PyProof.Rows.listUpdate_at
def Uz:=@PySem.wpAny_newList
def UG:=@List.map_drop
def UJ:=@List.map_take
def Ny:=@PyProof.Rows.size_push'
open PySem PySem.Spec
abbrev ae:=List Int
abbrev ag:=List Str
abbrev aw:=List Value
abbrev ay:=List Nat
abbrev aE:=List (Addr×Obj)
abbrev aI:=List Addr
abbrev aT:=List (List Int)
abbrev ba:=List Expr
abbrev aJ:=PySem.W.Frag
abbrev bU:=Int×Int
abbrev ar:=List bU
def fB{α:Type}{l:List α}{i:Nat}{a:α}:l.getD i a=l[i]?.getD a:=List.getD_eq_getElem?_getD ..
namespace L2
open PyProof.Rows
abbrev Key:=Sum Int Str
noncomputable def Ka:Key->Value->Bool
 |.inl k,v=>Value.isInt k v
 |.inr x,v=>Value.isStrOf x v
noncomputable def a7A(w:World):Key->Int
 |.inl k=>hashInt k
 |.inr x=>hashStr w x
def iR:∀{k:Key}{v:Value},Ka k v=true->(∃i t,k=Sum.inl i/\v=Value.int i t)\/(∃x t,k=Sum.inr x/\v=Value.str x t)
 |.inl i,v,h=>by
  let⟨t,e⟩:=Value.isInt_shape (k:=i) (v:=v) h
  show .inl ⟨i,t,Z,e⟩
 |.inr x,v,h=>by
  let⟨t,e⟩:=Value.isStrOf_shape (x:=x) (v:=v) h
  show .inr ⟨x,t,Z,e⟩
def Yt(i:Int)(t:Tok):Ka (.inl i) (.int i t)=true:=by simp[Ka,Value.isInt]
def Yu(x:Str)(t:Tok):Ka (.inr x) (.str x t)=true:=by simp[Ka,Value.isStrOf]
def a2N(a b:Int):decide ((Sum.inl a:Key)=Sum.inl b)=(a==b):=by
 by_cases e:a=b
 ·subst e;simp
 ·let h:¬(Sum.inl a:Key)=Sum.inl b:=λq=>e (Sum.inl.inj q);rw[cC h];show(qz.mpr e).symm
def a2O(a b:Str):decide ((Sum.inr a:Key)=Sum.inr b)=decide (a=b):=by
 by_cases e:a=b
 ·subst e;simp
 ·let h:¬(Sum.inr a:Key)=Sum.inr b:=λq=>e (Sum.inr.inj q);rw[cC h,cC e]
def a2P(a:Int)(b:Str):decide ((Sum.inl a:Key)=Sum.inr b)=false:=cC (λq=>nomatch q)
def a2Q(a:Str)(b:Int):decide ((Sum.inr a:Key)=Sum.inl b)=false:=cC (λq=>nomatch q)
def fH(prog:Program)(w:World):PySem.KeyKind prog w Key where
 is:=Ka
 hash:=a7A w
 inj:=λv a b ha hb=>by
  rcases iR ha with⟨i,t,rfl,rfl⟩|⟨x,t,rfl,rfl⟩
  ·rcases iR hb with⟨j,u,rfl,e⟩|⟨y,u,rfl,e⟩
   ·injection e with e1 _;rw[e1]
   ·show nomatch e
  ·rcases iR hb with⟨j,u,rfl,e⟩|⟨y,u,rfl,e⟩
   ·show nomatch e
   ·injection e with e1 _;rw[e1]
 byValue:=λk v h=>by
  rcases iR h with⟨i,t,rfl,rfl⟩|⟨x,t,rfl,rfl⟩<;>rfl
 pyHash:=λhv h=>by
  rcases iR hv with⟨i,t,rfl,rfl⟩|⟨x,t,rfl,rfl⟩
  ·show wpAny_pyHash_int h
  ·show wpAny_pyHash_str h
 eqBool:=λhu hv h=>by
  rcases iR hu with⟨i,t,rfl,rfl⟩|⟨x,t,rfl,rfl⟩
  ·rcases iR hv with⟨j,u,rfl,rfl⟩|⟨y,u,rfl,rfl⟩
   ·rw[a2N]at h;show wpAny_eqBool_int h
   ·rw[a2P]at h;show SeqAt.EqAt.int_str i t y u _ _ _ _ h
  ·rcases iR hv with⟨j,u,rfl,rfl⟩|⟨y,u,rfl,rfl⟩
   ·rw[a2Q]at h;show SeqAt.EqAt.str_int x t j u _ _ _ _ h
   ·rw[a2O]at h;show wpAny_eqBool_str h
 «strs» := λk x t v h=>by
  rcases iR h with⟨i,u,rfl,e⟩|⟨y,u,rfl,e⟩
  ·show nomatch e
  ·injection e with e1 _
   subst e1
   cases v<;>rfl
def Qc(prog:Program)(w:World)(i:Int)(t:Tok):(fH prog w).is (.inl i) (.int i t)=true:=Yt i t
def gq(prog:Program)(w:World)(x:Str)(t:Tok):(fH prog w).is (.inr x) (.str x t)=true:=Yu x t
inductive V where
 |non|bl (b:Bool)|int (i:Int)|str (x:Str)|WY (b:Array UInt8)|flt (b:UInt64)|ref (a:Addr)|ty (n:String)
 deriving DecidableEq
abbrev af:=List V
abbrev aS:=List Key
abbrev a9:=List (List Key×V)
abbrev bc:=List (Str×V)
variable{pos p:Pos}{K:aJ}{A:Around}{h h' base:Heap}{e tg c:Expr}{es:ba}{k t' n:Nat}{Z98:Model}{op:CmpOp}{ch fp:aI}{N:ag}{body:List Stmt}{mA mg:Str->Option Value}{pl:Sem Bool}{kw:List (Str×Value)}
noncomputable def cX:V->Value->Prop
 |.non,u=>u=Value.none
 |.bl b,u=>u=Value.bool b
 |.int i,u=>∃t,u=Value.int i t
 |.str x,u=>∃t,u=Value.str x t
 |.WY b,u=>∃t,u=Value.bytes b t
 |.flt b,u=>∃t,u=Value.float b t
 |.ref a,u=>u=Value.ref a
 |.ty n,u=>u=Value.type n
abbrev cJ:af->aw->Prop:=Paired cX
def cJ.length{xs:af}{us:aw}(r:cJ xs us):xs.length=us.length:=aW r
theorem cJ.get:∀{xs:af}{us:aw}{i:Nat}{x:V},cJ xs us->xs[i]?=some x->∃u,us[i]?=some u/\cX x u
 |_,_,_,_,.nil,e=>by simp at e
 |_,_,0,_,.cons r _,e=>by simp at e;subst e;show⟨_,Z,r⟩
 |_,_,i+1,x,.cons _ t,e=>by
  let⟨u,h1,h2⟩:=cJ.get (i:=i) (x:=x) t (by simpa using e)
  show⟨u,by simpa using h1,h2⟩
theorem cJ.set{x:V}{u:Value}(r:cX x u):∀{xs:af}{us:aw} (i:Nat),cJ xs us->cJ (xs.set i x) (us.set i u)
 |_,_,_,.nil=>.nil
 |_,_,0,.cons _ t=>.cons r t
 |_,_,i+1,.cons q t=>.cons q (cJ.set r i t)
def cJ.append{xs ys:af}{us ws:aw}(h:cJ xs us)(s:cJ ys ws):cJ (xs++ys) (us++ws):=by
 induction h with
 |nil=>show s
 |cons r _ ih=>show .cons r ih
theorem cJ.take:∀{xs:af}{us:aw} (n:Nat),cJ xs us->cJ (xs.take n) (us.take n)
 |_,_,0,_=>.nil
 |_,_,_+1,.nil=>.nil
 |_,_,n+1,.cons r t=>.cons r (cJ.take n t)
theorem cJ.drop:∀{xs:af}{us:aw} (n:Nat),cJ xs us->cJ (xs.drop n) (us.drop n)
 |_,_,0,r=>r
 |_,_,_+1,.nil=>.nil
 |_,_,n+1,.cons _ t=>cJ.drop n t
def oR:Option V->Option Value->Prop
 |some v,some u=>cX v u
 |none,none=>True
 |_,_=>False
def KV{κ:Type}:List (κ×V)->List (κ×Value)->Prop:=Paired λ(p:κ×V) (q:κ×Value)=>p.1=q.1/\cX p.2 q.2
noncomputable def kV:Key->V
 |.inl i=>.int i
 |.inr x=>.str x
inductive HO where
 |lst (xs:af)
 |tup (xs:af)
 |dK (J:List (Key×V))|dT (J:List (aS×V))
 |set (S:Int->Bool) (n:Nat)
 |ins (C dx:Addr) (fs:bc)
 |own (x:Addr)
 |xd (fs:bc)
 |met (f x:Addr)
 |rng (lo hi:Int)
 |iK (o:Obj) (u:HO)
 |tbl (ps:Array Value)
 |ext (φ:Heap->Prop)
abbrev Hp:=Addr->Option HO
noncomputable def cY(H:Hp)(a:Addr)(o:HO):Hp:=λb=>if b=a then some o else H b
def dN{H:Hp}{a:Addr}{o:HO}:cY H a o a=some o:=by unfold cY;rw[aB rfl]
def aZ{H:Hp}{a b:Addr}{o:HO}(h:b≠a):cY H a o b=H b:=by unfold cY;rw[aA h]
def a2n{H:Hp}{a b:Addr}{o u:HO}(h:H a=some o)(h':H b=some u)(d:o≠u):a≠b:=by
 intro e;subst e;rw[h]at h';show d (dD h')
def dO{H:Hp}{a b:Addr}{o:HO}(h:H a=some o)(h':H b=none):a≠b:=by
 intro e;subst e;rw[h]at h';cases h'
section
variable(P:Program)(w:World)
def fC(H:Hp)(h:Heap)(a:Addr):HO->Prop
 |.lst xs=>xs.length<=sizeLine/\∃(bR:aw) (n:Nat),cJ xs bR/\h.get? a=some { cls:=.type "list",data:=.seq bR.toArray n}
 |.tup xs=>xs.length<=sizeLine/\∃bR:aw,cJ xs bR/\IsTup h a bR.toArray
 |.dK J=>J.length<=sizeLine/\(a==sysModules)=false/\∃vs,KV J vs/\h.DictOf (fH P w) a vs
 |.dT J=>J.length<=sizeLine/\(a==sysModules)=false/\∃xs:List (aS×Addr×Value),
   Paired (λ(p:aS×V) (q:aS×Addr×Value)=>p.1=q.1/\H q.2.1= ~~~(p.1.map kV)/\cX p.2 q.2.2) J xs/\
   ∃o es ep,h.get? a=some o/\o.ExactDict/\o.data=.dict es ep/\es.toList=xs.map (entryOfKey (tupleKind (fH P w)))/\(xs.map (·.1)).Nodup
 |.set S n=>h.SetOf (intKind P w) a S n
 |.ins C dx fs=>H dx=some (.own a)/\fs.length<=1000/\dx≠a/\h.get? a=some (instObj C dx)/\
   ∃mA,h.Ns1 dx mA/\(∀f,oR (fs.lookup f) (mA f))/\PySem.Within mA (fs.map (·.1))
 |.own _=>∃o,h.get? a=some o
 |.xd fs=>∃mA,h.Ns1 a mA/\∀f,oR (fs.lookup f) (mA f)
 |.rng lo hi=>∃t u v,h.get? a=some { cls:=.type "range",data:=.fields #[.int lo t,.int hi u,.int 1 v]}
 |.iK o u=>h.get? a=some o/\fC H h a u
 |.tbl ps=>h.get? a=some { cls:=.none,data:=.fields ps}
 |.met f x=>h.get? a=some (PySem.W.methodObj (.ref f) (.ref x))
 |.ext φ=>φ h/\(∃o,h.get? a=some o)/\∀h1 h2:Heap,φ h1->(∀o,h1.get? a=some o->h2.get? a=some o)->φ h2
def xQ(H:Hp)(h:Heap):Prop:=∀a o,H a=some o->fC P w H h a o
end
section
variable{P:Program}{w:World}{H H':Hp}{a:Addr}{o:HO}
def fC.lt(x:fC P w H h a o):a<h.objs.size:=by
 cases o with
 |lst xs=>let⟨_,_,_,_,e⟩:=x;show bf e
 |tup xs=>let⟨_,_,_,p⟩:=x;show p.lt
 |dK J=>let⟨_,_,_,_,o,_,_,e,_⟩:=x;show bf e
 |dT J=>let⟨_,_,_,_,o,_,_,e,_⟩:=x;show bf e
 |set S n=>let⟨o,_,_,_,e,_⟩:=x;show bf e
 |ins C dx fs=>let⟨_,_,_,e,_⟩:=x;show bf e
 |own y=>let⟨_,e⟩:=x;show bf e
 |xd fs=>let⟨_,⟨_,_,_,e,_⟩,_⟩:=x;show bf e
 |rng lo hi=>let⟨_,_,_,e⟩:=x;show bf e
 |iK ob u=>let⟨e,_⟩:=x;show bf e
 |tbl ps=>show bf (show h.get? a=some _ from x)
 |met f y=>show bf (show h.get? a=some _ from x)
 |ext φ=>let⟨_,⟨_,e⟩,_⟩:=x;show bf e
def Paired.cD{α β:Type}{F G:α->β->Prop}{l₁:List α}{l₂:List β}(h:Paired F l₁ l₂)(f:∀a b,F a b->G a b):Paired G l₁ l₂:=by
 induction h with
 |nil=>show .nil
 |cons r _ ih=>show .cons (f _ _ r) ih
def fC.stay(x:fC P w H h a o)(k:∀b u,(b=a\/H b=some (.own a))->h.get? b=some u->h'.get? b=some u)
  (ho:∀b,H b=some (.own a)->H' b=some (.own a)) (ht:∀b xs,H b= ~~~xs->H' b= ~~~xs):fC P w H' h' a o:=by
 induction o with
 |lst xs=>let⟨z,bR,n,r,e⟩:=x;show⟨z,bR,n,r,k _ _ (.inl Z) e⟩
 |tup xs=>let⟨z,bR,r,ob,e,c⟩:=x;show⟨z,bR,r,ob,k _ _ (.inl Z) e,c⟩
 |dK J=>let⟨z,y,vs,r,ob,es,ep,e,c⟩:=x;show⟨z,y,vs,r,ob,es,ep,k _ _ (.inl Z) e,c⟩
 |dT J =>
  let⟨z,y,xs,r,ob,es,ep,e,c⟩:=x;show⟨z,y,xs,Paired.cD r λp q z=>⟨z.1,ht _ _ z.2.1,z.2.2⟩,ob,es,ep,k _ _ (.inl Z) e,c⟩
 |set S n=>let⟨ob,es,ep,t,e,c⟩:=x;show⟨ob,es,ep,t,k _ _ (.inl Z) e,c⟩
 |ins C dx fs =>
  let⟨d,z,ne,e,mA,⟨od,es,ep,e2,c⟩,r⟩:=x;show⟨ho _ d,z,ne,k _ _ (.inl Z) e,mA,⟨od,es,ep,k _ _ (.inr d) e2,c⟩,r⟩
 |own y=>let⟨ob,e⟩:=x;show⟨ob,k _ _ (.inl Z) e⟩
 |xd fs=>let⟨mA,⟨od,es,ep,e,c⟩,r⟩:=x;show⟨mA,⟨od,es,ep,k _ _ (.inl Z) e,c⟩,r⟩
 |rng lo hi=>let⟨t,u,v,e⟩:=x;show⟨t,u,v,k _ _ (.inl Z) e⟩
 |iK ob u ih=>let⟨e,q⟩:=x;show⟨k _ _ (.inl Z) e,ih q⟩
 |tbl ps =>
  let e:h.get? a=some { cls:=.none,data:=.fields ps}:=x;show h'.get? a=some { cls:=.none,data:=.fields ps};show k a _ (.inl Z) e
 |met f y =>
  let e:h.get? a=some (PySem.W.methodObj (.ref f) (.ref y)):=x;show h'.get? a=some (PySem.W.methodObj (.ref f) (.ref y));show k a _ (.inl Z) e
 |ext φ=>let⟨p,⟨o,e⟩,st⟩:=x;show⟨st _ _ p λo q=>k _ _ (.inl Z) q,⟨o,k _ _ (.inl Z) e⟩,st⟩
def xQ.lt(x:xQ P w H h)(e:H a=some o):a<h.objs.size:=(x a o e).lt
def xQ.fresh(x:xQ P w H h)(e:h.objs.size<=a):H a=none:=by
 cases q:H a with
 |none=>rfl
 |some u=>show absurd (iZ (x.lt q) e) (yN _)
def xQ.kept(x:xQ P w H h)(k:∀b u,h.get? b=some u->h'.get? b=some u):xQ P w H h':=λa o e =>
 (x a o e).stay (λb u _ q=>k b u q) (λ_ q=>q) λ_ _ q=>q
def xQ.laid(x:xQ P w H h)(k:∀b u,h.get? b=some u->h'.get? b=some u)(hp:h.objs.size<=a)(new:fC P w (cY H a o) h' a o):xQ P w (cY H a o) h':=λb u e=>by
 let hn:=x.fresh hp;by_cases hb:b=a
 ·subst hb;rw[dN]at e;cases e;show new
 ·rw[aZ hb]at e;show(x b u e).stay (λc v _ q=>k c v q) (λc q=>by rw[aZ (dO q hn)];show q) λc xs q=>by rw[aZ (dO q hn)];show q
end
def Rd(H:Hp)(a:Addr)(u:HO):Prop:=H a=some u\/∃o,H a=some (.iK o u)
def Rd.ok{P:Program}{w:World}{H:Hp}{a:Addr}{u:HO}(r:Rd H a u)(x:xQ P w H h):fC P w H h a u:=by
 rcases r with r|⟨o,r⟩
 ·show x a u r
 ·let⟨_,q⟩:=x a _ r;show q
noncomputable def Mut:Option HO->Prop
 |↥_=>True
 |some (.dK _)=>True
 |some (.dT _)=>True
 |some (.set _ _)=>True
 |some (.ins _ _ _)=>True
 |some (.ext _)=>True
 |_=>False
section
variable{P:Program}{w:World}{H:Hp}{x e:Addr}{o':HO}
def xQ.write(ok:xQ P w H h)(mu:Mut (H x))(he:e=x\/H e=some (.own x))(k:∀b u,b≠e->h.get? b=some u->h'.get? b=some u)(heo:∃u,h'.get? e=some u)
  (new:fC P w (cY H x o') h' x o'):xQ P w (cY H x o') h':=λb u q=>by
 let a5g:∀c y,H c=some (.own y)->c≠x:=λc y r z=>by subst z;rw[r]at mu;show mu
 let a2R:∀c xs,H c= ~~~xs->c≠x:=λc xs r z=>by subst z;rw[r]at mu;show mu
 by_cases hb:b=x
 ·subst hb;rw[dN]at q;cases q;show new
 ·rw[aZ hb]at q;by_cases hbe:b=e
  ·let q':H b=some (.own x):=by
    rcases he with z|z
    ·show absurd (hbe.trans z) hb
    ·rw[hbe];show z
   rw[q]at q';cases q';let⟨v,hv⟩:=heo;show⟨v,by rw[hbe];show hv⟩
  ·show(ok b u q).stay (λc v hc r=>k c v ?_ r) (λc r=>by rw[aZ (a5g c b r)];show r) λc xs r=>by rw[aZ (a2R c xs r)];show r
   rcases hc with rfl|hc
   ·show hbe
   ·rintro rfl;rcases he with z|z
    ·show a5g c b hc z
    ·rw[hc]at z;cases z;show hb rfl
end
structure Un(fs ex:aI)(H H':Hp)(h h':Heap):Prop where
 keep:∀b o,h.get? b=some o->H b=none->b∉fs->b∉ex->h'.get? b=some o
 slot:∀b o,h.get? b=some o->H b=none->b∈fs->b∉ex->∃sl,h'.get? b=some { o with slots:=sl}
 free:∀b o,h.get? b=some o->H b=none->b∉ex->H' b=none
 there:∀b o,h.get? b=some o->b∉ex->∃o',h'.get? b=some o'
 tups:∀b xs,H b= ~~~xs->H' b= ~~~xs
 Hi:∀b o u,H b=some (.iK o u)->H' b=some (.iK o u)
 Nz:∀b ps,H b=some (.tbl ps)->∃more,H' b=some (.tbl (ps++more))
section
variable{fs fs' ex ex':aI}{H H1 H2:Hp}{h1 h2:Heap}{a x e:Addr}{o:HO}
def Un.any(u:Un fs ex H H1 h h1){b:Addr}{ob:Obj}(q:h.get? b=some ob)(n:H b=none)(hx:b∉ex):∃sl,h1.get? b=some { ob with slots:=sl}:=by
 by_cases hb:b∈fs
 ·show u.slot b ob q n hb hx
 ·show⟨ob.slots,u.keep b ob q n hb hx⟩
def Un.kept(k:∀b u,h.get? b=some u->h'.get? b=some u):Un fs ex H H h h' :=
 ⟨λb ob q _ _ _=>k b ob q,λb ob q _ _ _=>⟨ob.slots,k b ob q⟩,λ_ _ _ n _=>n,λb ob q _=>⟨ob,k b ob q⟩,λ_ _ q=>q,λ_ _ _ q=>q,λ_ ps q=>⟨#[],by rw[q];simp⟩⟩
def Un.refl:Un fs ex H H h h:=Un.kept λ_ _ q=>q
def Un.laid(k:∀b u,h.get? b=some u->h'.get? b=some u)(hp:h.objs.size<=a)(hn:H a=none):Un fs ex H (cY H a o) h h' where
 keep:=λb u q _ _ _=>k b u q
 slot:=λb u q _ _ _=>⟨u.slots,k b u q⟩
 free:=λb u q n _=>by rw[aZ (bY (iZ (bf q) hp))];show n
 there:=λb u q _=>⟨u,k b u q⟩
 tups:=λb xs q=>by rw[aZ (dO q hn)];show q
 Hi:=λb u xs q=>by rw[aZ (dO q hn)];show q
 Nz:=λb ps q=>⟨#[],by rw[aZ (dO q hn),q];simp⟩
def Un.write(mu:Mut (H x))(he:e=x\/H e=some (.own x))(k:∀b u,b≠e->h.get? b=some u->h'.get? b=some u)(heo:∃u,h'.get? e=some u):Un fs ex H (cY H x o) h h':=by
 let hx:∀b,H b=none->b≠x:=λb n z=>by subst z;rw[n]at mu;show mu
 let hb:∀b,H b=none->b≠e:=λb n z=>by
  subst z;rcases he with r|r
  ·show hx b n r
  ·rw[n]at r;cases r
 let hm:∀b u,H b=some u->¬Mut (some u)->b≠x:=λb u q nm z=>by subst z;rw[q]at mu;show nm mu
 show⟨λb u q n _ _=>k b u (hb b n) q,λb u q n _ _=>⟨u.slots,k b u (hb b n) q⟩,λb u q n _=>by rw[aZ (hx b n)];show n,λb u q _=>?_,
  λb xs q=>by rw[aZ (hm b _ q λz=>z)];show q,λb u xs q=>by rw[aZ (hm b _ q λz=>z)];show q,λb ps q=>⟨#[],by rw[aZ (hm b _ q λz=>z),q];simp⟩⟩
 by_cases hbe:b=e
 ·subst hbe;show heo
 ·show⟨u,k b u hbe q⟩
end
noncomputable def trk(h:Heap)(H:Hp):aI:=(List.range h.objs.size).filter λa=>(H a).isSome
def NK(h:Heap)(H:Hp):Heap:=PySem.W.hideAll h (trk h H)
def Yv(h:Heap)(H:Hp):(NK h H).objs.size=h.objs.size:=PySem.W.hideAll_size _ _
def á{H:Hp}{b:Addr}{o:Obj}(e:h.get? b=some o)(n:H b=none):(NK h H).get? b=some o :=
 PySem.W.hideAll_get _ e λhm=>by
  let q:(H b).isSome=true:=(jQ.mp hm).2;rw[n]at q;simp at q
def a0a{H:Hp}{b:Addr}{o:Obj}(e:(NK h H).get? b=some o):h.get? b=some o/\H b=none:=by
 let e':h.get? b=some o:=PySem.W.of_hideAll (trk h H) e;show⟨e',?_⟩;cases q:H b with
 |none=>rfl
 |some x =>
  let hm:b∈trk h H:=jQ.mpr ⟨fX.mpr (bf e'),by simp[q]⟩;let z:(NK h H).get? b=none:=PySem.W.hideAll_none (trk h H) hm;rw[z]at e;cases e
structure Mod(K:aJ)(mg:Str->Option Value)(base:Heap):Prop where
 kin:K.In base
 glob:base.Ns mainGlobals mg
 blt:∃mb,base.Ns builtinsNs mb/\∀x:Str,x≠ "__name__" ->mb x=bootBuiltins x
 nolimit:base.NoLimit
set_option genInjectivity false in
structure Cx where
 prog:Program
 w:World
 K:aJ
 mg:Str->Option Value
 base:Heap
 A:Around
 N:ag
 s₀:Shared
 H₀:Hp
 env:Env
 outer:List Env
 stack:List Env
 ex:aI
 fn:Str->Bool
 calm:Bool
 pn:aE
 xe:∅
noncomputable def frs(l:List Env):aI:=l.filterMap (·.frame)
abbrev Cx.fs(X:Cx):aI:=frs X.outer
def Vis(sc:Scope)(x:Str):Prop:=sc.names.lookup x=some .local\/sc.names.lookup x=some .cell\/sc.names.lookup x=some .free
def Loc(sc:Scope)(x:Str):Prop:=sc.names.lookup x=some .local\/sc.names.lookup x=some .cell
def Look(env:Env)(h:Heap)(m:Str->Option Value)(x:Str)(u:Value):Prop :=
 (env.kindOf x=some .local/\m x=some u)\/((env.kindOf x=some .cell\/env.kindOf x=some .free)/\∃c,env.cells.lookup x=some c/\h.IsCell c (some u))
structure Cx.Ok(X:Cx):Prop where
 mod:Mod X.K X.mg X.base
 kind:X.env.scope.kind=.function
 glob:X.env.globals=mainGlobals
 blt:X.env.builtins=builtinsNs
 above:X.s₀.heap.objs.size<=X.env.locals
 inj:∀x y c,X.env.cells.lookup x=some c->X.env.cells.lookup y=some c->x=y
 has:∀x,(X.env.kindOf x=some .cell\/X.env.kindOf x=some .free)->∃c,X.env.cells.lookup x=some c
 cab:∀x c,X.fn x=true->X.env.cells.lookup x=some c->X.s₀.heap.objs.size<=c
 hd:X.calm=true->X.A.handled=none
 frames:X.A.frames=some X.stack
 stk:X.stack=X.outer\/(X.stack=X.env::X.outer/\X.env.frame=some X.env.locals)
 exf:∀b∈X.ex,b≠X.env.locals/\∀x c,X.env.cells.lookup x=some c->c≠b
 bs:∀b o,X.base.get? b=some o->X.s₀.heap.get? b=some o/\X.H₀ b=none
 Ο:X.base.objs.size<=X.s₀.heap.objs.size
 UL:∀b o,X.base.get? b=some o->b∉X.ex
 Yw:∀b∈X.ex,b∉X.fs
 zU:X.s₀.heap.FunFrames X.base X.outer
 frf:∀b∈X.fs,X.H₀ b=none
structure bD(X:Cx)(Y:aE)(σ:List (Option V))(H:Hp)(s:Shared):Prop where
 ok:X.Ok
 os:s.os=X.s₀.os
 bare:AllBare s.gens
 base:Un X.fs X.ex X.H₀ H X.s₀.heap s.heap
 loc:∃m,s.heap.Ns X.env.locals m/\∀(i:Nat) (x:Str) (v:V),X.N[i]?=some x->σ[i]?=some (some v)->Vis X.env.scope x->∃u,cX v u/\Look X.env s.heap m x u
 cell:∀x c,X.env.cells.lookup x=some c->∃v,s.heap.IsCell c v
 free:H X.env.locals=none
 rO:∀x c,X.env.cells.lookup x=some c->H c=none
 pin:∀p∈X.pn++Y,s^^^p.1=some p.2/\H p.1=none/\p.1≠X.env.locals/\p.1∉X.fs/\∀v,p.2.data≠.cell v
 hok:xQ X.prog X.w H s.heap
 len:σ.length=X.N.length
section
variable{X:Cx}{Y:aE}{σ:List (Option V)}{H H':Hp}{s:Shared}
def Cx.Ok.a7B(ok:X.Ok){b:Addr}{o:Obj}(e:X.base.get? b=some o):b∉X.fs:=λhb=>by
 let:=(ok.zU.mem hb).1;rw[e]at this;cases this
def bD.bs(I:bD X Y σ H s):∀b o,X.base.get? b=some o->s^^^b=some o/\H b=none:=λb o e =>
 ⟨I.base.keep b o (I.ok.bs b o e).1 (I.ok.bs b o e).2 (I.ok.a7B e) (I.ok.UL b o e),I.base.free b o (I.ok.bs b o e).1 (I.ok.bs b o e).2 (I.ok.UL b o e)⟩
def bD.bk(I:bD X Y σ H s):∀b o,X.base.get? b=some o->s^^^b=some o:=λb o e=>(I.bs b o e).1
def bD.mod(I:bD X Y σ H s):Mod X.K X.mg X.base:=I.ok.mod
def bD.Cj(I:bD X Y σ H s):X.K.In s.heap:=I.ok.mod.kin.keeps I.bk
def bD.lt(I:bD X Y σ H s):X.env.locals<s⁻¹:=let⟨_,hn,_⟩:=I.loc;hn.lt
def bD.sz(I:bD X Y σ H s):X.s₀.heap.objs.size<=s⁻¹:=cF I.ok.above (fD I.lt)
def bD.a5h(I:bD X Y σ H s){a:Addr}(h:s⁻¹<=a):a∉X.fs:=λhb=>by
 let⟨_,o,ho,_⟩:=I.ok.zU.mem hb;show absurd (iZ (bf ho) (cF I.sz h)) (yN _)
def bD.cne(I:bD X Y σ H s):∀x c,X.env.cells.lookup x=some c->c≠X.env.locals:=λx c e z=>by
 let⟨v,o,ho,hd⟩:=I.cell x c e;let⟨m,⟨o',es,ep,ho',hd',_⟩,_⟩:=I.loc;rw[z,ho']at ho;cases ho;rw[hd']at hd;cases hd
def bD.zU(I:bD X Y σ H s):s.heap.FunFrames X.base X.outer:=by
 let all:∀(l:List Env),(∀b∈frs l,b∈X.fs)->X.s₀.heap.FunFrames X.base l->s.heap.FunFrames X.base l:=by
  intro l
  induction l with
  |nil=>intro _ _;trivial
  |cons env r ih =>
   intro hs hl;let⟨hk,⟨L,o,hf,hn,ho,hd⟩,hr⟩:=hl;let hL:L∈X.fs:=hs L (by unfold frs;rw[TJ,hf];show bh);let⟨sl,e⟩:=I.base.slot L o ho (I.ok.frf L hL) hL λz=>I.ok.Yw L z hL;show⟨hk,⟨L,_,hf,hn,e,hd⟩,ih (λb hb=>hs b (by unfold frs;rw[TJ,hf];show bM _ hb)) hr⟩
 show all X.outer (λ_ hb=>hb) I.ok.zU
def bD.stack(I:bD X Y σ H s):s.heap.FunFrames X.base X.stack:=by
 rcases I.ok.stk with e|⟨e,hf⟩
 ·rw[e];show I.zU
 ·rw[e];let⟨m,hn,_⟩:=I.loc;show .cons (by rw[I.ok.kind];decide) hf hn ?_ I.zU;show Heap.get?_none_of_le (cF I.ok.Ο I.ok.above)
def bD.CP(I:bD X Y σ H s):∀b∈frs X.stack,b∈X.env.locals::X.fs:=λb hb=>by
 rcases I.ok.stk with e|⟨e,hf⟩
 ·rw[e]at hb;show bM _ hb
 ·rw[e]at hb;unfold frs at hb;rw[TJ,hf]at hb;show hb
def bD.W3(I:bD X Y σ H s):∀b∈frs X.stack,H b=none:=λb hb=>by
 rcases bQ.mp (I.CP b hb)with e|hb
 ·rw[e];show I.free
 ·let⟨_,o,ho,_⟩:=I.ok.zU.mem hb;show I.base.free b o ho (I.ok.frf b hb) λz=>I.ok.Yw b z hb
def bD.step{g':Array GenState}{d':Drawn}(I:bD X Y σ H s)
  (hch:∀b∈ch,(b∈X.ex\/X.s₀.heap.objs.size<=b)/\b≠X.env.locals/\(∀x c,X.env.cells.lookup x=some c->c≠b)/\∀p∈X.pn++Y,p.1≠b)
  (keep:∀b o,b≠X.env.locals->b∉X.fs->b∉ch->s^^^b=some o->H b=none->h'.get? b=some o)
  (slot:∀b o,b≠X.env.locals->b∈X.fs->b∉ch->s^^^b=some o->H b=none->∃sl,h'.get? b=some { o with slots:=sl}) (free:∀b o,b∉ch->s^^^b=some o->H b=none->H' b=none)
  (there:∀b o,b∉ch->s^^^b=some o->∃o',h'.get? b=some o')
  (tups:∀b xs,H b= ~~~xs->H' b= ~~~xs) (Hi:∀b o u,H b=some (.iK o u)->H' b=some (.iK o u)) (Nz:∀b ps,H b=some (.tbl ps)->∃more,H' b=some (.tbl (ps++more)))
  (ns:∀m,s.heap.Ns X.env.locals m->h'.Ns X.env.locals m) (hok:xQ X.prog X.w H' h') (hg:AllBare g') :
  bD X Y σ H' { s with heap:=h',gens:=g',drawn:=d',toks:=t'}:=by
 let neL:∀b o,X.s₀.heap.get? b=some o->b≠X.env.locals:=λb o e=>bY (iZ (bf e) I.ok.above);let neC:∀b o,X.s₀.heap.get? b=some o->b∉X.ex->b∉ch:=λb o e hx hb=>by
  rcases(hch b hb).1 with z|z
  ·show hx z
  ·show absurd (iZ (bf e) z) (yN _)
 let cellK:∀x c,X.env.cells.lookup x=some c->∀v,s.heap.IsCell c v->h'.IsCell c v:=λx c e v ⟨o,ho,hd⟩=>by
  let nch:c∉ch:=λz=>(hch c z).2.2.1 x c e rfl;by_cases hc:c∈X.fs
  ·let⟨sl,q⟩:=slot c o (I.cne x c e) hc nch ho (I.rO x c e);show⟨_,q,hd⟩
  ·show⟨o,keep c o (I.cne x c e) hc nch ho (I.rO x c e),hd⟩
 show⟨I.ok,I.os,hg,⟨λb o e n hb hx=>?_,λb o e n hb hx=>?_,λb o e n hx=>?_,λb o e hx=>?_,λb xs e=>tups b xs (I.base.tups b xs e),λb o xs e=>Hi b o xs (I.base.Hi b o xs e),λb ps e=>?_⟩,?_,λx c e=>?_,?_,λx c e=>?_,λp hp=>?_,hok,I.len⟩
 ·show keep b o (neL b o e) hb (neC b o e hx) (I.base.keep b o e n hb hx) (I.base.free b o e n hx)
 ·let⟨sl,e1⟩:=I.base.slot b o e n hb hx;let⟨sl',e2⟩:=slot b _ (neL b o e) hb (neC b o e hx) e1 (I.base.free b o e n hx);show⟨sl',e2⟩
 ·let⟨o',e1⟩:=I.base.there b o e hx;show free b o' (neC b o e hx) e1 (I.base.free b o e n hx)
 ·let⟨o',e1⟩:=I.base.there b o e hx;show there b o' (neC b o e hx) e1
 ·let⟨m1,e1⟩:=I.base.Nz b ps e;let⟨m2,e2⟩:=Nz b _ e1;show⟨m1++m2,by rw[e2,Array.append_assoc]⟩
 ·let⟨m,hn,hl⟩:=I.loc;show⟨m,ns m hn,λi x v e1 e2 e3=>?_⟩;let⟨u,r,l⟩:=hl i x v e1 e2 e3;show⟨u,r,?_⟩;rcases l with l|⟨k,c,e,z⟩
  ·show .inl l
  ·show .inr ⟨k,c,e,cellK x c e _ z⟩
 ·let⟨v,z⟩:=I.cell x c e;show⟨v,cellK x c e v z⟩
 ·let⟨m,⟨o,_,_,ho,_⟩,_⟩:=I.loc;show free _ o (λz=>(hch _ z).2.1 Z) ho I.free
 ·let⟨v,o,ho,hd⟩:=I.cell x c e;show free c o (λz=>(hch c z).2.2.1 x c e Z) ho (I.rO x c e)
 ·let⟨e,n,ne,nf,d⟩:=I.pin p hp;let nch:p.1∉ch:=λz=>(hch p.1 z).2.2.2 p hp rfl;show⟨keep p.1 p.2 ne nf nch e n,free p.1 p.2 nch e n,ne,nf,d⟩
def bD.un(I:bD X Y σ H s)(u:Un X.fs [] H H' s.heap h')(hok:xQ X.prog X.w H' h'):bD X Y σ H' { s with heap:=h',toks:=t'}:=by
 let⟨m,⟨o,es,ep,ho,r⟩,_⟩:=id I.loc;let⟨sl,hL⟩:=u.any ho I.free (by simp);show I.step (g':=s.gens) (d':=s.drawn) (ch:=[]) (λ_ z=>nomatch z) (λb o _ hb _ e n=>u.keep b o e n hb (by simp)) (λb o _ hb _ e n=>u.slot b o e n hb (by simp)) (λb o _ e n=>u.free b o e n (by simp)) (λb o _ e=>u.there b o e (by simp)) u.tups u.Hi u.Nz (λm' hm=>by
  let⟨o',es',ep',ho',r'⟩:=hm;rw[ho]at ho';cases ho';show⟨_,es',ep',hL,r'⟩) hok I.bare
def bD.call{g':Array GenState}{d':Drawn}(I:bD X Y σ H s)(u:Un (frs X.stack) ch H H' s.heap h')(hok:xQ X.prog X.w H' h')(hg:AllBare g')
  (hch:∀b∈ch,(b∈X.ex\/X.s₀.heap.objs.size<=b)/\b≠X.env.locals/\(∀x c,X.env.cells.lookup x=some c->c≠b)/\∀p∈X.pn++Y,p.1≠b) :
  bD X Y σ H' { s with heap:=h',gens:=g',drawn:=d',toks:=t'}:=by
 let⟨m,⟨o,es,ep,ho,r⟩,_⟩:=id I.loc;let⟨sl,hL⟩:=u.any ho I.free λz=>(hch _ z).2.1 rfl;show I.step (ch:=ch) hch (λb o hL hb hc e n=>u.keep b o e n (λz=>(bQ.mp (I.CP b z)).elim hL hb) hc) (λb o _ _ hc e n=>u.any e n hc) (λb o hc e n=>u.free b o e n hc) (λb o hc e=>u.there b o e hc) u.tups u.Hi u.Nz (λm' hm=>by
  let⟨o',es',ep',ho',r'⟩:=hm;rw[ho]at ho';cases ho';show⟨_,es',ep',hL,r'⟩) hok hg
def bD.turned{it:Addr}(I:bD X Y σ H s)(k:∀b o,b≠it->s^^^b=some o->h'.get? b=some o)(hn:H it=none)(hL:it≠X.env.locals)
  (h1:it∈X.ex\/X.s₀.heap.objs.size<=it) (h2:∀x c,X.env.cells.lookup x=some c->c≠it) (h3:∀p∈X.pn++Y,p.1≠it):bD X Y σ H { s with heap:=h',toks:=t'}:=by
 let nit:∀b u,H b=some u->b≠it:=λb u e z=>by rw[z,hn]at e;cases e
 show I.step (g':=s.gens) (d':=s.drawn) (ch:=[it]) (λb hb=>?_) (λb o _ _ hc e _=>k b o (λz=>hc (by simp[z])) e) (λb o _ _ hc e _=>⟨o.slots,k b o (λz=>hc (by simp[z])) e⟩) (λ_ _ _ _ n=>n)
  (λb o hc e=>⟨o,k b o (λz=>hc (by simp[z])) e⟩) (λ_ _ e=>e) (λ_ _ _ e=>e) (λb ps e=>⟨#[],by rw[e];simp⟩) (λm hm=>?_) (λb u e=>?_) I.bare
 ·let e:b=it:=by simpa using hb
  subst e;show⟨h1,hL,h2,h3⟩
 ·let⟨o,es,ep,ho,r⟩:=hm;show⟨o,es,ep,k _ o (Ne.symm hL) ho,r⟩
 ·show(I.hok b u e).stay (λc v hc q=>k c v ?_ q) (λ_ q=>q) λ_ _ q=>q;rcases hc with z|z
  ·rw[z];show nit b u e
  ·show nit c _ z
def bD.tok(I:bD X Y σ H s)(t:Nat):bD X Y σ H { s with toks:=t}:=I.un (h':=s.heap) (t':=t) Un.refl I.hok
def bD.kept{t':Nat}(I:bD X Y σ H s)(k:∀b u,s^^^b=some u->h'.get? b=some u):bD X Y σ H { s with heap:=h',toks:=t'}:=I.un (Un.kept k) (I.hok.kept k)
def bD.laid{a:Addr}{o:HO}{t':Nat}(I:bD X Y σ H s)(k:∀b u,s^^^b=some u->h'.get? b=some u)(hp:s⁻¹<=a)(new:fC X.prog X.w (cY H a o) h' a o) :
  bD X Y σ (cY H a o) { s with heap:=h',toks:=t'}:=I.un (Un.laid k hp (I.hok.fresh hp)) (I.hok.laid k hp new)
def bD.write{x e:Addr}{o:HO}{t':Nat}(I:bD X Y σ H s)(mu:Mut (H x))(he:e=x\/H e=some (.own x))(k:∀b u,b≠e->s^^^b=some u->h'.get? b=some u)(heo:∃u,h'.get? e=some u)
  (new:fC X.prog X.w (cY H x o) h' x o):bD X Y σ (cY H x o) { s with heap:=h',toks:=t'}:=I.un (Un.write mu he k heo) (I.hok.write mu he k heo new)
def bD.Fy{a2o:aE}(I:bD X Y σ H s)(h:∀p∈a2o,s^^^p.1=some p.2/\H p.1=none/\p.1≠X.env.locals/\p.1∉X.fs/\∀v,p.2.data≠.cell v):bD X a2o σ H s :=
 ⟨I.ok,I.os,I.bare,I.base,I.loc,I.cell,I.free,I.rO,λp hp=>(cH.mp hp).elim (λz=>I.pin p (oK _ z)) (h p),I.hok,I.len⟩
def Qd(hN:N.Nodup){i j:Nat}{x:Str}(a:N[i]?=some x)(b:N[j]?=some x):i=j:=by
 let⟨h1,e1⟩:=eG.mp a;let⟨h2,e2⟩:=eG.mp b;show(List.getElem_inj hN).mp (e1.trans e2.symm)
def Kc{E:∅}{i:Nat}{x:Str}{v:V}{u:Value}{Q:Unit->Shared->Prop}(I:bD X Y σ H s)(hN:X.N.Nodup)(hi:X.N[i]?=some x)(hx:Loc X.env.scope x)(r:cX v u)
  (h:∀s',bD X Y (σ.set i (some v)) H s'->(∃a,Heap.SameBut a s.heap s'.heap/\(a=X.env.locals\/X.env.cells.lookup x=some a))->Q ⟨⟩ s') (hf:autoParam (X.fn x=true\/X.env.scope.names.lookup x=some .local) Q2_._auto_1):wpAny Z98 A (storeName X.env x u) Q E s:=by
 let⟨m,hn,hl⟩:=id I.loc;let hcls:(X.env.scope.kind==.class||(X.env.scope.kind==.module&&X.env.locals != X.env.globals))=false:=by rw[I.ok.kind];rfl
 let a5i:i<σ.length:=by rw[I.len];show(eG.mp hi).1
 let cne:=I.cne;let tracked:∀{a:Addr}{h':Heap},(∃o,s^^^a=some o/\H a=none)->Heap.SameBut a s.heap h'->xQ X.prog X.w H h':=λ{a h'} ha hs b ob e=>by
  let⟨_,_,hfree⟩:=ha;show(I.hok b ob e).stay (λc w' hc q=>(hs.2 c ?_).trans q) (λ_ q=>q) λ_ _ q=>q;rintro rfl;rcases hc with rfl|hc
  ·rw[hfree]at e;cases e
  ·rw[hfree]at hc;cases hc
 rcases hx with hk|hk
 ·show wpAny_storeName_local hk hn (λh' hn' hs=>?_) hcls;let⟨oL,_,_,hoL,_⟩:=id hn;show h _ ⟨I.ok,I.os,I.bare,⟨λb o e n hb hx=>?_,λb o e n hb hx=>?_,I.base.free,λb o e hx=>?_,I.base.tups,I.base.Hi,I.base.Nz⟩,⟨_,hn',λj y v' e1 e2 e3=>?_⟩,λy c e=>?_,I.free,I.rO,λp hp=>?_,tracked ⟨oL,hoL,I.free⟩ hs,by simpa using I.len⟩ ⟨_,hs,.inl Z⟩
  ·show(hs.2 b (bY (iZ (bf e) I.ok.above))).trans (I.base.keep b o e n hb hx)
  ·let⟨sl,e1⟩:=I.base.slot b o e n hb hx;show⟨sl,(hs.2 b (bY (iZ (bf e) I.ok.above))).trans e1⟩
  ·let⟨o',e1⟩:=I.base.there b o e hx;show⟨o',(hs.2 b (bY (iZ (bf e) I.ok.above))).trans e1⟩
  ·by_cases hj:j=i
   ·subst hj;rw[hi]at e1;cases e1;rw[List.getElem?_set_self a5i]at e2;cases e2;show⟨u,r,.inl ⟨hk,by simp⟩⟩
   ·rw[List.getElem?_set_ne (Ne.symm hj)]at e2;let⟨u',r',q⟩:=hl j y v' e1 e2 e3;show⟨u',r',?_⟩;rcases q with⟨k,e⟩|⟨k,c,e,z⟩
    ·show .inl ⟨k,?_⟩;let:y≠x:=λe=>hj (Qd hN e1 (e▸hi));simp[this,e]
    ·show .inr ⟨k,c,e,z.sameBut hs (cne y c e)⟩
  ·let⟨w',z⟩:=I.cell y c e;show⟨w',z.sameBut hs (cne y c e)⟩
  ·let⟨e,n,ne,nf,d⟩:=I.pin p hp;show⟨(hs.2 p.1 ne).trans e,n,ne,nf,d⟩
 ·let hfn:X.fn x=true:=by
   rcases hf with z|z
   ·show z
   ·rw[z]at hk;cases hk
  let⟨c,hc⟩:=I.ok.has x (.inl hk);let⟨w',z⟩:=I.cell x c hc;show wpAny_storeName_cell I.ok.kind hk hc z (λh' hc' hs=>?_);let⟨oc,hoc,a7C⟩:=id z;show h (s•h') ⟨I.ok,I.os,I.bare,⟨λb o e n hb hx=>?_,λb o e n hb hx=>?_,I.base.free,λb o e hx=>?_,I.base.tups,I.base.Hi,I.base.Nz⟩,⟨m,hn.sameBut hs (Ne.symm (cne x c hc)),λj y v' e1 e2 e3=>?_⟩,λy c' e=>?_,I.free,I.rO,λp hp=>?_,tracked ⟨oc,hoc,I.rO x c hc⟩ hs,by simpa using I.len⟩ ⟨c,hs,.inr hc⟩
  ·show(hs.2 b (bY (iZ (bf e) (I.ok.cab x c hfn hc)))).trans (I.base.keep b o e n hb hx)
  ·let⟨sl,e1⟩:=I.base.slot b o e n hb hx;show⟨sl,(hs.2 b (bY (iZ (bf e) (I.ok.cab x c hfn hc)))).trans e1⟩
  ·let⟨o',e1⟩:=I.base.there b o e hx;show⟨o',(hs.2 b (bY (iZ (bf e) (I.ok.cab x c hfn hc)))).trans e1⟩
  ·by_cases hj:j=i
   ·subst hj;rw[hi]at e1;cases e1;rw[List.getElem?_set_self a5i]at e2;cases e2;show⟨u,r,.inr ⟨.inl hk,c,hc,hc'⟩⟩
   ·rw[List.getElem?_set_ne (Ne.symm hj)]at e2;let⟨u',r',q⟩:=hl j y v' e1 e2 e3;show⟨u',r',?_⟩;rcases q with q|⟨k,c',e,z'⟩
    ·show .inl q
    ·show .inr ⟨k,c',e,z'.sameBut hs ?_⟩;rintro rfl;show hj (Qd hN e1 (I.ok.inj _ _ _ e hc▸hi))
  ·by_cases hcc:c'=c
   ·subst hcc;show⟨_,hc'⟩
   ·let⟨w2,z2⟩:=I.cell y c' e;show⟨w2,z2.sameBut hs hcc⟩
  ·let⟨e,n,ne,nf,d⟩:=I.pin p hp;show⟨(hs.2 p.1 ?_).trans e,n,ne,nf,d⟩;intro q;rw[q,hoc]at e;let q':oc=p.2:=dD e;show d w' (by rw[<-q'];show a7C)
def Qe{E:∅}{i:Nat}{x:Str}{v:V}{u:Value}{Q:Unit->Shared->Prop}(I:bD X Y σ H s)(hN:X.N.Nodup)(hi:X.N[i]?=some x)(hx:Loc X.env.scope x)(r:cX v u)
  (h:∀s',bD X Y (σ.set i (some v)) H s'->Q ⟨⟩ s') (hf:autoParam (X.fn x=true\/X.env.scope.names.lookup x=some .local) Q2_._auto_1):wpAny Z98 A (storeName X.env x u) Q E s :=
 Kc I hN hi hx r (λs' I' _=>h s' I') hf
def bD.call'{s':Shared}(I:bD X Y σ H s)(ho:s'.os=s.os)(u:Un (frs X.stack) ch H H' s.heap s'.heap)(hok:xQ X.prog X.w H' s'.heap)(hg:AllBare s'.gens)
  (hch:∀b∈ch,(b∈X.ex\/X.s₀.heap.objs.size<=b)/\b≠X.env.locals/\(∀x c,X.env.cells.lookup x=some c->c≠b)/\∀p∈X.pn++Y,p.1≠b):bD X Y σ H' s':=by
 let⟨h',g',d',t',o'⟩:=s';let e:o'=s.os:=ho;subst e;show I.call (g':=g') (t':=t') (d':=d') u hok hg hch
end
abbrev XK:=Value->Option Addr->Hp->Prop
abbrev St:=List (Option V)
abbrev VK:=V->Hp->Prop
abbrev TE:=St->Hp->VK->Prop
variable{ta te:TE}
abbrev TT:=St->Hp->(Bool->Hp->Prop)->Prop
abbrev TA:=St->Hp->(af->Hp->Prop)->Prop
structure Ends where
 nx:St->Hp->Prop
 rt:VK
 bk:St->Hp->Prop:=λ_ _=>False
 ct:St->Hp->Prop:=λ_ _=>False
variable{D:Ends}
abbrev TS:=Ends->St->Hp->Prop
variable{tb:TS}
inductive EP(X:Cx)(Y:aE)(σ:St)(Q:VK)(u:Value)(s':Shared):Prop
 |mk (v H':_) (_:bD X Y σ H' s') (_:cX v u) (_:Q v H')
def TP(X:Cx)(Y:aE)(σ:St)(Q:Bool->Hp->Prop)(b:Bool)(s':Shared):Prop:=∃H',bD X Y σ H' s'/\Q b H'
inductive AP(X:Cx)(Y:aE)(σ:St)(Q:af->Hp->Prop)(us:aw)(s':Shared):Prop
 |mk (vs H':_) (_:bD X Y σ H' s') (_:cJ vs us) (_:Q vs H')
def SP(X:Cx)(Y:aE)(D:Ends)(f:Flow)(s':Shared):Prop :=
 match f with
 |.next=>∃σ' H',bD X Y σ' H' s'/\D.nx σ' H'
 |.brk=>∃σ' H',bD X Y σ' H' s'/\D.bk σ' H'
 |.cont=>∃σ' H',bD X Y σ' H' s'/\D.ct σ' H'
 |.ret u=>∃v σ' H',bD X Y σ' H' s'/\cX v u/\D.rt v H'
def PE(X:Cx)(e:Expr)(t:TE):Prop :=
 ∀(Y:aE) (s:Shared) (σ:St) (H:Hp) (Q:VK),bD X Y σ H s->t σ H Q->wpAny (model X.prog X.w) X.A (eval e X.env) (EP X Y σ Q) X.xe s
def PT(X:Cx)(e:Expr)(t:TT):Prop :=
 ∀(Y:aE) (s:Shared) (σ:St) (H:Hp) (Q:Bool->Hp->Prop),bD X Y σ H s->t σ H Q->wpAny (model X.prog X.w) X.A (isTrue e X.env (eval e X.env)) (TP X Y σ Q) X.xe s
def PW(X:Cx)(e:Expr)(t:TT):Prop :=
 ∀(whole:Sem Value) (Y:aE) (s:Shared) (σ:St) (H:Hp) (Q:Bool->Hp->Prop),bD X Y σ H s->t σ H Q->wpAny (model X.prog X.w) X.A (isTrue e X.env whole) (TP X Y σ Q) X.xe s
def PW.pt{X:Cx}{t:TT}(h:PW X e t):PT X e t:=h _
def PA(X:Cx)(es:ba)(t:TA):Prop :=
 ∀(pos:Pos) (Y:aE) (s:Shared) (σ:St) (H:Hp) (Q:af->Hp->Prop),bD X Y σ H s->t σ H Q->wpAny (model X.prog X.w) X.A (spliced (backTo pos (starEach es X.env))) (AP X Y σ Q) X.xe s
def PS(X:Cx)(st:Stmt)(t:TS):Prop :=
 ∀(Y:aE) (s:Shared) (σ:St) (H:Hp) (D:Ends),bD X Y σ H s->t D σ H->wpAny (model X.prog X.w) X.A (exec st X.env) (SP X Y D) X.xe s
def Qf(X:Cx)(st:List Stmt)(t:TS):Prop :=
 ∀(Y:aE) (s:Shared) (σ:St) (H:Hp) (D:Ends),bD X Y σ H s->t D σ H->wpAny (model X.prog X.w) X.A (execs st X.env) (SP X Y D) X.xe s
def jC{α:Type}{t:Sem α}{Q Q':α->Shared->Prop}{E:∅}{s:Shared}(h:wpAny Z98 A t Q E s)(hQ:∀a s,Q a s->Q' a s):wpAny Z98 A t Q' E s:=iw h hQ λ_ _ x=>x
section
variable{X:Cx}
inductive EA{α:Type}(P Q:α->Prop):Prop
 |mk (v:α) (p:P v) (q:Q v)
inductive EC{α:Type}(P R Q:α->Prop):Prop
 |mk (v:α) (p:P v) (r:R v) (q:Q v)
inductive UW(i:Nat)(σ:St)(H:Hp)(Q:VK):Prop
 |mk (v:_) (_:σ[i]?=some (some v)) (_:Q v H)
noncomputable def tC(v:V):TE:=λ_ H Q=>Q v H
def a2S{i:Nat}{x:Str}(hN:X.N[i]?=some x)(hv:Vis X.env.scope x)(hd:@&((x==("__debug__" : Str))=false))(hcd:@&((x==("__classdict__" : Str))=false)):PE X (.Name x pos) (UW i):=by
 intro Y s σ H Q I h;let⟨v,e,h⟩:=h;let⟨m,hn,hl⟩:=I.loc;let⟨u,r,l⟩:=hl i x v hN e hv;let fin:EP X Y σ Q u s:=⟨v,H,I,r,h⟩;rcases l with⟨hk,hm⟩|⟨hk,c,hc,hcell⟩
 ·show wpAny_Name (wpAny_loadName_local I.ok.kind hk hn hm fin) hd
 ·rcases hk with hk|hk
  ·show wpAny_Name (wpAny_loadName_cell I.ok.kind hk hc hcell fin) hd
  ·show wpAny_Name (wpAny_loadName_free I.ok.kind hk hc hcell fin hcd) hd
def aq{i j pos}:PE X (.Constant (.int i) j pos) (tC (.int i)):=λ_ _ _ H _ I h=>wpAny_Constant_int ⟨.int i,H,I.tok _,⟨_,Z⟩,h⟩
def yq{b j pos}:PE X (.Constant (.bool b) j pos) (tC (.bl b)):=λ_ _ _ H _ I h=>Constant_bool ⟨.bl b,H,I,Z,h⟩
def oU{j pos}:PE X (.Constant .none j pos) (tC .non):=λ_ _ _ H _ I h=>Constant_none ⟨.non,H,I,Z,h⟩
def gw{x j pos}:PE X (.Constant (.str x) j pos) (tC (.str x)):=λ_ _ _ H _ I h=>Calls.Constant_str ⟨.str x,H,I.tok _,⟨_,Z⟩,h⟩
def Gl(X:Cx)(x:Str):Prop:=X.env.kindOf x=some .globalImplicit
def zV{E:∅}{Y:aE}{s:Shared}{σ:St}{H:Hp}{x:Str}{u:Value}{Q:∅}(I:bD X Y σ H s)(hg:Gl X x)(hm:X.mg x=some u)(h:Q u s)
  (hd:@&((x==("__debug__" : Str))=false)):wpAny (model X.prog X.w) X.A (eval (.Name x pos) X.env) Q E s :=
 Õ I.ok.kind hg (Calls.loadGlobal_global (by rw[I.ok.glob];show I.mod.glob.keeps I.bk) hm h) hd
def um{E:∅}{Y:aE}{s:Shared}{σ:St}{H:Hp}{x:Str}{u:Value}{Q:∅}(I:bD X Y σ H s)(hg:Gl X x)(hm:X.mg x=none)(hv:bootBuiltins x=some u)(h:Q u s)
  (hn:@&(x≠ "__name__")) (hd:@&((x==("__debug__" : Str))=false)):wpAny (model X.prog X.w) X.A (eval (.Name x pos) X.env) Q E s:=by
 let⟨mb,h1,h2⟩:=I.mod.blt;show Õ I.ok.kind hg (Calls.loadGlobal_builtin (by rw[I.ok.glob];show I.mod.glob.keeps I.bk) hm (by rw[I.ok.blt];show h1.keeps I.bk) ((h2 x hn).trans hv) h) hd
def W4{x:Str}{v:V}{u:Value}(hg:Gl X x)(hm:X.mg x=some u)(r:cX v u)(hd:@&((x==("__debug__" : Str))=false)):PE X (.Name x pos) (tC v) :=
 λ_ _ _ H _ I h=>zV I hg hm ⟨v,H,I,r,h⟩ hd
def sX{x:Str}{v:V}{u:Value}(hg:Gl X x)(hm:X.mg x=none)(hv:bootBuiltins x=some u)(r:cX v u)(hn:@&(x≠ "__name__"))(hd:@&((x==("__debug__" : Str))=false)):PE X (.Name x pos) (tC v) :=
 λ_ _ _ H _ I h=>um I hg hm hv ⟨v,H,I,r,h⟩ hn hd
variable{a b:Expr}{tb:TE}
variable{tA tB':TT}{rest:ba}
noncomputable def â(t u:TT):TT:=λσ H Q=>t σ H λc H1=>if c=true then u σ H1 Q else Q false H1
noncomputable def tOr(t u:TT):TT:=λσ H Q=>t σ H λc H1=>if c=true then Q true H1 else u σ H1 Q
noncomputable def a7D(t:TT):TT:=λσ H Q=>t σ H λc H1=>Q (!c) H1
def nA(ha:PT X a tA):PW X (.BoolOp .And [a] pos) tA:=by
 intro wh Y s σ H Q I h;show isTrue_and (jC (ha Y s σ H Q I h) λc s1 e=>?_);cases c with
 |true=>show isTrue_and_nil e
 |false=>show e
def yR(ha:PT X a tA):PW X (.BoolOp .Or [a] pos) tA:=by
 intro wh Y s σ H Q I h;show isTrue_or (jC (ha Y s σ H Q I h) λc s1 e=>?_);cases c with
 |false=>show isTrue_or_nil e
 |true=>show e
def lU(ha:PT X a tA)(hb:PW X (.BoolOp .And (b::rest) pos) tB'):PW X (.BoolOp .And (a::b::rest) pos) (â tA tB'):=by
 intro wh Y s σ H Q I h;show isTrue_and (jC (ha Y s σ H _ I h) λc s1 ⟨H1,I1,q1⟩=>?_);cases c with
 |true=>show hb wh Y s1 σ H1 Q I1 q1
 |false=>show⟨H1,I1,q1⟩
def zW(ha:PT X a tA)(hb:PW X (.BoolOp .Or (b::rest) pos) tB'):PW X (.BoolOp .Or (a::b::rest) pos) (tOr tA tB'):=by
 intro wh Y s σ H Q I h;show isTrue_or (jC (ha Y s σ H _ I h) λc s1 ⟨H1,I1,q1⟩=>?_);cases c with
 |true=>show⟨H1,I1,q1⟩
 |false=>show hb wh Y s1 σ H1 Q I1 q1
def nC(ha:PT X a tA):PT X (.UnaryOp .Not a pos) (a7D tA):=by
 intro Y s σ H Q I h;show isTrue_not (ha Y s σ H (λc H1=>Q (!c) H1) I h)
noncomputable def a5j(ta tb:TE):TE:=λσ H Q=>ta σ H λx H1=>EA (λc=>x=.bl c) λc=>if c=true then tb σ H1 Q else Q (.bl false) H1
noncomputable def a5k(ta:TE):TE:=λσ H Q=>ta σ H λx H1=>EA (λc=>x=.bl c) λc=>Q (.bl (!c)) H1
def ã{op}{t:TE}(h:PE X a t):PE X (.BoolOp op [a] pos) t:=λY s σ H Q I hw=>BoolOp_one (h Y s σ H Q I hw)
def ä(ha:PE X a ta)(hb:PE X (.BoolOp .And (b::rest) pos) tb):PE X (.BoolOp .And (a::b::rest) pos) (a5j ta tb):=by
 intro Y s σ H Q I h;show BoolOp_and (jC (ha Y s σ H _ I h) λv s1 ⟨x,H1,I1,r1,q1⟩=>?_);let⟨c,rfl,q1⟩:=q1;cases r1;show Cz ?_;cases c with
 |true=>show hb Y s1 σ H1 Q I1 q1
 |false=>show⟨.bl false,H1,I1,Z,q1⟩
def a2T(ha:PE X a ta):PE X (.UnaryOp .Not a pos) (a5k ta):=by
 intro Y s σ H Q I h;show UnaryOp_ (jC (ha Y s σ H _ I h) λv s1 ⟨x,H1,I1,r1,q1⟩=>?_);let⟨c,rfl,q1⟩:=q1;cases r1;show not_of (Cz ⟨.bl (!c),H1,I1,Z,q1⟩)
noncomputable def tIf(t:TT)(ta tb:TE):TE:=λσ H Q=>t σ H λc H1=>if c=true then ta σ H1 Q else tb σ H1 Q
def qg(hc:PT X c tA)(ha:PE X a ta)(hb:PE X b tb):PE X (.IfExp c a b pos) (tIf tA ta tb):=by
 intro Y s σ H Q I h;show wpAny_IfExp (jC (hc Y s σ H _ I h) λd s1 ⟨H1,I1,q1⟩=>?_);cases d with
 |true=>show ha Y s1 σ H1 Q I1 q1
 |false=>show hb Y s1 σ H1 Q I1 q1
end
def bB(K:aJ)(H:Hp)(a:Addr)(xs:af):Prop :=
 Rd H a (.lst xs)\/
  ∃(o:Obj) (bR:Array Value) (n:Nat),K.lookup a=some o/\o.cls=.type "list" /\o.dict=none/\o.data=.seq bR n/\bR.size<=sizeLine/\cJ xs bR.toList
def cN(K:aJ)(H:Hp)(a:Addr)(xs:af):Prop :=
 Rd H a (.tup xs)\/
  ∃(o:Obj) (bR:Array Value) (n:Nat),K.lookup a=some o/\o.cls=.type "tuple" /\o.data=.seq bR n/\bR.size<=sizeLine/\cJ xs bR.toList
noncomputable def a7E:Value->Option V
 |.none=>some .non
 |.bool b=>some (.bl b)
 |.int i _=>some (.int i)
 |.str x _=>some (.str x)
 |.bytes b _=>some (.WY b)
 |.float b _=>some (.flt b)
 |.ref a=>⇑a
 |.type n=>some (.ty n)
 |_=>none
def cX.abs{x:V}{u:Value}(r:cX x u):a7E u=some x:=by
 cases x with
 |non=>cases r;rfl
 |bl _=>cases r;rfl
 |int _=>let⟨t,rfl⟩:=r;rfl
 |str _=>let⟨t,rfl⟩:=r;rfl
 |WY _=>let⟨t,rfl⟩:=r;rfl
 |flt _=>let⟨t,rfl⟩:=r;rfl
 |ref _=>cases r;rfl
 |ty _=>cases r;rfl
def cX.inj{x y:V}{u:Value}(r:cX x u)(q:cX y u):x=y:=dD (r.abs.symm.trans q.abs)
def cJ.inj{xs ys:af}{us:aw}(h:cJ xs us)(g:cJ ys us):xs=ys:=by
 induction h generalizing ys with
 |nil=>cases g;rfl
 |cons r _ ih =>
  cases g with
  |cons q t=>rw[r.inj q,ih t]
section
variable{X:Cx}{Y:aE}{σ:St}{H:Hp}{s:Shared}{a:Addr}{xs ys:af}
def bB.of(h:H a=↥xs):bB K H a xs:=.inl (.inl h)
def cN.of(h:H a= ~~~xs):cN K H a xs:=.inl (.inl h)
def bD.list(I:bD X Y σ H s)(h:bB X.K H a xs):∃bR:aw,cJ xs bR/\PlainL s.heap a bR.toArray/\xs.length<=sizeLine:=by
 rcases h with h|⟨o,bR,n,hk,hc,hd,hs,hz,r⟩
 ·let⟨z,bR,n,r,e⟩:=h.ok I.hok;show⟨bR,r,⟨_,n,e,Z,Z,Z⟩,z⟩
 ·show⟨bR.toList,r,⟨o,n,I.Cj a o hk,hc,hd,by simpa using hs⟩,?_⟩;let e:=r.length;simp only[Array.length_toList]at e;omega
def bD.tuple(I:bD X Y σ H s)(h:cN X.K H a xs):∃bR:aw,cJ xs bR/\IsTup s.heap a bR.toArray/\xs.length<=sizeLine:=by
 rcases h with h|⟨o,bR,n,hk,hc,hs,hz,r⟩
 ·let⟨z,bR,r,p⟩:=h.ok I.hok;show⟨bR,r,p,z⟩
 ·show⟨bR.toList,r,⟨o,I.Cj a o hk,hc,n,by simpa using hs⟩,?_⟩;let e:=r.length;simp only[Array.length_toList]at e;omega
def bD.wW(I:bD X Y σ H s)(h:bB X.K H a xs)(h':bB X.K H a ys):xs=ys:=by
 let⟨bR,r,⟨o,n,e,_,_,d⟩,_⟩:=I.list h;let⟨its',r',⟨o',n',e',_,_,d'⟩,_⟩:=I.list h';rw[e]at e';cases e';rw[d]at d';injection d' with d1 _
 let:bR=its':=by simpa using congrArg Array.toList d1
 subst this;show r.inj r'
def bD.Kd(I:bD X Y σ H s)(h:cN X.K H a xs)(h':cN X.K H a ys):xs=ys:=by
 let⟨bR,r,⟨o,e,_,n,d⟩,_⟩:=I.tuple h;let⟨its',r',⟨o',e',_,n',d'⟩,_⟩:=I.tuple h';rw[e]at e';cases e';rw[d]at d';injection d' with d1 _
 let:bR=its':=by simpa using congrArg Array.toList d1
 subst this;show r.inj r'
end
abbrev Cx.wish(X:Cx)(E:∅):Cx:={ X with xe:=E}
abbrev Cx.nox(X:Cx):Cx:=X.wish λ_ _=>False
def Cx.Ok.wish{X:Cx}(ok:X.Ok)(E:∅):(X.wish E).Ok :=
 ⟨ok.mod,ok.kind,ok.glob,ok.blt,ok.above,ok.inj,ok.has,ok.cab,ok.hd,ok.frames,ok.stk,ok.exf,ok.bs,ok.Ο,ok.UL,ok.Yw,ok.zU,ok.frf⟩
def Cx.Ok.rP{X:Cx}{E:∅}(ok:(X.wish E).Ok):X.Ok :=
 ⟨ok.mod,ok.kind,ok.glob,ok.blt,ok.above,ok.inj,ok.has,ok.cab,ok.hd,ok.frames,ok.stk,ok.exf,ok.bs,ok.Ο,ok.UL,ok.Yw,ok.zU,ok.frf⟩
section
variable{X:Cx}{Y:aE}{σ:St}{H:Hp}{s:Shared}{E:∅}
def bD.wish(I:bD X Y σ H s)(E:∅):bD (X.wish E) Y σ H s:=⟨I.ok.wish E,I.os,I.bare,I.base,I.loc,I.cell,I.free,I.rO,I.pin,I.hok,I.len⟩
def bD.rP(I:bD (X.wish E) Y σ H s):bD X Y σ H s:=⟨I.ok.rP,I.os,I.bare,I.base,I.loc,I.cell,I.free,I.rO,I.pin,I.hok,I.len⟩
def SP.rP{D:Ends}{f:Flow}{s':Shared}(h:SP (X.wish E) Y D f s'):SP X Y D f s':=by
 cases f with
 |next=>let⟨σ',H',I,q⟩:=h;show⟨σ',H',I.rP,q⟩
 |brk=>let⟨σ',H',I,q⟩:=h;show⟨σ',H',I.rP,q⟩
 |cont=>let⟨σ',H',I,q⟩:=h;show⟨σ',H',I.rP,q⟩
 |ret u=>let⟨v,σ',H',I,r,q⟩:=h;show⟨v,σ',H',I.rP,r,q⟩
def Qf.nox{st:List Stmt}{t:TS}(h:Qf X.nox st t):Qf X st t:=λY s σ H D I hw =>
 iw (h Y s σ H D (I.wish _) hw) (λ_ _ q=>q.rP) λ_ _ z=>False.elim z
end
section
variable{X:Cx}{st:Stmt}{rest:List Stmt}{t u:TS}
noncomputable def W5:TS:=λD σ H=>D.nx σ H
noncomputable def a0b(t u:TS):TS:=λD σ H=>t { D with nx:=u D} σ H
def bA:Qf X [] W5:=λ_ _ σ H _ I h=>M8 ⟨σ,H,I,h⟩
def aD(h1:PS X st t)(h2:Qf X rest u):Qf X (st::rest) (a0b t u):=by
 intro Y s σ H D I h;show Ug (jC (h1 Y s σ H { D with nx:=u D} I h) λf s1 q=>?_);cases f with
 |next =>
  let⟨σ',H',I',q⟩:=q;show h2 Y s1 σ' H' D I' q
 |ret v=>show q
 |brk=>show q
 |cont=>show q
def aF(h1:PS X st t):Qf X [st] t:=by
 intro Y s σ H D I h;show Ug (jC (h1 Y s σ H D I h) λf s1 q=>?_);cases f with
 |next=>show M8 q
 |ret v=>show q
 |brk=>show q
 |cont=>show q
noncomputable def a2U:TS:=λD σ H=>D.bk σ H
def å:PS X (.Break pos) a2U:=λ_ _ σ H _ I h=>wpAny_Break ⟨σ,H,I,h⟩
def bD.quiet{Y:aE}{σ:St}{H:Hp}{s:Shared}(I:bD X Y σ H s):interactive X.env=false:=by simp[interactive,I.ok.kind]
noncomputable def a5l(te:TE):TS:=λD σ H=>te σ H λ_ H1=>D.nx σ H1
def dZ(he:PE X e te)(hs:@&(swapsWith e none pos.line X.env=pure false)):PS X (.Expr e pos) (a5l te):=by
 intro Y s σ H D I h;show wpAny_Expr_any (jC (he Y s σ H _ I h) λv s1 ⟨x,H1,I1,r1,q1⟩=>⟨σ,H1,I1,q1⟩) I.quiet hs
noncomputable def a5m(te:TE):TS:=λD σ H=>te σ H D.rt
def bJ(he:PE X e te):PS X (.Return (some e) pos) (a5m te):=by
 intro Y s σ H D I h;show wpAny_Return_some (jC (he Y s σ H _ I h) λv s1 ⟨x,H1,I1,r1,q1⟩=>⟨x,σ,H1,I1,r1,q1⟩)
noncomputable def a0c(c:TT)(t u:TS):TS:=λD σ H=>c σ H λb H1=>if b=true then t D σ H1 else u D σ H1
def cO{a b:List Stmt}{tc:TT}(hc:PT X c tc)(ha:Qf X a t)(hb:Qf X b u):PS X (.If c a b pos) (a0c tc t u):=by
 intro Y s σ H D I h;show wpAny_If (jC (hc Y s σ H _ I h) λd s1 ⟨H1,I1,q1⟩=>?_);cases d with
 |true=>show ha Y s1 σ H1 D I1 q1
 |false=>show hb Y s1 σ H1 D I1 q1
noncomputable def a2V:TS:=λ_ _ _=>False
def zX:PS X st a2V:=λ_ _ _ _ _ _ h=>h.elim
end
abbrev TG:=V->St->Hp->(St->Hp->Prop)->Prop
abbrev æ:=af->St->Hp->(St->Hp->Prop)->Prop
def PG(X:Cx)(target:Expr)(t:TG):Prop :=
 ∀(Y:aE) (s:Shared) (σ:St) (H:Hp) (v:V) (u:Value) (Q:St->Hp->Prop),bD X Y σ H s->cX v u->t v σ H Q->
  wpAny (model X.prog X.w) X.A (assign target X.env u) (λ_ s'=>∃σ' H',bD X Y σ' H' s'/\Q σ' H') X.xe s
def PGs(X:Cx)(ts:ba)(t:æ):Prop :=
 ∀(Y:aE) (s:Shared) (σ:St) (H:Hp) (vs:af) (us:aw) (Q:St->Hp->Prop),bD X Y σ H s->cJ vs us->t vs σ H Q->
  wpAny (model X.prog X.w) X.A (assignInOrder ((assignEach ts X.env).map (·.2)) us) (λ_ s'=>∃σ' H',bD X Y σ' H' s'/\Q σ' H') X.xe s
abbrev a2W:=V->V->V->Hp->(Hp->Prop)->Prop
def a0d(X:Cx)(t:a2W):Prop :=
 ∀(Y:aE) (s:Shared) (σ:St) (H:Hp) (o i v:V) (ov iv u:Value) (Q:Hp->Prop),bD X Y σ H s->cX o ov->cX i iv->cX v u->t o i v H Q->
  wpAny (model X.prog X.w) X.A (setItem ov iv u) (λ_ s'=>∃H',bD X Y σ H' s'/\Q H') X.xe s
section
variable{X:Cx}
noncomputable def zY(i:Nat):TG:=λv σ H Q=>Q (σ.set i (some v)) H
def aN(i:Nat){x:Str}(hN:X.N.Nodup)(hi:@&(X.N[i]?=some x))(hx:autoParam (Loc X.env.scope x) Q1_._auto_1)(hf:autoParam (X.fn x=true\/X.env.scope.names.lookup x=some .local) Q2_._auto_1):PG X (.Name x pos) (zY i):=by
 intro Y s σ H v u Q I r h;show wpAny_assign_Name (Qe I hN hi hx r (λs' I'=>⟨_,H,I',h⟩) hf)
noncomputable def a5n:æ:=λvs σ H Q=>vs=[]/\Q σ H
noncomputable def ç(t:TG)(u:æ):æ:=λvs σ H Q=>∃v r,vs=v::r/\t v σ H λσ' H'=>u r σ' H' Q
def iU:PGs X [] a5n:=by
 intro Y s σ H vs us Q I r h;let⟨e,h⟩:=h;subst e;cases r;show assignInOrder_nil ⟨σ,H,I,h⟩
def bT{t:TG}{u:æ}(h1:PG X e t)(h2:PGs X es u)
  (hs:@&((assignEach (e::es) X.env).map (·.2)=assign e X.env::(assignEach es X.env).map (·.2))):PGs X (e::es) (ç t u):=by
 intro Y s σ H vs us Q I r h;let⟨v,vr,e1,h⟩:=h;subst e1;cases r with
 |cons r rr =>
  rw[hs];show assignInOrder_cons (jC (h1 Y s σ H _ _ _ I r h) λ_ s1 ⟨σ1,H1,I1,q1⟩=>h2 Y s1 σ1 H1 _ _ Q I1 rr q1)
inductive a2X(K:aJ)(n:Nat)(t:æ)(v:V)(σ:St)(H:Hp)(Q:St->Hp->Prop):Prop
 |mk (a xs:_) (_:v=.ref a) (_:cN K H a xs) (_:xs.length=n) (_:t xs σ H Q)
def a2Y{t:æ}(hc:X.calm=true)(h:PGs X es t)
  (hn:@&((assignEach es X.env).length=n)) (hst:@&((assignEach es X.env).findIdx? (·.1)=none)):PG X (.Tuple es k pos) (a2X X.K n t):=by
 intro Y s σ H v u Q I r hw;let⟨a,xs,e1,hq,hl,hw⟩:=hw;subst e1;cases r;let⟨bR,rv,ht,hz⟩:=I.tuple hq;show assign_Tuple_tuple (I.ok.hd hc) ht (by simp[hn,<-hl,rv.length]) hst λh' hx=>?_;let I1:bD X Y σ H (s•h'):=I.kept (t':=s.toks) λb o e=>hx b o (bY (bf e)) e;show h Y _ σ H xs _ Q I1 (by simpa using rv) hw
noncomputable def a7F(to ti:TE)(t:a2W):TG:=λv σ H Q=>to σ H λo H1=>ti σ H1 λi H2=>t o i v H2 λH3=>Q σ H3
def NP{o i:Expr}{to ti:TE}{t:a2W}(ho:PE X o to)(hi:PE X i ti)(hs:a0d X t)
  (ha:autoParam (∀v,assign (.Subscript o i pos) X.env v=(do
   let ov <-holding [v] (eval o X.env)
   let iv <-holding [v,ov] (eval i X.env)
   standAt pos
   holding [v,ov,iv] (setItem ov iv v)
   release [v,ov,iv] [])) Q0_._auto_1):PG X (.Subscript o i pos) (a7F to ti t):=by
 intro Y s σ H v u Q I r h;rw[ha];show M (dY (jC (ho Y s σ H _ I h) λov s1 ⟨x,H1,I1,r1,q1⟩=>M (dY (jC (hi Y s1 σ H1 _ I1 q1) λiv s2 ⟨y,H2,I2,r2,q2⟩=>M (Nj (M (dY (jC (hs Y s2 σ H2 x y v ov iv u _ I2 r1 r2 r q2) λ_ s3 ⟨H3,I3,q3⟩=>wpAny_release ⟨σ,H3,I3,q3⟩))))))))
noncomputable def a2Z(te:TE)(g:TG):TS:=λD σ H=>te σ H λx H1=>g x σ H1 D.nx
def vI{g:TG}(he:PE X e te)(hg:PG X tg g)(hs:@&(swapsWithSole [tg] e pos.line X.env=pure false))(hw:@&(swappedStores [tg] e X.env=pure none))
  (h1:@&((assignEach [tg] X.env).map (·.2)=[assign tg X.env])):PS X (.Assign [tg] e pos) (a2Z te g):=by
 intro Y s σ H D I h;show wpAny_Assign_stores (jC (he Y s σ H _ I h) λv s1 ⟨x,H1,I1,r1,q1⟩=>?_) hs hw;rw[h1];show jC (hg Y s1 σ H1 x v _ I1 r1 q1) λ_ s2 q=>q
def aX(i:Nat){x:Str}{pos':Pos}(hN:X.N.Nodup)(he:PE X e te)(hi:@&(X.N[i]?=some x))(hx:autoParam (Loc X.env.scope x) Q1_._auto_1)(hs:@&(swapsWith e (some (.Name x pos')) pos.line X.env=pure false))(hf:autoParam (X.fn x=true\/X.env.scope.names.lookup x=some .local) Q2_._auto_1) :
  PS X (.Assign [.Name x pos'] e pos) (a2Z te (zY i)):=by
 intro Y s σ H D I h;show wpAny_Assign_Name (jC (he Y s σ H _ I h) λv s1 ⟨y,H1,I1,r1,q1⟩=>Qe I1 hN hi hx r1 (λs2 I2=>⟨_,H1,I2,q1⟩) hf) hs
end
section
variable{X:Cx}
noncomputable def a3a(c:TT)(tb:TS):TS:=λD σ H=>∃W:Nat->St->Hp->Prop,(∃m,W m σ H)/\∀m σ H,W m σ H->
 c σ H λb H1=>if b=true then ∃N:St->Hp->Prop,(∀σ' H',N σ' H'->∃m',m'<m/\W m' σ' H')/\tb { D with nx:=N,ct:=N,bk:=D.nx} σ H1 else D.nx σ H1
def è{tc:TT}(hp:PassesOwn (model X.prog X.w) X.A X.env X.xe)(hc:PT X c tc)(hb:Qf X body tb):PS X (.While c body [] pos) (a3a tc tb):=by
 intro Y s σ H D I h;let⟨W,⟨m0,w0⟩,turn⟩:=h;show wpAny_While (codeAny_whileLoop (λn s'=>∃σ' H',bD X Y σ' H' s'/\W n σ' H') ?_ m0 ⟨σ,H,I,w0⟩);rintro n s1 ⟨σ1,H1,I1,w1⟩;show yL hp (jC (hc Y s1 σ1 H1 _ I1 (turn n σ1 H1 w1)) λb s2 ⟨H2,I2,q2⟩=>?_);cases b with
 |true =>
  let⟨N,hN,q2⟩:=q2;rw[aB rfl];show yL hp (jC (hb Y s2 σ1 H2 _ I2 q2) λf s3 q3=>?_);cases f with
  |next =>
   let⟨σ3,H3,I3,n3⟩:=q3;let⟨m',hm,w3⟩:=hN σ3 H3 n3;show⟨m',hm,σ3,H3,I3,w3⟩
  |cont =>
   let⟨σ3,H3,I3,n3⟩:=q3;let⟨m',hm,w3⟩:=hN σ3 H3 n3;show⟨m',hm,σ3,H3,I3,w3⟩
  |brk=>show q3
  |ret v=>show q3
 |false =>
  rw[aA cL];show M8 ⟨σ1,H2,I2,q2⟩
end
structure It where
 go:Nat->Hp->Prop
 W6:Nat->Hp->V->Hp->Prop
 stop:Nat->Hp->Prop
def CQ(X:Cx)(Y:aE)(H:Hp)(b:Addr):Prop :=
 H b=none/\b≠X.env.locals/\b∉X.fs/\(b∈X.ex\/X.s₀.heap.objs.size<=b)/\(∀x c,X.env.cells.lookup x=some c->c≠b)/\∀p∈X.pn++Y,p.1≠b
def bD.Fd{X:Cx}{Y:aE}{σ:St}{H H':Hp}{s:Shared}{b:Addr}(I:bD X Y σ H s)(hb:s⁻¹<=b)(hn:H' b=none):CQ X Y H' b:=by
 show⟨hn,iJ (iZ I.lt hb),I.a5h hb,.inr (cF I.sz hb),λx c e z=>?_,λp hp z=>?_⟩
 ·let⟨v,q⟩:=I.cell x c e;show absurd (iZ q.lt (by rw[z];show hb)) (yN _)
 ·show absurd (iZ (bf (I.pin p hp).1) (by rw[z];show hb)) (yN _)
structure Turn(P:Program)(w:World)(K:aJ)(tg:Expr)(Z97:It)(fp:aI)(it:Addr)(tn:Nat->Heap->Prop):Prop where
 mem:it∈fp
 obj:∀i h,tn i h->∀b∈fp,∃o,h.get? b=some o/\∀v,o.data≠.cell v
 keep:∀i h h',tn i h->(∀b∈fp,∀o,h.get? b=some o->h'.get? b=some o)->tn i h'
 item:∀(X:Cx),X.prog=P->X.w=w->X.K=K->X.calm=true->∀(i:Nat) (Y:aE) (s:Shared) (σ:St) (H:Hp) (E:∅),bD X Y σ H s->(∀b∈fp,CQ X Y H b)->tn i s.heap->Z97.go i H->
  wpAny (model P w) X.A (pyNext (.ref it)) (λr s1=>∃u,r=some u/\
   wpAny (model P w) X.A (letOwnedTupleGo tg (.ref it) u) (λ_ s2=>∃x H',bD X Y σ H' s2/\cX x u/\Z97.W6 i H x H'/\tn (i+1) s2.heap/\∀b∈fp,H' b=none) E s1) E s
 done:∀(X:Cx),X.prog=P->X.w=w->X.K=K->X.calm=true->∀(i:Nat) (Y:aE) (s:Shared) (σ:St) (H:Hp) (E:∅),bD X Y σ H s->(∀b∈fp,CQ X Y H b)->tn i s.heap->Z97.stop i H->
  wpAny (model P w) X.A (pyNext (.ref it)) (λr s1=>r=none/\bD X Y σ H s1) E s
 self:∀(A:Around) (i:Nat) (s:Shared) (Q:∅) (E:∅),tn i s.heap->Q (.ref it) s->wpAny (model P w) A (pyIter (.ref it)) Q E s
abbrev TI:=St->Hp->(It->Hp->Prop)->Prop
inductive PIE(X:Cx)(Y:aE)(σ:St)(tg:Expr)(R:It->Hp->Prop)(itv:Value)(s2:Shared):Prop
 |mk (it:Addr) (fp:aI) (tn:Nat->Heap->Prop) (Z97:It) (H':Hp) (_:itv=.ref it) (_:bD X Y σ H' s2) (_:Turn X.prog X.w X.K tg Z97 fp it tn) (_:tn 0 s2.heap) (_:(∀b∈fp,CQ X Y H' b)) (_:R Z97 H')
def PI(X:Cx)(tg iter:Expr)(wi:TI):Prop :=
 ∀(Y:aE) (s:Shared) (σ:St) (H:Hp) (R:It->Hp->Prop),bD X Y σ H s->wi σ H R->
  wpAny (model X.prog X.w) X.A (eval iter X.env) (λv s1=>wpAny (model X.prog X.w) X.A (pyIter v) (PIE X Y σ tg R) X.xe s1) X.xe s
def W7{E : Value → Shared → Prop}{s : Shared}{it : Addr}{u : Value}{o : Obj}{n : String}{vs : Array Value}{Q : Unit → Shared → Prop}(ho : s^^^it = some o)(hc : o.cls = .type n)(hd : o.data = .fields vs)
    (hn : ["enumerate", "zip", "dict_itemiterator", "dict_reverseitemiterator", "odict_iterator", "itertools.zip_longest", "itertools.pairwise"].contains n = false) (hQ : Q ⟨⟩ s) : wpAny Z98 A (letOwnedTupleGo tg (.ref it) u) Q E s := by
  unfold letOwnedTupleGo;cases tg <;> first
    | show ao hQ
    | (cases u <;> first
        | show ao hQ
        | (show M (wpAny_load ho ?_)
           rw [hc, hd];show wpAny Z98 A (if (["enumerate", "zip", "dict_itemiterator", "dict_reverseitemiterator", "odict_iterator", "itertools.zip_longest", "itertools.pairwise"].contains n && vs[0]? == some (rawInt _)) = true then _ else _) Q E s;rw [aA (by intro h; rw [hn, Bool.false_and] at h; cases h)];show ao hQ))
def Æ(K:aJ)(a:Addr):It :=
 ⟨λi H=>∃xs x,bB K H a xs/\xs[i]?=some x,λi H x H'=>H'=H/\∀xs,bB K H a xs->xs[i]?=some x,λi H=>∃xs,bB K H a xs/\xs.length<=i⟩
def Itt(K:aJ)(a:Addr):It :=
 ⟨λi H=>∃xs x,cN K H a xs/\xs[i]?=some x,λi H x H'=>H'=H/\∀xs,cN K H a xs->xs[i]?=some x,λi H=>∃xs,cN K H a xs/\xs.length<=i⟩
noncomputable def U0(lo:Int)(n:Nat):It:=⟨λi _=>i<n,λi H x H'=>H'=H/\x=.int (lo+i),λi _=>n<=i⟩
def Yx{P:Program}{w:World}(a it:Addr):Turn P w K tg (Æ K a) [it] it (λi h=>h.IsListIter it a i) where
 mem:=by simp
 obj:=λi h st b hb=>by
  let e:b=it:=by simpa using hb
  subst e
  let⟨o,e,c,d⟩:=st
  show⟨o,e,λv z=>by rw[d]at z;cases z⟩
 keep:=λi h h' st k=>st.at λo e=>k it (by simp) o e
 item:=by
  intro X hP hw hK hc i Y s σ H E I hf st hg
  subst hP hw hK
  let⟨xs,x,hq,hx⟩:=hg
  let⟨bR,rv,p,hz⟩:=I.list hq
  let⟨u,hu,ru⟩:=rv.get hx
  let⟨f0,f1,f2,f3,f4,f5⟩:=hf it (by simp)
  show S8 st p.isList (x:=u) (by simpa using hu) λh' st' sb=>?_
  let I1:bD X Y σ H (s•h'):=I.turned (t':=s.toks) (λb o hb e=>(sb.2 b hb).trans e) f0 f1 f3 f4 f5
  let⟨o,e,c,d⟩:=id st'
  show⟨u,Z,W7 (s:=(s•h')) e c d () ⟨x,H,I1,ru,⟨rfl,λys hy=>by rw[I.wW hy hq];show hx⟩,st',λb hb=>(hf b hb).1⟩⟩
 done:=by
  intro X hP hw hK hc i Y s σ H E I hf st hg
  subst hP hw hK
  let⟨xs,hq,hx⟩:=hg
  let⟨bR,rv,p,hz⟩:=I.list hq
  let⟨f0,f1,f2,f3,f4,f5⟩:=hf it (by simp)
  let hl:=rv.length
  show wpAny_pyNext_list_end (I.ok.hd hc) st p.isList (by simp;omega) λh' eb=>⟨Z,I.turned (t':=s.toks) (λb o hb e=>eb b o hb e) f0 f1 f3 f4 f5⟩
 self:=λ_ _ _ _ _ st h=>wpAny_pyIter_listiter st h
def U4{P:Program}{w:World}(a it:Addr):Turn P w K tg (Itt K a) [it] it (λi h=>h.IsTupleIter it a i) where
 mem:=by simp
 obj:=λi h st b hb=>by
  let e:b=it:=by simpa using hb
  subst e
  let⟨o,e,c,d⟩:=st
  show⟨o,e,λv z=>by rw[d]at z;cases z⟩
 keep:=λi h h' st k=>st.at λo e=>k it (by simp) o e
 item:=by
  intro X hP hw hK hc i Y s σ H E I hf st hg
  subst hP hw hK
  let⟨xs,x,hq,hx⟩:=hg
  let⟨bR,rv,p,hz⟩:=I.tuple hq
  let⟨u,hu,ru⟩:=rv.get hx
  let⟨f0,f1,f2,f3,f4,f5⟩:=hf it (by simp)
  show wpAny_pyNext_tuple_item st (show s.heap.IsTuple a bR.toArray from p) (x:=u) (by simpa using hu) λh' st' sb=>?_
  let I1:bD X Y σ H (s•h'):=I.turned (t':=s.toks) (λb o hb e=>(sb.2 b hb).trans e) f0 f1 f3 f4 f5
  let⟨o,e,c,d⟩:=id st'
  show⟨u,Z,W7 (s:=(s•h')) e c d () ⟨x,H,I1,ru,⟨rfl,λys hy=>by rw[I.Kd hy hq];show hx⟩,st',λb hb=>(hf b hb).1⟩⟩
 done:=by
  intro X hP hw hK hc i Y s σ H E I hf st hg
  subst hP hw hK
  let⟨xs,hq,hx⟩:=hg
  let⟨bR,rv,p,hz⟩:=I.tuple hq
  let⟨f0,f1,f2,f3,f4,f5⟩:=hf it (by simp)
  let hl:=rv.length
  show wpAny_pyNext_tuple_end (I.ok.hd hc) st (show s.heap.IsTuple a bR.toArray from p) (by simp;omega) λh' eb=>⟨Z,I.turned (t':=s.toks) (λb o hb e=>eb b o hb e) f0 f1 f3 f4 f5⟩
 self:=λ_ _ _ _ _ st h=>wpAny_pyIter_tupleiter st h
def U5{P:Program}{w:World}(it:Addr)(lo:Int)(n:Nat):Turn P w K tg (U0 lo n) [it] it (λi h=>IsRangeIter h it (lo+(i:Nat)*1) ((n:Int)-(i:Nat)) 1) where
 mem:=by simp
 obj:=λi h st b hb=>by
  let e:b=it:=by simpa using hb
  subst e
  show⟨_,st,λv z=>by
   let z':Data.fields _=Data.cell v:=z
   cases z'⟩
 keep:=λi h h' st k=>k it (by simp) _ st
 item:=by
  intro X hP hw hK hc i Y s σ H E I hf st hg
  subst hP hw hK
  let⟨f0,f1,f2,f3,f4,f5⟩:=hf it (by simp)
  let W:=Walks.range (prog:=X.prog) (w:=X.w) (I.ok.hd hc) it lo 1 n
  show W.item i s _ _ hg st λv h' tk hv st' kk=>?_
  let⟨t,rfl⟩:=hv
  let I1:bD X Y σ H { s with heap:=h',toks:=tk}:=I.turned (λb o hb e=>kk b o (by simpa using hb) e) f0 f1 f3 f4 f5
  show⟨_,Z,W7 (s:={ s with heap:=h',toks:=tk}) (n:="range_iterator") st' rfl rfl () ⟨.int (lo+i),H,I1,⟨t,?_⟩,⟨rfl,rfl⟩,st',λb hb=>(hf b hb).1⟩⟩
  rw[Int.mul_one]
 done:=by
  intro X hP hw hK hc i Y s σ H E I hf st hg
  subst hP hw hK
  let⟨f0,f1,f2,f3,f4,f5⟩:=hf it (by simp)
  show wpAny_pyNext_range_end (I.ok.hd hc) st (by let:n<=i:=hg;omega) λh' eb=>⟨Z,I.turned (t':=s.toks) (λb o hb e=>eb b o hb e) f0 f1 f3 f4 f5⟩
 self:=λ_ _ _ _ _ st h=>wpAny_pyIter_rangeiter st h
section
variable{X:Cx}
def ê(K:aJ)(tl:TE):TI:=λσ H R=>tl σ H λx H1=>EC (λa=>x=.ref a) (λa=>(∃xs,bB K H1 a xs)) λa=>R (Æ K a) H1
def a3b(K:aJ)(tl:TE):TI:=λσ H R=>tl σ H λx H1=>EC (λa=>x=.ref a) (λa=>(∃xs,cN K H1 a xs)) λa=>R (Itt K a) H1
def a0e{l:Expr}{tl:TE}(hl:PE X l tl):PI X tg l (ê X.K tl):=by
 intro Y s σ H R I h;show jC (hl Y s σ H _ I h) λv s1 ⟨x,H1,I1,r1,q1⟩=>?_;let⟨a,e,⟨xs,hq⟩,q⟩:=q1;subst e;cases r1;let⟨bR,rv,p,hz⟩:=I1.list hq;show vz p.isList ⟨s1⁻¹,[s1⁻¹],_,_,H1,Z,I1.kept (t':=s1.toks) λb o e=>bL _ e,Yx a _,⟨_,b7 _ Z,Z,Z⟩,λb hb=>?_,q⟩;let e:b=s1⁻¹:=by simpa using hb
 subst e;show I1.Fd (aK _) (I1.hok.fresh (aK _))
def a3c{l:Expr}{tl:TE}(hl:PE X l tl):PI X tg l (a3b X.K tl):=by
 intro Y s σ H R I h;show jC (hl Y s σ H _ I h) λv s1 ⟨x,H1,I1,r1,q1⟩=>?_;let⟨a,e,⟨xs,hq⟩,q⟩:=q1;subst e;cases r1;let⟨bR,rv,p,hz⟩:=I1.tuple hq;show Mq (show s1.heap.IsTuple a bR.toArray from p) ⟨s1⁻¹,[s1⁻¹],_,_,H1,Z,I1.kept (t':=s1.toks) λb o e=>bL _ e,U4 a _,⟨_,b7 _ Z,Z,Z⟩,λb hb=>?_,q⟩;let e:b=s1⁻¹:=by simpa using hb
 subst e;show I1.Fd (aK _) (I1.hok.fresh (aK _))
def Qg{Y:aE}{σ:St}{H:Hp}{s:Shared}{R:It->Hp->Prop}{E:∅}{lo hi:Int}{t u v:Tok}{tk:Nat}(I:bD X Y σ H s)(h1 : -(2^62)<=lo)(h2:lo<2^62)(h3 : -(2^62)<=hi)(h4:hi<2^62)
  (q:R (U0 lo (hi-lo).toNat) H):wpAny (model X.prog X.w) X.A (pyIter (.ref s⁻¹)) (PIE X Y σ tg R) E { s with heap:=s.heap.push { cls:=.type "range",data:=.fields #[.int lo t,.int hi u,.int 1 v]},toks:=tk}:=by
 show wpAny_pyIter_range (IsRange.new ..) (small_one h1 h2 h3 h4) ?_;let I1:bD X Y σ H { s with heap:=s.heap.push { cls:=.type "range",data:=.fields #[.int lo t,.int hi u,.int 1 v]},toks:=tk}:=I.kept λb o e=>bL _ e;show⟨(s.heap.push { cls:=.type "range",data:=.fields #[.int lo t,.int hi u,.int 1 v]}).objs.size,[(s.heap.push { cls:=.type "range",data:=.fields #[.int lo t,.int hi u,.int 1 v]}).objs.size],_,_,H,Z,
  I1.kept (t':=tk) λb o e=>bL _ e,U5 _ lo (hi-lo).toNat,?_,λb hb=>?_,q⟩
 ·let e1:lo+((0:Nat):Int)*1=lo:=by simp
  let e2:(((hi-lo).toNat:Nat):Int)-((0:Nat):Int)=Builtin.Range.rangeSize lo hi 1:=by rw[rangeSize_one];split<;>omega
  show IsRangeIter _ _ (lo+((0:Nat):Int)*1) ((((hi-lo).toNat:Nat):Int)-((0:Nat):Int)) 1;rw[e1,e2];show b7 _ rfl
 ·let e:b=(s.heap.push { cls:=.type "range",data:=.fields #[.int lo t,.int hi u,.int 1 v]}).objs.size:=by simpa using hb
  subst e;show I1.Fd (aK _) (I1.hok.fresh (aK _))
def a5o(ta:TA):TI:=λσ H R=>ta σ H λvs H1=>EA (λj:Int=>vs=[.int j]) λj=>-(2^62)<=j/\j<2^62/\R (U0 0 j.toNat) H1
def a5p(ta:TA):TI:=λσ H R=>ta σ H λvs H1=>∃i j:Int,vs=[.int i,.int j]/\(-(2^62)<=i/\i<2^62/\ -(2^62)<=j/\j<2^62)/\R (U0 i (j-i).toNat) H1
def jw{a:Expr}{ta:TA}(hg:Gl X "range")(hm:X.mg "range" = none)(ha:PA X [a] ta)(hs:@&(starEach [a] X.env=[(false,eval a X.env)])):PI X tg (.Call (.Name "range" p) [a] [] pos) (a5o ta):=by
 intro Y s σ H R I h;show Call_ (um I hg hm boot_range (wH (jC (ha pos Y s σ H _ I h) λus s1 ⟨vs,H1,I1,r1,q1⟩=>?_) hs Z));let⟨j,e,q1,q2,q⟩:=q1;subst e;cases r1 with
 |cons r rr =>
  cases rr;let⟨t,rfl⟩:=r;show call_range_1 (Qg I1 () () q1 q2 (by simpa using q))
def CT{a b:Expr}{ta:TA}(hg:Gl X "range")(hm:X.mg "range" = none)(ha:PA X [a,b] ta)(hs:@&(starEach [a,b] X.env=[(false,eval a X.env),(false,eval b X.env)]))(hs2:@&(starEach [b] X.env=[(false,eval b X.env)])) :
  PI X tg (.Call (.Name "range" p) [a,b] [] pos) (a5p ta):=by
 intro Y s σ H R I h;show Call_ (um I hg hm boot_range (wH (jC (ha pos Y s σ H _ I h) λus s1 ⟨vs,H1,I1,r1,q1⟩=>?_) (by rw[hs,hs2]) (by rw[hs2];rfl)));let⟨i,j,e,⟨q1,q2,q3,q4⟩,q⟩:=q1;subst e;cases r1 with
 |cons r rr =>
  cases rr with
  |cons r' rr =>
   cases rr;let⟨t,rfl⟩:=r;let⟨t',rfl⟩:=r';show call_range_2 (Qg I1 q1 q2 q3 q4 q)
noncomputable def a7G(wi:TI)(g:TG)(tb:TS):TS:=λD σ H=>wi σ H λZ97 H1=>∃W:Nat->Nat->St->Hp->Prop,(∃m,W 0 m σ H1)/\∀i m σ H,W i m σ H->
 (Z97.stop i H/\D.nx σ H)\/(Z97.go i H/\∃N:St->Hp->Prop,(∀σ' H',N σ' H'->∃m',m'<m/\W (i+1) m' σ' H')/\∀x H',Z97.W6 i H x H'->g x σ H' λσ2 H2=>tb { D with nx:=N,ct:=N,bk:=D.nx} σ2 H2)
noncomputable def rQ(fp:aI)(h:Heap):aE:=fp.filterMap λb=>(h.get? b).map λo=>(b,o)
def oV{b:Addr}{o:Obj}(hb:b∈fp)(e:h.get? b=some o):(b,o)∈rQ fp h:=T6.mpr ⟨b,hb,by rw[e];rfl⟩
def Yy{p:Addr×Obj}(hp:p∈rQ fp h):p.1∈fp/\h.get? p.1=some p.2:=by
 let⟨b,hb,e⟩:=T6.mp hp;cases q:h.get? b with
 |none=>rw[q]at e;cases e
 |some o =>
  rw[q]at e;let e':(b,o)=p:=dD e;subst e';show⟨hb,q⟩
def bD.pinned{Y:aE}{σ:St}{H:Hp}{s:Shared}(I:bD X Y σ H s)(hf:∀b∈fp,CQ X Y H b)(ho:∀b∈fp,∃o,s^^^b=some o/\∀v,o.data≠.cell v):bD X (Y++rQ fp s.heap) σ H s :=
 I.Fy λp hp=>(cH.mp hp).elim (λz=>I.pin p (fQ _ z)) λz=>by
  let⟨hb,e⟩:=Yy z;let⟨f0,f1,f2,_⟩:=hf p.1 hb;let⟨o,e',d⟩:=ho p.1 hb;rw[e]at e';cases e';show⟨e,f0,f1,f2,d⟩
def bD.uM{Y pl:aE}{σ:St}{H:Hp}{s:Shared}(I:bD X (Y++pl) σ H s):bD X Y σ H s:=I.Fy λp hp=>I.pin p (fQ _ (oK _ hp))
def iz{iter:Expr}{wi:TI}{g:TG}(hp:PassesOwn (model X.prog X.w) X.A X.env X.xe)(hc:X.calm=true)(hi:PI X tg iter wi)(hg:PG X tg g)(hb:Qf X body tb)
  (hs:autoParam (∀x,foldedSetIterable iter X.env x=pure x) Q0_._auto_1):PS X (.For tg iter body [] pos) (a7G wi g tb):=by
 intro Y s σ H D I h;show wpAny_For (jC (hi Y s σ H _ I h) λv s1 h1=>jC h1 λitv s2 h2=>?_) hs;let⟨it,fp,tn,Z97,H2,e,I2,T,st2,f2,W,⟨m0,w0⟩,turn⟩:=h2;subst e;let stat:∀{H':Hp},(∀b∈fp,H' b=none)->∀b∈fp,CQ X Y H' b:=λhn b hb=>⟨hn b hb,(f2 b hb).2⟩;show codeAny_forLoop_any (λn s'=>∃i σ' H',bD X Y σ' H' s'/\tn i s'.heap/\(∀b∈fp,H' b=none)/\W i n σ' H') ?_ m0 ⟨0,σ,H2,I2,st2,λb hb=>(f2 b hb).1,w0⟩;rintro n s3 ⟨i,σ3,H3,I3,st3,fr3,w3⟩;rcases turn i n σ3 H3 w3 with⟨stop,qn⟩|⟨go,N,hN,step⟩
 ·show yL hp (jC (T.done X Z Z Z hc i Y s3 σ3 H3 X.xe I3 (stat fr3) st3 stop) λr s4 ⟨hr,I4⟩=>?_);subst hr;show M8 ⟨σ3,H3,I4,qn⟩
 ·show yL hp (jC (T.item X Z Z Z hc i Y s3 σ3 H3 X.xe I3 (stat fr3) st3 go) λr s4 ⟨u,hr,h4⟩=>?_);subst hr;show yL hp (jC h4 λ_ s5 ⟨x,H5,I5,r5,y5,st5,fr5⟩=>?_);let I5':=I5.pinned (stat fr5) (T.obj _ _ st5);show yL hp (jC (hg _ s5 σ3 H5 x u _ I5' r5 (step x H5 y5)) λ_ s6 ⟨σ6,H6,I6,q6⟩=>yL hp (jC (hb _ s6 σ6 H6 _ I6 q6) λf s7 q7=>?_));let again:∀{W8:St}{H7:Hp},bD X (Y++rQ fp s5.heap) W8 H7 s7->N W8 H7->∃m,m<n/\∃i σ' H',bD X Y σ' H' s7/\tn i s7.heap/\(∀b∈fp,H' b=none)/\W i m σ' H':=λ{W8 H7} I7 n7=>by
   let⟨m',hm,w7⟩:=hN W8 H7 n7;show⟨m',hm,i+1,W8,H7,I7.uM,T.keep _ _ _ st5 λb hb o e=>(I7.pin (b,o) (fQ _ (fQ _ (oV hb e)))).1,λb hb=>?_,w7⟩;let⟨o,e,d⟩:=T.obj _ _ st5 b hb;show(I7.pin (b,o) (fQ _ (fQ _ (oV hb e)))).2.1
  cases f with
  |next=>let⟨W8,H7,I7,n7⟩:=q7;show again I7 n7
  |cont=>let⟨W8,H7,I7,n7⟩:=q7;show again I7 n7
  |brk=>let⟨W8,H7,I7,q7⟩:=q7;show⟨W8,H7,I7.uM,q7⟩
  |ret v=>let⟨x7,W8,H7,I7,r7,q7⟩:=q7;show⟨x7,W8,H7,I7.uM,r7,q7⟩
end
def wX{a:Addr}{xs:af}{g:TG}{σ:St}{H:Hp}(Pv:Nat->St->Hp->Prop)(h0:Pv 0 σ H)(hl:∀i σ H,i<=xs.length->Pv i σ H->bB K H a xs)
  (hs:∀i x σ H,xs[i]?=some x->Pv i σ H->g x σ H λσ2 H2=>tb { D with nx:=Pv (i+1),ct:=Pv (i+1),bk:=D.nx} σ2 H2) (hd:∀σ H,Pv xs.length σ H->D.nx σ H) :
  ∃W:Nat->Nat->St->Hp->Prop,(∃m,W 0 m σ H)/\∀i m σ H,W i m σ H->
   ((Æ K a).stop i H/\D.nx σ H)\/((Æ K a).go i H/\∃N:St->Hp->Prop,(∀σ' H',N σ' H'->∃m',m'<m/\W (i+1) m' σ' H')/\∀x H',(Æ K a).W6 i H x H'->g x σ H' λσ2 H2=>tb { D with nx:=N,ct:=N,bk:=D.nx} σ2 H2):=by
 show⟨λi m σ H=>m=xs.length-i/\i<=xs.length/\Pv i σ H,⟨xs.length,by simp,cW _,h0⟩,?_⟩;rintro i m σ H ⟨rfl,hi,p⟩;let q:=hl i σ H hi p;by_cases hlt:i<xs.length
 ·show .inr ⟨⟨xs,xs[i],q,by simp[hlt]⟩,Pv (i+1),λσ' H' p'=>⟨xs.length-(i+1),(),Z,hlt,p'⟩,λx H' y=>?_⟩;let⟨e,y⟩:=y;subst e;show hs i x σ _ (y xs q) p
 ·let e:i=xs.length:=()
  subst e;show .inl ⟨⟨xs,q,aK _⟩,hd σ H p⟩
def NQ{a:Addr}{xs:af}{g:TG}{σ:St}{H:Hp}(Pv:Nat->St->Hp->Prop)(h0:Pv 0 σ H)(hl:∀i σ H,i<=xs.length->Pv i σ H->cN K H a xs)
  (hs:∀i x σ H,xs[i]?=some x->Pv i σ H->g x σ H λσ2 H2=>tb { D with nx:=Pv (i+1),ct:=Pv (i+1),bk:=D.nx} σ2 H2) (hd:∀σ H,Pv xs.length σ H->D.nx σ H) :
  ∃W:Nat->Nat->St->Hp->Prop,(∃m,W 0 m σ H)/\∀i m σ H,W i m σ H->
   ((Itt K a).stop i H/\D.nx σ H)\/((Itt K a).go i H/\∃N:St->Hp->Prop,(∀σ' H',N σ' H'->∃m',m'<m/\W (i+1) m' σ' H')/\∀x H',(Itt K a).W6 i H x H'->g x σ H' λσ2 H2=>tb { D with nx:=N,ct:=N,bk:=D.nx} σ2 H2):=by
 show⟨λi m σ H=>m=xs.length-i/\i<=xs.length/\Pv i σ H,⟨xs.length,by simp,cW _,h0⟩,?_⟩;rintro i m σ H ⟨rfl,hi,p⟩;let q:=hl i σ H hi p;by_cases hlt:i<xs.length
 ·show .inr ⟨⟨xs,xs[i],q,by simp[hlt]⟩,Pv (i+1),λσ' H' p'=>⟨xs.length-(i+1),(),Z,hlt,p'⟩,λx H' y=>?_⟩;let⟨e,y⟩:=y;subst e;show hs i x σ _ (y xs q) p
 ·let e:i=xs.length:=()
  subst e;show .inl ⟨⟨xs,q,aK _⟩,hd σ H p⟩
def rz{lo:Int}{g:TG}{σ:St}{H:Hp}(Pv:Nat->St->Hp->Prop)(h0:Pv 0 σ H)
  (hs:∀i σ H,i<n->Pv i σ H->g (.int (lo+i)) σ H λσ2 H2=>tb { D with nx:=Pv (i+1),ct:=Pv (i+1),bk:=D.nx} σ2 H2) (hd:∀σ H,Pv n σ H->D.nx σ H) :
  ∃W:Nat->Nat->St->Hp->Prop,(∃m,W 0 m σ H)/\∀i m σ H,W i m σ H->
   ((U0 lo n).stop i H/\D.nx σ H)\/((U0 lo n).go i H/\∃N:St->Hp->Prop,(∀σ' H',N σ' H'->∃m',m'<m/\W (i+1) m' σ' H')/\∀x H',(U0 lo n).W6 i H x H'->g x σ H' λσ2 H2=>tb { D with nx:=N,ct:=N,bk:=D.nx} σ2 H2):=by
 show⟨λi m σ H=>m=n-i/\i<=n/\Pv i σ H,⟨n,by simp,cW _,h0⟩,?_⟩;rintro i m σ H ⟨rfl,hi,p⟩;by_cases hlt:i<n
 ·show .inr ⟨hlt,Pv (i+1),λσ' H' p'=>⟨n-(i+1),(),Z,hlt,p'⟩,λx H' y=>?_⟩;let⟨e,y⟩:=y;subst e y;show hs i σ _ hlt p
 ·let e:i=n:=()
  subst e;show .inl ⟨aK _,hd σ H p⟩
abbrev R2:=V->V->Hp->VK->Prop
def rA(X:Cx)(f:Value->Value->Sem Value)(r:R2):Prop :=
 ∀(Y:aE) (s:Shared) (σ:St) (H:Hp) (x y:V) (v u:Value) (Q:VK),bD X Y σ H s->cX x v->cX y u->r x y H Q->
  wpAny (model X.prog X.w) X.A (f v u) (EP X Y σ Q) X.xe s
def jx(X:Cx)(f:Value)(r:af->Hp->VK->Prop):Prop :=
 ∀(Y:aE) (s:Shared) (σ:St) (H:Hp) (xs:af) (us:aw) (Q:VK),bD X Y σ H s->cJ xs us->r xs H Q->
  wpAny (model X.prog X.w) X.A (call f us) (EP X Y σ Q) X.xe s
def a7H(X:Cx)(r:V->Hp->(Bool->Hp->Prop)->Prop):Prop :=
 ∀(Y:aE) (s:Shared) (σ:St) (H:Hp) (x:V) (v:Value) (Q:Bool->Hp->Prop),bD X Y σ H s->cX x v->r x H Q->
  wpAny (model X.prog X.w) X.A (truthy v) (TP X Y σ Q) X.xe s
noncomputable def tOp(r:R2)(ta tb:TE):TE:=λσ H Q=>ta σ H λx H1=>tb σ H1 λy H2=>r x y H2 Q
inductive rI(C:Int->Int->Prop)(g:Int->Int->V)(x:V)(y:V)(H:Hp)(Q:VK):Prop
 |mk (i j:_) (_:x=.int i) (_:y=.int j) (_:C i j) (_:Q (g i j) H)
inductive rI0(g:Int->Int->V)(x:V)(y:V)(H:Hp)(Q:VK):Prop
 |mk (i j:_) (_:x=.int i) (_:y=.int j) (_:Q (g i j) H)
section
variable{X:Cx}{a b:Expr}{tb tc:TE}
def a3d(ha:PE X a ta)(hb:PE X b tb){Y:aE}{s:Shared}{σ:St}{H:Hp}{R:V->V->Hp->Prop}(I:bD X Y σ H s)
  (h:ta σ H λx H1=>tb σ H1 λy H2=>R x y H2) {Q:∅}{f:Value->Value->Sem Value}
  (hf:∀v u s2 x y H2,bD X Y σ H2 s2->cX x v->cX y u->R x y H2->wpAny (model X.prog X.w) X.A (f v u) Q X.xe s2) :
  wpAny (model X.prog X.w) X.A (eval a X.env) (λv s₁=>wpAny (model X.prog X.w) X.A (eval b X.env) (λu s₂=>wpAny (model X.prog X.w) X.A (f v u) Q X.xe s₂) X.xe s₁) X.xe s:=by
 show jC (ha Y s σ H _ I h) λv s1 ⟨x,H1,I1,r1,q1⟩=>jC (hb Y s1 σ H1 _ I1 q1) λu s2 ⟨y,H2,I2,r2,q2⟩=>hf v u s2 x y H2 I2 r1 r2 q2
def bw{op:Operator}{r:R2}(ho:rA X (binaryOp op) r)(ha:PE X a ta)(hb:PE X b tb):PE X (.BinOp a op b pos) (tOp r ta tb):=by
 intro Y s σ H Q I h;show wpAny_BinOp (a3d ha hb I h λv u s2 x y H2 I2 rx ry q=>ho Y s2 σ H2 x y v u Q I2 rx ry q)
def opI{f:Value->Value->Sem Value}{C:Int->Int->Prop}{g:Int->Int->Int}
  (rule:∀(i j:Int) (t u:Tok) (s:Shared) (Q:∅) (E:∅),C i j->Q (.int (g i j) s.toks) { s with toks:=s.toks+1}->wpAny (model X.prog X.w) X.A (f (.int i t) (.int j u)) Q E s) :
  rA X f (rI C λi j=>.int (g i j)):=by
 intro Y s σ H x y v u Q I rx ry h;let⟨i,j,rfl,rfl,hc,q⟩:=h;let⟨t,rfl⟩:=rx;let⟨t',rfl⟩:=ry;show rule i j t t' s _ _ hc ⟨.int (g i j),H,I.tok _,⟨_,Z⟩,q⟩
def a5q{f:Value->Value->Sem Value}{g:Int->Int->Int}
  (rule:∀(i j:Int) (t u:Tok) (s:Shared) (Q:∅) (E:∅),Q (.int (g i j) s.toks) { s with toks:=s.toks+1}->wpAny (model X.prog X.w) X.A (f (.int i t) (.int j u)) Q E s) :
  rA X f (rI0 λi j=>.int (g i j)):=by
 intro Y s σ H x y v u Q I rx ry h;let⟨i,j,rfl,rfl,q⟩:=h;let⟨t,rfl⟩:=rx;let⟨t',rfl⟩:=ry;show rule i j t t' s _ _ ⟨.int (g i j),H,I.tok _,⟨_,Z⟩,q⟩
def a0f{f:Value->Value->Sem Value}{g:Int->Int->Bool}
  (rule:∀(i j:Int) (t u:Tok) (s:Shared) (Q:∅) (E:∅),Q (.bool (g i j)) s->wpAny (model X.prog X.w) X.A (f (.int i t) (.int j u)) Q E s) :
  rA X f (rI0 λi j=>.bl (g i j)):=by
 intro Y s σ H x y v u Q I rx ry h;let⟨i,j,rfl,rfl,q⟩:=h;let⟨t,rfl⟩:=rx;let⟨t',rfl⟩:=ry;show rule i j t t' s _ _ ⟨.bl (g i j),H,I,Z,q⟩
def a7I(i j:Int):Prop:=0<j/\j<1073741824
def a7J(i j:Int):Prop:=0<=j/\j<=1000000/\i.natAbs<2^64
def a3e(i j:Int):Prop:=(-(2^64)<i/\i<2^64)\/(-(2^64)<j/\j<2^64)
def a3e.ok{i j:Int}(h:a3e i j):IntMulOk i j:=by
 rcases h with⟨h1,h2⟩|⟨h1,h2⟩
 ·show .of_left (intBits_le_64 h1 h2)
 ·show .of_right (intBits_le_64 h1 h2)
def dF:rA X (binaryOp .Add) (rI0 λi j=>.int (i+j)):=a5q λ_ _ _ _ _ _ _ q=>add_int q
def NT:rA X (binaryOp .Sub) (rI0 λi j=>.int (i-j)):=a5q λ_ _ _ _ _ _ _ q=>sub_int q
def wY:rA X (binaryOp .Mult) (rI a3e λi j=>.int (i*j)):=opI λ_ _ _ _ _ _ _ hc q=>mul_int q hc.ok
def a0g:rA X (binaryOp .FloorDiv) (rI a7I λi j=>.int (i/j)):=opI λi j _ _ _ _ _ hc q=>by
 let h1:(0:Int)<j:=hc.1;let h2:j<1073741824:=hc.2;show floordiv_int () (by rw[Int.fdiv_eq_ediv_of_nonneg i ()];show q) (.inl (PyProof.noPylong_small ()))
def jy:rA X (binaryOp .Mod) (rI (λ_ j=>0<j) λi j=>.int (i%j)):=opI λi j _ _ _ _ _ hc q=>by
 let h1:(0:Int)<j:=hc;show mod_int' () (by rw[Int.fmod_eq_emod_of_nonneg i ()];show q)
def a3f:rA X (binaryOp .Pow) (rI a7J λi j=>.int (i^j.toNat)):=opI λ_ _ _ _ _ _ _ hc q=>pow_int_small hc.1 hc.2.1 hc.2.2 q
end
noncomputable def a5r:V->V->Bool
 |.non,.non=>true |.non,.int _=>true |.int _,.non=>true |.non,.bl _=>true |.bl _,.non=>true |.non,.str _=>true |.str _,.non=>true
 |.int _,.int _=>true |.bl _,.bl _=>true |.str _,.str _=>true |.WY _,.WY _=>true
 |.int _,.str _=>true |.str _,.int _=>true |.bl _,.str _=>true |.str _,.bl _=>true
 |_,_=>false
def rEq:R2:=λx y H Q=>a5r x y=true/\Q (.bl (decide (x=y))) H
def rNe:R2:=λx y H Q=>a5r x y=true/\Q (.bl (!decide (x=y))) H
def W9{i j:Int}:decide (V.int i=V.int j)=(i==j):=by
 rw[rK];simp
def ë{i j:Bool}:decide (V.bl i=V.bl j)=(i==j):=by
 rw[rK];simp
def Xa{i j:Str}:decide (V.str i=V.str j)=(i==j):=by
 rw[rK];simp
def Xb{i j:Array UInt8}:decide (V.WY i=V.WY j)=(i.toList==j.toList):=by
 rw[rK];cases i;cases j;simp
section
variable{X:Cx}{a b:Expr}{tb tc:TE}
def eV{Y:aE}{σ:St}{H:Hp}{s:Shared}{Q:VK}{k k':Bool}(I:bD X Y σ H s)(q:Q (.bl k) H)(e:k=k'):EP X Y σ Q (.bool k') s:=by
 subst e;show⟨.bl k,H,I,Z,q⟩
def lX:rA X (compareOp .Eq) rEq:=by
 intro Y s σ H x y v u Q I rx ry h;let⟨hs,q⟩:=h;cases x with
 |non =>
  cases rx;cases y with
  |non=>cases ry;show PySem.EqNone.eq_none_none (eV I q (by simp))
  |bl j=>cases ry;show PySem.EqNone.eq_none_bool (eV I q (by simp))
  |int j=>let⟨t',rfl⟩:=ry;show PySem.EqNone.eq_none_int (eV I q (by simp))
  |str j=>let⟨t',rfl⟩:=ry;show PySem.EqNone.eq_none_str (eV I q (by simp))
  |_=>show absurd (show false=true from hs) cL
 |bl i =>
  cases rx;cases y with
  |non=>cases ry;show PySem.EqNone.eq_bool_none (eV I q (by simp))
  |bl j=>cases ry;show eq_bool (eV I q ë)
  |str j=>let⟨t',rfl⟩:=ry;show PySem.EqMixed.eq_bool_str (eV I q (by simp))
  |_=>show absurd (show false=true from hs) cL
 |int i =>
  let⟨t,rfl⟩:=rx;cases y with
  |non=>cases ry;show PySem.EqNone.eq_int_none (eV I q (by simp))
  |int j=>let⟨t',rfl⟩:=ry;show eq_int (eV I q W9)
  |str j=>let⟨t',rfl⟩:=ry;show PySem.EqMixed.eq_int_str (eV I q (by simp))
  |_=>show absurd (show false=true from hs) cL
 |str i =>
  let⟨t,rfl⟩:=rx;cases y with
  |non=>cases ry;show PySem.EqNone.eq_str_none (eV I q (by simp))
  |bl j=>cases ry;show PySem.EqMixed.eq_str_bool (eV I q (by simp))
  |int j=>let⟨t',rfl⟩:=ry;show PySem.EqMixed.eq_str_int (eV I q (by simp))
  |str j=>let⟨t',rfl⟩:=ry;show eq_str (eV I q Xa)
  |_=>show absurd (show false=true from hs) cL
 |WY i =>
  let⟨t,rfl⟩:=rx;cases y with
  |WY j=>let⟨t',rfl⟩:=ry;show PySem.W.eq_bytes (eV I q Xb)
  |_=>show absurd (show false=true from hs) cL
 |_=>cases y<;>show absurd (show false=true from hs) cL
def Hj:rA X (compareOp .NotEq) rNe:=by
 intro Y s σ H x y v u Q I rx ry h;let⟨hs,q⟩:=h;cases x with
 |non =>
  cases rx;cases y with
  |non=>cases ry;show PySem.EqNone.ne_none_none (eV I q (by simp))
  |bl j=>cases ry;show PySem.EqNone.ne_none_bool (eV I q (by simp))
  |int j=>let⟨t',rfl⟩:=ry;show PySem.EqNone.ne_none_int (eV I q (by simp))
  |str j=>let⟨t',rfl⟩:=ry;show PySem.EqNone.ne_none_str (eV I q (by simp))
  |_=>show absurd (show false=true from hs) cL
 |bl i =>
  cases rx;cases y with
  |non=>cases ry;show PySem.EqNone.ne_bool_none (eV I q (by simp))
  |bl j=>cases ry;show ne_bool (eV I q (congrArg not ë))
  |str j=>let⟨t',rfl⟩:=ry;show PySem.EqMixed.ne_bool_str (eV I q (by simp))
  |_=>show absurd (show false=true from hs) cL
 |int i =>
  let⟨t,rfl⟩:=rx;cases y with
  |non=>cases ry;show PySem.EqNone.ne_int_none (eV I q (by simp))
  |int j=>let⟨t',rfl⟩:=ry;show ne_int (eV I q (congrArg not W9))
  |str j=>let⟨t',rfl⟩:=ry;show PySem.EqMixed.ne_int_str (eV I q (by simp))
  |_=>show absurd (show false=true from hs) cL
 |str i =>
  let⟨t,rfl⟩:=rx;cases y with
  |non=>cases ry;show PySem.EqNone.ne_str_none (eV I q (by simp))
  |bl j=>cases ry;show PySem.EqMixed.ne_str_bool (eV I q (by simp))
  |int j=>let⟨t',rfl⟩:=ry;show PySem.EqMixed.ne_str_int (eV I q (by simp))
  |str j=>let⟨t',rfl⟩:=ry;show ne_str (eV I q (congrArg not Xa))
  |_=>show absurd (show false=true from hs) cL
 |WY i =>
  let⟨t,rfl⟩:=rx;cases y with
  |WY j=>let⟨t',rfl⟩:=ry;show PySem.W.ne_bytes (eV I q (congrArg not Xb))
  |_=>show absurd (show false=true from hs) cL
 |_=>cases y<;>show absurd (show false=true from hs) cL
def zZ:rA X (compareOp .Lt) (rI0 λi j=>.bl (decide (i<j))):=a0f λ_ _ _ _ _ _ _ q=>lt_int q
def a5s:rA X (compareOp .LtE) (rI0 λi j=>.bl (decide (i<=j))):=a0f λ_ _ _ _ _ _ _ q=>le_int q
def sY:rA X (compareOp .Gt) (rI0 λi j=>.bl (decide (j<i))):=a0f λ_ _ _ _ _ _ _ q=>gt_int q
def a5t:rA X (compareOp .GtE) (rI0 λi j=>.bl (decide (j<=i))):=a0f λ_ _ _ _ _ _ _ q=>ge_int q
def ì : rA X (compareOp .Is) (fun x y H Q => y = .non ∧ Q (.bl (decide (x = .non))) H) := by
  intro Y s σ H x y v u Q I rx ry h;let⟨rfl, q⟩ := h;cases ry;show is_none_gen (eV I q ?_);cases x <;> first
    | (cases rx; rfl)
    | (let⟨t, rfl⟩ := rx; rfl)
def Xc : rA X (compareOp .IsNot) (fun x y H Q => y = .non ∧ Q (.bl (!decide (x = .non))) H) := by
  intro Y s σ H x y v u Q I rx ry h;let⟨rfl, q⟩ := h;cases ry;show isnot_none_gen (eV I q ?_);cases x <;> first
    | (cases rx; rfl)
    | (let⟨t, rfl⟩ := rx; rfl)
def í(b:Expr)(h:@&(op≠.In))(h2:@&(op≠.NotIn)):behindInMarks op b=false:=by
 let e1:(op==CmpOp.In)=false:=by cases op<;>first|rfl|exact absurd Z h
 let e2:(op==CmpOp.NotIn)=false:=by cases op<;>first|rfl|exact absurd Z h2
 cases b with|Set=>(show (_&&(_||_)&&_)=false;rw[e1,e2,Bool.or_self,Bool.and_false,Bool.false_and])|_=>rfl
def xR{r:R2}(ho:rA X (compareOp op) r)(ha:PE X a ta)(hb:PE X b tb)(hm:behindInMarks op b=false:=by show í _):PE X (.Compare a [op] [b] pos) (tOp r ta tb):=by
 intro Y s σ H Q I h;show wpAny_Compare1 (a3d ha hb I h λv u s2 x y H2 I2 rx ry q=>ho Y s2 σ H2 x y v u Q I2 rx ry q) hm
noncomputable def a5u(t:TE):TT:=λσ H Q=>t σ H λx H'=>EA (λk=>x=.bl k) λk=>Q k H'
def aM{r:R2}(ho:rA X (compareOp op) r)(ha:PE X a ta)(hb:PE X b tb)(hm:behindInMarks op b=false:=by show í _):PT X (.Compare a [op] [b] pos) (a5u (tOp r ta tb)):=by
 intro Y s σ H Q I h;show wpAny_isTrue_Compare1 (jC (ha Y s σ H _ I h) λv s1 ⟨x,H1,I1,r1,q1⟩=>jC (hb Y s1 σ H1 _ I1 q1) λu s2 ⟨y,H2,I2,r2,q2⟩ =>
  jC (ho Y s2 σ H2 x y v u _ I2 r1 r2 q2) λc s3 ⟨z,H3,I3,r3,k,e,q3⟩=>?_) hm
 subst e;cases r3;show Cz ⟨H3,I3,q3⟩
noncomputable def a3g(r r':R2)(ta tb tc:TE):TE:=λσ H Q=>ta σ H λx H1=>tb σ H1 λy H2=>r x y H2 λz H3=>∃k,z=.bl k/\
 (if k=true then tc σ H3 λw' H4=>r' y w' H4 Q else Q (.bl false) H3)
def î{op':CmpOp}{r r':R2}(ho:rA X (compareOp op) r)(ho':rA X (compareOp op') r')(ha:PE X a ta)(hb:PE X b tb)(hc:PE X c tc)
  (hm:lastMarks [op,op'] [b,c]=false:=by with_unfolding_all rfl):PE X (.Compare a [op,op'] [b,c] pos) (a3g r r' ta tb tc):=by
 intro Y s σ H Q I h;show Compare_chain (jC (ha Y s σ H _ I h) λv s1 ⟨x,H1,I1,r1,q1⟩=>chain_link (jC (hb Y s1 σ H1 _ I1 q1) λu s2 ⟨y,H2,I2,r2,q2⟩ =>
  jC (ho Y s2 σ H2 x y v u _ I2 r1 r2 q2) λd s3 ⟨z,H3,I3,r3,k,e,q3⟩=>?_)) hm
 subst e;cases r3;show Cz ?_;cases k with
 |false=>show ite_ff ⟨.bl false,H3,I3,Z,q3⟩
 |true=>show ite_tt (chain_last (jC (hc Y s3 σ H3 _ I3 q3) λw' s4 ⟨z',H4,I4,r4,q4⟩=>ho' Y s4 σ H4 y z' u w' Q I4 r2 r4 q4))
def ï(K:aJ)(x:V)(H:Hp)(k:Bool):Prop :=
 match x with
 |.non=>k=false
 |.bl b=>k=b
 |.int i=>k=(i != 0)
 |.str y=>y.length<=sizeLine/\k=((y.length:Int) != 0)
 |.WY y=>y.size<=sizeLine/\k=((y.size:Int) != 0)
 |.ref p=>(∃xs,bB K H p xs/\k = !xs.isEmpty)\/(∃xs,cN K H p xs/\k = !xs.isEmpty)\/∃J,H p=some (.dK J)/\k = !J.isEmpty
 |_=>False
def U6{κ:Type}{J:List (κ×V)}{vs:List (κ×Value)}(r:KV J vs):(!vs.isEmpty) = !J.isEmpty:=by
 cases r<;>rfl
def Hl{xs:af}{bR:aw}(r:cJ xs bR):(!bR.toArray.isEmpty) = !xs.isEmpty:=by
 cases r<;>simp
def Ho:(sizeLine:Nat)<2^63:=by rw[gM];decide
def NZ:a7H X (λx H Q=>∃k,ï X.K x H k/\Q k H):=by
 intro Y s σ H x v Q I rx h;let⟨k,e,q⟩:=h;let hl:=Ho;let hs:sizeLine=16777216:=gM;cases x with
 |non =>
  cases rx;let e':k=false:=e;subst e';show truthy_none ⟨H,I,q⟩
 |bl b =>
  cases rx;let e':k=b:=e;subst e';show Cz ⟨H,I,q⟩
 |int i =>
  let⟨t,rfl⟩:=rx;let e':k=(i != 0):=e;subst e';show PySem.P.truthy_int ⟨H,I,q⟩
 |str y =>
  let⟨t,rfl⟩:=rx;obtain⟨hy,e'⟩:y.length<=sizeLine/\k=((y.length:Int) != 0):=e;subst e';show PySem.P.truthy_str () ⟨H,I.tok _,q⟩
 |WY y =>
  let⟨t,rfl⟩:=rx;obtain⟨hy,e'⟩:y.size<=sizeLine/\k=((y.size:Int) != 0):=e;subst e';show PySem.W.truthy_bytes () ⟨H,I.tok _,q⟩
 |ref p =>
  cases rx;let e':(∃xs,bB X.K H p xs/\k = !xs.isEmpty)\/(∃xs,cN X.K H p xs/\k = !xs.isEmpty)\/∃J,H p=some (.dK J)/\k = !J.isEmpty:=e;rcases e' with⟨xs,hx,e'⟩|⟨xs,hx,e'⟩|⟨J,hx,e'⟩
  ·subst e';let⟨bR,r,pl,hz⟩:=I.list hx;let hlen:=r.length;show wpAny_truthy_list pl.isList (by simp only[List.size_toArray];omega) ⟨H,I.tok _,by rw[Hl r];show q⟩
  ·subst e';let⟨bR,r,pl,hz⟩:=I.tuple hx;let hlen:=r.length;show truthy_tuple pl (by simp only[List.size_toArray];omega) ⟨H,I.tok _,by rw[Hl r];show q⟩
  ·subst e';obtain⟨hz,hS,vs,r,m⟩:J.length<=sizeLine/\(p==sysModules)=false/\∃vs,KV J vs/\s.heap.DictOf (fH X.prog X.w) p vs:=I.hok p _ hx;let hlen:J.length=vs.length:=aW r;show wpAny_truthy_dict hS m () ⟨H,I.tok _,by rw[U6 r];show q⟩
 |_=>show(show False from e).elim
def ð(ha:PE X a ta)(he:∀whole,isTrue a X.env whole=(do let v <-whole;standAt a.pos;holding [v] (truthy v))) :
  PT X a (λσ H Q=>ta σ H λx H'=>∃k,ï X.K x H' k/\Q k H'):=by
 intro Y s σ H Q I h;show isTrue_plain (jC (ha Y s σ H _ I h) λv s1 ⟨x,H1,I1,r1,q1⟩=>NZ Y s1 σ H1 x v Q I1 r1 q1) (he _)
def vals1{x:V}{us:aw}(r:cJ [x] us):∃u,us=[u]/\cX x u:=by
 cases r with
 |cons r1 r2=>cases r2;show⟨_,Z,r1⟩
def vals2{x y:V}{us:aw}(r:cJ [x,y] us):∃u w',us=[u,w']/\cX x u/\cX y w':=by
 cases r with
 |cons r1 r2 =>
  cases r2 with
  |cons r3 r4=>cases r4;show⟨_,_,Z,r1,r3⟩
def Ke(hc:X.calm=true):jx X (.builtin "min") (λxs H Q=>∃i j,xs=[.int i,.int j]/\Q (.int (if j<i then j else i)) H):=by
 intro Y s σ H xs us Q I r h;let⟨i,j,rfl,q⟩:=h;let⟨u,w',rfl,⟨t,rfl⟩,⟨t',rfl⟩⟩:=vals2 r;show min_two_ints (I.ok.hd hc) λh' tk k=>⟨_,H,I.kept k,?_,q⟩;by_cases hj:j<i
 ·rw[aB hj,aB hj];show⟨_,Z⟩
 ·rw[aA hj,aA hj];show⟨_,Z⟩
def Yz:jx X (.type "int") (λxs H Q=>(∃i,xs=[.int i]/\Q (.int i) H)\/∃k,xs=[.bl k]/\Q (.int (if k then 1 else 0)) H):=by
 intro Y s σ H xs us Q I r h;rcases h with⟨i,rfl,q⟩|⟨k,rfl,q⟩
 ·let⟨u,rfl,t,rfl⟩:=vals1 r;show call_int_int ⟨.int i,H,I,⟨_,Z⟩,q⟩
 ·let⟨u,rfl,r1⟩:=vals1 r;cases r1;show call_int_bool ⟨.int (if k then 1 else 0),H,I.tok _,⟨_,Z⟩,q⟩
end
structure U7(h:Heap)(x dx C:Addr)(mA:Str->Option Value):Prop where
 obj:h.get? x=some (instObj C dx)
 ns:h.Ns1 dx mA
 ne:dx≠x
set_option tactic.hygienic true in
def YB{dx:Addr}(n:h.Ns1 dx mA):∃od,h.get? dx=some od/\∀name,lookIn name od=some (mA name):=by
 let⟨o,es,ep,ho,hd,hk,_,hm⟩:=n;show⟨o,ho,λname=>?_⟩;let e:=hm name;unfold nsFind findBy at e;rw[<-Array.find?_toList]at e;unfold lookIn;rw[hd];lk;split
 ·rename_i y q;rw[q]at e;show congrArg some e
 ·rename_i q;rw[q]at e;let a:es.toList.any (·.refKey)=false:=by
   rw[Ud];intro y hy;let⟨z,t,hkey⟩:=hk y (Array.mem_toList_iff.mp hy);simp[DictEntry.refKey,hkey]
  let a':¬es.toList.any (·.refKey)=true:=by rw[a];show cL
  rw[aA a'];show congrArg some e
def U7.look{x dx C:Addr}(I:U7 h x dx C mA):∃od,PySem.W.InstAt h x (instObj C dx) C (some od)/\∀name,lookIn name od=some (mA name) :=
 let⟨od,ho,hl⟩:=YB I.ns
 ⟨od,⟨I.obj,Z,Z,ho⟩,hl⟩
section
variable{prog:Program}{w:World}{E:∅}{s:Shared}{x dx C f:Addr}{name:Str}{v:Value}
def get_map{expr:Bool}{Q:∅}(X:K.In s.heap)(I:U7 s.heap x dx C mA)(hg:PySem.W.plainGet K C name=true)(hh:PySem.W.hasDictIn K C=true)
  (ha:findIn K (.ref C) name=some none) (hv:mA name=some v) (hv':PySem.W.handedIn v=true) (h:Q v { s with toks:=s.toks+1}) :
  ∎ (getAttr (.ref x) name expr) Q E s:=by
 let⟨od,Z97,hl⟩:=I.look;show PySem.W.get_value X Z97 (TQ hg).1 (PySem.W.findObj_own hh ha Z (by rw[hl,hv])) hv' h
def ò{Q:Value×aw->Shared->Prop}(X:K.In s.heap)(I:U7 s.heap x dx C mA)(hg:PySem.W.plainGet K C name=true)
  (hf:findIn K (.ref C) name=some ⇑f) (ht:isFn K (.ref f)=true) (hv:mA name=none) (h:Q (.ref f,[.ref x]) s) :
  ∎ (getMethod (.ref x) name pl) Q E s:=by
 let⟨od,Z97,hl⟩:=I.look;show PySem.W.method_fn X Z97 (TQ hg).1 (TQ hg).2 hf (Hh.mp ht) (by show(lookIn name od).map (·.isSome)=some false;rw[hl,hv];rfl) h
def a0h{ns:ag}{Q:Unit->Shared->Prop}(X:K.In s.heap)(I:U7 s.heap x dx C mA)
  (hs:findIn K (.ref C) "__setattr__" = some (some (.builtin "object.__setattr__"))) (hp:PySem.W.plainOver K C=true) (ht:PySem.W.takerIn K C name=some none) (hh:PySem.W.hasDictIn K C=true)
  (hw:PySem.Within mA ns) (hsz:ns.length<=sizeLine)
  (h:∀h',U7 h' x dx C (λy=>if y=name then some v else mA y)->Heap.SameBut dx s.heap h'->Q ⟨⟩ { s with heap:=h',toks:=s.toks+2}) :
  ∎ (setAttr (.ref x) name v) Q E s:=by
 let⟨od,Z97,hl⟩:=I.look;show PySem.W.set_plain X Z97 hs (PySem.W.osa_open (s:={ s with toks:=s.toks+1}) (r:=none) X Z97 hp ht λb=>?_);let⟨cd,hc,hd'⟩:=PySem.W.any_some hh;let hx:s^^^x=some ⟨.ref C,some dx,.plain,#[]⟩:=I.obj;show M (ao (M (M (wpAny_loadPart hx (M (PySem.W.Looks.here (s:={ s with toks:=s.toks+1}) (PySem.W.looks_clsIn X hc) ?_))))));rw[hd'];show ao (a:=some dx) (M (ao (M (wpAny_nsSet1 (s:={ s with toks:=s.toks+1}) I.ns λh' hn2 hs2=>?_))));let⟨oD,esD,epD,hoD,hdD,hcD⟩:=hn2.count (PySem.Within.cons name v hw);show M (wpAny_lookBehind hoD (by rw[hdD];show pastItsLine_dict (cF hcD (by rw[iH];omega))) ?_);show ao (h _ ⟨(hs2.2 _ (Ne.symm I.ne)).trans I.obj,hn2,I.ne⟩ hs2)
def ó{R:Result->Shared->Prop}{vs:aw}(X:K.In s.heap)(hm:PySem.W.makesIn K C=true)
  (hi:findIn K (.ref C) "__init__" = some ⇑f) (hf:PySem.W.typeIn K (.ref f)=some (.type "function"))
  (h:codeAny (model prog w) (A.under (.builtin "type.__call__" ⟨.ref C::vs,kw⟩)) (.call (.ref f) ⟨.ref (s⁻¹+1)::vs,kw⟩) (PySem.W.InitBack (s⁻¹+1) R)
   (s•(s.heap.push emptyDict).push (instObj C s⁻¹))) :
  codeAny (model prog w) A (.call (.ref C) ⟨vs,kw⟩) R s:=by
 let⟨hh,g,d,t,os⟩:=s;show PySem.W.make_core (PySem.W.makes_of X hm) (PySem.W.looks_findIn X hi) (λself=>PySem.W.bind_fn X self hf) (.inl Z) h
end
noncomputable def vJ(f:Str)(v:V):bc->bc
 | []=>[(f,v)]
 |(g,x)::r=>if g=f then(g,v)::r else(g,x)::vJ f v r
theorem DY(f g:Str)(v:V):∀fs:bc,(vJ f v fs).lookup g=if g=f then some v else fs.lookup g
 | []=>by
  show List.lookup g [(f,v)]=_
  by_cases h:g=f
  ·let hb:(g==f)=true:=Hh.mpr h
   simp only[List.lookup,hb,if_pos h]
  ·let hb:(g==f)=false:=qz.mpr h
   simp only[List.lookup,hb,if_neg h]
 |(k,x)::r=>by
  let ih:=DY f g v r
  rw[show vJ f v ((k,x)::r)=(if k=f then(k,v)::r else(k,x)::vJ f v r)from rfl]
  by_cases hk:k=f
  ·rw[aB hk]
   by_cases h:g=k
   ·let hb:(g==k)=true:=Hh.mpr h
    simp only[List.lookup,hb,if_pos (h.trans hk)]
   ·let hb:(g==k)=false:=qz.mpr h
    simp only[List.lookup,hb,if_neg (λe:g=f=>h (e.trans hk.symm))]
  ·rw[aA hk]
   by_cases h:g=k
   ·let hb:(g==k)=true:=Hh.mpr h
    simp only[List.lookup,hb,if_neg (λe:g=f=>hk (h.symm.trans e))]
   ·let hb:(g==k)=false:=qz.mpr h
    simp only[List.lookup,hb]
    show ih
theorem CV(f:Str)(v:V):∀fs:bc,f∈(vJ f v fs).map (·.1)/\∀g,g∈fs.map (·.1)->g∈(vJ f v fs).map (·.1)
 | []=>⟨by simp[vJ],λg h=>by simp at h⟩
 |(k,x)::r=>by
  let⟨i1,i2⟩:=CV f v r
  rw[show vJ f v ((k,x)::r)=(if k=f then(k,v)::r else(k,x)::vJ f v r)from rfl]
  by_cases hk:k=f
  ·rw[aB hk]
   subst hk
   show⟨by simp,λg h=>by simpa using h⟩
  ·rw[aA hk]
   show⟨?_,λg h=>?_⟩
   ·rw[b8]
    show bM _ i1
   ·rw[b8]at h ⊢
    rcases bQ.mp h with e|e
    ·show bQ.mpr (.inl e)
    ·show bM _ (i2 g e)
theorem Ea(f:Str)(v:V):∀fs:bc,(vJ f v fs).length<=fs.length+1
 | []=>by simp[vJ]
 |(k,x)::r=>by
  let ih:=Ea f v r
  rw[show vJ f v ((k,x)::r)=(if k=f then(k,v)::r else(k,x)::vJ f v r)from rfl]
  by_cases hk:k=f
  ·rw[aB hk,iH,iH];omega
  ·rw[aA hk,iH,iH];omega
def oR.some_of{v:V}{o:Option Value}(r:oR (some v) o):∃u,o=some u/\cX v u:=by
 cases o with
 |none=>show(show False from r).elim
 |some u=>show⟨u,Z,r⟩
def oR.none_of{o:Option Value}(r:oR none o):o=none:=by
 cases o with
 |none=>rfl
 |some u=>show(show False from r).elim
def YC{v:V}{u:Value}(r:cX v u):PySem.W.handedIn u=true:=by
 cases v with
 |non=>cases(show u=Value.none from r);rfl
 |bl b=>cases(show u=Value.bool b from r);rfl
 |int i=>let⟨t,e⟩:=(show ∃t,u=Value.int i t from r);cases e;rfl
 |str x=>let⟨t,e⟩:=(show ∃t,u=Value.str x t from r);cases e;rfl
 |WY b=>let⟨t,e⟩:=(show ∃t,u=Value.bytes b t from r);cases e;rfl
 |flt b=>let⟨t,e⟩:=(show ∃t,u=Value.float b t from r);cases e;rfl
 |ref a=>cases(show u=Value.ref a from r);rfl
 |ty n=>cases(show u=Value.type n from r);rfl
section
variable{P:Program}{w:World}{H H':Hp}{a C dx:Addr}{fs fs':bc}
def Fz(hok:xQ P w H h)(e:H a=some (.ins C dx fs)):∃mA,U7 h a dx C mA/\(∀f,oR (fs.lookup f) (mA f))/\PySem.Within mA (fs.map (·.1))/\fs.length<=1000/\H dx=some (.own a):=by
 let⟨d,z,ne,ob,mA,n,r,q⟩:=(show fC P w H h a (.ins C dx fs)from hok a _ e);show⟨mA,⟨ob,n,ne⟩,r,q,z,d⟩
end
structure Cls(K:aJ)(C:Addr):Prop where
 pg:PySem.W.plainGet K C Str.empty=true
 hd:PySem.W.hasDictIn K C=true
 po:PySem.W.plainOver K C=true
 sa:findIn K (.ref C) "__setattr__" = some (some (.builtin "object.__setattr__"))
def Cls.get{C:Addr}(c:Cls K C)(f:Str):PySem.W.plainGet K C f=true:=c.pg
def jz(K:aJ)(C:Addr)(f:Str):Prop:=findIn K (.ref C) f=some none
def jz.taker{C:Addr}{f:Str}(n:jz K C f):PySem.W.takerIn K C f=some none:=by
 unfold PySem.W.takerIn;rw[show findIn K (.ref C) f=some none from n];rfl
structure Meth(K:aJ)(C:Addr)(m:Str)(f:Addr):Prop where
 at_:findIn K (.ref C) m=some ⇑f
 fn:isFn K (.ref f)=true
 kp:keepIn K (.ref f)=true
section
variable{X:Cx}{Y:aE}{σ:St}{H:Hp}{s:Shared}{a C dx:Addr}{fs:bc}{f:Str}{v:V}{E:∅}
def U8{b:Bool}{Q:∅}(I:bD X Y σ H s)(e:H a=some (.ins C dx fs))(c:Cls X.K C)(n:jz X.K C f)(l:fs.lookup f=some v)
  (h:∀u s',bD X Y σ H s'->cX v u->Q u s'):wpAny (model X.prog X.w) A (getAttr (.ref a) f b) Q E s:=by
 let⟨mA,Z96,r,_,_,_⟩:=Fz I.hok e;let⟨u,hu,ru⟩:=oR.some_of (v:=v) (o:=mA f) (by rw[<-l];show r f);show get_map I.Cj Z96 (c.get f) c.hd n hu (YC ru) (h u _ (I.tok _) ru)
def U9{m:Str}{g:Addr}{Q:Value×aw->Shared->Prop}(I:bD X Y σ H s)(e:H a=some (.ins C dx fs))(c:Cls X.K C)(k:Meth X.K C m g)(l:fs.lookup m=none)
  (h:Q (.ref g,[.ref a]) s):wpAny (model X.prog X.w) A (getMethod (.ref a) m pl) Q E s:=by
 let⟨mA,Z96,r,_,_,_⟩:=Fz I.hok e;let hn:mA m=none:=oR.none_of (by rw[<-l];show r m);show ò I.Cj Z96 (c.get m) k.at_ k.fn hn h
def Va{y:V}{u:Value}{Q:Unit->Shared->Prop}(I:bD X Y σ H s)(e:H a=some (.ins C dx fs))(c:Cls X.K C)(n:jz X.K C f)(hl:fs.length<1000)(ry:cX y u)
  (h:∀s',bD X Y σ (cY H a (.ins C dx (vJ f y fs))) s'->Q ⟨⟩ s'):wpAny (model X.prog X.w) A (setAttr (.ref a) f u) Q E s:=by
 let⟨mA,Z96,r,wi,_,ho⟩:=Fz I.hok e;let hz:(fs.map (·.1)).length<=sizeLine:=by rw[aH,gM];omega
 show a0h I.Cj Z96 c.sa c.po n.taker c.hd wi hz λh' O' sb=>h _ ?_;let hd:∃o,h'.get? dx=some o:=let⟨o,_,_,e',_⟩:=O'.ns;⟨o,e'⟩
 show I.write (x:=a) (e:=dx) (by rw[e];show mQ) (.inr ho) (λb q hb z=>(sb.2 b hb).trans z) hd ?_;show⟨by rw[aZ Z96.ne];show ho,?_,Z96.ne,O'.obj,_,O'.ns,λg=>?_,λg hg=>?_⟩
 ·let:=Ea f y fs;omega
 ·show oR ((vJ f y fs).lookup g) (if g=f then some u else mA g);rw[DY];by_cases q:g=f
  ·rw[aB q,aB q];show ry
  ·rw[aA q,aA q];show r g
 ·by_cases q:g=f
  ·rw[q];show(CV f y fs).1
  ·show(CV f y fs).2 g (wi g λz=>hg ?_);show(if g=f then some u else mA g)=none;rw[aA q];show z
def bD.made(I:bD X Y σ H s):bD X Y σ (cY (cY H s⁻¹ (.own (s⁻¹+1))) (s⁻¹+1) (.ins C s⁻¹ []))
  (s•(s.heap.push emptyDict).push (instObj C s⁻¹)):=by
 let e1:(s.heap.push emptyDict).get? s⁻¹=some emptyDict:=b7 s.heap rfl;let e2:((s.heap.push emptyDict).push (instObj C s⁻¹)).get? (s⁻¹+1)=some (instObj C s⁻¹):=by
  let:=b7 (s.heap.push emptyDict) (o:=instObj C s⁻¹) rfl
  rwa [oN]at this
 let e3:(s.heap.push emptyDict).Ns s⁻¹ (λ_=>none):=⟨emptyDict,#[],_,e1,Z,(λe he=>absurd he (by simp)),λ_=>rfl⟩;let I1:=I.laid (a:=s⁻¹) (o:=.own (s⁻¹+1)) (h':=s.heap.push emptyDict) (t':=s.toks) (λb u q=>bL _ q) (aK _) ⟨_,e1⟩;show I1.laid (a:=s⁻¹+1) (o:=.ins C s⁻¹ []) (t':=s.toks) (λb u q=>bL _ q) (Nt (oN _ _)) ?_;let ne:s⁻¹≠s⁻¹+1:=bY (wM _);show⟨by rw[aZ ne,dN],cW _,ne,e2,λ_=>none,(Heap.Ns1.of_empty e3).at λo q=>bL _ q,λ_=>mQ,λy hy=>absurd Z hy⟩
def a0i{prog:Program}{w:World}{env:Env}{f:Str}{s:Shared}{Q:∅}(hb:attributeBase e f env (eval e env)=eval e env)
  (h:∎ (eval e env) (λo s₁=>∎ (getAttr o f true) Q E s₁) E s):∎ (eval (.Attribute e f pos) env) Q E s :=
 Attribute_any_ h (by rw[arm_eval_Attribute,hb])
end
inductive a5v(K:aJ)(f:Str)(x:V)(H1:Hp)(Q:VK):Prop
 |mk (a C dx fs v:_) (_:x=.ref a) (_:H1 a=some (.ins C dx fs)) (_:Cls K C) (_:jz K C f) (_:fs.lookup f=some v) (_:Q v H1)
noncomputable def a5w(K:aJ)(ta:TE)(f:Str):TE:=λσ H Q=>ta σ H λx H1=>a5v K f x H1 Q
inductive a5x(K:aJ)(f:Str)(y x:V)(σ:St)(H2:Hp)(Q:St->Hp->Prop):Prop
 |mk (a C dx fs:_) (_:x=.ref a) (_:H2 a=some (.ins C dx fs)) (_:Cls K C) (_:jz K C f) (_:fs.length<1000) (_:Q σ (cY H2 a (.ins C dx (vJ f y fs))))
noncomputable def a7K(K:aJ)(ta tv:TE)(f:Str):TS:=λD σ H=>tv σ H λy H1=>ta σ H1 λx H2=>a5x K f y x σ H2 D.nx
section
variable{X:Cx}{o value:Expr}{f:Str}{pos' tpos:Pos}{tv:TE}
def a3h(he:PE X e ta)(hb:attributeBase e f X.env (eval e X.env)=eval e X.env):PE X (.Attribute e f pos) (a5w X.K ta f):=by
 intro Y s σ H Q I h;show a0i hb (jC (he Y s σ H _ I h) λu s1 ⟨x,H1,I1,rx,a,C,dx,fs,v,ex,ea,c,n,l,q⟩=>?_);subst ex;obtain rfl:u=Value.ref a:=rx;show U8 I1 ea c n l λu' s2 I2 ru=>⟨v,H1,I2,ru,q⟩
def Hq(ha:PE X o ta)(hv:PE X value tv)(hs:swapsWith value (some (.Attribute o f pos')) pos.line X.env=pure false):PS X (.Assign [.Attribute o f pos'] value pos) (a7K X.K ta tv f):=by
 intro Y s σ H D I h;show plainObj_wpAny_Assign_Attribute (jC (hv Y s σ H _ I h) λu s1 ⟨y,H1,I1,ry,q⟩=>jC (ha Y s1 σ H1 _ I1 q) λov s2 ⟨x,H2,I2,rx,a,C,dx,fs,ex,ea,c,n,l,q2⟩=>?_) hs;subst ex;obtain rfl:ov=Value.ref a:=rx;show Va I2 ea c n l ry λs3 I3=>⟨σ,_,I3,q2⟩
end
section
variable{X:Cx}{Y:aE}{σ:St}{H:Hp}{s:Shared}{E:∅}{Q:∅}{c:Value}{b:Bool}
inductive rR(K:aJ)(H:Hp):V->Value->Prop where
 |non:rR K H .non (.type "NoneType")
 |bl (x:Bool):rR K H (.bl x) (.type "bool")
 |int (i:Int):rR K H (.int i) (.type "int")
 |str (x:Str):rR K H (.str x) (.type "str")
 |flt (x:UInt64):rR K H (.flt x) (.type "float")
 |lst {a:Addr}{xs:af} (e:H a=↥xs):rR K H (.ref a) (.type "list")
 |iK {a:Addr}{o:Obj}{xs:af} (e:H a=some (.iK o (.lst xs))):rR K H (.ref a) (.type "list")
 |tup {a:Addr}{xs:af} (e:H a= ~~~xs):rR K H (.ref a) (.type "tuple")
 |dK {a:Addr}{J:List (Key×V)} (e:H a=some (.dK J)):rR K H (.ref a) (.type "dict")
 |dT {a:Addr}{J:List (aS×V)} (e:H a=some (.dT J)):rR K H (.ref a) (.type "dict")
 |ins {a C dx:Addr}{fs:bc} (e:H a=some (.ins C dx fs)) (cl:Cls K C) (ha:findIn K (.ref C) "__class__" = some (some (.builtin "object.__class__")))
   (hn:PySem.W.specialIn K (.builtin "object.__class__") "__get__" = some (some (.builtin "getset_descriptor.__get__"))) (htk:PySem.W.takesIn K (.builtin "object.__class__")=some true)
   (hm:PySem.W.mroIn K C (.type "object")=some true):rR K H (.ref a) (.ref C)
def YD{x:V}{u t:Value}(I:bD X Y σ H s)(rx:cX x u)(ty:rR X.K H x t)(e:kitOne X.K t c=some b)(h:∀tk,Q (.bool b) { s with toks:=tk}) :
  wpAny (model X.prog X.w) A (call (.builtin "isinstance") [u,c]) Q E s:=by
 cases ty with
 |non=>cases(show u=Value.none from rx);show rM PySem.W.kitx_none I.Cj mQ e (λz=>nomatch z) h
 |bl y=>cases(show u=Value.bool y from rx);show rM PySem.W.kitx_bool I.Cj mQ e (λz=>nomatch z) h
 |int i=>let⟨t,q⟩:=(show ∃t,u=Value.int i t from rx);cases q;show rM PySem.W.kitx_int I.Cj mQ e (λz=>nomatch z) h
 |str y=>let⟨t,q⟩:=(show ∃t,u=Value.str y t from rx);cases q;show rM PySem.W.kitx_str I.Cj mQ e (λz=>nomatch z) h
 |flt y=>let⟨t,q⟩:=(show ∃t,u=Value.float y t from rx);cases q;show rM PySem.W.kitx_float I.Cj mQ e (λz=>nomatch z) h
 | @lst a xs ea =>
  cases(show u=Value.ref a from rx);let⟨_,_,n,_,h1⟩:=(show fC X.prog X.w H s.heap a (.lst xs)from I.hok a _ ea);show rM PySem.W.kitx_list I.Cj ⟨_,h1,Z⟩ e (λz=>nomatch z) h
 | @iK a ob xs ea =>
  cases(show u=Value.ref a from rx);let⟨_,_,_,n,_,h1⟩:=(show fC X.prog X.w H s.heap a (.iK ob (.lst xs))from I.hok a _ ea);show rM PySem.W.kitx_list I.Cj ⟨_,h1,Z⟩ e (λz=>nomatch z) h
 | @tup a xs ea =>
  cases(show u=Value.ref a from rx);let⟨_,_,_,p⟩:=(show fC X.prog X.w H s.heap a (.tup xs)from I.hok a _ ea);let⟨o,h1,h2,_⟩:=p;show rM PySem.W.kitx_tuple I.Cj ⟨o,h1,h2⟩ e (λz=>nomatch z) h
 | @dK a J ea =>
  cases(show u=Value.ref a from rx);let⟨_,_,vs,_,p⟩:=(show fC X.prog X.w H s.heap a (.dK J)from I.hok a _ ea);let⟨o,es,ep,h1,h2,_⟩:=p;show rM PySem.W.kitx_dict I.Cj ⟨o,h1,h2.1⟩ e (λz=>nomatch z) h
 | @dT a J ea =>
  cases(show u=Value.ref a from rx);let⟨_,_,xs,_,o,es,ep,h1,h2,_⟩:=(show fC X.prog X.w H s.heap a (.dT J)from I.hok a _ ea);show rM PySem.W.kitx_dict I.Cj ⟨o,h1,h2.1⟩ e (λz=>nomatch z) h
 | @ins a C dx fs ea cl ha hn htk hm =>
  cases(show u=Value.ref a from rx);let⟨mA,Z96,_⟩:=Fz I.hok ea;let⟨od,Z97,_⟩:=Z96.look;show rM (PySem.W.kitx_own (cl.get _) cl.hd ha hn htk hm) I.Cj Z97 e (λz=>nomatch z) h
end
structure qO(k:Nat)(A:Around):Prop where
 hd:A.handled=none
 dp:A.depth+3*k+5<recursionLimit
 un:A.units+16*k+200<cLine
def qO.mono{j:Nat}(r:qO k A)(h:j<=k):qO j A:=⟨r.hd,by let:=r.dp;omega,by let:=r.un;omega⟩
def qO.deeper{k:Nat}{A:Around}(r:qO (k+1) A)(env:Env):qO k (A.deeper env) :=
 ⟨r.hd,by let:=r.dp;show A.depth+1+3*k+5<_;omega,by let:=r.un;show A.units+3+16*k+200<_;omega⟩
def Vb{C:Addr}{us:aw}:(A.under (.builtin "type.__call__" ⟨.ref C::us,kw⟩)).depth=A.depth+1:=by
 first|rfl|simp[Around.under,Code.weight,Code.isCreation,Code.isGuard,Code.isCaller,Code.frames,Code.isFrame,guardIds]
def Vc{C:Addr}{us:aw}:(A.under (.builtin "type.__call__" ⟨.ref C::us,kw⟩)).units=A.units+1:=by
 first|rfl|simp[Around.under,Code.cUnits,Code.frames,Code.isFrame]
def qO.make(r:qO (k+1) A)(C:Addr)(us:aw)(kw:List (Str×Value)):qO k (A.under (.builtin "type.__call__" ⟨.ref C::us,kw⟩)) :=
 ⟨r.hd,by let:=r.dp;rw[Vb];omega,by let:=r.un;rw[Vc];omega⟩
def qO.depth{k:Nat}{A:Around}(r:qO k A):A.depth<recursionLimit:=by let:=r.dp;omega
noncomputable def a3i:TA:=λ_ H Q=>Q [] H
noncomputable def Xd(ta:TE)(tr:TA):TA:=λσ H Q=>ta σ H λx H1=>tr σ H1 λxs H2=>Q (x::xs) H2
section
variable{X:Cx}{t:TA}
def aj:PA X [] a3i:=λ_ _ _ _ H Q I h=>Calls.spliced_nil ⟨[],H,I,.nil,h⟩
def O(ha:PE X e te)(hr:PA X es t)(hs:@&(starEach (e::es) X.env=(false,eval e X.env)::starEach es X.env)):PA X (e::es) (Xd te t):=by
 intro pos Y s σ H Q I h;rw[hs];show wpAny _ _ (spliced ((false,eval e X.env)::backTo pos (starEach es X.env))) _ _ s;show Calls.spliced_cons (jC (ha Y s σ H _ I h) λu s1 ⟨x,H1,I1,r1,q1⟩=>jC (hr pos Y s1 σ H1 _ I1 q1) λus s2 ⟨xs,H2,I2,r2,q2⟩=>⟨x::xs,H2,I2,.cons r1 r2,q2⟩)
end
abbrev Sp:=af->Hp->VK->XK->Prop
abbrev Ss:=List Env->Hp->Shared->XK->∅
structure Vd(P:Program)(w:World)(K:aJ)(mg:Str->Option Value)(base:Heap)(A:Around)(outer:List Env)(s:Shared)(H:Hp):Prop where
 frames:A.frames=some outer
 mod:Mod K mg base
 bs:∀b o,base.get? b=some o->s^^^b=some o/\H b=none
 Ο:base.objs.size<=s⁻¹
 zU:s.heap.FunFrames base outer
 frf:∀b∈frs outer,H b=none
 hok:xQ P w H s.heap
 bare:AllBare s.gens
inductive CE(outer:List Env)(P:Program)(w:World)(H:Hp)(s:Shared)(Q:VK)(u:Value)(s':Shared):Prop
 |mk (v H':_) (_:s'.os=s.os) (_:AllBare s'.gens) (_:Un (frs outer) [] H H' s.heap s'.heap) (_:xQ P w H' s'.heap) (_:cX v u) (_:Q v H')
def CR(CX:Ss)(outer:List Env)(P:Program)(w:World)(H:Hp)(s:Shared)(Q:VK)(E:XK)(r:Result)(s':Shared):Prop :=
 match r with
 |.ok (.ret u)=>CE outer P w H s Q u s'
 |.ok _=>False
 |.error e=>CX outer H s E e s'
structure bF(P:Program)(w:World)(K:aJ)(mg:Str->Option Value)(base:Heap)(CX:Ss)(k:Nat)(f:Addr)(fd:FuncData)(ps:ag)(sp:Sp):Prop where
 len:∀vs H Q E,sp vs H Q E->vs.length=ps.length
 run:∀(A:Around) (outer:List Env) (s:Shared) (H:Hp) (args:Args) (us:aw) (vs:af) (Q:VK) (E:XK),qO k A->Vd P w K mg base A outer s H->BindsTo s fd args (ps.zip us)->cJ vs us->sp vs H Q E->
  codeAny (model P w) A (.call (.ref f) args) (CR CX outer P w H s Q E) s
def bF.mono{P:Program}{w:World}{K:aJ}{mg:Str->Option Value}{base:Heap}{CX:Ss}{j k:Nat}{f:Addr}{fd:FuncData}{ps:ag}{sp:Sp}(F:bF P w K mg base CX j f fd ps sp)(h:j<=k) :
  bF P w K mg base CX k f fd ps sp:=⟨F.len,λA outer s H args us vs Q E hr=>F.run A outer s H args us vs Q E (hr.mono h)⟩
def Vd.make{P:Program}{w:World}{outer:List Env}{s:Shared}{H:Hp}(e:Vd P w K mg base A outer s H)(C:Addr)(us:aw)(kw:List (Str×Value)) :
  Vd P w K mg base (A.under (.builtin "type.__call__" ⟨.ref C::us,kw⟩)) outer s H:=⟨by first|exact e.frames|(simpa [Around.under,Code.envs,Code.isFrame,pushEnvs]using e.frames),e.mod,e.bs,e.Ο,e.zU,e.frf,e.hok,e.bare⟩
section
variable{X:Cx}{Y:aE}{σ:St}{H:Hp}{s s':Shared}
def bD.env0(I:bD X Y σ H s):Vd X.prog X.w X.K X.mg X.base X.A X.stack s H :=
 ⟨I.ok.frames,I.ok.mod,I.bs,cF I.ok.Ο I.sz,I.stack,I.W3,I.hok,I.bare⟩
def bD.after{Q:VK}{u:Value}(I:bD X Y σ H s)(h:CE X.stack X.prog X.w H s Q u s'):EP X Y σ Q u s':=by
 let⟨v,H',os,bare,un,hok,r,q⟩:=h;let⟨hh,g,d,t,os'⟩:=s';obtain rfl:os'=s.os:=os;show⟨v,H',I.call (h':=hh) (g':=g) (d':=d) (t':=t) (ch:=[]) un hok bare (λb z=>absurd z (by simp)),r,q⟩
end
noncomputable def a2p(sp:Sp)(JC:af)(E:XK)(t:TA):TE:=λσ H Q=>t σ H λvs H1=>sp (vs++JC) H1 Q E
inductive a3j(C:Addr)(m:Str)(x:V)(H1:Hp)(Q:Prop):Prop
 |mk (a dx fs:_) (_:x=.ref a) (_:H1 a=some (.ins C dx fs)) (_:fs.lookup m=none) (_:Q)
noncomputable def a5y(C:Addr)(m:Str)(sp:Sp)(JC:af)(E:XK)(ta:TE)(t:TA):TE:=λσ H Q=>ta σ H λx H1=>a3j C m x H1 (t σ H1 λvs H2=>sp (x::(vs++JC)) H2 Q E)
def a5z(C:Addr)(sp:Sp)(JC:af)(E:XK)(t:TA):TE:=λσ H Q=>t σ H λvs H1=>∀x dx,H1 x=none->H1 dx=none->dx≠x->
 sp (.ref x::(vs++JC)) (cY (cY H1 dx (.own x)) x (.ins C dx [])) (λv H2=>v=.non/\Q (.ref x) H2) E
def Binds(K:aJ)(fd:FuncData)(ps:ag)(ds:aw):Prop :=
 ∀(s:Shared) (us:aw),K.In s.heap->(us++ds).length=ps.length->BindsTo s fd ⟨us,[]⟩ (ps.zip (us++ds))
def Binds.all{fd:FuncData}{ps:ag}(h:∀us:aw,us.length=ps.length->bindArgs fd ⟨us,[]⟩=pure (ps.zip us)):Binds K fd ps []:=λs us _ hl=>by
 rw[jE]at hl ⊢;show .of_eq (h us hl)
def yS(CX:Ss)(X:Cx)(E:XK):Prop:=∀(Y:aE) (σ:St) (H:Hp) (s:Shared) (e:Value) (s':Shared),bD X Y σ H s->CX X.stack H s E e s'->X.xe e s'
section
variable{X:Cx}{CX:Ss}{f C:Addr}{fd:FuncData}{ps:ag}{sp:Sp}{JC:af}{ds:aw}{E:XK}{x m:Str}{apos:Pos}{o:Expr}{t:TA}
def Ve{Y:aE}{σ:St}{H:Hp}{s:Shared}{Q:VK}{us:aw}{vs:af}(F:bF X.prog X.w X.K X.mg X.base CX k f fd ps sp)(hr:qO k X.A)(hb:Binds X.K fd ps ds)(hd:cJ JC ds)(hx:yS CX X E)
  (I:bD X Y σ H s) (r:cJ vs us) (h:sp (vs++JC) H Q E):wpAny (model X.prog X.w) X.A (call (.ref f) us) (EP X Y σ Q) X.xe s:=by
 let r2:cJ (vs++JC) (us++ds):=r.append hd;let hl:(us++ds).length=ps.length:=by rw[<-r2.length];show F.len _ _ _ _ h
 show wpAny_call (CN (F.run X.A X.stack s H ⟨us,[]⟩ (us++ds) (vs++JC) Q E hr I.env0 (hb s us I.Cj hl) r2 h) λr s' hq=>?_);cases r with
 |error e=>show hx Y σ H s e s' I hq
 |ok fl =>
  cases fl with
  |ret u=>show I.after hq
  |next=>show False.elim hq
  |brk=>show False.elim hq
  |cont=>show False.elim hq
def aY(F:bF X.prog X.w X.K X.mg X.base CX k f fd ps sp)(hr:qO k X.A)(hg:Gl X x)(hm:X.mg x=⇑f)(hk:keepIn X.K (.ref f)=true)(hb:Binds X.K fd ps ds)(hd:cJ JC ds)(hx:yS CX X E)
  (ha:PA X (e::es) t) (hdb:@&((x==("__debug__" : Str))=false)) (he:@&(starEach (e::es) X.env=(false,eval e X.env)::starEach es X.env)) (hpl:@&((backTo pos (starEach es X.env)).any (·.1)=false)) :
  PE X (.Call (.Name x p) (e::es) [] pos) (a2p sp JC E t):=by
 intro Y s σ H Q I h;show vy (zV I hg hm (Mr (h₀:=X.base) I.ok.mod.kin hk (jC (ha pos Y s σ H _ I h) λus s1 ⟨vs,H1,I1,r,q⟩=>⟨I1.Cj,Ve F hr hb hd hx I1 r q⟩) he hpl) hdb)
def vK(he:PE X o ta)(c:Cls X.K C)(hm:Meth X.K C m f)(F:bF X.prog X.w X.K X.mg X.base CX k f fd ps sp)(hr:qO k X.A)(hb:Binds X.K fd ps ds)(hd:cJ JC ds)(hx:yS CX X E)(ha:PA X (e::es) t)
  (hst:@&(starEach (e::es) X.env=(false,eval e X.env)::starEach es X.env)) (hpl:@&((backTo pos (starEach es X.env)).any (·.1)=false))
  (ht:@&(eval (.Call (.Attribute o m apos) (e::es) [] pos) X.env=(do
   let ov <-eval o X.env
   standAt apos.atName
   let(f,first) <-holding [ov] (getMethod ov m pl)
   callWith pos f first (backTo pos (starEach (e::es) X.env)) (backToKw pos (keywordEach [] X.env))))) :
  PE X (.Call (.Attribute o m apos) (e::es) [] pos) (a5y C m sp JC E ta t):=by
 intro Y s σ H Q I h;show PySem.W.methodCall_KW (pl:=pl) (jC (he Y s σ H _ I h) λu s1 ⟨x,H1,I1,rx,a,dx,fs,ex,ea,l,q⟩=>?_) ht;subst ex;obtain rfl:u=Value.ref a:=rx;show U9 I1 ea c hm l (Mr (first:=[.ref a]) (h₀:=X.base) I.ok.mod.kin hm.kp (jC (ha pos Y s1 σ H1 _ I1 q) λus s2 ⟨vs,H2,I2,r,q2⟩=>⟨I2.Cj,Ve (us:=.ref a::us) (vs:=.ref a::vs) F hr hb hd hx I2 (.cons Z r) q2⟩) hst hpl)
structure Mk(K:aJ)(C f:Addr):Prop where
 makes:PySem.W.makesIn K C=true
 init:findIn K (.ref C) "__init__" = some ⇑f
 fn:isFn K (.ref f)=true
 kp:keepIn K (.ref C)=true
def ô{Y:aE}{σ:St}{H:Hp}{s:Shared}{Q:VK}{us:aw}{vs:af}(Z98:Mk X.K C f)(F:bF X.prog X.w X.K X.mg X.base CX k f fd ps sp)(hr:qO (k+1) X.A)(hb:Binds X.K fd ps ds)(hd:cJ JC ds)
  (hx:yS CX X E) (I:bD X Y σ H s) (r:cJ vs us)
  (h:∀x dx,H x=none->H dx=none->dx≠x->sp (.ref x::(vs++JC)) (cY (cY H dx (.own x)) x (.ins C dx [])) (λv H2=>v=.non/\Q (.ref x) H2) E) :
  wpAny (model X.prog X.w) X.A (call (.ref C) us) (EP X Y σ Q) X.xe s:=by
 let hq:=h (s⁻¹+1) s⁻¹ (I.hok.fresh (vH _)) (I.hok.fresh (aK _)) (bY (wM _));let I2:=bD.made (C:=C) I;let r2:cJ (V.ref (s⁻¹+1)::(vs++JC)) (Value.ref (s⁻¹+1)::(us++ds)):=.cons Z (r.append hd);let hl:(Value.ref (s⁻¹+1)::us++ds).length=ps.length:=by
  let e:=r2.length;rw[F.len _ _ _ _ hq]at e;show e.symm
 show wpAny_call (ó (f:=f) I.Cj Z98.makes Z98.init (Hh.mp Z98.fn) (CN (F.run _ X.stack _ _ ⟨Value.ref (s⁻¹+1)::us,[]⟩ (Value.ref (s⁻¹+1)::(us++ds)) _ _ E (hr.make C us [])
  (I2.env0.make C us []) (hb _ (Value.ref (s⁻¹+1)::us) I2.Cj hl) r2 hq) λr s' hq'=>?_))
 cases r with
 |error e=>show hx Y σ _ _ e s' I2 hq'
 |ok fl =>
  cases fl with
  |ret u =>
   let⟨v,H',I3,rv,ev,q3⟩:=I2.after hq';subst ev;show⟨rv,⟨V.ref (s⁻¹+1),H',I3,Z,q3⟩⟩
  |next=>show False.elim hq'
  |brk=>show False.elim hq'
  |cont=>show False.elim hq'
def a0j(Z98:Mk X.K C f)(F:bF X.prog X.w X.K X.mg X.base CX k f fd ps sp)(hr:qO (k+1) X.A)(hg:Gl X x)(hm:X.mg x=⇑C)(hb:Binds X.K fd ps ds)(hd:cJ JC ds)(hx:yS CX X E)
  (ha:PA X (e::es) t) (hdb:@&((x==("__debug__" : Str))=false)) (he:@&(starEach (e::es) X.env=(false,eval e X.env)::starEach es X.env)) (hpl:@&((backTo pos (starEach es X.env)).any (·.1)=false)) :
  PE X (.Call (.Name x p) (e::es) [] pos) (a5z C sp JC E t):=by
 intro Y s σ H Q I h;show vy (zV I hg hm (Mr (h₀:=X.base) I.ok.mod.kin Z98.kp (jC (ha pos Y s σ H _ I h) λus s1 ⟨vs,H1,I1,r,q⟩=>⟨I1.Cj,ô Z98 F hr hb hd hx I1 r q⟩) he hpl) hdb)
end
structure bN(N P:ag)(sc:Scope):Prop where
 kind:sc.kind=.function:=by rfl
 co:sc.isCoroutine=false:=by rfl
 gen:sc.isGenerator=false:=by rfl
 nd:N.Nodup:=by decide
 pre:N.take P.length=P:=by rfl
 par:∀x∈P,sc.names.lookup x=some .local\/sc.names.lookup x=some .cell:=by decide
 a3k:∀y∈sc.names,y.2≠.free:=by decide
theorem Kf{kindOf:Str->Option NameKind}{x:Str}:∀{binds:List (Str×Value)}{m:Str->Option Value},(∀v,(x,v)∉binds)->bindL kindOf binds m x=m x
 | [],_,_=>rfl
 |(n,v)::r,m,h=>by
  unfold bindL
  rw[Kf λw hw=>h w (bM _ hw)]
  split
  ·let:x≠n:=by rintro rfl;show h v bh
   simp[this]
  ·rfl
theorem Kg{kindOf:Str->Option NameKind}{x:Str}:∀{binds:List (Str×Value)}{m:Str->Option Value},(∀v,(x,v)∉binds)->bindC kindOf binds m x=m x
 | [],_,_=>rfl
 |(n,v)::r,m,h=>by
  unfold bindC
  rw[Kg λw hw=>h w (bM _ hw)]
  split
  ·rfl
  ·let:x≠n:=by rintro rfl;show h v bh
   simp[this]
theorem Kh{kindOf:Str->Option NameKind}{x:Str}{v:Value}:∀{P:ag}{vs:aw}{i:Nat}{m:Str->Option Value},P.Nodup->P[i]?=some x->vs[i]?=some v->kindOf x=some .local->
  bindL kindOf (P.zip vs) m x=some v
 | [],_,_,_,_,h,_,_=>by simp at h
 |_::_,[],_,_,_,_,h,_=>by simp at h
 |p::P,w::vs,0,m,nd,h1,h2,hk=>by
  simp at h1 h2;subst h1;subst h2
  show bindL kindOf ((p,w)::P.zip vs) m p=_
  unfold bindL
  rw[Kf λv hv=>(jb.mp nd).1 (Uq hv).1,aB hk]
  simp
 |p::P,w::vs,i+1,m,nd,h1,h2,hk=>by
  show bindL kindOf ((p,w)::P.zip vs) m x=_
  unfold bindL
  show Kh (i:=i) (jb.mp nd).2 (by simpa using h1) (by simpa using h2) hk
theorem Kl{kindOf:Str->Option NameKind}{x:Str}{v:Value}:∀{P:ag}{vs:aw}{i:Nat}{m:Str->Option Value},P.Nodup->P[i]?=some x->vs[i]?=some v->kindOf x≠some .local->
  bindC kindOf (P.zip vs) m x=some v
 | [],_,_,_,_,h,_,_=>by simp at h
 |_::_,[],_,_,_,_,h,_=>by simp at h
 |p::P,w::vs,0,m,nd,h1,h2,hk=>by
  simp at h1 h2;subst h1;subst h2
  show bindC kindOf ((p,w)::P.zip vs) m p=_
  unfold bindC
  rw[Kg λv hv=>(jb.mp nd).1 (Uq hv).1,aA hk]
  simp
 |p::P,w::vs,i+1,m,nd,h1,h2,hk=>by
  show bindC kindOf ((p,w)::P.zip vs) m x=_
  unfold bindC
  show Kl (i:=i) (jb.mp nd).2 (by simpa using h1) (by simpa using h2) hk
noncomputable def start(N:ag)(vs:af):St:=vs.map some++List.replicate (N.length-vs.length) none
noncomputable def Vf(CX:Ss)(P:Program)(w:World)(K:aJ)(mg:Str->Option Value)(base:Heap)(N:ag)(qual:Str)(scope:Scope)(f:Addr)(cd:Value)(A:Around)(outer:List Env)(s:Shared)(H:Hp)(E:XK):Cx where
 prog:=P
 w:=w
 K:=K
 mg:=mg
 base:=base
 A:=A.deeper (envOfC qual scope s⁻¹ f cd)
 N:=N
 s₀:=s
 H₀:=H
 env:=envOfC qual scope s⁻¹ f cd
 outer:=outer
 stack:=envOfC qual scope s⁻¹ f cd::outer
 ex:=[]
 calm:=true
 fn:=λ_=>true
 pn:=[]
 xe:=λe s'=>wpAny (model P w) (A.deeper (envOfC qual scope s⁻¹ f cd)) (leaving (envOfC qual scope s⁻¹ f cd) e) (λ_ s''=>CX outer H s E e s'') (λe' s''=>CX outer H s E e' s'') s'
def Qh{sc:Scope}{x:Str}(h:sc.names.lookup x=some .cell):∃c,(cellsFrom n sc.names []).lookup x=some c:=by
 let q:=PySem.W.cellsFrom_some sc.names n [] (.inl h);show Ü.mp q
def YF{CX:Ss}{P:Program}{w:World}{ps:ag}{qual:Str}{scope:Scope}{f:Addr}{cd:Value}{outer:List Env}{s s1:Shared}{H:Hp}{E:XK}{us:aw}{vs:af}
  (S:bN N ps scope) (hd:A.handled=none) (e0:Vd P w K mg base A outer s H) (hl:vs.length=ps.length) (r:cJ vs us)
  (x:InCallC s s⁻¹ (bindL (envOfC qual scope s⁻¹ f cd).kindOf (ps.zip us) λ_=>none) (cellsFrom (s⁻¹+1) scope.names []) (bindC (envOfC qual scope s⁻¹ f cd).kindOf (ps.zip us) λ_=>none) s1) :
  bD (Vf CX P w K mg base N qual scope f cd A outer s H E) [] (start N vs) H s1:=by
 let hpl:ps.length<=N.length:=by let:=congrArg List.length S.pre;rw[eN]at this;omega
 let⟨h1,tk,rfl,hk⟩:=x.done;let noA:∀b:Addr,b∉(Vf CX P w K mg base N qual scope f cd A outer s H E).ex:=λb z=>absurd (show b∈([]:aI)from z) (by simp);show⟨⟨e0.mod,S.kind,Z,Z,aK _,λy z c h1 h2=>?_,λy hy=>?_,λy c _ h=>?_,λ_=>hd,Around.frames_deeper e0.frames,.inr ⟨Z,Z⟩,λb z=>absurd z (noA b),e0.bs,e0.Ο,λb _ _=>noA b,λb z=>absurd z (noA b),e0.zU,e0.frf⟩,
  rfl,e0.bare,Un.kept hk,⟨_,x.toInCall.ns,λi y v h1 h2 h3=>?_⟩,λy c h=>⟨_,x.cell y c h⟩,e0.hok.fresh (aK _),λy c h=>?_,λp hp=>absurd (show p∈([]:aE)from hp) (by simp),e0.hok.kept hk,?_⟩
 ·show name_of_addr x.apart (Cu h1) (Cu h2)
 ·let hy:scope.names.lookup y=some .cell\/scope.names.lookup y=some .free:=hy;rcases hy with hy|hy
  ·show Qh hy
  ·show absurd Z (S.a3k _ (Cu hy))
 ·show fD (x.above y c (Cu h))
 ·let hi:i<vs.length:=by
   unfold start at h2;by_cases hi:i<vs.length
   ·show hi
   ·rw[wI (by simpa using hi)]at h2;rw[List.getElem?_replicate]at h2;split at h2<;>cases h2
  let ha:vs[i]?=some v:=by
   unfold start at h2;rw[yE (by simpa using hi),cI]at h2;cases e:vs[i]? with
   |none=>rw[e]at h2;cases h2
   |some a=>rw[e]at h2;cases h2;rfl
  let⟨u,hu,rv⟩:=r.get ha;let hp:ps[i]?=some y:=by
   rw[<-S.pre,List.getElem?_take_of_lt ()];show h1
  let ndP:ps.Nodup:=by rw[<-S.pre];show S.nd.sublist (Mu _ _)
  show⟨u,rv,?_⟩;rcases S.par y (gZ hp)with k|k
  ·show .inl ⟨k,Kh ndP hp hu k⟩
  ·let⟨c,e⟩:=Qh (n:=s⁻¹+1) k;show .inr ⟨.inl k,c,e,?_⟩;let q:=x.cell y c e;rw[Kl ndP hp hu (by show scope.names.lookup y≠_;rw[k];decide)]at q;show q
 ·show e0.hok.fresh (fD (x.above y c (Cu h)))
 ·unfold start;show _=N.length;rw[bO,aH,Tj];omega
def a2q{CX:Ss}{P:Program}{w:World}{f:Addr}{name qual:Str}{params:Arguments}{scope:Scope}{dV kV doc pm dX ct oc:Value}{an od:Option Addr}
  {osl:Array (Option Value)}{ps:ag}{sp:Sp} (lk:K.lookup f=some ⟨oc,od,.func (fnOf name qual params body scope dV kV doc pm an dX ct),osl⟩) (hcd:codeIn K dX qual=true) (S:bN N ps scope)
  (len:∀vs H Q E,sp vs H Q E->vs.length=ps.length)
  (hbody:∀(A:Around) (outer:List Env) (s:Shared) (H:Hp) (vs:af) (Q:VK) (E:XK),qO k (A.deeper (envOfC qual scope s⁻¹ f dX))->sp vs H Q E->
   ∃t,Qf (Vf CX P w K mg base N qual scope f dX A outer s H E) body t/\t { nx:=λ_ H'=>Q .non H',rt:=Q} (start N vs) H) :
  bF P w K mg base CX (k+1) f (fnOf name qual params body scope dV kV doc pm an dX ct) ps sp:=by
 show⟨len,λA outer s H args us vs Q E hr e0 hb r hsp=>?_⟩;let hl:=len _ _ _ _ hsp;let KX:K.In s.heap:=e0.mod.kin.keeps λb o e=>(e0.bs b o e).1;let lim:s.heap.NoLimit:=e0.mod.nolimit.keeps λb o e=>(e0.bs b o e).1;let hkind:∀y∈ps.zip us,scope.names.lookup y.1=some .local\/(scope.names.lookup y.1=some .cell/\((cellsFrom (s⁻¹+1) scope.names []).lookup y.1).isSome=true):=λ⟨n,v⟩ hy=>by
  rcases S.par n (Uq hy).1 with q|q
  ·show .inl q
  ·show .inr ⟨q,PySem.W.cellsFrom_some _ _ _ (.inl q)⟩
 show codeAny_call_function hr.depth (KX _ _ lk) Z S.co S.gen Z (PySem.W.codeRec_of KX hcd) (hb _ _ _ _ (wpAny_newFunctionEnv_cells S.kind hkind λenv he s1 x=>?_));subst he;show⟨lim.keeps x.toInCall.keep,codeAny_func ?_⟩;let⟨t,ht,hq⟩:=hbody A outer s H vs Q E (hr.deeper _) hsp;let I:bD (Vf CX P w K mg base N qual scope f dX A outer s H E) [] (start N vs) H s1:=YF S hr.hd e0 hl r x;show iw (ht [] s1 (start N vs) H _ I hq) (λfl s' hs=>?_) λe s' hs=>hs;let fin:∀{σ':St}{H':Hp}{v:V}{u:Value},bD (Vf CX P w K mg base N qual scope f dX A outer s H E) [] σ' H' s'->cX v u->Q v H'->CE outer P w H s Q u s' :=
  λ{σ' H' v u} Z97 rv q=>⟨v,H',Z97.os,Z97.bare,Z97.base,Z97.hok,rv,q⟩
 cases fl with
 |ret u =>
  let⟨v,σ',H',Z97,rv,q⟩:=hs;show fin Z97 rv q
 |next =>
  let⟨σ',H',Z97,q⟩:=hs;show fin (v:=V.non) (u:=Value.none) Z97 Z q
 |brk =>
  let⟨_,_,_,q⟩:=hs;show False.elim q
 |cont =>
  let⟨_,_,_,q⟩:=hs;show False.elim q
section
variable{X:Cx}{x:Str}{t:TA}{id T:String}{r:af->Hp->VK->Prop}
noncomputable def tCB(r:af->Hp->VK->Prop)(t:TA):TE:=λσ H Q=>t σ H λvs H1=>r vs H1 Q
def aV(hc:jx X (.builtin id) r)(hg:Gl X x)(hm:X.mg x=none)(hv:bootBuiltins x=some (.builtin id))(ha:PA X (e::es) t)(hn:@&(x≠ "__name__"))(hdb:@&((x==("__debug__" : Str))=false))
  (he:@&(starEach (e::es) X.env=(false,eval e X.env)::starEach es X.env)) (hpl:@&((backTo pos (starEach es X.env)).any (·.1)=false)):PE X (.Call (.Name x p) (e::es) [] pos) (tCB r t):=by
 intro Y s σ H Q I h;show vy (um I hg hm hv (PyProof.Rows.callWith_builtin1 (jC (ha pos Y s σ H _ I h) λus s1 ⟨vs,H1,I1,r1,q1⟩=>hc Y s1 σ H1 vs us Q I1 r1 q1) he hpl) hn hdb)
def gV(hc:jx X (.type T) r)(hg:Gl X x)(hm:X.mg x=none)(hv:bootBuiltins x=some (.type T))(ha:PA X (e::es) t)(hn:@&(x≠ "__name__"))(hdb:@&((x==("__debug__" : Str))=false))
  (he:@&(starEach (e::es) X.env=(false,eval e X.env)::starEach es X.env)) (hpl:@&((backTo pos (starEach es X.env)).any (·.1)=false)):PE X (.Call (.Name x p) (e::es) [] pos) (tCB r t):=by
 intro Y s σ H Q I h;show vy (um I hg hm hv (wH (jC (ha pos Y s σ H _ I h) λus s1 ⟨vs,H1,I1,r1,q1⟩=>hc Y s1 σ H1 vs us Q I1 r1 q1) he hpl) hn hdb)
end
end L2
namespace HT
open PyProof.Rows
section
variable{prog:Program}{w:World}{A:Around}{E:∅}{s:Shared}
def a0k{t b:Addr}{vs ws:aw}{Q:∅}(ht:IsTup s.heap t vs.toArray)(hb:IsTup s.heap b ws.toArray)(hv:vs≠[])
  (h1:ws=[]->Q (.ref t) s) (h2:ws≠[]->Q (.ref s⁻¹) (s•s.heap.push { cls:=.type "tuple",data:=.seq (vs++ws).toArray}))
  (hsz:vs.length+ws.length<=sizeLine):∎ (binaryOp .Add (.ref t) (.ref b)) Q E s:=by
 let⟨⟨cls,dd,data,sl⟩,ho,hc,n,hd⟩:=id ht;let⟨⟨cls2,dd2,data2,sl2⟩,ho2,hc2,n2,hd2⟩:=id hb;simp only at hc hd hc2 hd2;subst hc hd hc2 hd2;let e:vs.toArray++ws.toArray=(vs++ws).toArray:=by simp
 by_cases hw:ws=[]
 ·show Nu ⟨_,ho,Z⟩ ⟨_,ho2,Z⟩ MJ Nk Mg LR (LK _ _)
   (tuple_addW1 t b vs.toArray ws.toArray n n2 dd dd2 sl sl2 (by simpa using hv) (by simp[hw])) ⟨ho,ho2,h1 hw⟩
 ·show Nu ⟨_,ho,Z⟩ ⟨_,ho2,Z⟩ MJ Nk Mg LR (LK _ _)
   (tuple_addW2 t b vs.toArray ws.toArray n n2 dd dd2 sl sl2 (by simpa using hv) (by simpa using hw) (by rw[fW,fW];show hsz)) ⟨ho,ho2,?_⟩
  rw[e];show h2 hw
noncomputable def jZ(n d:Nat):Option Int->Nat
 |none=>d
 |some v=>if v<0 then(v+(n:Int)).toNat else min v.toNat n
def Qi(n d:Nat):jZ n d none=d:=rfl
def FJ(n d k:Nat):jZ n d (some (k:Int))=min k n:=by
 show(if(k:Int)<0 then((k:Int)+(n:Int)).toNat else min (k:Int).toNat n)=min k n;rw[aA (),iG]
def a3l(n d:Nat)(hd:d<=n)(o:Option Int):jZ n d o<=n:=by
 cases o with
 |none=>show hd
 |some v =>
  show(if v<0 then(v+(n:Int)).toNat else min v.toNat n)<=n;by_cases hv:v<0
  ·rw[aB hv];omega
  ·rw[aA hv];show Uh _ _
def Xe(v:Int)(n d:Nat):(if v<0 then max (v+(n:Int)) 0 else min v (n:Int))=((jZ n d (some v):Nat):Int):=by
 show(if v<0 then max (v+(n:Int)) 0 else min v (n:Int))=(((if v<0 then(v+(n:Int)).toNat else min v.toNat n):Nat):Int);by_cases hv:v<0
 ·simp only[if_pos hv];omega
 ·simp only[if_neg hv];omega
def Vg(lo hi:Option Int)(n:Nat):Builtin.Slice.sliceAdjust lo hi 1 (n:Int)=(((jZ n 0 lo:Nat):Int),((jZ n n hi:Nat):Int)):=by
 let h1:¬((1:Int)<0):=()
 unfold Builtin.Slice.sliceAdjust;simp only[h1,if_false];show Prod.ext ?_ ?_
 ·cases lo with
  |none=>rfl
  |some v=>show Xe v n 0
 ·cases hi with
  |none=>rfl
  |some v=>show Xe v n n
def Vh(i j:Nat):Builtin.Slice.slicePlaces (i:Int) (j:Int) 1=j-i:=by
 unfold Builtin.Slice.slicePlaces;let h1:(1:Int)>0:=()
 simp only[h1,if_true,Int.ediv_one];split<;>omega
def Hs{v:Value}{o:Option Int}{Q:Option Int->Shared->Prop}(p:IsPart v o)(h:Q o s):∎ (Builtin.Slice.slicePartIndex v) Q E s:=by
 cases p with
 |none=>show slicePart_none h
 |int i t=>show slicePart_int h
def uN{sl:Addr}{vl vu:Value}{lo hi:Option Int}{n:Nat}{Q:Int×Int×Nat->Shared->Prop}(hs:s.heap.IsSliceOf sl vl vu .none)(pl:IsPart vl lo)(pu:IsPart vu hi)
  (h:Q (((jZ n 0 lo:Nat):Int),1,jZ n n hi-jZ n 0 lo) s):∎ (Builtin.Slice.sliceApplied (.ref sl) (pure (n:Int))) Q E s:=by
 let⟨os,hos,hcs,hds⟩:=id hs;unfold Builtin.Slice.sliceApplied Builtin.Slice.sliceFields;show M (M (gF hos hds (x:=vl) Z (M (gF hos hds (x:=vu) Z (M (gF hos hds (x:=.none) Z (ao (M (slicePart_none ?_)))))))));show wpAny _ _ (if((1:Int)==0)=true then _ else _) _ _ s;rw[aA ()];show M (Hs pl (M (Hs pu (M (ao ?_)))));show wpAny _ _ (match Builtin.Slice.sliceAdjust lo hi 1 (n:Int)with|(lo,hi)=>pure (lo,(1:Int),Builtin.Slice.slicePlaces lo hi 1)) _ _ s;rw[Vg lo hi n];show wpAny _ _ (pure (((jZ n 0 lo:Nat):Int),(1:Int),Builtin.Slice.slicePlaces ((jZ n 0 lo:Nat):Int) ((jZ n n hi:Nat):Int) 1)) _ _ s;rw[Vh];show ao h
def õ(xs:Array Value)(i k:Nat):((List.range k).filterMap λ(m:Nat)=>xs[((i:Int)+(m:Int)*1).toNat]?).toArray=((xs.toList.drop i).take k).toArray:=by
 let e:(λ(m:Nat)=>xs[((i:Int)+(m:Int)*1).toNat]?)=λm=>xs[i+m]?:=by
  funext m;let:((i:Int)+(m:Int)*1).toNat=i+m:=()
  rw[this]
 rw[e];let:=pick_run xs i k;rw[Ms]at this;let e2:((λx=>xs[x]?)∘λx=>i+x)=λm=>xs[i+m]?:=rfl;rw[e2]at this;rw[this]
def Aa{t sl:Addr}{items:Array Value}{vl vu:Value}{lo hi:Option Int}{Q:∅}(ht:IsTup s.heap t items)(hs:s.heap.IsSliceOf sl vl vu .none)(pl:IsPart vl lo)(pu:IsPart vu hi)
  (hw:¬(jZ items.size 0 lo=0/\jZ items.size items.size hi=items.size))
  (h:Q (.ref s⁻¹) (s•s.heap.push { cls:=.type "tuple",data:=.seq ((items.toList.drop (jZ items.size 0 lo)).take (jZ items.size items.size hi-jZ items.size 0 lo)).toArray}))
  (hsz:items.size<=sizeLine):∎ (getItem (.ref t) (.ref sl)) Q E s:=by
 let Xf:sizeOk (.seq ((items.toList.drop (jZ items.size 0 lo)).take (jZ items.size items.size hi-jZ items.size 0 lo)).toArray):=by
  show((items.toList.drop (jZ items.size 0 lo)).take (jZ items.size items.size hi-jZ items.size 0 lo)).toArray.size<=sizeLine;rw[fW,eN,iI,tX];omega
 let hj:jZ items.size items.size hi<=items.size:=a3l _ _ (aK _) hi;let⟨os,hos,hcs,hds⟩:=id hs;let hTs:s.TypeIs (.ref sl) "slice" :=⟨os,hos,hcs⟩;unfold getItem;try with_reducible show dY ?_
 first|refine M (ao ?_)|skip
 show M (wpAny_sequenceKey ht.typeIs () ?_);show M (m9 (name:=Str.ofString "__getitem__") ht.typeIs Lr
  (gD Lr ht.typeIs entry_tuple_getitem ?_ (args_tuple_getitem _ _)))
 show wpAny _ _ (Builtin.Tuple.tupleItemsOf (.ref t) >>= _) _ _ s;show M (tupleItemsOf_ ht (M (rN hTs ?_)));rw[aB ()];show M (uN hs pl pu ?_);let hno:¬((((jZ items.size 0 lo:Nat):Int)==0&&(1:Int)==1&&(jZ items.size items.size hi-jZ items.size 0 lo)==items.size)=true):=by
  intro q;rw[fU,fU]at q;let q1:((jZ items.size 0 lo:Nat):Int)=0:=eq_of_beq q.1.1;let q2:jZ items.size items.size hi-jZ items.size 0 lo=items.size:=eq_of_beq q.2;show hw ⟨(),()⟩
 show wpAny _ _ (if(((jZ items.size 0 lo:Nat):Int)==0&&(1:Int)==1&&(jZ items.size items.size hi-jZ items.size 0 lo)==items.size)=true then _ else _) _ _ s;rw[aA hno,õ];first
  |exact M (m:=Builtin.Tuple.tupleExact _) (jP (ao ⟨_,Z,ao h⟩) Xf)
  |exact M (m:=Builtin.Tuple.tupleExact _) (jP (M (ao (ao ⟨_,Z,ao h⟩))) Xf)
  |exact M (M (m:=Builtin.Tuple.tupleExact _) (jP (ao (ao ⟨_,Z,ao h⟩)) Xf))
  |exact M (M (m:=Builtin.Tuple.tupleExact _) (jP (ao ⟨_,Z,ao h⟩) Xf))
end
end HT
namespace L2
open PyProof.Rows
variable{X:Cx}{us bR:aw}{n:Nat}{α:Type}{Y:aE}{σ:St}
abbrev TO:=St->Hp->(Option Int->Hp->Prop)->Prop
def PO(X:Cx)(e:Option Expr)(t:TO):Prop :=
 ∀(Y:aE) (s:Shared) (σ:St) (H:Hp) (Q:Option Int->Hp->Prop),bD X Y σ H s->t σ H Q->
  wpAny (model X.prog X.w) X.A (evalPart e X.env) (λu s'=>∃o H',bD X Y σ H' s'/\IsPart u o/\Q o H') X.xe s
noncomputable def a0l:TO:=λ_ H Q=>Q none H
noncomputable def a5A(t:TE):TO:=λσ H Q=>t σ H λx H1=>EA (λi=>x=.int i) λi=>Q (some i) H1
section
variable{e:Expr}{te:TE}{lo hi:Option Expr}{tl th:TO}{pos p2:Pos}
def gb:PO X none a0l:=by
 intro Y s σ H Q I h;rw[evalPart_none];show ao ⟨none,H,I,.none,h⟩
def gh(h:PE X e te):PO X (some e) (a5A te):=by
 intro Y s σ H Q I hw;rw[evalPart_some];show jC (h Y s σ H _ I hw) λu s1 ⟨x,H1,I1,r1,q1⟩=>?_;let⟨i,rfl,q⟩:=q1;let⟨t,rfl⟩:=r1;show⟨some i,H1,I1,.int i t,q⟩
def SlR(X:Cx)(r:V->Option Int->Option Int->Hp->VK->Prop):Prop :=
 ∀(Y:aE) (s:Shared) (σ:St) (H:Hp) (x:V) (v vl vu:Value) (lo hi:Option Int) (sl:Addr) (Q:VK),bD X Y σ H s->cX x v->s.heap.IsSliceOf sl vl vu .none->IsPart vl lo->IsPart vu hi->r x lo hi H Q->
  ∃T id,typeLookup (.type T) "__getitem__" = pure (some (.builtin id))/\s.TypeIs v T/\wpAny (model X.prog X.w) X.A (getItem v (.ref sl)) (EP X Y σ Q) X.xe s
noncomputable def tSl(r:V->Option Int->Option Int->Hp->VK->Prop)(te:TE)(tl th:TO):TE:=λσ H Q=>te σ H λx H1=>tl σ H1 λl H2=>th σ H2 λu H3=>r x l u H3 Q
def eX{r:V->Option Int->Option Int->Hp->VK->Prop}(hr:SlR X r)(he:PE X e te)(hl:PO X lo tl)(hu:PO X hi th):PE X (.Subscript e (.Slice lo hi none p2) pos) (tSl r te tl th):=by
 intro Y s σ H Q I h;show Subscript_ (jC (he Y s σ H _ I h) λv s1 ⟨x,H1,I1,r1,q1⟩=>wpAny_Slice (jC (hl Y s1 σ H1 _ I1 q1) λvl s2 ⟨l,H2,I2,pl,q2⟩=>jC (hu Y s2 σ H2 _ I2 q2) λvu s3 ⟨u,H3,I3,pu,q3⟩=>?_));rw[evalPart_none];show ao ?_;let I4:bD X Y σ H3 (s3•s3.heap.push { cls:=.type "slice",data:=.fields #[vl,vu,.none]}):=I3.kept (t':=s3.toks) λb ob q=>bL _ q;let⟨T,id,hT,ht,hg⟩:=hr Y (s3•s3.heap.push { cls:=.type "slice",data:=.fields #[vl,vu,.none]}) σ H3 x v vl vu l u s3⁻¹ Q I4 r1 (Heap.IsSliceOf.new ..) pl pu q3;show wpAny (model X.prog X.w) X.A (subscriptTail e (.Slice lo hi none p2) v (.ref s3⁻¹)) (EP X Y σ Q) X.xe (s3•s3.heap.push { cls:=.type "slice",data:=.fields #[vl,vu,.none]});show tail_any (ops:=[.ref s3⁻¹,v]) ht hT hg (by with_unfolding_all rfl)
def uo(xs:af)(lo hi:Option Int):af:=(xs.drop (HT.jZ xs.length 0 lo)).take (HT.jZ xs.length xs.length hi-HT.jZ xs.length 0 lo)
def Eb(xs:af)(lo hi:Option Int):(uo xs lo hi).length<=xs.length:=by
 unfold uo;rw[eN,iI];omega
inductive a7L(K:aJ)(x:V)(lo:Option Int)(hi:Option Int)(H:Hp)(Q:VK):Prop
 |mk (a xs:_) (_:x=.ref a) (_:cN K H a xs) (_:¬(HT.jZ xs.length 0 lo=0/\HT.jZ xs.length xs.length hi=xs.length)) (_:∀p,H p=none->Q (.ref p) (cY H p (.tup (uo xs lo hi))))
def ö:SlR X (a7L X.K):=by
 intro Y s σ H x v vl vu lo hi sl Q I rx hs pl pu h;let⟨a,xs,rfl,hx,hw,q⟩:=h;cases rx;let⟨bR,r,ht,hz⟩:=I.tuple hx;let hlen:bR.toArray.size=xs.length:=by rw[fW];show r.length.symm
 show⟨"tuple",_,PyProof.Rows.slot_tuple_getitem.lookup,ht.typeIs,?_⟩;show HT.Aa ht hs pl pu (by rw[hlen];show hw) ?_ (by rw[hlen];show hz);rw[hlen];show⟨.ref s⁻¹,_,I.laid (t':=s.toks) (o:=.tup (uo xs lo hi)) (λb ob q=>bL _ q) (aK _) ⟨cF (Eb xs lo hi) hz,_,(r.drop (HT.jZ xs.length 0 lo)).take (HT.jZ xs.length xs.length hi-HT.jZ xs.length 0 lo),IsTup.new _ _⟩,Z,q _ (I.hok.fresh (aK _))⟩
inductive a5B(K:aJ)(x:V)(y:V)(H:Hp)(Q:VK):Prop
 |mk (a b xs ys:_) (_:x=.ref a) (_:y=.ref b) (_:cN K H a xs) (_:cN K H b ys) (_:xs≠[]) (_:xs.length+ys.length<=sizeLine) (_:(ys=[]->Q (.ref a) H)) (_:(ys≠[]->∀p,H p=none->Q (.ref p) (cY H p (.tup (xs++ys)))))
def cJ.Ab{xs:af}(r:cJ xs us):us=[]↔xs=[]:=by
 cases r with
 |nil=>simp
 |cons _ _=>simp
def Xg:rA X (binaryOp .Add) (a5B X.K):=by
 intro Y s σ H x y v u Q I rx ry h;let⟨a,b,xs,ys,rfl,rfl,ha,hb,hx,hz,q1,q2⟩:=h;cases rx;cases ry;let⟨bR,r1,p1,_⟩:=I.tuple ha;let⟨its2,r2,p2,_⟩:=I.tuple hb;show HT.a0k p1 p2 (λz=>hx (r1.Ab.mp z)) (λz=>⟨.ref a,H,I,Z,q1 (r2.Ab.mp z)⟩) (λz=>?_) (by rw[<-r1.length,<-r2.length];show hz);show⟨.ref s⁻¹,_,I.laid (t':=s.toks) (o:=.tup (xs++ys)) (λb ob q=>bL _ q) (aK _) ?_,Z,q2 (λw=>z (r2.Ab.mpr w)) _ (I.hok.fresh (aK _))⟩;show⟨by rw[bO];show hz,_,r1.append r2,IsTup.new _ _⟩
end
noncomputable def Ρ(n:Nat)(i:Int):Option Nat:=if 0<=i then(if i<n then some i.toNat else none)else if -(n:Int)<=i then some (i+n).toNat else none
def Vi{α:Type}(xs:List α)(i:Int):Option α:=(Ρ xs.length i).bind λj=>xs[j]?
def Xh{i:Int}{j:Nat}(h:Ρ n i=some j):seqIndex? i n=some j/\j<n/\ -(n:Int)<=i/\i<n:=by
 unfold Ρ at h;by_cases h0:0<=i
 ·rw[aB h0]at h;by_cases h1:i<n
  ·rw[aB h1]at h;let e:i.toNat=j:=dD h;show⟨by rw[seqIndex_of h0 h1,e],(),(),h1⟩
  ·rw[aA h1]at h;cases h
 ·rw[aA h0]at h;by_cases h1 : -(n:Int)<=i
  ·rw[aB h1]at h;let e:(i+n).toNat=j:=dD h;show⟨by rw[seqIndex_neg () h1,e],(),h1,()⟩
  ·rw[aA h1]at h;cases h
def N5{xs:List α}{i:Int}{v:α}(h:Vi xs i=some v):∃j,seqIndex? i xs.length=some j/\xs[j]?=some v/\j<xs.length/\ -(xs.length:Int)<=i/\i<xs.length:=by
 unfold Vi at h;cases e:Ρ xs.length i with
 |none=>rw[e]at h;cases h
 |some j =>
  rw[e]at h;let⟨h1,h2,h3,h4⟩:=Xh e;show⟨j,h1,h,h2,h3,h4⟩
def cB{xs:List α}{j:Nat}{v:α}(h:xs[j]?=some v):Vi xs (j:Int)=some v:=by
 let hj:j<xs.length:=(eG.mp h).1;let e:Ρ xs.length (j:Int)=some j:=by
  unfold Ρ;rw[aB (),aB ()];simp
 unfold Vi;rw[e];show h
def a0m(b:Expr):Prop:=∀o i,subscripted b false o i=operate [o,i] (getItem o i)
def IxR(X:Cx)(r:R2):Prop :=
 ∀(value slice:Expr) (Y:aE) (s:Shared) (σ:St) (H:Hp) (x y:V) (v u:Value) (Q:VK),bD X Y σ H s->cX x v->cX y u->r x y H Q->
  subscripted slice false v u=operate [v,u] (getItem v u)->wpAny (model X.prog X.w) X.A (subscriptTail value slice v u) (EP X Y σ Q) X.xe s
def MtR(X:Cx)(id:String)(r:V->af->Hp->VK->Prop):Prop :=
 ∀(Y:aE) (s:Shared) (σ:St) (H:Hp) (x:V) (xs:af) (v:Value) (us:aw) (Q:VK),bD X Y σ H s->cX x v->cJ xs us->r x xs H Q->
  wpAny (model X.prog X.w) X.A (call (.builtin id) (v::us)) (EP X Y σ Q) X.xe s
section
variable{a b:Expr}{ta tb:TE}{pos:Pos}
def aP{r:R2}(hr:IxR X r)(ha:PE X a ta)(hb:PE X b tb)(hs:a0m b:=by show λ_ _=>rfl):PE X (.Subscript a b pos) (tOp r ta tb):=by
 intro Y s σ H Q I h;show Subscript_ (a3d ha hb I h λv u s2 x y H2 I2 rx ry q=>hr a b Y s2 σ H2 x y v u Q I2 rx ry q (hs _ _))
inductive a0n(K:aJ)(x:V)(y:V)(H:Hp)(Q:VK):Prop
 |mk (p xs i v:_) (_:x=.ref p) (_:y=.int i) (_:bB K H p xs) (_:Vi xs i=some v) (_:Q v H)
inductive a0o(K:aJ)(x:V)(y:V)(H:Hp)(Q:VK):Prop
 |mk (p xs i v:_) (_:x=.ref p) (_:y=.int i) (_:cN K H p xs) (_:Vi xs i=some v) (_:Q v H)
def a0p:IxR X (a0n X.K):=by
 intro value slice Y s σ H x y v u Q I rx ry h hs;let⟨p,xs,i,z,rfl,rfl,hq,he,q⟩:=h;cases rx;let⟨t,rfl⟩:=ry;let⟨bR,r,pl,hz⟩:=I.list hq;let⟨j,h1,h2,h3,h4,h5⟩:=N5 he;let⟨w,ew,Vj⟩:=r.get h2;let hl:=r.length;let hn:=Ho;let fin:EP X Y σ Q w s:=⟨z,H,I,Vj,q⟩;by_cases h0:0<=i
 ·let hj:i.toNat=j:=by
   rw[seqIndex_of h0 h5]at h1;show dD h1
  show item_listR pl.isList h0 () (by rw[hj];simpa using ew) fin hs
 ·let hj:(i+(bR.toArray.size:Int)).toNat=j:=by
   rw[seqIndex_neg () h4]at h1;rw[fW,<-hl];show dD h1
  show subscriptTail_builtinR (x:=w) pl.isList.typeIs slot_list_getitem.lookup
   (wpAny_getItem_list_neg (Q:=λr s'=>r=w/\EP X Y σ Q r s') pl.isList () (by rw[fW]<;>omega) () (by rw[hj];simpa using ew) ⟨Z,fin⟩) hs
def a3m:IxR X (a0o X.K):=by
 intro value slice Y s σ H x y v u Q I rx ry h hs;let⟨p,xs,i,z,rfl,rfl,hq,he,q⟩:=h;cases rx;let⟨t,rfl⟩:=ry;let⟨bR,r,pl,hz⟩:=I.tuple hq;let⟨j,h1,h2,h3,h4,h5⟩:=N5 he;let⟨w,ew,Vj⟩:=r.get h2;let hl:=r.length;let hn:=Ho;let fin:EP X Y σ Q w s:=⟨z,H,I,Vj,q⟩;show subscriptTail_builtinR (x:=w) pl.typeIs slot_tuple_getitem.lookup
  (getItem_tuple (j:=j) (Q:=λr s'=>r=w/\EP X Y σ Q r s') pl () () (by rw[fW,<-hl];show h1) (by simpa using ew) ⟨Z,fin⟩) hs
def Vk(bR:aw)(n j:Nat)(u:Value):Obj.mapSeq (·.setIfInBounds j u) { cls:=.type "list",data:=.seq bR.toArray n}={ cls:=.type "list",data:=.seq (bR.set j u).toArray n}:=by
 simp[Obj.mapSeq]
def bD.lst{Y:aE}{σ:St}{H:Hp}{s:Shared}{p:Addr}{xs:af}(I:bD X Y σ H s)(h:H p=↥xs) :
  ∃(bR:aw) (n:Nat),cJ xs bR/\s^^^p=some { cls:=.type "list",data:=.seq bR.toArray n}/\xs.length<=sizeLine:=by
 let⟨z,bR,n,r,e⟩:=I.hok p _ h;show⟨bR,n,r,e,z⟩
def bD.a3n{H:Hp}{s:Shared}{p:Addr}{xs ys:af}{its':aw}{n':Nat}{f:Obj->Obj}(I:bD X Y σ H s)(h:H p=↥xs)
  (ho:s^^^p=some { cls:=.type "list",data:=.seq bR.toArray n}) (hf:f { cls:=.type "list",data:=.seq bR.toArray n}={ cls:=.type "list",data:=.seq its'.toArray n'}) (r:cJ ys its') (hz:ys.length<=sizeLine) (t:Nat) :
  bD X Y σ (cY H p (.lst ys)) { s with heap:=s.heap.update p f,toks:=t}:=by
 let e:(s.heap.update p f).get? p=some { cls:=.type "list",data:=.seq its'.toArray n'}:=by
  rw[yH f ho (by rw[hf]<;>rfl),hf]
 show I.write (x:=p) (e:=p) (by rw[h];trivial) (.inl Z) (λb u hb q=>(Mh _ _ (Ne.symm hb)).trans q) ⟨_,e⟩ ?_;show⟨hz,its',n',r,e⟩
inductive a5C(o:V)(i:V)(v:V)(H:Hp)(Q:Hp->Prop):Prop
 |mk (p xs k j:_) (_:o=.ref p) (_:i=.int k) (_:H p=↥xs) (_:Ρ xs.length k=some j) (_:Q (cY H p (.lst (xs.set j v))))
def set_list:a0d X a5C:=by
 intro Y s σ H o i v ov iv u Q I ro ri rv h;let⟨p,xs,k,j,rfl,rfl,hp,hj,q⟩:=h;cases ro;let⟨t,rfl⟩:=ri;let⟨bR,n,r,ho,hz⟩:=I.lst hp;let⟨h1,h2,h3,h4⟩:=Xh hj;let hl:=r.length;let hn:=Ho;let I':bD X Y σ (cY H p (.lst (xs.set j v))) (s•s.heap.update p (Obj.mapSeq (·.setIfInBounds j u))) :=
  I.a3n hp ho (Vk bR n j u) (r.set rv j) (by rw[List.length_set];show hz) s.toks
 by_cases h0:0<=k
 ·let hk:k.toNat=j:=by
   rw[seqIndex_of h0 h4]at h1;show dD h1
  show PySem.W.ki_setAt ho h0 () (by rw[fW,<-hl];show h4) (by rw[hk];show⟨_,I',q⟩)
 ·let hk:(k+(bR.toArray.size:Int)).toNat=j:=by
   rw[seqIndex_neg () h3]at h1;rw[fW,<-hl];show dD h1
  show PySem.W.ki_setBack ho () (by rw[fW,<-hl];show h3) () (by rw[hk];show⟨_,I',q⟩)
def N6(lo hi:Option Int)(n:Nat):(sliceBounds lo hi none n).1=((HT.jZ n 0 lo:Nat):Int)/\(sliceBounds lo hi none n).2.1=((HT.jZ n n hi:Nat):Int)/\(sliceBounds lo hi none n).2.2=1:=by
 show⟨?_,?_,Z⟩
 ·cases lo with
  |none=>simp[sliceBounds,HT.jZ]
  |some i =>
   simp only[sliceBounds,HT.jZ,Option.getD_none,show(1:Int)>0 by decide,if_true];by_cases h:i<0
   ·simp only[h,if_true]<;>omega
   ·simp only[h,if_false]<;>omega
 ·cases hi with
  |none=>simp[sliceBounds,HT.jZ]
  |some i =>
   simp only[sliceBounds,HT.jZ,Option.getD_none,show(1:Int)>0 by decide,if_true];by_cases h:i<0
   ·simp only[h,if_true]<;>omega
   ·simp only[h,if_false]<;>omega
def JF(bR:aw)(lo hi:Option Int):slicePick bR.toArray lo hi none=((bR.drop (HT.jZ bR.length 0 lo)).take (HT.jZ bR.length bR.length hi-HT.jZ bR.length 0 lo)).toArray:=by
 let⟨h1,h2,h3⟩:=N6 lo hi bR.toArray.size;unfold slicePick;rw[h1,h2,h3];simp only[sliceRange_one,pick_run,List.size_toArray]<;>rfl
inductive a7M(K:aJ)(x:V)(lo:Option Int)(hi:Option Int)(H:Hp)(Q:VK):Prop
 |mk (a xs:_) (_:x=.ref a) (_:bB K H a xs) (_:∀p,H p=none->Q (.ref p) (cY H p (.lst (uo xs lo hi))))
def a0q:SlR X (a7M X.K):=by
 intro Y s σ H x v vl vu lo hi sl Q I rx hs pl pu h;let⟨a,xs,rfl,hx,q⟩:=h;cases rx;let⟨bR,r,ht,hz⟩:=I.list hx;let hlen:=r.length;show⟨"list",_,slot_list_getitem.lookup,ht.isList.typeIs,?_⟩;show wpAny_getItem_list_slice ht.isList hs pl pu .none (by simp) ?_ (by rw[fW]<;>omega);rw[JF,<-hlen];show⟨.ref s⁻¹,_,I.laid (t':=s.toks) (o:=.lst (uo xs lo hi)) (λb ob q=>bL _ q) (aK _) ⟨cF (Eb xs lo hi) hz,_,0,(r.drop (HT.jZ xs.length 0 lo)).take (HT.jZ xs.length xs.length hi-HT.jZ xs.length 0 lo),b7 _ Z⟩,Z,q _ (I.hok.fresh (aK _))⟩
noncomputable def Ac:V->Bool
 |.non=>true
 |.bl _=>true
 |.int _=>true
 |.str _=>true
 |_=>false
noncomputable def Τ:V->V->Bool
 |.non,.non=>true
 |.bl a,.bl b=>a==b
 |.bl a,.int b=>(if a then 1 else 0)==b
 |.int a,.bl b=>a==(if b then 1 else 0)
 |.int a,.int b=>a==b
 |.str a,.str b=>a==b
 |_,_=>false
def a3o{A:Around}{s:Shared}{y x:V}{u v:Value}(ry:cX y u)(rx:cX x v)(fy:Ac y=true)(fx:Ac x=true):SeqAt.EqAt A s u v (Τ y x):=by
 cases y with
 |non =>
  cases ry;cases x with
  |non=>cases rx;show SeqAt.EqAt.same _
  |bl b=>cases rx;show SeqAt.EqAt.none_bool b
  |int b=>let⟨t,rfl⟩:=rx;show SeqAt.EqAt.none_int b t
  |str b=>let⟨t,rfl⟩:=rx;show SeqAt.EqAt.none_str b t
  |_=>show absurd (show false=true from fx) cL
 |bl a =>
  cases ry;cases x with
  |non=>cases rx;show SeqAt.EqAt.bool_none a
  |bl b=>cases rx;show SeqAt.EqAt.bool_bool a b
  |int b=>let⟨t,rfl⟩:=rx;show SeqAt.EqAt.bool_int a b t
  |str b=>let⟨t,rfl⟩:=rx;show SeqAt.EqAt.bool_str a b t
  |_=>show absurd (show false=true from fx) cL
 |int a =>
  let⟨t',rfl⟩:=ry;cases x with
  |non=>cases rx;show SeqAt.EqAt.int_none a t'
  |bl b=>cases rx;show SeqAt.EqAt.int_bool a t' b
  |int b=>let⟨t,rfl⟩:=rx;show SeqAt.EqAt.int_int a t' b t
  |str b=>let⟨t,rfl⟩:=rx;show SeqAt.EqAt.int_str a t' b t
  |_=>show absurd (show false=true from fx) cL
 |str a =>
  let⟨t',rfl⟩:=ry;cases x with
  |non=>cases rx;show SeqAt.EqAt.str_none a t'
  |bl b=>cases rx;show SeqAt.EqAt.str_bool a t' b
  |int b=>let⟨t,rfl⟩:=rx;show SeqAt.EqAt.str_int a t' b t
  |str b=>let⟨t,rfl⟩:=rx;show SeqAt.EqAt.str_str a t' b t
  |_=>show absurd (show false=true from fx) cL
 |_=>show absurd (show false=true from fy) cL
def Vl(x:V)(u:Value):Bool:=match u with
 |.none=>Τ .non x
 |.bool b=>Τ (.bl b) x
 |.int i _=>Τ (.int i) x
 |.str z _=>Τ (.str z) x
 |_=>false
def ø{x y:V}{u:Value}(r:cX y u)(f:Ac y=true):Vl x u=Τ y x:=by
 cases y with
 |non=>cases r;rfl
 |bl b=>cases r;rfl
 |int i=>let⟨t,rfl⟩:=r;rfl
 |str z=>let⟨t,rfl⟩:=r;rfl
 |_=>show absurd (show false=true from f) cL
def FN{x:V}{xs:af}(h:cJ xs us)(f:xs.all Ac=true):us.any (Vl x)=xs.any λy=>Τ y x:=by
 induction h with
 |nil=>rfl
 |cons r t ih =>
  rw[Ux,fU]at f;rw[oO,oO,ø r f.1,ih f.2]
def Ad{A:Around}{s:Shared}{x:V}{v:Value}(rx:cX x v)(fx:Ac x=true){xs:af}(h:cJ xs us)(f:xs.all Ac=true):∀u∈us,SeqAt.EqAt A s u v (Vl x u):=by
 induction h with
 |nil=>intro u hu;cases hu
 |cons r t ih =>
  intro u' hu;rw[Ux,fU]at f;rcases bQ.mp hu with rfl|hu
  ·rw[ø r f.1];show a3o r rx f.1 fx
  ·show ih f.2 u' hu
def inV(x:V)(xs:af):Bool:=xs.any λy=>Τ y x
inductive rIn(K:aJ)(neg:Bool)(x:V)(y:V)(H:Hp)(Q:VK):Prop
 |mk (p xs:_) (_:y=.ref p) (_:(bB K H p xs\/cN K H p xs)) (_:Ac x=true) (_:xs.all Ac=true) (_:Q (.bl (if neg then !inV x xs else inV x xs)) H)
def YG:rA X (compareOp .In) (rIn X.K false):=by
 intro Y s σ H x y v u Q I rx ry h;let⟨p,xs,rfl,hq,fx,fs,q⟩:=h;cases ry;rcases hq with hq|hq
 ·let⟨bR,r,pl,hz⟩:=I.list hq;show SeqAt.in_listAt (Vl x) pl.isList (λw hw=>Ad rx fx r fs w (by simpa using hw)) ⟨.bl _,H,I,Z,?_⟩;rw[show bR.toArray.any (Vl x)=bR.any (Vl x) by simp,FN r fs];show q
 ·let⟨bR,r,pl,hz⟩:=I.tuple hq;show SeqAt.in_tupleAt (Vl x) pl (λw hw=>Ad rx fx r fs w (by simpa using hw)) ⟨.bl _,H,I,Z,?_⟩;rw[show bR.toArray.any (Vl x)=bR.any (Vl x) by simp,FN r fs];show q
def N7:rA X (compareOp .NotIn) (rIn X.K true):=by
 intro Y s σ H x y v u Q I rx ry h;let⟨p,xs,rfl,hq,fx,fs,q⟩:=h;cases ry;rcases hq with hq|hq
 ·let⟨bR,r,pl,hz⟩:=I.list hq;show SeqAt.notIn_listAt (Vl x) pl.isList (λw hw=>Ad rx fx r fs w (by simpa using hw)) ⟨.bl _,H,I,Z,?_⟩;rw[show bR.toArray.any (Vl x)=bR.any (Vl x) by simp,FN r fs];show q
 ·let⟨bR,r,pl,hz⟩:=I.tuple hq;show SeqAt.notIn_tupleAt (Vl x) pl (λw hw=>Ad rx fx r fs w (by simpa using hw)) ⟨.bl _,H,I,Z,?_⟩;rw[show bR.toArray.any (Vl x)=bR.any (Vl x) by simp,FN r fs];show q
def N8:jx X (.builtin "len") (λxs H Q=>∃p ys,xs=[.ref p]/\(bB X.K H p ys\/cN X.K H p ys)/\Q (.int ys.length) H):=by
 intro Y s σ H xs us Q I r h;let⟨p,ys,rfl,hq,q⟩:=h;let⟨u,rfl,rx⟩:=vals1 r;cases rx;let hn:=Ho;rcases hq with hq|hq
 ·let⟨bR,r',pl,hz⟩:=I.list hq;let hlen:=r'.length;show Calls.call_len_list pl.isList (by simp only[List.size_toArray]<;>omega) ⟨.int ys.length,H,I.tok _,⟨s.toks+1,by rw[fW,hlen]⟩,q⟩
 ·let⟨bR,r',pl,hz⟩:=I.tuple hq;let hlen:=r'.length;show len_tuple pl (by simp only[List.size_toArray]<;>omega) ⟨.int ys.length,H,I.tok _,⟨s.toks+1,by rw[fW,hlen]⟩,q⟩
def Oa:jx X (.type "list") (λxs H Q=>∃p ys,xs=[.ref p]/\(bB X.K H p ys\/cN X.K H p ys)/\∀l,H l=none->Q (.ref l) (cY H l (.lst ys))):=by
 intro Y s σ H xs us Q I r h;let⟨p,ys,rfl,hq,q⟩:=h;let⟨u,rfl,rx⟩:=vals1 r;cases rx;let fin:∀(bR:aw),cJ ys bR->ys.length<=sizeLine->∀(h':Heap) (c':Nat),(∀b o',s^^^b=some o'->h'.get? b=some o')->
   h'.get? s⁻¹=some { cls:=.type "list",dict:=none,data:=.seq bR.toArray c',slots:=#[]}->EP X Y σ Q (.ref s⁻¹) (s•h'):=λbR r' hz h' c' kp e =>
  ⟨.ref s⁻¹,_,I.laid (t':=s.toks) kp (aK _) (show fC X.prog X.w _ h' _ (.lst ys)from⟨hz,bR,c',r',e⟩),Z,q _ (I.hok.fresh (aK _))⟩
 rcases hq with hq|hq
 ·let⟨bR,r',pl,hz⟩:=I.list hq;let hlen:=r'.length;let⟨o,ho,hc,n,hd⟩:=pl.isList;show call_list_seq p (.inl Z) ho hc hd (λh' c' kp e=>fin bR r' hz h' c' kp e) (by simp only[List.size_toArray]<;>omega)
 ·let⟨bR,r',pl,hz⟩:=I.tuple hq;let hlen:=r'.length;let⟨o,ho,hc,n,hd⟩:=pl;show call_list_seq p (.inr Z) ho hc hd (λh' c' kp e=>fin bR r' hz h' c' kp e) (by simp only[List.size_toArray]<;>omega)
def uq:jx X (.type "tuple") (λxs H Q=>∃p ys,xs=[.ref p]/\((bB X.K H p ys/\∀l,H l=none->Q (.ref l) (cY H l (.tup ys)))\/(cN X.K H p ys/\Q (.ref p) H))):=by
 intro Y s σ H xs us Q I r h;let⟨p,ys,rfl,h⟩:=h;let⟨u,rfl,rx⟩:=vals1 r;cases rx;rcases h with⟨hq,q⟩|⟨hq,q⟩
 ·let⟨bR,r',pl,hz⟩:=I.list hq;let hlen:=r'.length;show call_tuple_list pl.isList (λh' kp=>?_) (by simp only[List.size_toArray]<;>omega);let I1:bD X Y σ H (s•h'):=I.kept (t':=s.toks) kp;let I2:bD X Y σ (cY H h'.objs.size (.tup ys)) (s•h'.push { cls:=.type "tuple",data:=.seq bR.toArray}) :=
   I1.laid (t':=s.toks) (λb o e=>bL _ e) (aK _) (show fC X.prog X.w _ _ _ (.tup ys)from⟨hz,bR,r',IsTup.new _ _⟩)
  show⟨.ref h'.objs.size,_,I2,Z,q _ (I1.hok.fresh (aK _))⟩
 ·let⟨bR,r',pl,hz⟩:=I.tuple hq;show call_tuple_same pl ⟨.ref p,H,I,Z,q⟩
def tyV(K:aJ)(T:String)(x:V)(H:Hp):Prop:=match x with
 |.str _=>T = "str"
 |.int _=>T = "int"
 |.ref p=>(T = "list" /\∃xs,bB K H p xs)\/(T = "tuple" /\∃o,K.lookup p=some o/\o.cls=.type "tuple" /\o.dict=none)\/
   (T = "dict" /\((∃J,H p=some (.dK J))\/∃J,H p=some (.dT J)))\/(T = "set" /\∃S n,H p=some (.set S n))
 |_=>False
def ù{H:Hp}{s:Shared}{T:String}{x:V}{v:Value}(I:bD X Y σ H s)(r:cX x v)(ty:tyV X.K T x H) :
  s.TypeIs v T/\∀a,v=.ref a->∃ob,s^^^a=some ob/\ob.dict=none:=by
 cases x with
 |str z =>
  let⟨t,rfl⟩:=r;cases(show T = "str" from ty);show⟨typeIs_str s z t,λ_ e=>nomatch e⟩
 |int i =>
  let⟨t,rfl⟩:=r;cases(show T = "int" from ty);show⟨typeIs_int s i t,λ_ e=>nomatch e⟩
 |ref p =>
  cases r;rcases ty with⟨rfl,xs,hq⟩|⟨rfl,o,hk,hc,hd⟩|⟨rfl,hk⟩|⟨rfl,S,n,hk⟩
  ·let⟨bR,_,pl,_⟩:=I.list hq;show⟨pl.isList.typeIs,λa e=>?_⟩;cases e;let⟨o,n,e,c,hd,_⟩:=pl;show⟨o,e,hd⟩
  ·show⟨⟨o,I.Cj p o hk,hc⟩,λa e=>?_⟩;cases e;show⟨o,I.Cj _ o hk,hd⟩
  ·let z:∃o,s^^^p=some o/\o.ExactDict:=by
    rcases hk with⟨J,hk⟩|⟨J,hk⟩
    ·let⟨_,_,_,_,o,_,_,e,ex,_⟩:=I.hok p _ hk;show⟨o,e,ex⟩
    ·let⟨_,_,_,_,o,_,_,e,ex,_⟩:=I.hok p _ hk;show⟨o,e,ex⟩
   let⟨o,e,ex⟩:=z;show⟨⟨o,e,ex.1⟩,λa e2=>?_⟩;cases e2;show⟨o,e,ex.2.1⟩
  ·let⟨o,_,_,_,e,ex,_⟩:=I.hok p _ hk;show⟨⟨o,e,ex.1⟩,λa e2=>?_⟩;cases e2;show⟨o,e,ex.2.1⟩
 |_=>show False.elim ty
def a5D(K:aJ)(T:String)(r:V->af->Hp->VK->Prop)(to:TE):TE:=λσ H Q=>to σ H λx H1=>tyV K T x H1/\r x [] H1 Q
def tBM(K:aJ)(T:String)(r:V->af->Hp->VK->Prop)(to:TE)(t:TA):TE:=λσ H Q=>to σ H λx H1=>tyV K T x H1/\t σ H1 λxs H2=>r x xs H2 Q
variable{o e:Expr}{es:ba}{to:TE}{t:TA}{name:Str}{apos cpos:Pos}{T id:String}{r:V->af->Hp->VK->Prop}
def a3p(pa:PlainAttrs T)(slot:Slot T name id)(hty:typeOf (.builtin id)=pure (.type "method_descriptor"))(hm:MtR X id r)(ho:PE X o to)
  (hbase:@&(attributeBase o name X.env (eval o X.env)=eval o X.env)) (hline:@&((apos.endLine==cpos.line)=true)):PE X (.Call (.Attribute o name apos) [] [] cpos) (a5D X.K T r to):=by
 intro Y s σ H Q I h;show wpAny_Call_method0_late hbase hline (jC (ho Y s σ H _ I h) λv s1 ⟨x,H1,I1,r1,ty,q1⟩=>?_);let⟨h1,h2⟩:=ù I1 r1 ty;show⟨T,id,pa,slot,hty,h1,h2,S9 Z (PySem.evalArgs_none (hm Y s1 σ H1 x [] v [] Q I1 r1 .nil q1))⟩
def a5E(pa:PlainAttrs T)(slot:Slot T name id)(hty:typeOf (.builtin id)=pure (.type "method_descriptor"))(hm:MtR X id r)(ho:PE X o to)(ha:PA X (e::es) t)
  (hbase:@&(attributeBase o name X.env (eval o X.env)=eval o X.env))
  (hfew:@&(((backTo cpos (starEach (e::es) X.env)).all (λx=>!x.1)&&(backToKw cpos (keywordEach [] X.env)).all (λx=>x.1.isSome)
   && decide ((e::es).length+([]:List Keyword).length+(if([]:List Keyword).isEmpty then 0 else 1)<30))=true))
  (hline:@&((apos.endLine==cpos.line)=true)) (hs:@&(starEach (e::es) X.env=(false,eval e X.env)::starEach es X.env)) (hplain:@&((backTo cpos (starEach es X.env)).any (·.1)=false)) :
  PE X (.Call (.Attribute o name apos) (e::es) [] cpos) (tBM X.K T r to t):=by
 intro Y s σ H Q I h;show wpAny_Call_method_late hbase hfew hline Z (jC (ho Y s σ H _ I h) λv s1 ⟨x,H1,I1,r1,ty,q1⟩=>?_);let⟨h1,h2⟩:=ù I1 r1 ty;show⟨T,id,pa,slot,hty,h1,h2,?_⟩;let hA:=ha cpos Y s1 σ H1 _ I1 q1;rw[hs]at hA ⊢;show S9 (by show(false||(backTo cpos (starEach es X.env)).any (·.1))=false;rw[hplain]<;>rfl) (Calls.evalArgs_plain ?_);show jC hA λus s2 ⟨vs,H2,I2,r2,q2⟩=>hm Y s2 σ H2 x vs v us Q I2 r1 r2 q2
end
def PL(X:Cx)(id:String)(r:V->af->Hp->VK->Prop):Prop :=
 ∀(Y:aE) (s:Shared) (σ:St) (H:Hp) (x:V) (xs:af) (v:Value) (us:aw) (Q:VK),bD X Y σ H s->cX x v->cJ xs us->r x xs H Q->
  wpAny (model X.prog X.w) X.A (call (.builtin id) (v::us)) (EP X Y σ Q) X.xe s
def cJ.gW{x:V}(h:cJ [x] us):∃u,us=[u]/\cX x u:=by
 cases h with
 |cons r t =>
  cases t;show⟨_,Z,r⟩
def cJ.zero:∀{us:aw},cJ [] us->us=[]
 |_,.nil=>rfl
def cJ.dropLast{xs:af}{us:aw}(h:cJ xs us):cJ xs.dropLast us.dropLast:=by
 induction h with
 |nil=>show .nil
 |cons r t ih =>
  cases t with
  |nil=>show .nil
  |cons q t'=>show .cons r ih
def Vm(l:List α):l.eraseIdx (l.length-1)=l.dropLast:=by
 induction l with
 |nil=>rfl
 |cons a r ih =>
  cases r with
  |nil=>rfl
  |cons b r =>
   let e:(a::b::r).length-1=((b::r).length-1)+1:=by
    let h1:(a::b::r).length=r.length+2:=rfl;let h2:(b::r).length=r.length+1:=rfl;omega
   rw[e,List.eraseIdx_cons_succ,ih];all_goals rfl
section
variable{H:Hp}{s:Shared}{l b:Addr}{xs ys zs:af}
def bD.a3q{its':aw}{f:Array Value->Array Value}{t':Nat}(I:bD X Y σ H s)(hH:H l=↥xs)
  (e:s^^^l=some { cls:=.type "list",data:=.seq bR.toArray n}) (hf:f bR.toArray=its'.toArray) (hv:cJ ys its') (hz:ys.length<=sizeLine) :
  bD X Y σ (cY H l (.lst ys)) { s with heap:=s.heap.update l (Obj.mapSeq f),toks:=t'}:=by
 let q:=PySem.IsL.update e f;rw[hf]at q;show I.write (x:=l) (e:=l) (by rw[hH];show trivial) (.inl Z) (λb' u hb hu=>(Mh s.heap (Obj.mapSeq f) (Ne.symm hb)).trans hu) ⟨_,q⟩ ?_;show⟨hz,its',_,hv,q⟩
def bD.a7N{t':Nat}(I:bD X Y σ H s)(hv:cJ ys bR)(hz:ys.length<=sizeLine) :
  bD X Y σ (cY H s⁻¹ (.lst ys)) { s with heap:=s.heap.push { cls:=.type "list",data:=.seq bR.toArray},toks:=t'} :=
 I.laid (λ_ _ q=>bL _ q) (aK _) ⟨hz,bR,0,hv,b7 _ Z⟩
def bD.fresh(I:bD X Y σ H s):H s⁻¹=none:=I.hok.fresh (aK _)
def bD.Vn(I:bD X Y σ H s)(hH:H l=↥xs):xs.length<=sizeLine/\∃(bR:aw) (n:Nat),cJ xs bR/\xs.length=bR.length/\s^^^l=some { cls:=.type "list",data:=.seq bR.toArray n}:=by
 let⟨z,bR,n,r,e⟩:=I.hok l _ hH;show⟨z,bR,n,r,r.length,e⟩
end
inductive a0r(x:V)(vs:af)(H:Hp)(Q:VK):Prop
 |mk (l xs y:_) (_:x=.ref l) (_:vs=[y]) (_:H l=↥xs) (_:xs.length<sizeLine) (_:Q .non (cY H l (.lst (xs++[y]))))
def YH:PL X "list.append" a0r:=by
 intro Y s σ H x vs v us Q I rx rv h;let⟨l,xs,y,rfl,rfl,hH,hz,q⟩:=h;cases rx;let⟨u,rfl,ru⟩:=rv.gW;let⟨z,bR,n,r,hl,e⟩:=I.Vn hH;show yQ F.slot_list_append ⟨_,e,Z⟩ F.entry_list_append (F.args_list_append_2 _ _) (PySem.list_append l bR.toArray n u (by rw[List.size_toArray];omega)) ⟨e,?_⟩;show⟨.non,_,I.a3q (its':=bR++[u]) hH e (by simp) (r.append (.cons ru .nil)) ?_,Z,q⟩;rw[bO,Ck];omega
inductive a7O(x:V)(vs:af)(H:Hp)(Q:VK):Prop
 |mk (l xs y:_) (_:x=.ref l) (_:vs=[]) (_:H l=↥xs) (_:xs[xs.length-1]?=some y) (_:Q y (cY H l (.lst xs.dropLast)))
def a3r:PL X "list.pop" a7O:=by
 intro Y s σ H x vs v us Q I rx rv h;let⟨l,xs,y,rfl,rfl,hH,hy,q⟩:=h;cases rx;let hus:=rv.zero;subst hus;let⟨z,bR,n,r,hl,e⟩:=I.Vn hH;let⟨u,hu,ru⟩:=r.get hy;let hy':bR.toArray[bR.toArray.size-1]?=some u:=by
  show bR.toArray[bR.length-1]?=some u;rw[<-Gz,<-hl];show hu
 show yQ F.slot_list_pop ⟨_,e,Z⟩ F.entry_list_pop (F.args_list_pop_1 _) (MeetsSeq.list_pop_last l bR.toArray n u hy' (by rw[fW];omega)) ⟨e,?_⟩;show⟨y,_,I.a3q (its':=bR.dropLast) hH e ?_ r.dropLast ?_,ru,q⟩
 ·show bR.toArray.eraseIdxIfInBounds (bR.toArray.size-1)=bR.dropLast.toArray;rw[fW,List.eraseIdxIfInBounds_toArray,Vm]
 ·rw[Tw];omega
inductive a7P(x:V)(y:V)(H:Hp)(Q:VK):Prop
 |mk (l b xs zs:_) (_:x=.ref l) (_:y=.ref b) (_:H l=↥xs) (_:H b=↥zs) (_:xs.length+zs.length<=sizeLine) (_:∀p,H p=none->Q (.ref p) (cY H p (.lst (xs++zs))))
def a3s:rA X (binaryOp .Add) a7P:=by
 intro Y s σ H x y v u Q I rx ry h;let⟨l,b,xs,zs,rfl,rfl,hH,hB,hz,q⟩:=h;cases rx;cases ry;let⟨z,bR,n,r,hl,e⟩:=I.Vn hH;let⟨z2,its2,n2,r2,hl2,e2⟩:=I.Vn hB;show PySem.P.add_list e e2 ?_ (by rw[fW,fW];omega);let ea:bR.toArray++its2.toArray=(bR++its2).toArray:=by simp
 rw[ea];show⟨.ref _,_,I.a7N (t':=s.toks) (r.append r2) (by rw[List.length_append];omega),Z,q _ I.fresh⟩
end L2
namespace Att
open PySem.W PySem.Calls PyProof.Rows
def Fe{P:Params}{h:Heap}:∀(ns:ae) (vs:aw),WellAll P h vs (ns.map WData.int)->IntsAre vs ns:=by
 intro ns
 induction ns with
 |nil =>
  intro vs w;rw[List.map_nil]at w;cases w;show .nil
 |cons n ns ih =>
  intro vs w;rw[b8]at w;cases w with
  |cons a b =>
   cases a;show .cons _ _ (ih _ b)
def YJ{l : OpenLaw}{n : Nat}(hn : l.most = some n){P : Params}{h : Heap}{args : List WData}{vals : aw}
    (hpre : l.row.toRowW.claim.pre args = true) (hwl : WellAll P h vals args) :
    ∃ a vs ns, vals = [Value.ref a] ∧ args = [WData.list (ns.map WData.int)] ∧ h.get? a = some { cls := .type "list", data := .seq vs.toArray } ∧ IntsAre vs ns ∧ ns.length ≤ n := by
  let hsh : WShape.hasAll [] args [.list .int] = true := (pre_splitW hpre).1;let hc : l.pre.holds [] { args := args } = true := (pre_splitW hpre).2;let⟨d, r, rfl, h1, h2⟩ := hasAllW_cons hsh;obtain rfl := hasAllW_nil h2;let⟨xs, rfl, h3⟩ := hasW_list h1;let⟨ns, rfl⟩ := items_int h3;let hlen : ns.length ≤ n := by
    unfold OpenLaw.pre at hc;let h4 : (WTm.not (.lt (.lit (.int (n : Int))) (.len (.arg 0)))).holds [] { args := [.list (ns.map .int)] } = true := by
      let h4 := (holds_andW hc).1;rw [hn] at h4;show h4
    let h5 := condW_of h4 (w_not (w_lt w_lit (w_len_list (w_arg Z))));rw [aH] at h5;show Nat.le_of_not_lt fun q => ?_;let q' : (n : Int) < ((ns.length : Nat) : Int) := by omega
    first
      | (rw [aR q'] at h5; show absurd h5 ())
      | (simp at h5; omega)
  cases hwl with
  | cons w1 w2 =>
    cases w2;cases w1 with
    | list ho hall => show ⟨_, _, ns, Z, Z, ho, Fe ns _ hall, hlen⟩
def YK(l : OpenLaw)(args : List WData) : l.row.toRowW.claim.post args (.bool true) args = true :=
  postW_of (r := l.row.toRowW) (X := (true == true))
    (show WShape.has [] (.bool true) .bool = true by first | rfl | decide | simp [WShape.has, WShape.arms, WShape.armsAll])
    (show (WTm.eq .res (.lit (.bool true))).value [] { args := args, res := some (.bool true), after := args } = some (.bool (true == true)) from w_eq_bool (w_res Z) w_lit) rfl
def Qj{l:OpenLaw}{n:Nat}{q:Program}{loose:ag}{XP:(Str->Option Value)->Heap->Prop}{YP:World->Heap->Prop}{d:DefRec}
  (hn:l.most=some n) (hdf:d.params.defaults=[])
  (call:∀(w:World) (s₀ s₁:Shared) (mg mb:Str->Option Value) (fa:Addr) (o:Obj) (pm cd doc:Value) (a:Addr) (vs:aw) (ns:ae),
   Ground q loose [] XP w s₀ mg mb s₁.heap->YP w s₁.heap->
   s₁^^^fa=some o->o.data=.func (docDef d.name d.params d.body d.scope pm cd doc)->s₁.heap.CodeRec cd d.name->mg d.name=⇑fa->
   s₁^^^a=some { cls:=.type "list",data:=.seq vs.toArray}->IntsAre vs ns->ns.length<=n->s₁.gens = #[]->
   codeAny (model l.prog w) callerA (.call (.ref fa) ⟨[.ref a],[]⟩) (λr s'=>r=.ok (.ret (.bool true))/\OldK s₁.heap s'.heap/\s'.os=s₁.os/\AllBare s'.gens) s₁) :
  WalkO q loose XP YP l.row.toRowW d [] (λf vs=>PySem.call f vs):=by
 intro w s₀ s₁ mg mb G Z99 fa o pm cd doc dV kV ho hd hcd hD hmg hg args vals as hpre hlay hrd hwl hlo;obtain rfl:dV=.none:=Dflts.none hD hdf;obtain rfl:kV=.none:=Dflts.noKw hD;let⟨a,vs,ns,rfl,rfl,hobj,hints,hlen⟩:=YJ hn hpre hwl;show enter_call (CN (call w s₀ s₁ mg mb fa o pm cd doc a vs ns G Z99 ho (fd_plain hd) hcd hmg hobj hints hlen hg) λr s' hq=>?_);let⟨rfl,h2,h3,h4⟩:=hq;show⟨.inl ⟨.bool true,.bool true,[],Z,λ_=>rfl,.bool true,YK l _,λ_=>⟨List.Pairwise.nil,λ_ hm=>(nomatch hm)⟩⟩,h2,h3,h4⟩
end Att
namespace L2
open PyProof.Rows
variable{X:Cx}{σ:St}{ix:List (Option Nat)}{x qual:Str}{Y:aE}{a it:Addr}{n k:Nat}{scope:Scope}{g:TG}{tt:TT}{te:TE}{pos:Pos}{H1 H':Hp}{Q:VK}{o:HO}{N':ag}{tg elt iter:Expr}{w:World}{fd:FuncData}{A B:Prop}{R:Result->Shared->Prop}{ifs es:ba}{r:V->af->Hp->VK->Prop}
def Km:∀{vs:aw}{ns:ae},IntsAre vs ns->cJ (ns.map V.int) vs
 |_,_,.nil=>.nil
 |_,_,.cons n t h=>.cons ⟨t,Z⟩ (Km h)
def Only(H:Hp):Prop:=∀b,H b=none\/∃o xs,H b=some (.iK o (.lst xs))
def ú{P:Program}{K:aJ}{mg mb:Str->Option Value}{CX:Ss}{fa:Addr}{sp:Sp}{s₁:Shared}{vs:aw}{ns:ae}
  (KX:K.In s₁.heap) (hns:s₁.heap.Ns mainGlobals mg) (hb:s₁.heap.Ns builtinsNs mb) (hbb:∀x:Str,x≠ "__name__" ->mb x=bootBuiltins x) (hlim:s₁.heap.NoLimit) (hg:s₁.gens = #[])
  (ha:s₁^^^a=some { cls:=.type "list",data:=.seq vs.toArray}) (hi:IntsAre vs ns) (hl:ns.length<=sizeLine) (hr:qO k callerA)
  (F:∀base:Heap,K.In base->base.Ns mainGlobals mg->bF P w K mg base CX k fa fd [x] sp) (hbind:∀(s:Shared) (u:Value),BindsTo s fd ⟨[u],[]⟩ [(x,u)])
  (hsp:∀H:Hp,Only H->bB K H a (ns.map V.int)->sp [.ref a] H (λv _=>v=.bl true) λ_ _ _=>False)
  (hCX:∀H e s',CX [] H s₁ (λ_ _ _=>False) e s'->False) :
  codeAny (model P w) callerA (.call (.ref fa) ⟨[.ref a],[]⟩) (λr s'=>r=.ok (.ret (.bool true))/\OldK s₁.heap s'.heap/\s'.os=s₁.os/\AllBare s'.gens) s₁:=by
 let rv:=Km hi;let lenV:=hi.length;let core:∀H:Hp,Only H->bB K H a (ns.map V.int)->xQ P w H s₁.heap->(∀b,H b≠none->b=a)->(H a≠none->K.lookup a=none)->
   codeAny (model P w) callerA (.call (.ref fa) ⟨[.ref a],[]⟩) (λr s'=>r=.ok (.ret (.bool true))/\OldK s₁.heap s'.heap/\s'.os=s₁.os/\AllBare s'.gens) s₁:=by
  intro H hO hS hok hA hK;let Xi:∀{b:Addr}{o:Obj},s₁^^^b=some o->H b=none->(NK s₁.heap H).get? b=some o:=λe n=>á e n;let noA:∀{b:Addr}{o:Obj}{es:Array DictEntry}{ep:Nat},s₁^^^b=some o->o.data=.dict es ep->H b=none:=λ{b o es ep} e d=>by
   cases q:H b with
   |none=>rfl
   |some u =>
    let e':b=a:=hA b (by rw[q];simp);subst e';rw[ha]at e;cases e;let d':Data.seq vs.toArray _=Data.dict es ep:=d;cases d'
  let nsK:∀{b:Addr}{m:Str->Option Value},s₁.heap.Ns b m->(NK s₁.heap H).Ns b m:=λ{b m} ⟨o,es,ep,e,d,r⟩=>⟨o,es,ep,Xi e (noA e d),d,r⟩;let hKb:K.In (NK s₁.heap H):=λb o e=>Xi (KX b o e) (by
   cases q:H b with
   |none=>rfl
   |some u =>
    let e':b=a:=hA b (by rw[q];simp);subst e';rw[hK (by rw[q];simp)]at e;cases e)
  let hM:Mod K mg (NK s₁.heap H):=⟨hKb,nsK hns,⟨mb,nsK hb,hbb⟩,let⟨mc,h1,h2⟩:=hlim;⟨mc,nsK h1,h2⟩⟩;let e0:Vd P w K mg (NK s₁.heap H) callerA [] s₁ H:=⟨Z,hM,λb o e=>a0a e,Nt (Yv _ _),trivial,λb hb=>absurd (show b∈([]:aI)from hb) (by simp),hok,.of_eq hg⟩;show CN ((F _ hKb (nsK hns)).run callerA [] s₁ H ⟨[.ref a],[]⟩ [.ref a] [.ref a] _ _ hr e0 (hbind s₁ (.ref a)) (.cons Z .nil) (hsp H hO hS)) λr s' h=>?_;cases r with
  |error e=>show(hCX H e s' h).elim
  |ok fl =>
   cases fl with
   |next=>show False.elim h
   |brk=>show False.elim h
   |cont=>show False.elim h
   |ret u =>
    let⟨v,H',os,bare,un,hok',r',q⟩:=h;let q':v=.bl true:=q;subst q';obtain rfl:u=Value.bool true:=r';show⟨Z,OldK.of_keep λb o e=>?_,os,bare⟩;cases q:H b with
    |none=>show un.keep b o e q (by intro z;show absurd (show b∈([]:aI)from z) (by simp)) (by simp)
    |some u =>
     rcases hO b with z|⟨ob,xs,z⟩
     ·rw[q]at z;cases z
     ·let z2:=un.Hi b ob _ z;let⟨e1,_⟩:=hok b _ z;let⟨e2,_⟩:=hok' b _ z2;rw[e]at e1;cases e1;show e2
 cases hk:K.lookup a with
 |some o =>
  let e:=KX a o hk;rw[ha]at e;cases e;show core (λ_=>none) (λ_=>.inl Z) (.inr ⟨_,vs.toArray,_,hk,Z,Z,Z,by rw[fW,lenV];show hl,by simpa using rv⟩) (λb u z=>by let z':(none:Option HO)=some u:=z;cases z') (λb z=>absurd Z z) λz=>absurd Z z
 |none =>
  show core (λb=>if b=a then some (.iK { cls:=.type "list",data:=.seq vs.toArray} (.lst (ns.map V.int)))else none) (λb=>?_) (.inl (.inr ⟨{ cls:=.type "list",data:=.seq vs.toArray},aB Z⟩)) (λb u z=>?_) (λb z=>?_) λ_=>hk
  ·by_cases hb:b=a
   ·show .inr ⟨_,_,aB hb⟩
   ·show .inl (aA hb)
  ·by_cases hb:b=a
   ·let z':=(aB hb).symm.trans z;cases z';subst hb;show⟨ha,by rw[aH];show hl,vs,_,rv,ha⟩
   ·let z':=(aA hb).symm.trans z;cases z'
  ·by_cases hb:b=a
   ·show hb
   ·show absurd (aA hb) z
abbrev KOf{K:aJ}{h:Heap}(_:K.In h):aJ:=K
def a0s{l:PySem.W.OpenLaw}{q:Program}{loose:ag}{XP:(Str->Option Value)->Heap->Prop}{YP:World->Heap->Prop}{d:DefRec}{K:Params->aJ}{CX:World->Ss}{sp:World->Sp}
  (hn:l.most=some n) (hn2:n<=sizeLine) (hdf:d.params.defaults=[]) (hr:qO k callerA)
  (hY:∀(w:World) (h:Heap),YP w h->(K w.params).In h)
  (F:∀(w:World) (mg:Str->Option Value) (fa:Addr) (h:Heap),(K w.params).In h->h.Ns mainGlobals mg->mg d.name=⇑fa->
   ∃fd:FuncData,(∀(s:Shared) (u:Value),BindsTo s fd ⟨[u],[]⟩ [(x,u)])/\
    ∀base:Heap,(K w.params).In base->base.Ns mainGlobals mg->bF l.prog w (K w.params) mg base (CX w) k fa fd [x] (sp w))
  (hsp:∀(w:World) (H:Hp) (a:Addr) (ns:ae),ns.length<=n->Only H->bB (K w.params) H a (ns.map V.int)->sp w [.ref a] H (λv _=>v=.bl true) λ_ _ _=>False)
  (hCX:∀(w:World) (H:Hp) (s:Shared) (e:Value) (s':Shared),CX w [] H s (λ_ _ _=>False) e s'->False) :
  PySem.W.WalkO q loose XP YP l.row.toRowW d [] (λf vs=>PySem.call f vs):=by
 show Att.Qj hn hdf λw s₀ s₁ mg mb fa o pm cd doc a vs ns G Z99 ho hd hcd hmg hobj hints hlen hg=>?_;let KX:=hY w _ Z99;let⟨fd,hb,hF⟩:=F w mg fa _ KX G.T.g hmg;show ú KX G.T.g G.T.b G.T.builtins G.T.nolimit hg hobj hints (cF hlen hn2) hr hF hb (λH hO hS=>hsp w H a ns hlen hO hS) λH e s'=>hCX w H s₁ e s'
def û{l:PySem.W.OpenLaw}{q:Program}{loose:ag}{XP:(Str->Option Value)->Heap->Prop}{YP:World->Heap->Prop}{d:DefRec}{K:Params->aJ}{CX:Ss}{sp:aJ->Sp}
  (hn:l.most=some n) (hn2:n<=sizeLine) (hdf:d.params.defaults=[]) (hr:qO k callerA)
  (hY:∀(w:World) (h:Heap),YP w h->(K w.params).In h)
  (F:∀(w:World) (mg:Str->Option Value) (fa:Addr) (h:Heap),(K w.params).In h->h.Ns mainGlobals mg->mg d.name=⇑fa->
   ∃fd:FuncData,(∀(s:Shared) (u:Value),BindsTo s fd ⟨[u],[]⟩ [(x,u)])/\
    ∀base:Heap,(K w.params).In base->base.Ns mainGlobals mg->bF l.prog w (K w.params) mg base CX k fa fd [x] (sp (K w.params)))
  (hsp:∀(K:aJ) (H:Hp) (a:Addr) (ns:ae),ns.length<=n->Only H->bB K H a (ns.map V.int)->sp K [.ref a] H (λv _=>v=.bl true) λ_ _ _=>False)
  (hCX:∀(H:Hp) (s:Shared) (e:Value) (s':Shared),CX [] H s (λ_ _ _=>False) e s'->False) :
  PySem.W.WalkO q loose XP YP l.row.toRowW d [] (λf vs=>PySem.call f vs) :=
 a0s (K:=K) (CX:=λ_=>CX) (sp:=λw=>sp (K w.params)) hn hn2 hdf hr hY F (λw H a ns h1 h2 h3=>hsp (K w.params) H a ns h1 h2 h3) λ_ H s e s'=>hCX H s e s'
noncomputable def inClass(s:Stmt)(j:Nat):Stmt:=match s with
 |.ClassDef _ _ _ body _ _ _ _ _ _ _=>body.getD j (.Pass ⟨0,0,0,0⟩)
 |_=>.Pass ⟨0,0,0,0⟩
noncomputable def gO(s:Stmt):Arguments:=match s with
 |.FunctionDef _ a _ _ _ _ _ _ _ _=>a
 |_=>{ posonlyargs:=[],args:=[],vararg:=none,kwonlyargs:=[],kw_defaults:=[],kwarg:=none,defaults:=[]}
noncomputable def gj(s:Stmt):List Stmt:=match s with
 |.FunctionDef _ _ b _ _ _ _ _ _ _=>b
 |_=>[]
noncomputable def aG(s:Stmt):Scope:=match s with
 |.FunctionDef _ _ _ _ _ _ sc _ _ _=>sc
 |_=>{ kind:=.function,names:=[],isGenerator:=false,isCoroutine:=false}
abbrev gk:Ss:=λ_ _ _ _ _ _=>False
abbrev E0:XK:=λ_ _ _=>False
def bW:yS gk X E0:=λ_ _ _ _ _ _ _ h=>h.elim
structure Fun(K:aJ)(x qual:Str)(st:Stmt)(f:Addr)(fd:FuncData):Prop where
 ex:∃(oc:Value) (od:Option Addr) (kV doc pm:Value) (an:Option Addr) (dX ct:Value) (osl:Array (Option Value)),
  fd=fnOf x qual (gO st) (gj st) (aG st) .none kV doc pm an dX ct/\K.lookup f=some ⟨oc,od,.func fd,osl⟩/\codeIn K dX qual=true
 kp:keepIn K (.ref f)=true
section
variable{P:Program}{K:aJ}{mg:Str->Option Value}{base:Heap}
def Fun.ok{st:Stmt}{f:Addr}{N ps:ag}{sp:Sp}(F:Fun K x qual st f fd)(S:bN N ps (aG st))(hbody:∀(dX:Value) (A:Around) (outer:List Env) (s:Shared) (H:Hp) (vs:af) (Q:VK) (E:XK),qO k (A.deeper (envOfC qual (aG st) s⁻¹ f dX))->sp vs H Q E->
   ∃t,Qf (Vf gk P w K mg base N qual (aG st) f dX A outer s H E).nox (gj st) t/\t { nx:=λ_ H'=>Q .non H',rt:=Q} (start N vs) H)
  (len:∀vs H Q E,sp vs H Q E->vs.length=ps.length:=by intro vs H Q E h;first|(cases h;subst_vars;rfl)|(repeat first|(let⟨e,_⟩:=h;rw[e];rfl)|(let⟨_,h⟩:=h))):⋯ (k+1) f fd ps sp:=by
 let⟨oc,od,kV,doc,pm,an,dX,ct,osl,rfl,lk,hcd⟩:=F.ex;show a2q lk hcd S len λA outer s H vs Q E hr hsp=>?_;let⟨t,h,q⟩:=hbody dX A outer s H vs Q E hr hsp;show⟨t,h.nox,q⟩
def Fun.binds{st:Stmt}{f:Addr}{ps:ag}(F:Fun K x qual st f fd)
  (h:∀(kV doc pm:Value) (an:Option Addr) (dX ct:Value) (us:aw),us.length=ps.length->bindArgs (fnOf x qual (gO st) (gj st) (aG st) .none kV doc pm an dX ct) ⟨us,[]⟩=pure (ps.zip us)):Binds K fd ps []:=by
 let⟨oc,od,kV,doc,pm,an,dX,ct,osl,rfl,lk,hcd⟩:=F.ex;show .all (h kV doc pm an dX ct)
def Vo{st:Stmt}{f:Addr}{oc:Value}{od an:Option Addr}{osl:Array (Option Value)}{kV doc pm dX ct:Value}(l:K.lookup f=some ⟨oc,od,.func (fnOf x qual (gO st) (gj st) (aG st) .none kV doc pm an dX ct),osl⟩)
  (c:codeIn K dX qual=true) (k:keepIn K (.ref f)=true):Fun K x qual st f (fnOf x qual (gO st) (gj st) (aG st) .none kV doc pm an dX ct):=⟨⟨oc,od,kV,doc,pm,an,dX,ct,osl,Z,l,c⟩,k⟩
end
def cZ(h:n<=1000):n<sizeLine:=Mt h ()
def pv(i:Nat)(hN:@&(X.N[i]?=some x))(hv:Vis X.env.scope x:=by first|exact Or.inl rfl|exact Or.inr (Or.inl Z)|exact Or.inr (Or.inr Z))(hd:@&((x==("__debug__" : Str))=false))
  (hcd:@&((x==("__classdict__" : Str))=false)):PE X (.Name x pos) (UW i):=a2S hN hv hd hcd
def cV(h:B):if false=true then A else B:=by
 rw[aA cL];show h
def gP(h:A):if true=true then A else B:=by
 rw[aB rfl];show h
def qi{c:Prop} [Decidable c] (h1:c->A) (h2:¬c->B):if c then A else B:=by
 by_cases h:c
 ·rw[aB h];show h1 h
 ·rw[aA h];show h2 h
def aL(H H':Hp):Prop:=∀b o,H b=some o->H' b=some o
def aL.refl(H:Hp):aL H H:=λ_ _ h=>h
def aL.trans{H H2:Hp}(a:aL H H1)(b:aL H1 H2):aL H H2:=λc o h=>b c o (a c o h)
def aL.free{H:Hp}(e:aL H H'){l:Addr}(h:H' l=Option.none):H l=Option.none:=by
 cases q:H l with
 |none=>rfl
 |some o =>
  rw[e l o q]at h;cases h
def aL.seq{K:aJ}{H:Hp}{xs:af}(e:aL H H')(h:bB K H a xs):bB K H' a xs:=by
 rcases h with(h|⟨o,h⟩)|h
 ·show .inl (.inl (e _ _ h))
 ·show .inl (.inr ⟨o,e _ _ h⟩)
 ·show .inr h
noncomputable def vL(cells:List (Str×Addr)):List (Str×NameKind)->List (Str×Addr)->List (Str×Addr)
 | [],acc=>acc
 |(n,k)::r,acc=>vL cells r (if k==.free then(match cells.lookup n with|some c=>(n,c)::acc|none=>acc)else acc)
theorem ý{env:Env}:∀(ns:List (Str×NameKind)) (acc:List (Str×Addr)),(∀x∈ns,x.2=.free->∃c,env.cells.lookup x.1=some c)->
  (forIn ns acc λ(x:Str×NameKind) (cs:List (Str×Addr))=>(if x.2==NameKind.free then do let a <-cellOf env x.1;pure (ForInStep.yield ((x.1,a)::cs))else pure (ForInStep.yield cs):Sem (ForInStep (List (Str×Addr)))))=pure (vL env.cells ns acc)
 | [],acc,_=>by simp[vL]
 |(n,k)::r,acc,h=>by
  rw[List.forIn_cons]
  let ih:=λa=>ý (env:=env) r a λx hx=>h x (bM _ hx)
  unfold vL
  by_cases hk:(k==NameKind.free)=true
  ·let⟨c,hc⟩:=h (n,k) bh ()
   let hc':env.cells.lookup n=some c:=hc
   let hce:cellOf env n=pure c:=by simp only[cellOf,hc']
   simp only[hk,if_true,hce,pure_bind,hc']
   show ih _
  ·simp only[hk,if_false,pure_bind,ih]
   simp
def Hu{env:Env}(h:∀x∈scope.names,x.2=.free->∃c,env.cells.lookup x.1=some c):closureFor scope env=pure (vL env.cells scope.names []):=by
 let q:=ý (env:=env) scope.names [] h;unfold closureFor;rw[<-q];first
  |rfl
  |simp
set_option tactic.hygienic true in
theorem Ae{cells:List (Str×Addr)}:∀(ns:List (Str×NameKind)) (acc:List (Str×Addr)) {x:Str}{c:Addr},(∀y d,acc.lookup y=some d->cells.lookup y=some d)->(vL cells ns acc).lookup x=some c->cells.lookup x=some c
 | [],acc,x,c,ha,h=>ha x c h
 |(n,k)::r,acc,x,c,ha,h=>by
  unfold vL at h
  show Ae r _ (λy d hy=>?_) h
  split at hy
  ·split at hy
   ·rename_i c' hc'
    rw[List.lookup_cons]at hy
    split at hy
    ·rename_i e
     let e':y=n:=by simpa using e
     subst e'
     rw[hc'];show hy
    ·show ha y d hy
   ·show ha y d hy
  ·show ha y d hy
theorem Ko{cells:List (Str×Addr)}:∀(ns:List (Str×NameKind)) (acc:List (Str×Addr)) {x:Str},(∃c,acc.lookup x=some c)->∃c,(vL cells ns acc).lookup x=some c
 | [],acc,x,h=>h
 |(n,k)::r,acc,x,h=>by
  unfold vL
  show Ko r _ ?_
  split
  ·split
   ·rw[List.lookup_cons]
    split
    ·show⟨_,Z⟩
    ·show h
   ·show h
  ·show h
theorem Hv{cells:List (Str×Addr)}:∀(ns:List (Str×NameKind)) (acc:List (Str×Addr)) {x:Str},(x,NameKind.free)∈ns->(∃c,cells.lookup x=some c)->∃c,(vL cells ns acc).lookup x=some c
 | [],acc,x,h,_=>nomatch h
 |(n,k)::r,acc,x,h,hc=>by
  unfold vL
  rcases bQ.mp h with e|h
  ·cases e
   let⟨c,hc⟩:=hc
   show Ko r _ ?_
   simp[hc]
  ·show Hv r _ h hc
def bD.track{H:Hp}{s:Shared}(I:bD X Y σ H s)(hn:H a=none)(h0:X.s₀.heap.objs.size<=a)(hL:a≠X.env.locals)
  (hc:∀x c,X.env.cells.lookup x=some c->c≠a) (hp:∀p∈X.pn++Y,p.1≠a) (new:fC X.prog X.w (cY H a o) s.heap a o):bD X Y σ (cY H a o) s:=by
 let ne:∀b u,H b=some u->b≠a:=λb u e=>dO e hn;let q:=I.step (g':=s.gens) (d':=s.drawn) (t':=s.toks) (h':=s.heap) (H':=cY H a o) (ch:=[a]) (λb hb=>?_) (λb ob _ _ _ e _=>e) (λb ob _ _ _ e _=>⟨ob.slots,e⟩) (λb ob hb _ n=>?_)
  (λb ob _ e=>⟨ob,e⟩) (λb xs e=>by rw[aZ (ne b _ e)];show e) (λb ob u e=>by rw[aZ (ne b _ e)];show e) (λb ps e=>⟨#[],by rw[aZ (ne b _ e),e];simp⟩) (λm hm=>hm) (λb u e=>?_) I.bare
 ·show q
 ·let e:b=a:=by simpa using hb
  subst e;show⟨.inr h0,hL,hc,hp⟩
 ·rw[aZ (λz=>hb (by simp[z]))];show n
 ·by_cases hb:b=a
  ·subst hb;rw[dN]at e;grind
  ·rw[aZ hb]at e;show(I.hok b u e).stay (λc v _ q=>q) (λc q=>by rw[aZ (dO q hn)];show q) λc xs q=>by rw[aZ (dO q hn)];show q
def rT(X:Cx)(N':ag)(scope:Scope)(C:Addr)(s:Shared)(H:Hp)(fp:aI)(xe:∅):Cx :=
 { X with N:=N',s₀:=s,H₀:=H,env:=compEnvC scope (vL X.env.cells scope.names []) C X.env,outer:=X.stack,ex:=fp,fn:=λ_=>false,xe:=xe}
structure Xj(X:Cx)(N':ag)(ix:List (Option Nat))(scope:Scope):Prop where
 kind:scope.kind=.function
 þ:∀y∈scope.names,y.2≠.cell
 locs:∀y∈scope.names,y.2=.local->scope.names.lookup y.1=some .local
 free:∀y∈scope.names,y.2=.free->X.env.kindOf y.1=some .cell\/X.env.kindOf y.1=some .free
 len:ix.length=N'.length
 cap:∀(i j:Nat),ix[i]?=some (some j)->∃x,N'[i]?=some x/\X.N[j]?=some x/\scope.names.lookup x=some .free
noncomputable def qj(ix:List (Option Nat))(σ:St):St:=ix.map λo=>o.bind λj=>(σ[j]?).join
theorem Af{env:Env}{x:Str}:∀{names:List (Str×NameKind)},names.lookup x=some .free->(names.map λ(n,k)=>if(k==NameKind.free&&env.scope.kind==.function&&env.kindOf n==some .cell)then(n,NameKind.cell)else(n,k)).lookup x=some .cell\/(names.map λ(n,k)=>if(k==NameKind.free&&env.scope.kind==.function&&env.kindOf n==some .cell)then(n,NameKind.cell)else(n,k)).lookup x=some .free
 | [],h=>by simp at h
 |(n,k)::r,h=>by
  let ih:=@Af env x r
  grind
theorem Ag{env:Env}{x:Str}:∀{names:List (Str×NameKind)},(∀y∈names,y.2≠.cell)->((names.map λ(n,k)=>if(k==NameKind.free&&env.scope.kind==.function&&env.kindOf n==some .cell)then(n,NameKind.cell)else(n,k)).lookup x=some .cell\/(names.map λ(n,k)=>if(k==NameKind.free&&env.scope.kind==.function&&env.kindOf n==some .cell)then(n,NameKind.cell)else(n,k)).lookup x=some .free)->(x,NameKind.free)∈names
 | [],_,h=>by simp at h
 |(n,k)::r,hn,h=>by
  let ih:=@Ag env x r λy hy=>hn y (bM _ hy)
  grind
def Kq{H:Hp}{s:Shared}{i:Nat}{v:V}(B:Xj X N' ix scope)(I:bD X Y σ H s)
  (h1:N'[i]?=some x) (h2:(qj ix σ)[i]?=some (some v)):∃u c,cX v u/\(vL X.env.cells scope.names []).lookup x=some c/\X.env.cells.lookup x=some c/\s.heap.IsCell c (some u)/\
   ((relabel scope X.env).names.lookup x=some .cell\/(relabel scope X.env).names.lookup x=some .free):=by
 let Υ:∀x c,(vL X.env.cells scope.names []).lookup x=some c->X.env.cells.lookup x=some c:=λx c h=>Ae scope.names [] (λ_ _ z=>by simp at z) h;obtain⟨j,hj,hv⟩:∃j,ix[i]?=some (some j)/\σ[j]?=some (some v):=by
  unfold qj at h2;rw[cI]at h2;cases e:ix[i]? with
  |none=>grind
  |some o =>
   rw[e]at h2;cases o with
   |none=>cases h2
   |some j =>
    grind
 let⟨x',hx1,hx2,hx3⟩:=B.cap i j hj;let exx:x'=x:=by
  grind
 subst exx;let hmem:=Cu hx3;let hout:=B.free _ hmem rfl;let⟨m0,_,hl⟩:=I.loc;let⟨u,r,l⟩:=hl j x' v hx2 hv (by
  rcases hout with e|e
  ·show .inr (.inl e)
  ·show .inr (.inr e))
 rcases l with⟨k,_⟩|⟨k,c,e,z⟩
 ·rcases hout with e|e
  ·rw[e]at k;cases k
  ·rw[e]at k;cases k
 ·let⟨c',hc'⟩:=Hv scope.names [] hmem (I.ok.has x' hout);let:=Υ x' c' hc';rw[e]at this;cases this;show⟨u,c,r,hc',e,z,Af hx3⟩
def YL{H:Hp}{s s4:Shared}{C:Addr}{fp:aI}{xe:∅}{m:Str->Option Value}
  (B:Xj X N' ix scope) (I:bD X Y σ H s) (hf:∀b∈fp,CQ X Y H b) (hC:s⁻¹<=C) (hfs:∀b∈fp,b<s⁻¹)
  (ho:s4.os=s.os) (hg:s4.gens=s.gens) (hk:∀b o,s^^^b=some o->s4^^^b=some o) (hns:s4.heap.Ns C m) :
  bD (rT X N' scope C s H fp xe) Y (qj ix σ) H s4:=by
 let Υ:∀x c,(vL X.env.cells scope.names []).lookup x=some c->X.env.cells.lookup x=some c:=λx c h=>Ae scope.names [] (λ_ _ z=>by simp at z) h;let hfree:H C=none:=I.hok.fresh hC;let neC:∀b o,s^^^b=some o->b≠C:=λb o e=>bY (iZ (bf e) hC);show⟨⟨I.ok.mod,B.kind,I.ok.glob,I.ok.blt,hC,λx y c h1 h2=>I.ok.inj x y c (Υ x c h1) (Υ y c h2),λx hx=>?_,λx c h=>absurd (show false=true from h) cL,I.ok.hd,I.ok.frames,.inl Z,λb hb=>⟨?_,λx c e=>?_⟩,I.bs,?_,λb o e hb=>?_,λb hb z=>?_,I.stack,I.W3⟩,
  ho,?_,Un.kept hk,⟨m,hns,λi x v h1 h2 h3=>?_⟩,λx c e=>?_,hfree,λx c e=>I.rO x c (Υ x c e),λp hp=>?_,I.hok.kept hk,?_⟩
 ·let hx':=Ag (env:=X.env) (x:=x) B.þ hx;show Hv scope.names [] hx' (I.ok.has x (B.free _ hx' Z))
 ·show bY (iZ (hfs b hb) hC)
 ·show(hf b hb).2.2.2.2.1 x c (Υ x c e)
 ·show cF I.ok.Ο I.sz
 ·let⟨_,_,_,q,_⟩:=hf b hb;rcases q with q|q
  ·show I.ok.UL b o e q
  ·show absurd (iZ (bf (I.ok.bs b o e).1) q) (yN _)
 ·let⟨_,q1,q2,_⟩:=hf b hb;rcases bQ.mp (I.CP b z)with e|e
  ·show q1 e
  ·show q2 e
 ·rw[hg];show I.bare
 ·let⟨u,c,r,hc1,_,⟨oc,z1,z2⟩,hk'⟩:=Kq B I h1 h2;show⟨u,r,.inr ⟨hk',c,hc1,oc,hk _ _ z1,z2⟩⟩
 ·let⟨v,oc,h1,h2⟩:=I.cell x c (Υ x c e);show⟨v,oc,hk _ _ h1,h2⟩
 ·let⟨e,n,ne,nf,d⟩:=I.pin p hp;show⟨hk _ _ e,n,neC _ _ e,λz=>?_,d⟩;rcases bQ.mp (I.CP p.1 z)with e'|e'
  ·show ne e'
  grind
 ·show(ix.map _).length=N'.length;rw[aH];show B.len
def Qk{prog:Program}{A:Around}{s:Shared}{target:Expr}{it acc:Value}{env:Env}(Iv:Nat->Shared->Prop)
  (turn:∀n s,Iv n s->∎ (pyNext it) (λr s₁=>match r with
   |none=>R (.ok .next) s₁
   |some v=>∎ (letOwnedTupleGo target it v) (λ_ s₁'=>∎ (assign target env v) (λ_ s₂ =>
     ∎ (forIn ifs true λc r=>if r=true then do let ok <-isTrue c env (eval c env);pure (ForInStep.yield ok)else pure (ForInStep.yield r)) (λok s₃ =>
      if ok=true then ∎ (eval elt env) (λx s₄ =>
       ∎ (call (.builtin "list.append") [acc,x]) (λ_ s₅=>∃m,m<n/\Iv m s₅) (notedBy (model prog w) A env λe s'=>R (.error e) s') s₄) (notedBy (model prog w) A env λe s'=>R (.error e) s') s₃
      else ∃m,m<n/\Iv m s₃) (notedBy (model prog w) A env λe s'=>R (.error e) s') s₂) (notedBy (model prog w) A env λe s'=>R (.error e) s') s₁') (notedBy (model prog w) A env λe s'=>R (.error e) s') s₁) (notedBy (model prog w) A env λe s'=>R (.error e) s') s)
  (n:Nat) (h:Iv n s) :
  codeAny (model prog w) A (.compLoop (.ListComp elt [⟨target,iter,ifs,0⟩] scope pos) 0 it acc env) R s:=by
 show codeAny_loop Z Iv (λn s hI=>?_) n h;show wpAny _ A ((compTurn (.ListComp elt [⟨target,iter,ifs,0⟩] scope pos) 0 it acc env).onRaise λx=>do noteFrame x env;theTreesLotGoes x) _ _ s;show wpAny_noted ?_;rw[compTurn_list];show M (Nj (M (iw (turn n s hI) (λr s₁ h₁=>?_) λ_ _ h'=>h')));cases r with
 |none=>show ao h₁
 |some v =>
  show M (iw h₁ (λ_ s₁' h₁'=>M (iw h₁' (λ_ s₂ h₂=>M (iw h₂ (λok s₃ h₃=>?_) λ_ _ h'=>h')) λ_ _ h'=>h')) λ_ _ h'=>h');cases ok with
  |false=>show ao ⟨Z,h₃⟩
  |true =>
   show M (M (iw h₃ (λx s₄ h₄=>M (iw h₄ (λ_ s₅ h₅=>ao (ao ⟨Z,h₅⟩)) λ_ _ h'=>h')) λ_ _ h'=>h'))
def PTs(X:Cx)(ifs:ba)(t:TT):Prop :=
 ∀(Y:aE) (s:Shared) (σ:St) (H:Hp) (Q:Bool->Hp->Prop),bD X Y σ H s->t σ H Q->
  wpAny (model X.prog X.w) X.A (forIn ifs true λc r=>if r=true then do let ok <-isTrue c X.env (eval c X.env);pure (ForInStep.yield ok)else pure (ForInStep.yield r)) (TP X Y σ Q) X.xe s
noncomputable def ÿ:TT:=λ_ H Q=>Q true H
def gQ:PTs X [] ÿ:=λ_ _ _ H _ I h=>wpAny_tests_nil ⟨H,I,h⟩
def sZ{c:Expr}{t:TT}(h:PT X c t):PTs X [c] t:=λY s σ H Q I hw=>wpAny_tests_one (h Y s σ H Q I hw)
def lV(ix:List (Option Nat))(g:TG)(tt:TT)(te:TE)(σ:St)(H1:Hp)(Q:VK)(Z97:It):Prop:=∃W:Nat->Nat->af->Hp->Prop,(∃m,W 0 m [] H1)/\∀i m ys H,W i m ys H->
 (Z97.stop i H/\ys.length<=sizeLine/\∀p,H p=none->Q (.ref p) (cY H p (.lst ys)))\/
 (Z97.go i H/\ys.length<=sizeLine/\∃N:af->Hp->Prop,(∀ys' H',N ys' H'->∃m',m'<m/\W (i+1) m' ys' H')/\∀x H',Z97.W6 i H x H'->g x (qj ix σ) H' λσ2 H2=>tt σ2 H2 λb H3=>if b=true then te σ2 H3 λv H4=>N (ys++[v]) H4 else N ys H3)
def tLC(ix:List (Option Nat))(wi:TI)(g:TG)(tt:TT)(te:TE):TE:=λσ H Q=>wi σ H λZ97 H1=>lV ix g tt te σ H1 Q Z97
section
variable{wi:TI}
def Ā(B:Xj X N' ix scope)(hc:X.calm=true)
  (hg:∀C s H fp xe,PG (rT X N' scope C s H fp xe) tg g) (ht:∀C s H fp xe,PTs (rT X N' scope C s H fp xe) ifs tt) (he:∀C s H fp xe,PE (rT X N' scope C s H fp xe) elt te) {s2:Shared}{H2:Hp}{fp:aI}{tn:Nat->Heap->Prop}{Z97:It}{RR:Value->Addr->Result->Shared->Prop}{E:∅}
  (I2:bD X Y σ H2 s2) (T:Turn X.prog X.w X.K tg Z97 fp it tn) (st2:tn 0 s2.heap) (f2:∀b∈fp,CQ X Y H2 b)
  (q:∃W:Nat->Nat->af->Hp->Prop,(∃m,W 0 m [] H2)/\∀i m ys H,W i m ys H->
   (Z97.stop i H/\ys.length<=sizeLine/\∀p,H p=none->Q (.ref p) (cY H p (.lst ys)))\/
   (Z97.go i H/\ys.length<=sizeLine/\∃N:af->Hp->Prop,(∀ys' H',N ys' H'->∃m',m'<m/\W (i+1) m' ys' H')/\∀x H',Z97.W6 i H x H'->g x (qj ix σ) H' λσ2 H2=>tt σ2 H2 λb H3=>if b=true then te σ2 H3 λv H4=>N (ys++[v]) H4 else N ys H3))
  (hRR:∀D C s' H' ys,bD X Y σ (cY H' D (.lst ys)) s'->H' D=none->Q (.ref D) (cY H' D (.lst ys))->(∃m,s'.heap.Ns C m)->cY H' D (.lst ys) C=none->C≠X.env.locals->X.s₀.heap.objs.size<=C->(∀x c,X.env.cells.lookup x=some c->c≠C)->(∀p∈X.pn++Y,p.1≠C)->RR (.ref D) C (.ok .next) s') :
  wpAny (model X.prog X.w) X.A (newList []) (λacc s₃=>wpAny (model X.prog X.w) X.A (newFunctionEnv scope X.env.globals (vL X.env.cells scope.names []) [] X.env.qual none .none (some X.env)) (λcenv s₄ =>
   codeAny (model X.prog X.w) X.A (.compStart (.ListComp elt [⟨tg,iter,ifs,0⟩] scope pos) 0 (.ref it) acc { cenv with scope:=relabel scope X.env}) (RR acc cenv.locals) s₄) E s₃) E s2:=by
 let hfs:∀b∈fp,b<s2⁻¹:=λb hb=>by
  let⟨o,e,_⟩:=T.obj _ _ st2 b hb;show bf e
 show jP (wpAny_newFunctionEnv B.þ (by intro y hy;simp at hy) (λh₁ hns₁ hsb₁=>?_) B.kind);dsimp only at hns₁ hsb₁ ⊢;generalize hH3:s2.heap.push { cls:=.type "list",dict:=none,data:=.seq ([]:aw).toArray}=H3 at hns₁ hsb₁ ⊢;let hC:H3.objs.size=s2⁻¹+1:=by rw[<-hH3,oN]
 let hDC:s2⁻¹≠H3.objs.size:=by rw[hC];show bY (wM _)
 let below:∀b,b<s2⁻¹->b≠H3.objs.size/\b≠s2⁻¹:=λb hb=>⟨by rw[hC];show bY (GD hb),bY hb⟩;let old:∀b o,s2^^^b=some o->h₁.get? b=some o:=λb o e=>hsb₁.extBut b o (below b (bf e)).1 (bL _ (hH3▸bL _ e));let hacc:h₁.get? s2⁻¹=some { cls:=.type "list",data:=.seq ([]:aw).toArray 0}:=hsb₁.extBut _ _ hDC (bL _ (hH3▸b7 _ Z));let hCle:s2⁻¹<=H3.objs.size:=by rw[hC];show vH _
 generalize hD:s2⁻¹=D at *
 generalize hCC:H3.objs.size=C at *
 let⟨W,⟨m0,w0⟩,turn⟩:=q;let' xe:∅:=notedBy (model X.prog X.w) X.A (compEnvC scope (vL X.env.cells scope.names []) C X.env) λe s'=>RR (.ref D) C (.error e) s';let' X':Cx:=rT X N' scope C s2 H2 fp xe;let DL:D∉frs X.stack:=λz=>by
  rcases bQ.mp (I2.CP D z)with e|e
  ·show absurd I2.lt (by rw[<-e,hD];show yN _)
  ·show I2.a5h (by rw[hD];show aK _) e
 let Vp:∀x c,X.env.cells.lookup x=some c->c<D:=λx c e=>by
  let⟨v,oc,h,_⟩:=I2.cell x c e;rw[<-hD];show bf h
 let Υ:∀x c,(vL X.env.cells scope.names []).lookup x=some c->X.env.cells.lookup x=some c:=λx c h=>Ae scope.names [] (λ_ _ z=>by simp at z) h;let ā:∀p∈X.pn++Y,p.1<D:=λp hp=>by rw[<-hD];show bf (I2.pin p hp).1
 let fpX:∀{pl:aE}{H':Hp},(∀b∈fp,H' b=none)->(∀p∈pl,p∈Y\/p.1=D)->∀b∈fp,CQ X' pl H' b:=λ{pl H'} hn hpl b hb=>by
  let⟨_,q1,q2,q3,q4,q5⟩:=f2 b hb;show⟨hn b hb,(below b (hfs b hb)).1,λz=>?_,.inl hb,λx c e=>q4 x c (Υ x c e),λp hp=>?_⟩
  ·rcases bQ.mp (I2.CP b z)with e|e
   ·show q1 e
   ·show q2 e
  ·rcases cH.mp hp with hp|hp
   ·show q5 p (oK _ hp)
   ·rcases hpl p hp with z|z
    ·show q5 p (fQ _ z)
    ·rw[z];show Ne.symm (below b (hfs b hb)).2
 let loop:∀s₃:Shared,s₃={ s2 with heap:=h₁,toks:=s2.toks+([]:List (Str×Value)).length}->
   codeAny (model X.prog X.w) X.A (.compLoop (.ListComp elt [⟨tg,iter,ifs,0⟩] scope pos) 0 (.ref it) (.ref D) (compEnvC scope (vL X.env.cells scope.names []) C X.env)) (RR (.ref D) C) s₃:=by
  rintro s₃ rfl;show Qk (λn s'=>∃i H' ys bR k,bD X' Y (qj ix σ) H' s'/\tn i s'.heap/\(∀b∈fp,H' b=none)/\H' D=none/\s'^^^D=some { cls:=.type "list",data:=.seq (List.toArray bR) k}/\cJ ys bR/\W i n ys H') ?_ m0
   ⟨0,H2,[],[],0,YL B I2 f2 (by rw[hD];show hCle) (λb hb=>by rw[hD];show hfs b hb) Z Z old hns₁,T.keep _ _ _ st2 λb _ o e=>old b o e,λb hb=>(f2 b hb).1,I2.hok.fresh (by rw[hD];show aK _),hacc,.nil,w0⟩
  rintro n s' ⟨i,H',ys,bR,k,I',st',fr',hDn,hDo,rv,w'⟩;let hDX:∀v,({ cls:=.type "list",data:=.seq (List.toArray bR) k}:Obj).data≠.cell v:=λv z=>by
   let z':Data.seq (List.toArray bR) k=Data.cell v:=z;cases z'
  let a7Q:∀{σ':St}{Sv:Hp}{s'':Shared}{its':aw}{k':Nat},bD X' Y σ' Sv s''->Sv D=none->s''^^^D=some { cls:=.type "list",data:=.seq (List.toArray its') k'}->bD X' (Y++[(D,{ cls:=.type "list",data:=.seq (List.toArray its') k'})]) σ' Sv s'':=λ{σ' Sv s'' its' k'} Z97 hn ho =>
   Z97.Fy λp hp=>(cH.mp hp).elim (λz=>Z97.pin p (fQ _ z)) λz=>by
    let e:p=(D,{ cls:=.type "list",data:=.seq (List.toArray its') k'}):=by simpa using z
    subst e;show⟨ho,hn,hDC,DL,λv z=>by
     let z':Data.seq (List.toArray its') k'=Data.cell v:=z;cases z'⟩
  let plD:∀{its':aw}{k':Nat},∀p∈Y++[(D,({ cls:=.type "list",data:=.seq (List.toArray its') k'}:Obj))],p∈Y\/p.1=D:=λ{its' k'} p hp=>(cH.mp hp).elim .inl λz=>by
   let e:p=(D,{ cls:=.type "list",data:=.seq (List.toArray its') k'}):=by simpa using z
   subst e;show .inr rfl
  let unD:∀{pl:aE}{σ':St}{Sv:Hp}{s'':Shared},bD X' (Y++pl) σ' Sv s''->bD X' Y σ' Sv s'':=λZ97=>Z97.Fy λp hp=>Z97.pin p (fQ _ (oK _ hp));let I'p:=a7Q I' hDn hDo;rcases turn i n ys H' w' with⟨stop,hsz,fin⟩|⟨go,hsz,N,hN,step⟩
  ·show iw (T.done X' Z Z Z hc i _ s' (qj ix σ) H' X'.xe I'p (fpX fr' plD) st' stop) (λr s5 ⟨hr,I5⟩=>?_) λ_ _ z=>z;subst hr;let a7R:s5^^^D=some { cls:=.type "list",data:=.seq (List.toArray bR) k}:=(I5.pin (D,_) (fQ _ (fQ _ (bG.mpr Z)))).1;let sz0:X.s₀.heap.objs.size<=D:=by rw[<-hD];show I2.sz
   let Z97:bD X Y σ H' s5:=I2.call' (ch:=fp) I5.os I5.base I5.hok I5.bare λb hb=>by
    let⟨_,q1,_,q3,q4,q5⟩:=f2 b hb;show⟨q3,q1,q4,q5⟩
   let nL:X.env.locals<D:=by rw[<-hD];show I2.lt
   let J2:bD X Y σ (cY H' D (.lst ys)) s5:=bD.track Z97 hDn sz0 (iJ nL) (λx c e=>bY (Vp x c e)) (λp hp=>bY (ā p hp)) ⟨hsz,bR,k,rv,a7R⟩;let⟨mC,hnC,_⟩:=I5.loc;let a3t:D<C:=Nat.lt_of_le_of_ne hCle hDC;show hRR D C s5 H' ys J2 hDn (fin D hDn) ⟨mC,hnC⟩ ?_ (iJ (uh nL a3t)) (cF sz0 hCle) (λx c e=>bY (uh (Vp x c e) a3t)) λp hp=>bY (uh (ā p hp) a3t);rw[aZ (Ne.symm hDC)];show I5.free
  ·show iw (T.item X' Z Z Z hc i _ s' (qj ix σ) H' X'.xe I'p (fpX fr' plD) st' go) (λr s5 ⟨u,hr,h5⟩=>?_) λ_ _ z=>z;subst hr;show iw h5 (λ_ s6 ⟨x,H6,I6,r6,y6,st6,fr6⟩=>?_) λ_ _ z=>z;let I6':=I6.pinned (fpX fr6 plD) (T.obj _ _ st6);show iw (hg C s2 H2 fp xe _ s6 (qj ix σ) H6 x u _ I6' r6 (step x H6 y6)) (λ_ s7 ⟨W8,H7,I7,q7⟩=>?_) λ_ _ z=>z;let after:∀{σ8:St}{H8:Hp}{s8:Shared},bD X' ((Y++[(D,{ cls:=.type "list",data:=.seq (List.toArray bR) k})])++rQ fp s6.heap) σ8 H8 s8->
     bD X' Y (qj ix σ) H8 s8/\tn (i+1) s8.heap/\(∀b∈fp,H8 b=none)/\H8 D=none/\s8^^^D=some { cls:=.type "list",data:=.seq (List.toArray bR) k}:=λ{σ8 H8 s8} I8=>by
    let pD:=I8.pin (D,{ cls:=.type "list",data:=.seq (List.toArray bR) k}) (fQ _ (oK _ (fQ _ (bG.mpr Z))));let fpP:∀b∈fp,∀o,s6^^^b=some o->s8^^^b=some o/\H8 b=none:=λb hb o e=>by
     let z:=I8.pin (b,o) (fQ _ (fQ _ (oV hb e)));show⟨z.1,z.2.1⟩
    show⟨⟨I8.ok,I8.os,I8.bare,I8.base,?_,I8.cell,I8.free,I8.rO,λp hp=>?_,I8.hok,?_⟩,T.keep _ _ _ st6 λb hb o e=>(fpP b hb o e).1,λb hb=>?_,pD.2.1,pD.1⟩
    ·let⟨m8,hn8,_⟩:=I8.loc;show⟨m8,hn8,λi x v h1 h2 h3=>?_⟩;let⟨u,c,r,hc1,hc2,⟨oc,z1,z2⟩,hk'⟩:=Kq B I2 h1 h2;let⟨sl,e8⟩:=I8.base.any z1 (I2.rO x c hc2) λz=>(f2 c z).2.2.2.2.1 x c hc2 rfl;show⟨u,r,.inr ⟨hk',c,hc1,_,e8,z2⟩⟩
    ·rcases cH.mp hp with hp|hp
     ·show I8.pin p (oK _ hp)
     ·show I8.pin p (fQ _ (oK _ (oK _ hp)))
    ·show(qj ix σ).length=N'.length;unfold qj;rw[aH];show B.len
    ·let⟨o,e,_⟩:=T.obj _ _ st6 b hb;show(fpP b hb o e).2
   show iw (ht C s2 H2 fp xe _ s7 W8 H7 _ I7 q7) (λb s8 ⟨H8,I8,q8⟩=>?_) λ_ _ z=>z;cases b with
   |false =>
    rw[aA cL]at q8 ⊢;let⟨m',hm,w8⟩:=hN _ _ q8;let⟨Z97,tn8,f8,d8,o8⟩:=after I8;show⟨m',hm,i+1,H8,ys,bR,k,Z97,tn8,f8,d8,o8,rv,w8⟩
   |true =>
    rw[aB rfl]at q8 ⊢;show iw (he C s2 H2 fp xe _ s8 W8 H8 _ I8 q8) (λv s9 ⟨y,H9,I9,r9,q9⟩=>?_) λ_ _ z=>z;let⟨Z97,tn9,f9,d9,o9⟩:=after I9;let⟨m',hm,w9⟩:=hN _ _ q9;show append_at (hsz:=by rw[fW,<-rv.length];show hsz) o9 λh10 a5F a5G=>?_;show⟨m',hm,i+1,H9,ys++[y],bR++[v],k+1,?_,T.keep _ _ _ tn9 λb hb o e=>a5F.extBut b o (λz=>?_) e,f9,d9,by rw[List.push_toArray]at a5G;show a5G,rv.append (.cons r9 .nil),w9⟩
    ·show Z97.turned (t':=s9.toks) (it:=D) (λb o hb e=>a5F.extBut b o hb e) d9 hDC (.inr (by show s2⁻¹<=D;rw[hD];show aK _)) (λx c e=>bY (Vp x c (Υ x c e))) λp hp=>bY (ā p hp)
    ·show(below b (hfs b hb)).2 z
 show codeAny_compStart_list (loop _ Z) (T.self X.A 0 _ _ _ (T.keep _ _ _ st2 λb _ o e=>old b o e) (loop _ Z))
end
noncomputable def Ah(outer:Scope)(N N':ag)(ix:List (Option Nat))(scope:Scope):Bool :=
 (scope.kind==.function)&&(scope.names.all λy=>y.2 != .cell)&&(scope.names.all λy=>y.2 != .local||scope.names.lookup y.1==some .local) &&
 (scope.names.all λy=>y.2 != .free||outer.names.lookup y.1==some .cell||outer.names.lookup y.1==some .free)&&(ix.length==N'.length) &&
 (List.range ix.length).all λi=>match ix[i]? with
  |some (some j)=>(match N'[i]? with|some x=>N[j]?==some x&&scope.names.lookup x==some .free|none=>false)
  |_=>true
def Ă(h:Ah X.env.scope X.N N' ix scope=true):Xj X N' ix scope:=by
 unfold Ah at h;simp only[Bool.and_eq_true]at h;let⟨⟨⟨⟨⟨h1,h2⟩,h3⟩,h4⟩,h5⟩,h6⟩:=h;show⟨?_,λy hy=>?_,λy hy hl=>?_,λy hy hl=>?_,(),λi j e=>?_⟩
 ·grind
 ·grind
 ·grind
 ·let:=g8.mp h4 y hy;rw[hl]at this;simp at this;show this
 ·let hi:i<ix.length:=(eG.mp e).1;let:=g8.mp h6 i (fX.mpr hi);rw[e]at this;simp only at this;cases q:N'[i]? with
  |none=>rw[q]at this;simp at this
  |some x =>
   rw[q]at this;simp at this;show⟨x,Z,this.1,this.2⟩
section
variable{wi:TI}
def j4(N':ag)(ix:List (Option Nat))(hB:Ah X.env.scope X.N N' ix scope=true)(hc:X.calm=true)(hi:PI X tg iter wi)
  (hg:∀C s H fp xe,PG (rT X N' scope C s H fp xe) tg g) (ht:∀C s H fp xe,PTs (rT X N' scope C s H fp xe) ifs tt) (he:∀C s H fp xe,PE (rT X N' scope C s H fp xe) elt te)
  (hs:autoParam (∀x,foldedSetIterable iter X.env x=pure x) Q0_._auto_1):PE X (.ListComp elt [⟨tg,iter,ifs,0⟩] scope pos) (tLC ix wi g tt te):=by
 intro Y s σ H Q I h;let B:=Ă hB;rw[eval_ListComp];show Ý (use:=none) Z hs (Hu λy hy hf=>I.ok.has y.1 (B.free y hy hf)) B.kind B.locs (jC (hi Y s σ H _ I h) λv s1 h1=>jC h1 λitv s2 h2=>?_);let⟨it,fp,tn,Z97,H2,e,I2,T,st2,f2,q⟩:=h2;subst e;show Ā B hc hg ht he I2 T st2 f2 q ?_;intro D C s' H' ys J2 hDn hq ⟨m,hn⟩ hC1 hC2 hC3 hC4 hC5;show⟨m,hn,λh' hs'=>⟨.ref D,_,J2.turned (t':=s'.toks) (it:=C) (λb o hb e=>hs'.extBut b o hb e) hC1 hC2 (.inr hC3) hC4 hC5,Z,hq⟩⟩
def Ai{i:Nat}{pos' spos:Pos}(N':ag)(ix:List (Option Nat))(hN:X.N.Nodup)(hi':X.N[i]?=some x)(hx:X.env.scope.names.lookup x=some .local)
  (hB:Ah X.env.scope X.N N' ix scope=true) (hc:X.calm=true) (hi:PI X tg iter wi)
  (hg:∀C s H fp xe,PG (rT X N' scope C s H fp xe) tg g) (ht:∀C s H fp xe,PTs (rT X N' scope C s H fp xe) ifs tt) (he:∀C s H fp xe,PE (rT X N' scope C s H fp xe) elt te)
  (hsw:swapsWith (.ListComp elt [⟨tg,iter,ifs,0⟩] scope pos) (some (.Name x pos')) spos.line X.env=pure true)
  (hs:autoParam (∀x,foldedSetIterable iter X.env x=pure x) Q0_._auto_1):PS X (.Assign [.Name x pos'] (.ListComp elt [⟨tg,iter,ifs,0⟩] scope pos) spos) (a2Z (tLC ix wi g tt te) (zY i)):=by
 intro Y s σ H D0 I h;let B:=Ă hB;rw[exec_Assign_Name_used _ _ _ _ hsw];show M (Nj (M ?_));show wpAny _ X.A (do let _ <-comprehension (.ListComp elt [⟨tg,iter,ifs,0⟩] scope pos) scope X.env _ (newList []) false (eval iter X.env) (some (assign (.Name x pos') X.env))) _ _ s;show M (iw (Ý (use:=some (assign (.Name x pos') X.env)) (Q:=λ_ s'=>SP X Y D0 .next s') Z hs (Hu λy hy hf=>I.ok.has y.1 (B.free y hy hf)) B.kind B.locs
  (jC (hi Y s σ H _ I h) λv s1 h1=>jC h1 λitv s2 h2=>?_)) (λ_ s' hq=>ao (ao hq)) λ_ _ e=>e)
 let⟨it,fp,tn,Z97,H2,e,I2,T,st2,f2,q⟩:=h2;subst e;show Ā (Q:=λx H1=>zY i x σ H1 D0.nx) B hc hg ht he I2 T st2 f2 q ?_;intro D C s' H' ys J2 hDn hq ⟨m,hn⟩ hC1 hC2 hC3 hC4 hC5;show wpAny _ X.A (assign (.Name x pos') X.env (.ref D)) _ _ _;show wpAny_assign_Name (Kc (v:=.ref D) J2 hN hi' (.inl hx) Z (λs'' I'' hsb=>?_) (.inr hx));let⟨a,hsb,ha⟩:=hsb;let aC:C≠a:=by
  rcases ha with rfl|ha
  ·show hC2
  ·show λz=>hC4 x a ha z.symm
 show⟨m,hn.sameBut hsb aC,λh'' hs''=>⟨_,_,I''.turned (t':=s''.toks) (it:=C) (λb o hb e=>hs''.extBut b o hb e) hC1 hC2 (.inr hC3) hC4 hC5,hq⟩⟩
end
section
variable{K:aJ}{xs:af}
def qP(Pv:Nat->af->Hp->Prop)(h0:Pv 0 [] H1)(hl:∀i ys H,i<=xs.length->Pv i ys H->bB K H a xs/\ys.length<=sizeLine)
  (hs:∀i x ys H,xs[i]?=some x->Pv i ys H->g x (qj ix σ) H λσ2 H2=>tt σ2 H2 λb H3=>if b=true then te σ2 H3 λv H4=>Pv (i+1) (ys++[v]) H4 else Pv (i+1) ys H3)
  (hd:∀ys H,Pv xs.length ys H->∀p,H p=none->Q (.ref p) (cY H p (.lst ys))):lV ix g tt te σ H1 Q (Æ K a):=by
 show⟨λi m ys H=>m=xs.length-i/\i<=xs.length/\Pv i ys H,⟨xs.length,by simp,cW _,h0⟩,?_⟩;rintro i m ys H ⟨rfl,hi,p⟩;let⟨q,z⟩:=hl i ys H hi p;by_cases hlt:i<xs.length
 ·show .inr ⟨⟨xs,xs[i],q,by simp[hlt]⟩,z,Pv (i+1),λys' H' p'=>⟨xs.length-(i+1),(),Z,hlt,p'⟩,λx H' y=>?_⟩;let⟨e,y⟩:=y;subst e;show hs i x ys _ (y xs q) p
 ·let e:i=xs.length:=()
  subst e;show .inl ⟨⟨xs,q,aK _⟩,z,hd ys H p⟩
def Aj{lo:Int}(Pv:Nat->af->Hp->Prop)(h0:Pv 0 [] H1)(hl:∀i ys H,i<=n->Pv i ys H->ys.length<=sizeLine)
  (hs:∀i ys H,i<n->Pv i ys H->g (.int (lo+i)) (qj ix σ) H λσ2 H2=>tt σ2 H2 λb H3=>if b=true then te σ2 H3 λv H4=>Pv (i+1) (ys++[v]) H4 else Pv (i+1) ys H3)
  (hd:∀ys H,Pv n ys H->∀p,H p=none->Q (.ref p) (cY H p (.lst ys))):lV ix g tt te σ H1 Q (U0 lo n):=by
 show⟨λi m ys H=>m=n-i/\i<=n/\Pv i ys H,⟨n,by simp,cW _,h0⟩,?_⟩;rintro i m ys H ⟨rfl,hi,p⟩;let z:=hl i ys H hi p;by_cases hlt:i<n
 ·show .inr ⟨hlt,z,Pv (i+1),λys' H' p'=>⟨n-(i+1),(),Z,hlt,p'⟩,λx H' y=>?_⟩;let⟨e,y⟩:=y;subst e y;show hs i ys _ hlt p
 ·let e:i=n:=()
  subst e;show .inl ⟨aK _,z,hd ys H p⟩
end
def a5H{K:aJ}{xs:af}(f:V->Option V)(hx:bB K H1 a xs)(hz:xs.length<=sizeLine)
  (hs:∀x H (N:Option V->Hp->Prop),x∈xs->aL H1 H->(∀H',aL H1 H'->N (f x) H')->g x (qj ix σ) H λσ2 H2=>tt σ2 H2 λb H3=>if b=true then te σ2 H3 λv H4=>N (some v) H4 else N none H3)
  (hd:∀H p,aL H1 H->H p=none->Q (.ref p) (cY H p (.lst (xs.filterMap f)))):lV ix g tt te σ H1 Q (Æ K a):=by
 show qP (K:=K) (a:=a) (xs:=xs) (λi ys H=>ys=(xs.take i).filterMap f/\aL H1 H) ⟨Z,aL.refl _⟩ (λi ys H hi ⟨e,s⟩=>⟨s.seq hx,?_⟩) (λi x ys H hi ⟨e,s⟩=>?_) λys H ⟨e,s⟩ p hp=>?_
 ·subst e;show cF (SX _ _) (cF ?_ hz);rw[eN];show Uh _ _
 ·let hm:x∈xs:=gZ hi;let⟨hil,hix⟩:=eG.mp hi;let et:xs.take (i+1)=xs.take i++[x]:=by rw[yD hil,hix]
  show hs x H (λo H'=>match o with|some v=>(ys++[v]=(xs.take (i+1)).filterMap f/\aL H1 H')|none=>(ys=(xs.take (i+1)).filterMap f/\aL H1 H')) hm s λH' s'=>?_;cases ef:f x with
  |some v =>
   show⟨?_,s'⟩;rw[e,et,wK];simp[ef]
  |none =>
   show⟨?_,s'⟩;rw[e,et,wK];simp[ef]
 ·subst e;rw[ig];show hd H p s hp
def a3u{lo:Int}(f:Nat->Option V)(hz:n<=sizeLine)
  (hs:∀i H (N:Option V->Hp->Prop),i<n->aL H1 H->(∀H',aL H1 H'->N (f i) H')->g (.int (lo+i)) (qj ix σ) H λσ2 H2=>tt σ2 H2 λb H3=>if b=true then te σ2 H3 λv H4=>N (some v) H4 else N none H3)
  (hd:∀H p,aL H1 H->H p=none->Q (.ref p) (cY H p (.lst ((List.range n).filterMap f)))):lV ix g tt te σ H1 Q (U0 lo n):=by
 show Aj (λi ys H=>ys=(List.range i).filterMap f/\aL H1 H) ⟨Z,aL.refl _⟩ (λi ys H hi ⟨e,s⟩=>?_) (λi ys H hi ⟨e,s⟩=>?_) λys H ⟨e,s⟩ p hp=>?_
 ·grind
 ·show hs i H (λo H'=>match o with|some v=>(ys++[v]=(List.range (i+1)).filterMap f/\aL H1 H')|none=>(ys=(List.range (i+1)).filterMap f/\aL H1 H')) hi s λH' s'=>?_;cases ef:f i with
  |some v =>
   show⟨?_,s'⟩;rw[e,wO,wK];simp[ef]
  |none =>
   show⟨?_,s'⟩;rw[e,wO,wK];simp[ef]
 ·subst e;show hd H p s hp
mutual
inductive Hw(K:aJ) (H:Hp):V->PyData->Prop
 |non:Hw K H .non .none
 |bl (b:Bool):Hw K H (.bl b) (.bool b)
 |int (i:Int):Hw K H (.int i) (.int i)
 |str (x:Str):Hw K H (.str x) (.str x)
 |lst {a:Addr}{xs:af}{ds:List PyData}:bB K H a xs->uO K H xs ds->Hw K H (.ref a) (.list ds)
 |tup {a:Addr}{xs:af}{ds:List PyData}:cN K H a xs->uO K H xs ds->Hw K H (.ref a) (.tuple ds)
inductive uO(K:aJ) (H:Hp):af->List PyData->Prop
 |nil:uO K H [] []
 |cons {x:V}{xs:af}{d:PyData}{ds:List PyData}:Hw K H x d->uO K H xs ds->uO K H (x::xs) (d::ds)
end
def aL.vM{K:aJ}{H:Hp}{xs:af}(e:aL H H')(h:cN K H a xs):cN K H' a xs:=by
 rcases h with(h|⟨o,h⟩)|h
 ·show .inl (.inl (e _ _ h))
 ·show .inl (.inr ⟨o,e _ _ h⟩)
 ·show .inr h
def Hw.reads{H:Hp}{s:Shared}(I:bD X Y σ H s){v:V}{d:PyData}{u:Value}(h:Hw X.K H v d)(r:cX v u):∃as,Reads s.heap u d as:=by
 show Hw.rec (motive_1:=λv d _=>∀u,cX v u->∃as,Reads s.heap u d as) (motive_2:=λxs ds _=>∀us,cJ xs us->∃as,ReadsAll s.heap us ds as) (λu r=>?_) (λb u r=>?_) (λi u r=>?_) (λx u r=>?_) (λh q ih u r=>?_) (λh q ih u r=>?_) (λus q=>?_) (λh q ih jh us z=>?_) h u r
 ·cases r;show⟨_,.none⟩
 ·cases r;show⟨_,.bool b⟩
 ·let⟨t,rfl⟩:=r;show⟨_,.int i t⟩
 ·let⟨t,rfl⟩:=r;show⟨_,.str x t⟩
 ·cases r;let⟨bR,rv,⟨o,n,e,c,_,d⟩,_⟩:=I.list h;let⟨as,ra⟩:=ih _ rv;show⟨_,.list e c d (by simpa using ra)⟩
 ·cases r;let⟨bR,rv,⟨o,e,c,n,d⟩,_⟩:=I.tuple h;let⟨as,ra⟩:=ih _ rv;show⟨_,.tuple e c d (by simpa using ra)⟩
 ·cases q;show⟨_,.nil⟩
 ·cases z with
  |cons r t =>
  let⟨as,ra⟩:=ih _ r;let⟨bs,rb⟩:=jh _ t;show⟨_,.cons ra rb⟩
theorem uO.ints{K:aJ}{H:Hp}:∀ns:ae,uO K H (ns.map V.int) (ns.map PyData.int)
 | []=>.nil
 |n::ns=>.cons (.int n) (uO.ints ns)
inductive a0t(K:aJ)(neg:Bool)(x:V)(y:V)(H:Hp)(Q:VK):Prop
 |mk (d d':_) (_:Hw K H x d) (_:Hw K H y d') (_:SeqAt.shaped d=true) (_:SeqAt.shaped d'=true) (_:Q (.bl (if neg then !PyData.eqv d d' else PyData.eqv d d')) H)
def a3v(hu:X.A.units+64<cLine):rA X (compareOp .Eq) (a0t X.K false):=by
 intro Y s σ H x y v u Q I rx ry h;let⟨d,d',h1,h2,s1,s2,q⟩:=h;let⟨as,ra⟩:=h1.reads I rx;let⟨bs,rb⟩:=h2.reads I ry;show eq_dataH ra rb s1 s2 hu ⟨.bl _,H,I,Z,q⟩
def a3w(hu:X.A.units+64<cLine):rA X (compareOp .NotEq) (a0t X.K true):=by
 intro Y s σ H x y v u Q I rx ry h;let⟨d,d',h1,h2,s1,s2,q⟩:=h;let⟨as,ra⟩:=h1.reads I rx;let⟨bs,rb⟩:=h2.reads I ry;show ne_dataH ra rb s1 s2 hu ⟨.bl _,H,I,Z,q⟩
inductive Vq(K:aJ)(neg:Bool)(x:V)(y:V)(H:Hp)(Q:VK):Prop
 |mk (d ds:_) (_:Hw K H x d) (_:Hw K H y (.list ds)) (_:SeqAt.shaped d=true) (_:SeqAt.shaped (.list ds)=true) (_:Q (.bl (if neg then !ds.any (λe=>PyData.eqv e d)else ds.any (λe=>PyData.eqv e d))) H)
def a3x(hu:X.A.units+65<cLine):rA X (compareOp .In) (Vq X.K false):=by
 intro Y s σ H x y v u Q I rx ry h;let⟨d,ds,h1,h2,s1,s2,q⟩:=h;let⟨as,ra⟩:=h1.reads I rx;let⟨bs,rb⟩:=h2.reads I ry;show SeqAt.in_list_reads rb ra (vp s2) (vp s1) (room_in_shaped s1 hu) ⟨.bl _,H,I,Z,q⟩
def YM(hu:X.A.units+65<cLine):rA X (compareOp .NotIn) (Vq X.K true):=by
 intro Y s σ H x y v u Q I rx ry h;let⟨d,ds,h1,h2,s1,s2,q⟩:=h;let⟨as,ra⟩:=h1.reads I rx;let⟨bs,rb⟩:=h2.reads I ry;show SeqAt.notIn_list_reads rb ra (vp s2) (vp s1) (room_in_shaped s1 hu) ⟨.bl _,H,I,Z,q⟩
noncomputable def a3y:V->Option Value
 |.ty n=>some (.type n)
 |.ref a=>⇑a
 |_=>none
def ă{c:V}{cv u:Value}(h:a3y c=some cv)(r:cX c u):u=cv:=by
 cases c with
 |ty n=>cases h;show r
 |ref a=>cases h;show r
 |_=>cases h
def Ql:jx X (.builtin "isinstance") (λxs H Q=>∃x c cv t b,xs=[x,c]/\a3y c=some cv/\rR X.K H x t/\kitOne X.K t cv=some b/\Q (.bl b) H):=by
 intro Y s σ H xs us Q I r h;let⟨x,c,cv,t,b,rfl,hc,ty,hk,q⟩:=h;let⟨u1,u2,rfl,r1,r2⟩:=vals2 r;obtain rfl:=ă hc r2;show YD I r1 ty hk λtk=>⟨.bl b,H,I.tok tk,Z,q⟩
abbrev Cx.in1(X:Cx):Cx:={ X with A:=X.A.in1}
def bD.in1{Y:aE}{σ:St}{H:Hp}{s:Shared}(I:bD X Y σ H s):bD X.in1 Y σ H s :=
 ⟨⟨I.ok.mod,I.ok.kind,I.ok.glob,I.ok.blt,I.ok.above,I.ok.inj,I.ok.has,I.ok.cab,I.ok.hd,I.ok.frames,I.ok.stk,I.ok.exf,I.ok.bs,I.ok.Ο,I.ok.UL,I.ok.Yw,I.ok.zU,I.ok.frf⟩,I.os,I.bare,I.base,I.loc,I.cell,I.free,I.rO,I.pin,I.hok,I.len⟩
def bD.of_in1{H:Hp}{s:Shared}(I:bD X.in1 Y σ H s):bD X Y σ H s :=
 ⟨⟨I.ok.mod,I.ok.kind,I.ok.glob,I.ok.blt,I.ok.above,I.ok.inj,I.ok.has,I.ok.cab,I.ok.hd,I.ok.frames,I.ok.stk,I.ok.exf,I.ok.bs,I.ok.Ο,I.ok.UL,I.ok.Yw,I.ok.zU,I.ok.frf⟩,I.os,I.bare,I.base,I.loc,I.cell,I.free,I.rO,I.pin,I.hok,I.len⟩
def jc(K:aJ)(H:Hp)(xs:af)(bs:List Bool):Prop:=Paired (λx b=>ï K x H b) xs bs
theorem jc.get{K:aJ}{H:Hp}:∀{xs:af}{bs:List Bool}{i:Nat}{x:V},jc K H xs bs->xs[i]?=some x->∃b,bs[i]?=some b/\ï K x H b
 |_,_,_,_,.nil,h=>by simp at h
 |_,_,0,_,.cons h r,e=>by
  simp at e;subst e
  show⟨_,Z,h⟩
 |_,_,i+1,_,.cons h r,e=>by
  let⟨d,e1,q⟩:=jc.get (i:=i) r (by simpa using e)
  show⟨d,by simpa using e1,q⟩
theorem jc.bls{K:aJ}{H:Hp}:∀bs:List Bool,jc K H (bs.map V.bl) bs
 | []=>.nil
 |b::bs=>.cons Z (jc.bls bs)
def Ą{H:Hp}{p:Addr}{ys:af}{bs:List Bool}(hc:X.calm=true)(hq:bB X.K H p ys)(ht:jc X.K H ys bs)(f:CQ X Y H it) :
  ∀(k i:Nat) (s:Shared),ys.length-i=k->bD X Y σ H s->s.heap.IsListIter it p i->(∀s',bD X Y σ H s'->R (.ok (.ret (.bool ((bs.drop i).all id)))) s')->
  codeAny (model X.prog X.w) X.A (.builtin "all.loop" ⟨[.ref it],[]⟩) R s:=by
 let⟨f0,f1,f2,f3,f4,f5⟩:=f;intro k
 induction k with
 |zero =>
  intro i s hk I st hR;let⟨bR,rv,pl,hz⟩:=I.list hq;let hl:=rv.length;show jq F.entry_all_loop ?_;rw[jD MK _];show wpAny _ X.A.in1 (pyNext (.ref it) >>= _) _ _ s;show M (wpAny_pyNext_list_end (I.ok.hd hc) st pl.isList (by simp;omega) λh' eb=>?_);show M (jY (ao ?_));let q:=hR _ (I.turned (t':=s.toks) (λb o hb e=>eb b o hb e) f0 f1 f3 f4 f5);let hlb:bs.length=ys.length:=(aW ht).symm;rw[Tc ()]at q;show q
 |succ k ih =>
  intro i s hk I st hR;let⟨bR,rv,pl,hz⟩:=I.list hq;let hl:=rv.length;let hlt:i<ys.length:=()
  let hx:ys[i]?=some ys[i]:=by simp[hlt]
  let⟨u,hu,ru⟩:=rv.get hx;let⟨b,hb,tb⟩:=ht.get hx;show jq F.entry_all_loop ?_;rw[jD MK _];show wpAny _ X.A.in1 (pyNext (.ref it) >>= _) _ _ s;show M (S8 st pl.isList (x:=u) () λh' st' sb=>?_);let I1:bD X Y σ H (s•h'):=I.turned (t':=s.toks) (λb o hb e=>(sb.2 b hb).trans e) f0 f1 f3 f4 f5;let hdb:bs.drop i=b::bs.drop (i+1):=by
   let⟨hlb,eb⟩:=eG.mp hb;rw[yF hlb,eb]
  rw[hdb]at hR;let I1p:bD X (Y++rQ [it] h') σ H (s•h'):=I1.pinned (fp:=[it]) (λc hcc=>by rw[bG.mp hcc];show⟨f0,f1,f2,f3,f4,f5⟩) λc hcc=>by
   rw[bG.mp hcc];let⟨o,e,c',d⟩:=st';grind
  show M (dY (iw (NZ (X:=X.in1.nox) _ _ σ H ys[i] u (λc H'=>c=b/\H'=H) ((bD.in1 I1p).wish _) ru ⟨b,tb,Z,Z⟩) (λc s2 ⟨H',I2,e1,e2⟩=>?_) λ_ _ z=>False.elim z));rw[e2]at I2;subst e1;let I2':bD X (Y++rQ [it] h') σ H s2:=bD.of_in1 I2.rP;let Qm:bD X Y σ H s2:=I2'.uM;let st2:s2.heap.IsListIter it p (i+1):=st'.at λo e=>(I2'.pin (it,o) (fQ _ (fQ _ (oV (bG.mpr Z) e)))).1;show M (yP ?_);cases c with
  |true =>
   simp only[if_true];show ao ⟨jR MK _,ih (i+1) s2 () Qm st2 λs' I'=>by simpa using hR s' I'⟩
  |false =>
   simp only[Bool.false_eq_true,if_false];show M (jY (ao ?_));simpa using hR s2 Qm
def YQ(hc:X.calm=true):jx X (.builtin "all") (λxs H Q=>∃p ys bs,xs=[.ref p]/\bB X.K H p ys/\jc X.K H ys bs/\Q (.bl (bs.all id)) H):=by
 intro Y s σ H xs us Q I r h;let⟨p,ys,bs,rfl,hq,ht,q⟩:=h;let⟨u,rfl,rx⟩:=vals1 r;cases rx;show T7 F.kind_all F.plain_all F.entry_all (F.args_all1 _) ?_;unfold Builtin.«all»;show M (m:=oneArg "all" _) (ao ?_);let⟨bR,rv,pl,hz⟩:=I.list hq;show M (vz pl.isList ?_);let I1:bD X Y σ H (s•s.heap.push { cls:=.type "list_iterator",data:=.fields #[.ref p,.int 0 0]}):=I.kept (t':=s.toks) λb o e=>bL _ e;show ao ⟨jR MK _,Ą hc hq ht (I.Fd (aK _) (I.hok.fresh (aK _))) ys.length 0 _ (vG _) I1 ⟨_,b7 _ Z,Z,Z⟩ λs' I'=>?_⟩;show⟨.bl _,H,I',Z,by simpa using q⟩
def ą{H:Hp}{p:Addr}{ys:af}{bs:List Bool}(hc:X.calm=true)(hq:bB X.K H p ys)(ht:jc X.K H ys bs)(f:CQ X Y H it) :
  ∀(k i:Nat) (s:Shared),ys.length-i=k->bD X Y σ H s->s.heap.IsListIter it p i->(∀s',bD X Y σ H s'->R (.ok (.ret (.bool ((bs.drop i).any id)))) s')->
  codeAny (model X.prog X.w) X.A (.builtin "any.loop" ⟨[.ref it],[]⟩) R s:=by
 let⟨f0,f1,f2,f3,f4,f5⟩:=f;intro k
 induction k with
 |zero =>
  intro i s hk I st hR;let⟨bR,rv,pl,hz⟩:=I.list hq;let hl:=rv.length;show jq MN ?_;rw[jD wN _];show wpAny _ X.A.in1 (pyNext (.ref it) >>= _) _ _ s;show M (wpAny_pyNext_list_end (I.ok.hd hc) st pl.isList (by simp;omega) λh' eb=>?_);show M (jY (ao ?_));let q:=hR _ (I.turned (t':=s.toks) (λb o hb e=>eb b o hb e) f0 f1 f3 f4 f5);let hlb:bs.length=ys.length:=(aW ht).symm;rw[Tc ()]at q;show q
 |succ k ih =>
  intro i s hk I st hR;let⟨bR,rv,pl,hz⟩:=I.list hq;let hl:=rv.length;let hlt:i<ys.length:=()
  let hx:ys[i]?=some ys[i]:=by simp[hlt]
  let⟨u,hu,ru⟩:=rv.get hx;let⟨b,hb,tb⟩:=ht.get hx;show jq MN ?_;rw[jD wN _];show wpAny _ X.A.in1 (pyNext (.ref it) >>= _) _ _ s;show M (S8 st pl.isList (x:=u) () λh' st' sb=>?_);let I1:bD X Y σ H (s•h'):=I.turned (t':=s.toks) (λb o hb e=>(sb.2 b hb).trans e) f0 f1 f3 f4 f5;let hdb:bs.drop i=b::bs.drop (i+1):=by
   let⟨hlb,eb⟩:=eG.mp hb;rw[yF hlb,eb]
  rw[hdb]at hR;let I1p:bD X (Y++rQ [it] h') σ H (s•h'):=I1.pinned (fp:=[it]) (λc hcc=>by rw[bG.mp hcc];show⟨f0,f1,f2,f3,f4,f5⟩) λc hcc=>by
   rw[bG.mp hcc];let⟨o,e,c',d⟩:=st';grind
  show M (dY (iw (NZ (X:=X.in1.nox) _ _ σ H ys[i] u (λc H'=>c=b/\H'=H) ((bD.in1 I1p).wish _) ru ⟨b,tb,Z,Z⟩) (λc s2 ⟨H',I2,e1,e2⟩=>?_) λ_ _ z=>False.elim z));rw[e2]at I2;subst e1;let I2':bD X (Y++rQ [it] h') σ H s2:=bD.of_in1 I2.rP;let Qm:bD X Y σ H s2:=I2'.uM;let st2:s2.heap.IsListIter it p (i+1):=st'.at λo e=>(I2'.pin (it,o) (fQ _ (fQ _ (oV (bG.mpr Z) e)))).1;show M (yP ?_);cases c with
  |false =>
   simp only[Bool.false_eq_true,if_false];show ao ⟨jR wN _,ih (i+1) s2 () Qm st2 λs' I'=>by simpa using hR s' I'⟩
  |true =>
   simp only[if_true];show M (jY (ao ?_));simpa using hR s2 Qm
def YS(hc:X.calm=true):jx X (.builtin "any") (λxs H Q=>∃p ys bs,xs=[.ref p]/\bB X.K H p ys/\jc X.K H ys bs/\Q (.bl (bs.any id)) H):=by
 intro Y s σ H xs us Q I r h;let⟨p,ys,bs,rfl,hq,ht,q⟩:=h;let⟨u,rfl,rx⟩:=vals1 r;cases rx;show T7 F.kind_any F.plain_any F.entry_any (F.args_any1 _) ?_;unfold Builtin.«any»;show M (m:=oneArg "any" _) (ao ?_);let⟨bR,rv,pl,hz⟩:=I.list hq;show M (vz pl.isList ?_);let I1:bD X Y σ H (s•s.heap.push { cls:=.type "list_iterator",data:=.fields #[.ref p,.int 0 0]}):=I.kept (t':=s.toks) λb o e=>bL _ e;show ao ⟨jR wN _,ą hc hq ht (I.Fd (aK _) (I.hok.fresh (aK _))) ys.length 0 _ (vG _) I1 ⟨_,b7 _ Z,Z,Z⟩ λs' I'=>?_⟩;show⟨.bl _,H,I',Z,by simpa using q⟩
structure Dn(K:aJ)(mg:Str->Option Value)(x:Str)(st:Stmt)(ps:ag) where
 f:Addr
 fd:FuncData
 F:Fun K x x st f fd
 b:Binds K fd ps []
 m:mg x=⇑f
 bd:∀(s:Shared) (us:aw),us.length=ps.length->BindsTo s fd ⟨us,[]⟩ (ps.zip us)
structure Bl(mg:Str->Option Value):Prop where
 get:∀x:Str,x∈(["len","range","list","isinstance","int","bool","str","all","any","sorted","set","min","max","tuple","enumerate","dict","ValueError"]:ag)->mg x=none
def Bl.len{mg:Str->Option Value}(B:Bl mg):mg "len" = none:=B.get _ ()
def Bl.range{mg:Str->Option Value}(B:Bl mg):mg "range" = none:=B.get _ ()
def Bl.list{mg:Str->Option Value}(B:Bl mg):mg "list" = none:=B.get _ ()
def Bl.isinstance{mg:Str->Option Value}(B:Bl mg):mg "isinstance" = none:=B.get _ ()
def Bl.int{mg:Str->Option Value}(B:Bl mg):mg "int" = none:=B.get _ ()
def Bl.bool{mg:Str->Option Value}(B:Bl mg):mg "bool" = none:=B.get _ ()
def Bl.all{mg:Str->Option Value}(B:Bl mg):mg "all" = none:=B.get _ ()
def Bl.any{mg:Str->Option Value}(B:Bl mg):mg "any" = none:=B.get _ ()
def Bl.sorted{mg:Str->Option Value}(B:Bl mg):mg "sorted" = none:=B.get _ ()
def Bl.set{mg:Str->Option Value}(B:Bl mg):mg "set" = none:=B.get _ ()
def Bl.min{mg:Str->Option Value}(B:Bl mg):mg "min" = none:=B.get _ ()
def Bl.tuple{mg:Str->Option Value}(B:Bl mg):mg "tuple" = none:=B.get _ ()
def Bl.enumerate{mg:Str->Option Value}(B:Bl mg):mg "enumerate" = none:=B.get _ ()
def Bl.dict{mg:Str->Option Value}(B:Bl mg):mg "dict" = none:=B.get _ ()
def Ec{K:aJ}:kitOne K (.type "int") (.type "int")=some true:=by rfl
def Ak{K:aJ}:kitOne K (.type "int") (.type "bool")=some false:=by rfl
def Qo{K:aJ}:kitOne K (.type "NoneType") (.type "int")=some false:=by rfl
def Ob{K:aJ}:kitOne K (.type "NoneType") (.type "bool")=some false:=by rfl
section
variable{K:aJ}
def bx(e:X.K=K):IxR X (a0n K):=by subst e;show a0p
def aO(e:X.K=K):IxR X (a0o K):=by subst e;show a3m
def a0u(e:X.K=K)(hu:X.A.units+64<cLine):rA X (compareOp .Eq) (a0t K false):=by subst e;show a3v hu
def Xk(e:X.K=K)(hu:X.A.units+64<cLine):rA X (compareOp .NotEq) (a0t K true):=by subst e;show a3w hu
def tB(e:X.K=K)(hu:X.A.units+65<cLine):rA X (compareOp .In) (Vq K false):=by subst e;show a3x hu
def iB(e:X.K=K)(hu:X.A.units+65<cLine):rA X (compareOp .NotIn) (Vq K true):=by subst e;show YM hu
def a0v(e:X.K=K):rA X (compareOp .In) (rIn K false):=by subst e;show YG
def Vr(e:X.K=K):rA X (compareOp .NotIn) (rIn K true):=by subst e;show N7
def a7S(K:aJ):af->Hp->VK->Prop:=λxs H Q=>∃p ys,xs=[.ref p]/\(bB K H p ys\/cN K H p ys)/\Q (.int ys.length) H
def bV(e:X.K=K):jx X (.builtin "len") (a7S K):=by subst e;show N8
def a0w(K:aJ):af->Hp->VK->Prop:=λxs H Q=>∃p ys,xs=[.ref p]/\(bB K H p ys\/cN K H p ys)/\∀l,H l=none->Q (.ref l) (cY H l (.lst ys))
def Vs(e:X.K=K):jx X (.type "list") (a0w K):=by subst e;show Oa
def a5I(K:aJ):af->Hp->VK->Prop:=λxs H Q=>∃x c cv t b,xs=[x,c]/\a3y c=some cv/\rR K H x t/\kitOne K t cv=some b/\Q (.bl b) H
def iV(e:X.K=K):jx X (.builtin "isinstance") (a5I K):=by subst e;show Ql
def a7T(K:aJ):af->Hp->VK->Prop:=λxs H Q=>∃p ys bs,xs=[.ref p]/\bB K H p ys/\jc K H ys bs/\Q (.bl (bs.all id)) H
def a7U(K:aJ):af->Hp->VK->Prop:=λxs H Q=>∃p ys bs,xs=[.ref p]/\bB K H p ys/\jc K H ys bs/\Q (.bl (bs.any id)) H
def CW(e:X.K=K)(hc:X.calm=true):jx X (.builtin "all") (a7T K):=by subst e;show YQ hc
def YT(e:X.K=K)(hc:X.calm=true):jx X (.builtin "any") (a7U K):=by subst e;show YS hc
def eY{l:Expr}{tl:TE}(e:X.K=K)(hl:PE X l tl):PI X tg l (ê K tl):=by subst e;show a0e hl
def Al{l:Expr}{tl:TE}(e:X.K=K)(hl:PE X l tl):PI X tg l (a3b K tl):=by subst e;show a3c hl
def a7V(K:aJ)(ta:TE):TT:=λσ H Q=>ta σ H λx H'=>∃k,ï K x H' k/\Q k H'
def dh{a:Expr}{ta:TE}(e:X.K=K)(ha:PE X a ta)(he:∀whole,isTrue a X.env whole=(do let v <-whole;standAt a.pos;holding [v] (truthy v))):PT X a (a7V K ta):=by subst e;show ð ha he
def jG{t:æ}(e:X.K=K)(hc:X.calm=true)(h:PGs X es t)
  (hn:@&((assignEach es X.env).length=n)) (hst:@&((assignEach es X.env).findIdx? (·.1)=none)):PG X (.Tuple es k pos) (a2X K n t):=by subst e;show a2Y hc h hn hst
def qQ{o:Expr}{to:TE}{name:Str}{apos cpos:Pos}{T id:String}(e:X.K=K)(pa:PlainAttrs T)(slot:Slot T name id)(hty:typeOf (.builtin id)=pure (.type "method_descriptor"))(hm:MtR X id r)(ho:PE X o to)
  (hbase:@&(attributeBase o name X.env (eval o X.env)=eval o X.env)) (hline:@&((apos.endLine==cpos.line)=true)):PE X (.Call (.Attribute o name apos) [] [] cpos) (a5D K T r to):=by subst e;show a3p pa slot hty hm ho hbase hline
def gA{o e:Expr}{to:TE}{t:TA}{name:Str}{apos cpos:Pos}{T id:String}(e0:X.K=K)(pa:PlainAttrs T)(slot:Slot T name id)(hty:typeOf (.builtin id)=pure (.type "method_descriptor"))(hm:MtR X id r)(ho:PE X o to)(ha:PA X (e::es) t)
  (hbase:@&(attributeBase o name X.env (eval o X.env)=eval o X.env))
  (hfew:@&(((backTo cpos (starEach (e::es) X.env)).all (λx=>!x.1)&&(backToKw cpos (keywordEach [] X.env)).all (λx=>x.1.isSome)
   && decide ((e::es).length+([]:List Keyword).length+(if([]:List Keyword).isEmpty then 0 else 1)<30))=true))
  (hline:@&((apos.endLine==cpos.line)=true)) (hs:@&(starEach (e::es) X.env=(false,eval e X.env)::starEach es X.env)) (hplain:@&((backTo cpos (starEach es X.env)).any (·.1)=false)) :
  PE X (.Call (.Attribute o name apos) (e::es) [] cpos) (tBM K T r to t):=by subst e0;show a5E pa slot hty hm ho ha hbase hfew hline hs hplain
end
inductive a5J(t u:TS)(D:Ends)(σ:St)(H:Hp):Prop
 |mk (Z97:St->Hp->Prop) (_:t { D with nx:=Z97} σ H) (_:∀σ' H',Z97 σ' H'->u D σ' H')
def iW{st:Stmt}{rest:List Stmt}{t u:TS}(h1:PS X st t)(h2:Qf X rest u):Qf X (st::rest) (a5J t u):=by
 intro Y s σ H D I h;let⟨Z97,q1,q2⟩:=h;show Ug (jC (h1 Y s σ H { D with nx:=Z97} I q1) λf s1 q=>?_);cases f with
 |next =>
  let⟨σ',H',I',q⟩:=q;show h2 Y s1 σ' H' D I' (q2 σ' H' q)
 |ret v=>show q
 |brk=>show q
 |cont=>show q
structure iD(H:Hp)(p:Addr)(o:HO)(H':Hp):Prop where
 fresh:H p=none
 here:H' p=some o
 rest:∀b,b≠p->H' b=H b
def iD.oh{H:Hp}{p:Addr}(h:H p=none):iD H p o (cY H p o):=⟨h,dN,λ_ hb=>aZ hb⟩
def iD.same{H:Hp}{p:Addr}(n:iD H p o H'):aL H H':=λb u e=>(n.rest b (dO e n.fresh)).trans e
def iD.ne{H:Hp}{p b:Addr}{u:HO}(n:iD H p o H')(h:H b=some u):b≠p:=dO h n.fresh
structure uP(H:Hp)(l:Addr)(o:HO)(H':Hp):Prop where
 here:H' l=some o
 rest:∀b,b≠l->H' b=H b
def uP.oh{H:Hp}{l:Addr}:uP H l o (cY H l o):=⟨dN,λ_ hb=>aZ hb⟩
section
variable{K:aJ}{t:TA}
noncomputable def a2r(t:TA):TE:=λσ H Q=>t σ H λxs H1=>xs.length<=1000/\∀p H',iD H1 p (.tup xs) H'->Q (.ref p) H'
noncomputable def a5K(t:TA):TE:=λσ H Q=>t σ H λxs H1=>xs.length<=1000/\∀p H',iD H1 p (.lst xs) H'->Q (.ref p) H'
def bK{x1}(h:PA X es t):PE X (.Tuple es x1 pos) (a2r t):=by
 intro Y s σ H Q I hq;show wpAny_Tuple_spliced (jC (h pos Y s σ H _ I hq) λus s1 ⟨xs,H1,I1,r,z,q⟩=>?_);let z':xs.length<=sizeLine:=fD (cZ z);show⟨by rw[<-r.length];show z',?_⟩;let hf:H1 s1⁻¹=none:=I1.hok.fresh (aK _);show⟨.ref s1⁻¹,cY H1 s1⁻¹ (.tup xs),I1.laid (t':=s1.toks) (λb u e=>bL _ e) (aK _) ⟨z',us,r,⟨_,b7 _ Z,Z,_,Z⟩⟩,Z,q _ _ (iD.oh hf)⟩
def cG(h:PA X es t):PE X (.List es pos) (a5K t):=by
 intro Y s σ H Q I hq;show wpAny_List_spliced (jC (h pos Y s σ H _ I hq) λus s1 ⟨xs,H1,I1,r,z,q⟩=>?_);let z':xs.length<=sizeLine:=fD (cZ z);show⟨by rw[<-r.length];show z',?_⟩;let hf:H1 s1⁻¹=none:=I1.hok.fresh (aK _);show⟨.ref s1⁻¹,cY H1 s1⁻¹ (.lst xs),I1.laid (t':=s1.toks) (λb u e=>bL _ e) (aK _) ⟨z',us,0,r,b7 _ Z⟩,Z,q _ _ (iD.oh hf)⟩
def rA.weak{f:Value->Value->Sem Value}{r r':R2}(h:rA X f r)(m:∀x y H Q,r' x y H Q->r x y H Q):rA X f r':=λY s σ H x y v u Q I rx ry q=>h Y s σ H x y v u Q I rx ry (m x y H Q q)
def jx.weak{f:Value}{r r':af->Hp->VK->Prop}(h:jx X f r)(m:∀xs H Q,r' xs H Q->r xs H Q):jx X f r':=λY s σ H xs us Q I rs q=>h Y s σ H xs us Q I rs (m xs H Q q)
inductive a5L(x:V)(y:V)(H:Hp)(Q:VK):Prop
 |mk (l b xs zs:_) (_:x=.ref l) (_:y=.ref b) (_:H l=↥xs) (_:H b=↥zs) (_:xs.length+zs.length<=1000) (_:∀p H',iD H p (.lst (xs++zs)) H'->Q (.ref p) H')
def nD:rA X (binaryOp .Add) a5L:=a3s.weak λx y H Q ⟨l,b,xs,zs,e1,e2,h1,h2,z,q⟩=>⟨l,b,xs,zs,e1,e2,h1,h2,fD (cZ z),λp hp=>q p _ (iD.oh hp)⟩
inductive a7W(K:aJ)(x:V)(lo:Option Int)(hi:Option Int)(H:Hp)(Q:VK):Prop
 |mk (a xs:_) (_:x=.ref a) (_:bB K H a xs) (_:∀p H',iD H p (.lst (uo xs lo hi)) H'->Q (.ref p) H')
def wZ(e:X.K=K):SlR X (a7W K):=by
 subst e;show λY s σ H x v vl vu lo hi sl Q I rx hs pl pu ⟨a,xs,e,h,q⟩=>a0q Y s σ H x v vl vu lo hi sl Q I rx hs pl pu ⟨a,xs,e,h,λp hp=>q p _ (iD.oh hp)⟩
inductive a3z(K:aJ)(xs:af)(H:Hp)(Q:VK):Prop
 |mk (p ys:_) (_:xs=[.ref p]) (_:(bB K H p ys\/cN K H p ys)) (_:∀l H',iD H l (.lst ys) H'->Q (.ref l) H')
def oW(e:X.K=K):jx X (.type "list") (a3z K):=(Vs e).weak λxs H Q ⟨p,ys,e,h,q⟩=>⟨p,ys,e,h,λl hl=>q l _ (iD.oh hl)⟩
def PL.weak{id:String}{r':V->af->Hp->VK->Prop}(h:PL X id r)(m:∀x xs H Q,r' x xs H Q->r x xs H Q):PL X id r':=λY s σ H x xs v us Q I rx rs q=>h Y s σ H x xs v us Q I rx rs (m x xs H Q q)
inductive a5M(x:V)(vs:af)(H:Hp)(Q:VK):Prop
 |mk (l xs y:_) (_:x=.ref l) (_:vs=[y]) (_:H l=↥xs) (_:xs.length<1000) (_:∀H',uP H l (.lst (xs++[y])) H'->Q .non H')
def fu:PL X "list.append" a5M:=YH.weak λx vs H Q ⟨l,xs,y,e1,e2,h,z,q⟩=>⟨l,xs,y,e1,e2,h,cZ (fD z),q _ uP.oh⟩
end
def Hx{K:aJ}{xs:af}(f:V->Option V)(hx:bB K H1 a xs)(hz:xs.length<=1000)
  (hs:∀x H (N:Option V->Hp->Prop),x∈xs->aL H1 H->(∀H',aL H1 H'->N (f x) H')->g x (qj ix σ) H λσ2 H2=>tt σ2 H2 λb H3=>if b=true then te σ2 H3 λv H4=>N (some v) H4 else N none H3)
  (hd:∀H p H',aL H1 H->iD H p (.lst (xs.filterMap f)) H'->Q (.ref p) H'):lV ix g tt te σ H1 Q (Æ K a) :=
 a5H f hx (fD (cZ hz)) hs λH p s hp=>hd H p _ s (iD.oh hp)
def Xl{lo:Int}(f:Nat->Option V)(hz:n<=1000)
  (hs:∀i H (N:Option V->Hp->Prop),i<n->aL H1 H->(∀H',aL H1 H'->N (f i) H')->g (.int (lo+i)) (qj ix σ) H λσ2 H2=>tt σ2 H2 λb H3=>if b=true then te σ2 H3 λv H4=>N (some v) H4 else N none H3)
  (hd:∀H p H',aL H1 H->iD H p (.lst ((List.range n).filterMap f)) H'->Q (.ref p) H'):lV ix g tt te σ H1 Q (U0 lo n) :=
 a3u f (fD (cZ hz)) hs λH p s hp=>hd H p _ s (iD.oh hp)
end L2
namespace Lw
open L2
variable{ns:ae}{H:Hp}{K:aJ}{a:Addr}
def Am{p:Addr}(h:H p=none)(o:HO):aL H (cY H p o):=λb u q=>by rw[aZ (dO q h)];show q
theorem vN{α β:Type}{f:α->Option β}{g:α->β}:∀{l:List α},(∀x∈l,f x=some (g x))->l.filterMap f=l.map g
 | [],_=>rfl
 |x::r,h=>by
  rw[LQ (h x bh),b8,vN λy hy=>h y (bM _ hy)]
def a0x{f:V->Option V}{g:Int->V}(h:∀v∈ns,f (.int v)=some (g v)):(ns.map V.int).filterMap f=ns.map g:=by
 rw[Ms];show vN h
theorem CZ{f:V->Option V}{p:Int->Bool}:∀{ns:ae},(∀v∈ns,f (.int v)=if p v=true then some (.int v)else none)->(ns.map V.int).filterMap f=(ns.filter p).map V.int
 | [],_=>rfl
 |v::r,h=>by
  let ih:=CZ (f:=f) (p:=p) (ns:=r) λy hy=>h y (bM _ hy)
  grind
def FP{k:Int}(h0:0<=k)(h:k<(ns.length:Int)):Vi (ns.map V.int) k=some (.int (ns.getD k.toNat 0)):=by
 let hk:k.toNat<ns.length:=()
 let ek:k=((k.toNat:Nat):Int):=()
 let q:Vi (ns.map V.int) ((k.toNat:Nat):Int)=some (.int (ns.getD k.toNat 0)):=cB (by
  grind)
 grind
def Ç(K:aJ)(H:Hp)(a:Addr)(ns:ae):Prop:=(∃o,H a=some (.iK o (.lst (ns.map V.int))))\/
 ∃(o:Obj) (bR:Array Value) (n:Nat),K.lookup a=some o/\o.cls=.type "list" /\o.dict=none/\o.data=.seq bR n/\bR.size<=sizeLine/\cJ (ns.map V.int) bR.toList
def Ç.seq(h:Ç K H a ns):bB K H a (ns.map V.int):=by
 rcases h with⟨o,h⟩|h
 ·show .inl (.inr ⟨o,h⟩)
 ·show .inr h
def Ç.of(hO:Only H)(h:bB K H a (ns.map V.int)):Ç K H a ns:=by
 rcases h with(h|⟨o,h⟩)|h
 ·rcases hO a with z|⟨ob,xs,z⟩
  ·grind
  grind
 ·show .inl ⟨o,h⟩
 ·show .inr h
def Ç.same{H':Hp}(e:aL H H')(h:Ç K H a ns):Ç K H' a ns:=by
 rcases h with⟨o,h⟩|h
 ·show .inl ⟨o,e _ _ h⟩
 ·show .inr h
inductive a2s(K:aJ)(vs:af)(H:Hp)(Q:VK)(u_3:XK):Prop
 |mk (a:Addr) (ns:ae) (_:vs=[.ref a]) (_:Ç K H a ns) (_:ns.length<=63) (_:∀H',Q (.bl true) H')
end Lw
namespace L2
open PyProof.Rows
variable{K:aJ}{mg:Str->Option Value}{k:Nat}
def a5N{h:Heap}{x:Str}{st:Stmt}{ps:ag}{f:Addr}{oc:Value}{od an:Option Addr}{osl:Array (Option Value)}{kV doc pm dX ct:Value}(X:K.In h)(G:h.Ns mainGlobals mg)
  (a:nsIn K mainGlobals x=some ⇑f) (l:K.lookup f=some ⟨oc,od,.func (fnOf x x (gO st) (gj st) (aG st) .none kV doc pm an dX ct),osl⟩) (c:codeIn K dX x=true) (k:keepIn K (.ref f)=true)
  (hb:∀(kV doc pm:Value) (an:Option Addr) (dX ct:Value) (us:aw),us.length=ps.length->bindArgs (fnOf x x (gO st) (gj st) (aG st) .none kV doc pm an dX ct) ⟨us,[]⟩=pure (ps.zip us)) :
  Nonempty (Dn K mg x st ps) :=
 let F:=Vo (st:=st) l c k
 ⟨⟨f,_,F,F.binds hb,Nm X G a,λs us hl=>.of_eq (hb _ _ _ _ _ _ us hl)⟩⟩
def a5O{h:Heap}(X:K.In h)(G:h.Ns mainGlobals mg)
  (z1:nsIn K mainGlobals "len" = some none) (z2:nsIn K mainGlobals "range" = some none) (z3:nsIn K mainGlobals "list" = some none) (z4:nsIn K mainGlobals "isinstance" = some none) (z5:nsIn K mainGlobals "int" = some none)
  (z6:nsIn K mainGlobals "bool" = some none) (z7:nsIn K mainGlobals "str" = some none) (z8:nsIn K mainGlobals "all" = some none) (z9:nsIn K mainGlobals "any" = some none) (z10:nsIn K mainGlobals "sorted" = some none)
  (z11:nsIn K mainGlobals "set" = some none) (z12:nsIn K mainGlobals "min" = some none) (z13:nsIn K mainGlobals "max" = some none) (z14:nsIn K mainGlobals "tuple" = some none) (z15:nsIn K mainGlobals "enumerate" = some none)
  (z16:nsIn K mainGlobals "dict" = some none) (z17:nsIn K mainGlobals "ValueError" = some none):Bl mg:=by
 show⟨λx hx=>?_⟩;simp only[List.mem_cons,List.not_mem_nil,or_false]at hx;rcases hx with rfl|rfl|rfl|rfl|rfl|rfl|rfl|rfl|rfl|rfl|rfl|rfl|rfl|rfl|rfl|rfl|rfl
 ·show jW X G z1
 ·show jW X G z2
 ·show jW X G z3
 ·show jW X G z4
 ·show jW X G z5
 ·show jW X G z6
 ·show jW X G z7
 ·show jW X G z8
 ·show jW X G z9
 ·show jW X G z10
 ·show jW X G z11
 ·show jW X G z12
 ·show jW X G z13
 ·show jW X G z14
 ·show jW X G z15
 ·show jW X G z16
 ·show jW X G z17
def a3A{P:Program}{w:World}{fa:Addr}{st:Stmt}{sp:Sp}{x:Str}(hfa:mg "law" =⇑fa)(d:Dn K mg "law" st [x])(F:∀base:Heap,⋯ k d.f d.fd [x] sp) :
  ∃fd:FuncData,(∀(s:Shared) (u:Value),BindsTo s fd ⟨[u],[]⟩ [(x,u)])/\∀base:Heap,K.In base->base.Ns mainGlobals mg->⋯ k fa fd [x] sp:=by
 let e:fa=d.f:=by
  let:=hfa.symm.trans d.m;let:=dD this;cases this;rfl
 subst e;show⟨d.fd,λs u=>d.bd s [u] Z,λbase _ _=>F base⟩
def Ite(K:aJ)(a:Addr):It :=
 ⟨λi H=>∃xs x,bB K H a xs/\xs[i]?=some x,λi H x H'=>∃p y,x=.ref p/\iD H p (.tup [.int i,y]) H'/\∀xs,bB K H a xs->xs[i]?=some y,λi H=>∃xs,bB K H a xs/\xs.length<=i⟩
def YW{P:Program}{w:World}{elts:ba}{pos:Pos}(a it e:Addr)(hei:e≠it):Turn P w K (.Tuple elts k pos) (Ite K a) [e,it] e (λi h=>(∃old,IsEnum h e it i old)/\h.IsListIter it a i) where
 mem:=by simp
 obj:=λi h st b hb=>by
  let⟨⟨old,he⟩,hit⟩:=st
  rcases bQ.mp hb with rfl|hb
  ·grind
  ·rw[bG.mp hb]
   let⟨o,e1,c,d⟩:=hit
   grind
 keep:=λi h h' st kk=>by
  let⟨⟨old,he⟩,hit⟩:=st
  show⟨⟨old,kk e (by simp) _ he⟩,hit.at λo q=>kk it (by simp) o q⟩
 item:=by
  intro X hP hw hK hc i Y s σ H E I hf st hg
  subst hP hw hK
  let⟨xs,x,hq,hx⟩:=hg
  let⟨bR,rv,pl,hz⟩:=I.list hq
  let⟨u,hu,ru⟩:=rv.get hx
  let⟨⟨old,he⟩,hit⟩:=st
  let⟨f0,f1,f2,f3,f4,f5⟩:=hf e (by simp)
  let⟨g0,g1,g2,g3,g4,g5⟩:=hf it (by simp)
  show wpAny_pyNext_enum_item he hit pl.isList (x:=u) () hei λh' ho hit' hT hsz hk=>?_
  show⟨_,Z,Ö ho λh2 he2 hs2=>?_⟩
  let eT:s⁻¹≠e:=iJ (bf he)
  let iT:s⁻¹≠it:=by
   let⟨o,e1,_⟩:=hit
   show iJ (bf e1)
  let hT2:h2.get? s⁻¹=some { cls:=.type "tuple",data:=.seq #[.int i s.toks,u]}:=(hs2.2 _ eT).trans hT
  let kp:∀b o,b≠e->b≠it->s^^^b=some o->h2.get? b=some o:=λb o h1 h2' q=>(hs2.2 b h1).trans (hk b o h1 h2' q)
  let I1:bD X Y σ H { s with heap:=h2,toks:=s.toks+1}:=by
   show I.step (g':=s.gens) (d':=s.drawn) (H':=H) (ch:=[e,it]) (λb hb=>?_) (λb o _ _ hc q _=>kp b o (λz=>hc (by simp[z])) (λz=>hc (by simp[z])) q) (λb o _ _ hc q _=>⟨o.slots,kp b o (λz=>hc (by simp[z])) (λz=>hc (by simp[z])) q⟩) (λ_ _ _ _ n=>n)
    (λb o hc q=>⟨o,kp b o (λz=>hc (by simp[z])) (λz=>hc (by simp[z])) q⟩) (λ_ _ q=>q) (λ_ _ _ q=>q) (λb ps q=>⟨#[],by rw[q];simp⟩) (λm hm=>?_) (λb o q=>?_) I.bare
   ·rcases bQ.mp hb with rfl|hb
    ·show⟨f3,f1,f4,f5⟩
    ·rw[bG.mp hb];show⟨g3,g1,g4,g5⟩
   ·let⟨o,es,ep,q,r⟩:=hm
    show⟨o,es,ep,kp _ o (Ne.symm f1) (Ne.symm g1) q,r⟩
   ·let nb:∀c v,H c=some v->c≠e/\c≠it:=λc v q=>⟨dO q f0,dO q g0⟩
    show(I.hok b o q).stay (λc v hcc r=>kp c v ?_ ?_ r) (λ_ q=>q) λ_ _ q=>q
    ·grind
    grind
  let hfree:H s⁻¹=none:=I.hok.fresh (aK _)
  let I2:bD X Y σ (cY H s⁻¹ (.tup [.int i,x])) { s with heap:=h2,toks:=s.toks+1}:=by
   show bD.track I1 hfree I.sz (iJ I.lt) (λy c q=>?_) (λp hp=>bY (bf (I.pin p hp).1)) ?_
   ·let⟨v,oc,q1,_⟩:=I.cell y c q
    show bY (bf q1)
   ·show⟨(by show 2<=sizeLine;decide),[.int i s.toks,u],.cons ⟨_,Z⟩ (.cons ru .nil),⟨_,hT2,Z,_,Z⟩⟩
  show⟨.ref s⁻¹,_,I2,Z,⟨_,x,Z,iD.oh hfree,λys hy=>by rw[I.wW hy hq];show hx⟩,⟨⟨u,?_⟩,hit'.at λo q=>(hs2.2 it (Ne.symm hei)).trans q⟩,λb hb=>?_⟩
  ·grind
  ·rcases bQ.mp hb with rfl|hb
   ·rw[aZ (Ne.symm eT)];show f0
   ·rw[bG.mp hb,aZ (Ne.symm iT)];show g0
 done:=by
  intro X hP hw hK hc i Y s σ H E I hf st hg
  subst hP hw hK
  let⟨xs,hq,hx⟩:=hg
  let⟨bR,rv,pl,hz⟩:=I.list hq
  let⟨⟨old,he⟩,hit⟩:=st
  let⟨g0,g1,g2,g3,g4,g5⟩:=hf it (by simp)
  let hl:=rv.length
  show wpAny_pyNext_enum_end (I.ok.hd hc) he hit pl.isList (by simp;omega) λh' eb=>⟨Z,I.turned (t':=s.toks) (λb o hb q=>eb b o hb q) g0 g1 g3 g4 g5⟩
 self:=λ_ _ _ _ _ st h=>by
  let⟨⟨old,he⟩,_⟩:=st
  show Mv he h
section
variable{X:Cx}
def a5P(K:aJ)(ta:TA):TI:=λσ H R=>ta σ H λvs H1=>∃a,vs=[.ref a]/\(∃xs,bB K H1 a xs)/\R (Ite K a) H1
def a0y{elts:ba}{tpos:Pos}{l:Expr}{ta:TA}{p pos:Pos}(e0:X.K=K)(hg:Gl X "enumerate")(hm:X.mg "enumerate" = none)(ha:PA X [l] ta)(hs:@&(starEach [l] X.env=[(false,eval l X.env)])) :
  PI X (.Tuple elts k tpos) (.Call (.Name "enumerate" p) [l] [] pos) (a5P K ta):=by
 subst e0;intro Y s σ H R I h;show vy (um I hg hm boot_enumerate (wH (jC (ha pos Y s σ H _ I h) λus s1 ⟨vs,H1,I1,r1,q1⟩=>?_) hs (by rfl)));let⟨a,e,⟨xs,hq⟩,q⟩:=q1;subst e;let⟨u,rfl,ru⟩:=vals1 r1;cases ru;let⟨bR,rv,pl,hz⟩:=I1.list hq;show call_enumerate_list pl.isList λh' he hit hsz hk=>Mv he ?_;let I2:bD X Y σ H1 (s1•h'):=I1.kept (t':=s1.toks) hk;show⟨s1⁻¹+1,[s1⁻¹+1,s1⁻¹],_,_,H1,Z,I2,YW a s1⁻¹ (s1⁻¹+1) (iJ (wM _)),⟨⟨_,he⟩,hit⟩,λb hb=>?_,q⟩;let hb':s1⁻¹<=b:=by
  grind
 show I1.Fd hb' (I1.hok.fresh hb')
end
def Ć{a:Addr}{xs:af}{g:TG}{tb:TS}{D:Ends}{σ:St}{H:Hp}(Pv:Nat->St->Hp->Prop)(h0:Pv 0 σ H)(hl:∀i σ H,i<=xs.length->Pv i σ H->bB K H a xs)
  (hs:∀(i:Nat) x σ H p H',xs[i]?=some x->Pv i σ H->iD H p (.tup [.int i,x]) H'->g (.ref p) σ H' λσ2 H2=>tb { D with nx:=Pv (i+1),ct:=Pv (i+1),bk:=D.nx} σ2 H2) (hd:∀σ H,Pv xs.length σ H->D.nx σ H) :
  ∃W:Nat->Nat->St->Hp->Prop,(∃m,W 0 m σ H)/\∀i m σ H,W i m σ H->
   ((Ite K a).stop i H/\D.nx σ H)\/((Ite K a).go i H/\∃N:St->Hp->Prop,(∀σ' H',N σ' H'->∃m',m'<m/\W (i+1) m' σ' H')/\∀x H',(Ite K a).W6 i H x H'->g x σ H' λσ2 H2=>tb { D with nx:=N,ct:=N,bk:=D.nx} σ2 H2):=by
 show⟨λi m σ H=>m=xs.length-i/\i<=xs.length/\Pv i σ H,⟨xs.length,by simp,cW _,h0⟩,?_⟩;rintro i m σ H ⟨rfl,hi,p⟩;let q:=hl i σ H hi p;by_cases hlt:i<xs.length
 ·show .inr ⟨⟨xs,xs[i],q,by simp[hlt]⟩,Pv (i+1),λσ' H' p'=>⟨xs.length-(i+1),(),Z,hlt,p'⟩,λx H' y=>?_⟩;let⟨pp,y0,rfl,nw,ex⟩:=y;show hs i y0 σ H pp H' (ex xs q) p nw
 ·let e:i=xs.length:=()
  subst e;show .inl ⟨⟨xs,q,aK _⟩,hd σ H p⟩
def ć{a:Addr}{xs:af}{ix:List (Option Nat)}{g:TG}{tt:TT}{te:TE}{σ:St}{H1:Hp}{Q:VK}(f:Nat->Option V)(hx:bB K H1 a xs)(hz:xs.length<=1000)
  (hs:∀(i:Nat) x H (N:Option V->Hp->Prop),xs[i]?=some x->aL H1 H->(∀H',aL H1 H'->N (f i) H')->g x (qj ix σ) H λσ2 H2=>tt σ2 H2 λb H3=>if b=true then te σ2 H3 λv H4=>N (some v) H4 else N none H3)
  (hd:∀H p H',aL H1 H->iD H p (.lst ((List.range xs.length).filterMap f)) H'->Q (.ref p) H'):lV ix g tt te σ H1 Q (Æ K a):=by
 show qP (K:=K) (a:=a) (xs:=xs) (λi ys H=>ys=(List.range i).filterMap f/\aL H1 H) ⟨Z,aL.refl _⟩ (λi ys H hi ⟨e,s⟩=>⟨s.seq hx,?_⟩) (λi x ys H hi ⟨e,s⟩=>?_) λys H ⟨e,s⟩ p hp=>?_
 ·subst e;show cF (SX _ _) ?_;rw[vA];show cF hi (fD (cZ hz))
 ·show hs i x H (λo H'=>match o with|some v=>(ys++[v]=(List.range (i+1)).filterMap f/\aL H1 H')|none=>(ys=(List.range (i+1)).filterMap f/\aL H1 H')) hi s λH' s'=>?_;cases ef:f i with
  |some v =>
   show⟨?_,s'⟩;rw[e,wO,wK];simp[ef]
  |none =>
   show⟨?_,s'⟩;rw[e,wO,wK];simp[ef]
 ·subst e;show hd H p _ s (iD.oh hp)
end L2
namespace Bg
open L2 Lw
abbrev zP:=Option Int×ae
noncomputable def Ed(ns:ae):Bool:=(List.range (ns.length-1)).all λi=>decide (ns.getD i 0<ns.getD (i+1) 0)
def Vt(n:Int)(ns:ae):Bool:=(ns.all λv=>decide (0<=v/\v<n))&&Ed ns
noncomputable def oX(n:Int):Option Int->Bool
 |none=>false
 |some i=>decide (0<=i/\i<n)
noncomputable def rowAt(rs:List zP)(k:Nat):zP:=rs.getD k (none,[])
inductive Flt where
 |ok|row (k:Nat)|place (v:Nat)|tie (a b:Int)|apart (v j k:Nat)
 deriving DecidableEq
variable{i:Nat}
noncomputable def upV:Option Int->V
 |none=>.non
 |some i=>.int i
def Vu(K:aJ)(H:Hp)(v:V)(t:Int×Int):Prop:=∃p,v=.ref p/\cN K H p [.int t.1,.int t.2]
inductive Dc(K:aJ)(H:Hp)(a:Addr)(ts:ar):Prop
 |mk (xs:_) (_:bB K H a xs) (_:Paired (Vu K H) xs ts) (_:ts.length<=1000)
inductive ur(K:aJ)(H:Hp)(v:V)(n:Int)(ts:ar):Prop
 |mk (p a:_) (_:v=.ref p) (_:cN K H p [.int n,.ref a]) (_:Dc K H a ts)
def Dc.same{K:aJ}{H H':Hp}{a:Addr}{ts:ar}(e:aL H H')(h:Dc K H a ts):Dc K H' a ts:=by
 let⟨xs,h1,h2,h3⟩:=h;show⟨xs,e.seq h1,Paired.cD h2 λ_ _ ⟨p,q1,q2⟩=>⟨p,q1,e.vM q2⟩,h3⟩
def ur.same{K:aJ}{H H':Hp}{v:V}{n:Int}{ts:ar}(e:aL H H')(h:ur K H v n ts):ur K H' v n ts:=by
 let⟨p,a,h1,h2,h3⟩:=h;show⟨p,a,h1,e.vM h2,h3.same e⟩
def bI{α β:Type}{F:α->β->Prop}{xs:List α}{ys:List β}{x:α}(p:Paired F xs ys)(e:xs[i]?=some x):∃y,ys[i]?=some y/\F x y:=by
 induction p generalizing i with
 |nil=>cases e
 |cons h r ih =>
  cases i with
  |zero=>cases e;show⟨_,Z,h⟩
  |succ i=>show ih (i:=i) e
def cP{α β:Type}{F:α->β->Prop}{xs:List α}{ys:List β}{y:β}(p:Paired F xs ys)(e:ys[i]?=some y):∃x,xs[i]?=some x/\F x y:=by
 induction p generalizing i with
 |nil=>cases e
 |cons h r ih =>
  cases i with
  |zero=>cases e;show⟨_,Z,h⟩
  |succ i=>show ih (i:=i) e
def uQ{rs:List zP}(h:i<rs.length):rs[i]?=some (rowAt rs i):=by
 unfold rowAt;grind
def Xm(ns:ae)(v:Int):(ns.map PyData.int).any (λe=>PyData.eqv e (.int v))=decide (v∈ns):=by
 induction ns with
 |nil=>rfl
 |cons a r ih =>
  rw[b8,oO,ih,PyData.eqv];grind
def Vv(ns:ae):PyData.depthAll (ns.map PyData.int)=0:=by
 induction ns with
 |nil=>rfl
 |cons a r ih=>rw[b8,PyData.depthAll,ih];rfl
def Ĉ(ns:ae):PyData.canLayAll0 (ns.map PyData.int)=true:=by
 induction ns with
 |nil=>rfl
 |cons a r ih=>rw[b8,PyData.canLayAll0,ih];rfl
def shaped_ints(ns:ae):SeqAt.shaped (.list (ns.map PyData.int))=true:=by
 unfold SeqAt.shaped;rw[PyData.canLay0,Ĉ,PyData.depth,Vv];decide
def Qp(ns ms:ae):PyData.eqv (.list (ns.map PyData.int)) (.list (ms.map PyData.int))=decide (ns=ms):=by
 rw[PyData.eqv];show PySem.W.ked_eqvAll ns ms
def yU{K:aJ}{H:Hp}{b:Addr}{ns:ae}{v:Int}{Q:VK}(hS:bB K H b (ns.map V.int))(q:Q (.bl (decide (v∈ns))) H):Vq K false (.int v) (.ref b) H Q :=
 ⟨_,_,.int v,.lst hS (uO.ints ns),Z,shaped_ints ns,by rw[Xm];show q⟩
def rB{K:aJ}{H:Hp}{b:Addr}{ns:ae}{v:Int}{Q:VK}(hS:bB K H b (ns.map V.int))(q:Q (.bl (!decide (v∈ns))) H):Vq K true (.int v) (.ref b) H Q :=
 ⟨_,_,.int v,.lst hS (uO.ints ns),Z,shaped_ints ns,by rw[Xm];show q⟩
end Bg
namespace L2
open PyProof.Rows
inductive a5Q(o:V)(i:V)(v:V)(H:Hp)(Q:Hp->Prop):Prop
 |mk (p xs k j:_) (_:o=.ref p) (_:i=.int k) (_:H p=↥xs) (_:Ρ xs.length k=some j) (_:∀H',uP H p (.lst (xs.set j v)) H'->Q H')
def YX{X:Cx}:a0d X a5Q:=λY s σ H o i v ov iv u Q I ro ri rv ⟨p,xs,k,j,e1,e2,h1,h2,q⟩=>set_list Y s σ H o i v ov iv u Q I ro ri rv ⟨p,xs,k,j,e1,e2,h1,h2,q _ uP.oh⟩
def a0z{n j:Nat}(h:j<n):Ρ n (j:Int)=some j:=by
 unfold Ρ;rw[aB (),aB ()];simp
def aL.chg{H H':Hp}{l:Addr}{o:HO}{H0:Hp}(s:aL H0 H)(h0:H0 l=none)(c:uP H l o H'):aL H0 H':=λb u e=>(c.rest b (dO e h0)).trans (s b u e)
end L2
namespace Bg
open L2 Lw
variable{H H':Hp}
def YZ(a b:Int)(r:ae):Ed (a::b::r)=(decide (a<b)&&Ed (b::r)):=by
 unfold Ed;let e:(a::b::r).length-1=(b::r).length-1+1:=by simp
 rw[e,List.range_succ_eq_map,Ux,Nv];rfl
theorem Qq:∀ls:ae,Ed ls=true↔ls.Pairwise (· < ·)
 | []=>by simp[Ed]
 | [a]=>by simp[Ed]
 |a::b::r=>by
  rw[YZ,fU,Qq (b::r),dJ,tY (a:=a)]
  constructor
  ·rintro⟨h1,h2⟩
   show⟨λc hc=>?_,h2⟩
   rcases bQ.mp hc with rfl|hc
   ·show h1
   ·show Int.lt_trans h1 ((tY.mp h2).1 c hc)
  ·rintro⟨h1,h2⟩
   show⟨h1 b bh,h2⟩
def a0A(n:Int)(ls:ae):Vt n ls=true↔(∀v∈ls,0<=v/\v<n)/\ls.Pairwise (· < ·):=by
 unfold Vt;rw[fU,Qq,g8];constructor
 ·rintro⟨h1,h2⟩;show⟨λv hv=>dw (h1 v hv),h2⟩
 ·rintro⟨h1,h2⟩;show⟨λv hv=>aR (h1 v hv),h2⟩
inductive kZ(H:Hp)(v:V)(t:Int×Int):Prop
 |mk (p:_) (_:v=.ref p) (_:H p= ~~~[.int t.1,.int t.2])
inductive JG(l:Addr)(H:Hp)(v:V)(r:zP):Prop
 |mk (p b:_) (_:v=.ref p) (_:H p= ~~~[upV r.1,.ref b]) (_:H b=↥(r.2.map V.int)) (_:b≠l) (_:r.2.length<=1000)
def kZ.v{K:aJ}{H:Hp}{v:V}{t:Int×Int}(h:kZ H v t):Vu K H v t:=by
 let⟨p,e,q⟩:=h;show⟨p,e,cN.of q⟩
def kZ.same{v:V}{t:Int×Int}(s:aL H H')(h:kZ H v t):kZ H' v t:=by
 let⟨p,e,q⟩:=h;show⟨p,e,s _ _ q⟩
def kZ.chg{l:Addr}{xs ys:af}{v:V}{t:Int×Int}(hl:H l=↥xs)(c:uP H l (.lst ys) H')(h:kZ H v t):kZ H' v t:=by
 let⟨p,e,q⟩:=h;show⟨p,e,(c.rest p (a2n q hl ())).trans q⟩
def JG.same{l:Addr}{v:V}{r:zP}(s:aL H H')(h:JG l H v r):JG l H' v r:=by
 let⟨p,b,e,q1,q2,n,z⟩:=h;show⟨p,b,e,s _ _ q1,s _ _ q2,n,z⟩
def d7{α β:Type}{F:α->β->Prop}{xs:List α}{ys:List β}{x:α}{y:β}(h:Paired F xs ys)(q:F x y):Paired F (xs++[x]) (ys++[y]):=by
 induction h with
 |nil=>show .cons q .nil
 |cons h _ ih=>show .cons h ih
noncomputable def qG(t:Int×Int):PyData:=.tuple [.int t.1,.int t.2]
def Vu.isD{K:aJ}{v:V}{t:Int×Int}(h:Vu K H v t):Hw K H v (qG t):=by
 let⟨p,rfl,q1⟩:=h;show .tup q1 (.cons (.int _) (.cons (.int _) .nil))
def FQ{K:aJ}{α:Type}{F:V->α->Prop}{f:α->PyData}(hf:∀v x,F v x->Hw K H v (f x)){xs:af}{ys:List α}(h:Paired F xs ys):uO K H xs (ys.map f):=by
 induction h with
 |nil=>show .nil
 |cons h _ ih=>show .cons (hf _ _ h) ih
def ĉ(ts:ar):PyData:=.list (ts.map qG)
def Dc.isD{K:aJ}{H:Hp}{a:Addr}{ts:ar}(h:Dc K H a ts):Hw K H (.ref a) (ĉ ts):=by
 let⟨xs,h1,h2,_⟩:=h;show .lst h1 (FQ (λv x q=>q.isD) h2)
theorem FT{α:Type}{f:α->PyData}(h:∀x,(f x).canLay0=true):∀l:List α,PyData.canLayAll0 (l.map f)=true
 | []=>rfl
 |x::r=>by rw[b8,PyData.canLayAll0,h x,FT h r];rfl
theorem uR{α:Type}{f:α->PyData}{k:Nat}(h:∀x,(f x).depth<=k):∀l:List α,PyData.depthAll (l.map f)<=k
 | []=>cW _
 |x::r=>by
  rw[b8,PyData.depthAll]
  show Nat.max_le.mpr ⟨h x,uR h r⟩
def Xn(t:Int×Int):(qG t).canLay0=true:=rfl
def Kr(t:Int×Int):(qG t).depth<=1:=by
 unfold qG;simp[PyData.depth,PyData.depthAll]
def Qs(ts:ar):SeqAt.shaped (ĉ ts)=true:=by
 unfold SeqAt.shaped ĉ;rw[PyData.canLay0,FT Xn,PyData.depth,GX];show aR (by let:=uR Kr ts;omega)
def Qt{d:PyData}(h:SeqAt.shaped d=true):PyData.eqv d d=true:=SeqAt.eqv_refl d (vp h)
end Bg
namespace L2
inductive T1(f:Option V->St)(σ:St):Prop
 |mk (a:_) (h:σ=f a)
inductive T2(f:Option V->Option V->St)(σ:St):Prop
 |mk (a b:_) (h:σ=f a b)
inductive T3(f:Option V->Option V->Option V->St)(σ:St):Prop
 |mk (a b c:_) (h:σ=f a b c)
inductive T4(f:Option V->Option V->Option V->Option V->St)(σ:St):Prop
 |mk (a b c d:_) (h:σ=f a b c d)
inductive T5(f:Option V->Option V->Option V->Option V->Option V->St)(σ:St):Prop
 |mk (a b c d e:_) (h:σ=f a b c d e)
inductive P3{α:Type}(A B:Prop)(C:α->Prop):Prop
 |mk (a:A) (b:B) (x:α) (c:C x)
inductive P4{α:Type}(A B:Prop)(C D:α->Prop):Prop
 |mk (a:A) (b:B) (x:α) (c:C x) (d:D x)
def P3.s{α:Type}{A B:Prop}{C:α->Prop}(h:P3 A B C):B:=by cases h;assumption
def P4.s{α:Type}{A B:Prop}{C D:α->Prop}(h:P4 A B C D):B:=by cases h;assumption
end L2
namespace Qu
open PySem.W PyProof.Rows
variable{p:Array Nat}{m:Nat}
noncomputable def Ok(n:Nat)(key:Nat->Int){α:Type}:KasT α->(α->Prop)->Prop
 |.ret a,Q=>Q a
 |.ask i j k,Q=>i<n/\j<n/\Ok n key (k (decide (key i<key j))) Q
section
variable{n:Nat}{key:Nat->Int}{α β:Type}
theorem Ok.mono{Q Q':α->Prop}(h:∀a,Q a->Q' a):∀{t:KasT α},Ok n key t Q->Ok n key t Q'
 |.ret _,x=>h _ x
 |.ask _ _ _,⟨a,b,x⟩=>⟨a,b,Ok.mono h x⟩
theorem Ok.bind{f:α->KasT β}{Q:β->Prop}:∀{t:KasT α},Ok n key t (λa=>Ok n key (f a) Q)->Ok n key (t.bind f) Q
 |.ret _,x=>x
 |.ask _ _ _,⟨a,b,x⟩=>⟨a,b,Ok.bind x⟩
theorem Ok.wp{cmp:Nat->Nat->(Bool->Shared->Prop)->Shared->Prop}{s:Shared}{Q:α->Prop}{R:α->Shared->Prop}(hc:∀i j (C:Bool->Shared->Prop),i<n->j<n->C (decide (key i<key j)) s->cmp i j C s)(hq:∀a,Q a->R a s) :
  ∀{t:KasT α},Ok n key t Q->t.kasWp cmp R s
 |.ret _,x=>hq _ x
 |.ask i j k,⟨a,b,x⟩=>hc i j _ a b (Ok.wp hc hq x)
structure Pm(n:Nat)(p:Array Nat):Prop where
 perm:p.Perm (List.range n).toArray
def Pm.size{p:Array Nat}(h:Pm n p):p.size=n:=by
 let:=h.perm.size_eq;grind
def Pm.lt(h:Pm n p){i:Nat}(hi:i<n):p.getD i 0<n:=by
 let hs:=h.size;let hi':i<p.size:=()
 let hm:p[i]∈(List.range n):=by
  let:=(SN.mp h.perm).mem_iff (a:=p[i]);simpa using this
 let:p.getD i 0=p[i]:=by simp[Array.getD,hi']
 rw[this];show fX.mp hm
def Pm.of{q:Array Nat}(h:Pm n p)(e:q.Perm p):Pm n q:=⟨e.trans h.perm⟩
noncomputable def KK(key:Nat->Int)(p:Array Nat)(i:Nat):Int:=key (p.getD i 0)
def Dd(p:Array Nat)(i:Nat):p.getD i 0=(p[i]?).getD 0:=by simp[Array.getD_eq_getD_getElem?]
def Hy{i j:Nat}(hj:j<=p.size)(k:Nat):KK key (kas_rev p i j) k=if i<=k/\k<j then KK key p (i+j-1-k)else KK key p k:=by
 unfold KK kas_rev;rw[Dd,getElem?_mirror_all hj];split<;>rw[Dd]
def Ċ{k d:Nat}(hk:k<p.size)(hd:d<=k)(i:Nat):KK key (bubble p k d) i=if i=k-d then KK key p k else if k-d<i/\i<=k then KK key p (i-1)else KK key p i:=by
 unfold KK;rw[Dd,Dd p k,Dd p (i-1),Dd p i,getElem?_bubble hk d hd];split
 ·rfl
 ·split<;>rfl
def Df(key:Nat->Int)(p:Array Nat)(m:Nat):Prop:=∀i j,i<=j->j<m->KK key p i<=KK key p j
def Down(key:Nat->Int)(p:Array Nat)(m:Nat):Prop:=∀i j,i<=j->j<m->KK key p j<=KK key p i
def Pm.rev(h:Pm n p)(i j:Nat):Pm n (kas_rev p i j):=h.of (mirror_perm _ _ _ _)
theorem Vw{p:Array Nat}(hp:Pm n p):∀(f m:Nat),1<=m->m+f<=n->Df key p m->Ok n key (kas_asc p f m) (λr=>m<=r/\r<=m+f/\Df key p r/\(r=m+f\/KK key p r<KK key p (r-1)))
 |0,m,_,_,hs=>⟨aK _,aK _,hs,.inl Z⟩
 |f+1,m,h1,hm,hs=>by
  show⟨hp.lt (),hp.lt (),?_⟩
  by_cases c:key (p.getD m 0)<key (p.getD (m-1) 0)
  ·rw[aR c];lk;rw[aB rfl]
   show⟨aK _,(),hs,.inr c⟩
  ·rw[cC c];lk;rw[aA cL]
   show Ok.mono (λr ⟨a,b,d,e⟩=>⟨(),(),d,?_⟩) (Vw hp f (m+1) () () ?_)
   ·intro i j hij hj
    by_cases hjm:j<m
    ·show hs i j hij hjm
    ·let:j=m:=()
     subst this
     by_cases hi:i=j
     ·grind
     ·let q:=hs i (j-1) () ()
      let c':KK key p (j-1)<=KK key p j:=by unfold KK;omega
      omega
   ·rcases e with e|e
    ·show .inl ()
    ·show .inr e
def Qv(hp:Pm n p)(h1:1<=m)(hm:m<=n)(hd:Down key p m):Ok n key (kas_tail3 m n p) (λr=>Pm n r.2/\1<=r.1/\r.1<=n/\Df key r.2 r.1):=by
 show Ok.bind (Ok.mono (λr ⟨a,b,c,_⟩=>?_) (Vw (hp.rev 0 m) (n-m) m h1 () ?_))
 ·intro i j hij hj;let hs:=hp.size;rw[Hy (),Hy (),aB (),aB ()];show hd _ _ () ()
 ·show⟨hp.rev 0 m,(),(),c⟩
def Dg{q:Nat}(hm:m<=p.size)(he:∀i,m-(q+1)<=i->i<m->KK key p i=KK key p (m-1))(k:Nat):KK key (kas_rev p (m-(q+1)) m) k=KK key p k:=by
 rw[Hy hm];by_cases c:m-(q+1)<=k/\k<m
 ·rw[aB c,he k c.1 c.2,he _ () ()]
 ·rw[aA c]
theorem FW:∀(f:Nat) {p:Array Nat} (m q:Nat),Pm n p->1<=m->m+f<=n->Down key p m->q+1<=m->(∀i,m-(q+1)<=i->i<m->KK key p i=KK key p (m-1))->
  Ok n key (kas_desc f p m q) (λr=>Pm n r.1/\1<=r.2.1/\r.2.1<=n/\Down key r.1 r.2.1/\r.2.2+1<=r.2.1/\∀i,r.2.1-(r.2.2+1)<=i->i<r.2.1->KK key r.1 i=KK key r.1 (r.2.1-1))
 |0,p,m,q,hp,h1,hm,hd,hq,he=>⟨hp,h1,(),hd,hq,he⟩
 |f+1,p,m,q,hp,h1,hm,hd,hq,he=>by
  show⟨hp.lt (),hp.lt (),?_⟩
  let hs:=hp.size
  let gW:∀(p':Array Nat),(∀k,KK key p' k=KK key p k)->KK key p m<=KK key p (m-1)->Down key p' (m+1):=λp' hk c i j hij hj=>by
   rw[hk,hk]
   by_cases hjm:j<m
   ·show hd i j hij hjm
   ·let:j=m:=()
    subst this
    by_cases hi:i=j
    ·grind
    ·let:=hd i (j-1) () ();omega
  by_cases c:key (p.getD m 0)<key (p.getD (m-1) 0)
  ·rw[aR c];lk;rw[aB rfl]
   let c1:KK key p m<=KK key p (m-1):=by unfold KK;omega
   by_cases hq0:q>0
   ·rw[aB hq0]
    show FW f (m+1) 0 (hp.rev _ _) () () (gW _ (Dg () he) c1) () λi a b=>by grind
   ·rw[aA hq0]
    show FW f (m+1) 0 hp () () (gW _ (λ_=>rfl) c1) () λi a b=>by grind
  ·rw[cC c];lk;rw[aA cL]
   show⟨hp.lt (),hp.lt (),?_⟩
   by_cases d:key (p.getD (m-1) 0)<key (p.getD m 0)
   ·rw[aR d];lk;rw[aB rfl]
    show⟨hp,h1,by show m<=n;omega,hd,hq,he⟩
   ·rw[cC d];lk;rw[aA cL]
    let e:KK key p m=KK key p (m-1):=by unfold KK;omega
    show FW f (m+1) (q+1) hp () () (gW _ (λ_=>rfl) ()) () λi a b=>?_
    grind
def Ef(hp:Pm n p)(hm:m+1<=n)(hd:Down key p (m+1)):Ok n key (kas_descPart m n p) (λr=>Pm n r.2/\1<=r.1/\r.1<=n/\Df key r.2 r.1):=by
 show Ok.bind (Ok.mono (λr ⟨a,b,c,d,e,g⟩=>?_) (FW (n-(m+1)) (m+1) 0 hp () () hd () λi x y=>by grind));let hs:=a.size;by_cases q:r.2.2>0
 ·rw[aB q];show Qv (a.rev _ _) b c λi j x y=>by rw[Dg () g,Dg () g];show d i j x y
 ·rw[aA q];show Qv a b c d
def ċ(hp:Pm n p)(h1:1<=n):Ok n key (kas_count n p) (λr=>Pm n r.2/\1<=r.1/\r.1<=n/\Df key r.2 r.1):=by
 show Ok.bind (Ok.mono (λm ⟨a,b,c,d⟩=>?_) (Vw hp (n-1) 1 (aK _) () λi j x y=>by grind));by_cases e:m=n
 ·rw[aB (by simpa using e)];show⟨hp,a,(),c⟩
 ·rw[aA (by simpa using e)];let lt:KK key p m<KK key p (m-1):=by
   grind
  let hs:=hp.size;by_cases g:m>1
  ·rw[aB g];show⟨hp.lt (),hp.lt (),?_⟩;by_cases z:key (p.getD 0 0)<key (p.getD (m-1) 0)
   ·rw[aR z];lk;rw[aB rfl];show⟨hp,a,(),c⟩
   ·rw[cC z];lk;rw[aA cL];show Ef (hp.rev _ _) () ?_;let z':KK key p (m-1)<=KK key p 0:=by unfold KK;omega
    let all:∀i,i<m->KK key p i=KK key p 0:=λi hi=>by
     let q1:=c 0 i () hi;let q2:=c i (m-1) () ();omega
    intro i j hij hj;rw[Hy (),Hy ()];grind
  ·rw[aA g];let m1:m=1:=()
   subst m1;show Ef hp () λi j hij hj=>?_;grind
theorem Hz{p:Array Nat}(hp:Pm n p){k:Nat}(hk:k<n)(hs:Df key p k):∀(f l r:Nat),l<=r->r<=k->r-l<=f->(∀i,i<l->KK key p i<=KK key p k)->(∀i,r<=i->i<k->KK key p k<KK key p i)->
  Ok n key (kas_place p k f l r) (λl=>l<=k/\(∀i,i<l->KK key p i<=KK key p k)/\∀i,l<=i->i<k->KK key p k<KK key p i)
 |0,l,r,h1,h2,h3,lo,hi=>⟨(),lo,λi a b=>hi i () b⟩
 |f+1,l,r,h1,h2,h3,lo,hi=>by
  unfold kas_place
  by_cases c:l>=r
  ·rw[aB c]
   show⟨(),lo,λi a b=>hi i () b⟩
  ·rw[aA c]
   show⟨hp.lt hk,hp.lt (),?_⟩
   by_cases d:key (p.getD k 0)<key (p.getD ((l+r)/2) 0)
   ·rw[aR d];lk;rw[aB rfl]
    show Hz hp hk hs f l ((l+r)/2) () () () lo λi a b=>?_
    let:=hs ((l+r)/2) i a b
    let d':KK key p k<KK key p ((l+r)/2):=d
    omega
   ·rw[cC d];lk;rw[aA cL]
    show Hz hp hk hs f ((l+r)/2+1) r () h2 () (λi a=>?_) hi
    let:=hs i ((l+r)/2) () ()
    let d':KK key p ((l+r)/2)<=KK key p k:=by unfold KK;omega
    omega
theorem Č:∀(f:Nat) {p:Array Nat} (k:Nat),Pm n p->k+f=n->Df key p k->Ok n key (kas_bin f p k) (λp=>Pm n p/\Df key p n)
 |0,p,k,hp,hk,hs=>⟨hp,()⟩
 |f+1,p,k,hp,hk,hs=>by
  show Ok.bind (Ok.mono (λl ⟨a,lo,hi⟩=>?_) (Hz hp () hs k 0 k () (aK _) () (λi h=>by omega) λi h1 h2=>by omega))
  let hz:=hp.size
  show Č f (k+1) (hp.of (bubble_perm _ _ _)) () λi j hij hj=>?_
  rw[Ċ () (),Ċ () ()]
  rw[show k-(k-l)=l by omega]
  by_cases i1:i=l
  ·rw[aB i1]
   by_cases j1:j=l
   ·rw[aB j1];show Int.le_refl _
   ·rw[aA j1,aB ()]
    show Int.le_of_lt (hi (j-1) () ())
  ·rw[aA i1]
   by_cases i2:l<i/\i<=k
   ·rw[aB i2,aA (),aB ()]
    show hs (i-1) (j-1) () ()
   ·rw[aA i2]
    by_cases j1:j=l
    ·rw[aB j1];show lo i ()
    ·rw[aA j1]
     by_cases j2:l<j/\j<=k
     ·rw[aB j2];show hs i (j-1) () ()
     ·rw[aA j2];show hs i j hij ()
def a0B(h1:1<=n):Ok n key (kas_sort n) (λp=>Pm n p/\Df key p n):=by
 show Ok.bind (Ok.mono (λr ⟨a,b,c,d⟩=>?_) (ċ ⟨Array.Perm.refl _⟩ h1));by_cases e:r.1<n
 ·rw[aB e];show Č _ _ a () ?_;grind
 ·rw[aA e];show⟨a,()⟩
end
end Qu
namespace Qu
open PyProof.Rows PySem.Calls PySem.W
section
variable{prog:Program}{wo:World}{A:Around}{E:∅}{s:Shared}
def Asks(prog:Program)(wo:World)(A:Around)(κ:SortKind)(zs:aw)(key:Nat->Int)(s:Shared):Prop :=
 (∀(E:∅) (R:SortKind->Shared->Prop),R κ s->wpAny (model prog wo) A (keyKind' zs.toArray) R E s)/\
 ∀(i j:Nat) (C:Bool->Shared->Prop),i<zs.length->j<zs.length->C (decide (key i<key j)) s->kas_ask prog wo A κ zs i j C s
abbrev HB(zs:aw)(p:Array Nat):Array Value:=List.toArray (p.toList.map λi=>zs.getD i Value.none)
def a3B(vs:aw):HB vs (List.range vs.length).toArray=vs.toArray:=by
 unfold HB;congr 1;apply List.ext_getElem?;intro i;by_cases h:i<vs.length
 ·simp[h]
 ·simp[h]
def Oc{a:Addr}{zs:aw}{n:Nat}{κ:SortKind}{key:Nat->Int}{P:PySem.Fin->Shared->Prop}(oa:s^^^a=some (seqObj "list" zs.toArray n))(h64:zs.length<64)
  (hk:2<=zs.length->∀h',(∀b o,b≠a->s^^^b=some o->h'.get? b=some o)->Asks prog wo A κ zs key (s•h'))
  (h:∀p,Pm zs.length p->Df key p zs.length->P (.done (.ret .none)) (s•sortedHeap s.heap a zs (HB zs p))) :
  wpAny (model prog wo) A (Builtin.«list.sort» ⟨[.ref a],[]⟩) P E s:=by
 rw[list_sort_plain];let la:a<s⁻¹:=bf oa;show M (listItems_at oa Z ?_);show M (Uy oa Z ?_ (by rw[fW,gM];omega) (cW _));obtain⟨ep,oa1⟩:∃ep,(s.heap.update a (Obj.mapSeq λ_=>#[])).get? a=some (seqObj "list" #[] ep):=⟨_,Ur oa λ_=>#[]⟩;show M (seqEpoch_at oa1 Z ?_);show M (Nf ?_ (by show zs.length<=_;rw[gM];omega));show M (Uz (dY ?_) (cW _));let oa6:(((s.heap.update a (Obj.mapSeq λ_=>#[])).push (seqObj "tuple" zs.toArray 0)).push (seqObj "list" #[] 0)).get? a=some (seqObj "list" #[] ep):=by
  rw[Mw _ _ _ (by rw[Ny,Ui];grind),Mw _ _ _ (by rw[Ui];grind)];show oa1
 show wpAny (model prog wo) A _ P E (s•((s.heap.update a (Obj.mapSeq λ_=>#[])).push (seqObj "tuple" zs.toArray 0)).push (seqObj "list" #[] 0));lk;let lz:zs.toArray.size=zs.length:=by simp
 by_cases g2:zs.toArray.size<2
 ·rw[aB g2,aB g2];show M (ao ?_);rw[StateT.run_pure];show M (ao ?_);lk;show M (seqEpoch_at oa6 Z (M (Uy oa6 Z ?_ (cW _) ())));simp only[if_false,Bool.false_eq_true,bne_self_eq_false];let q:=h (List.range zs.length).toArray ⟨Array.Perm.refl _⟩ (λi j hij hj=>by grind);rw[a3B]at q;show ao ?_;let e:(arrOf (SortSt.mk' general' (zs.toArray.zip zs.toArray) #[] 7 none)).map (·.2)=zs.toArray:=by
   grind
  rw[e];show q
 ·rw[aA g2,aA g2];let h2':2<=zs.length:=()
  let⟨ak,ac⟩:=hk h2' (((s.heap.update a (Obj.mapSeq λ_=>#[])).push (seqObj "tuple" zs.toArray 0)).push (seqObj "list" #[] 0)) λb o hb e=>bL _ (bL _ (by rw[Mp _ _ _ _ hb];show e));show M (ak _ _ ?_);let ask:(kas_sort zs.length).kasWp (kas_ask prog wo A κ zs) (λp s'=>s'=(s•((s.heap.update a (Obj.mapSeq λ_=>#[])).push (seqObj "tuple" zs.toArray 0)).push (seqObj "list" #[] 0))/\Pm zs.length p/\Df key p zs.length)
    (s•((s.heap.update a (Obj.mapSeq λ_=>#[])).push (seqObj "tuple" zs.toArray 0)).push (seqObj "list" #[] 0)) :=
   Ok.wp (n:=zs.length) (key:=key) ac (λp hp=>⟨Z,hp⟩) (a0B ())
  rw[kas_ask_eq]at ask;let est:SortSt.mk' κ (zs.toArray.zip zs.toArray) #[] 7 none=kas_st κ (pairsOf zs) (List.toArray (List.range zs.length)):=by
   let e:=kas_range (pairsOf zs);rw[pairsOf_size]at e;show SortSt.mk' κ (pairsOf zs) #[] 7 none=SortSt.mk' κ ((List.toArray (List.range zs.length)).map (kas_item (pairsOf zs))) #[] 7 none;rw[e]
  let rn:=kas_runs (E:=E) (Q:=λ_ st' s'=>∃p:Array Nat,p.size=zs.length/\arrOf st'=p.map (kas_item (pairsOf zs))/\failedOf st'=none/\(s'=(s•((s.heap.update a (Obj.mapSeq λ_=>#[])).push (seqObj "tuple" zs.toArray 0)).push (seqObj "list" #[] 0))/\Pm zs.length p/\Df key p zs.length))
   h2' h64 (λp' st' s' a1 a2 a3 a4=>⟨p',a1,a2,a3,a4⟩) ask
  rw[<-est]at rn;show M (iw rn ?_ λ_ _ e=>e);rintro⟨⟨⟩,st'⟩ s' ⟨p,hp,ra,hf,rfl,pm,sr⟩;lk;let hout:(arrOf st').map (·.2)=HB zs p:=by
   apply Array.toList_inj.mp;rw[ra,Array.map_map,Array.toList_map];show vq λi _=>by show(kas_item (pairsOf zs) i).2=_;rw[kas_item_eq]
  let hso:(HB zs p).size=zs.length:=()
  rw[hout];show M (seqEpoch_at oa6 Z ?_);show M (Uy oa6 Z ?_ (cW _) (cF (Nt hso) (by rw[gM];omega)));rw[hf];simp only[if_false,Bool.false_eq_true,bne_self_eq_false];show ao (h p pm sr)
def Y0{l:Addr}{zs:aw}{κ:SortKind}{key:Nat->Int}{R:∅}(il:s.heap.IsList l zs.toArray)(h64:zs.length<64)
  (hk:2<=zs.length->∀(A':Around) (h':Heap),(∀b o,s^^^b=some o->h'.get? b=some o)->Asks prog wo A' κ zs key (s•h'))
  (h:∀p,Pm zs.length p->Df key p zs.length->R (.ref (s⁻¹+1)) (s•sortedAll s.heap zs (HB zs p))) :
  wpAny (model prog wo) A (call (.builtin "sorted") [.ref l]) R E s:=by
 apply Ù kind_sorted plain_sorted entry_sorted (args_sorted1 _);unfold Builtin.«sorted»;show M (m:=checkCount "sorted" 1 1 _) (ao ?_);show M (collect_list il ?_ (by rw[gM];omega));show M (Uz ?_ (by rw[gM];omega));let lz:((s.heap.push (seqObj "list" #[] 0)).update s⁻¹ (Obj.mapSeq (· ++ zs.toArray))).objs.size=s⁻¹+1:=by
  rw[Ui];show Ny _ _
 let oL:(((s.heap.push (seqObj "list" #[] 0)).update s⁻¹ (Obj.mapSeq (· ++ zs.toArray))).push (seqObj "list" zs.toArray 0)).get? (s⁻¹+1)=some (seqObj "list" zs.toArray 0):=by
  rw[<-lz];show b7 _ rfl
 show wpAny _ _ _ _ _ (s•((s.heap.push (seqObj "list" #[] 0)).update s⁻¹ (Obj.mapSeq (· ++ zs.toArray))).push (seqObj "list" zs.toArray 0));rw[lz];show M (dY (gD slot_list_sort ⟨_,oL,Z⟩ entry_list_sort (Oc (κ:=κ) (key:=key) oL h64 (λg2 h' kp=>hk g2 _ h' λb o e=>?_) λp a1 a2=>⟨_,Z,?_⟩) (args_list_sort _)))
 ·let lb:b<s⁻¹:=bf e;show kp b o (bY (GD lb)) ?_;rw[Mw _ _ _ (),Mp _ _ _ _ (bY lb),Mw _ _ _ (bY lb)];show e
 ·show ao ⟨_,Z,h p a1 a2⟩
end
end Qu
namespace Qu
open PyProof.Rows PySem.Calls PySem.W
variable{h:Heap}
def countP_le{α:Type}{p q:α->Bool}(h:∀x,p x=true->q x=true)(l:List α):l.countP p<=l.countP q:=by
 induction l with
 |nil=>show aK _
 |cons a r ih =>
  rw[MP,MP];by_cases c:p a=true
  ·rw[aB c,aB (h a c)];omega
  ·rw[aA c];omega
theorem Ks{α:Type}{p q:α->Bool}(h:∀x,p x=true->q x=true){x:α}:∀{l:List α},x∈l->p x=false->q x=true->l.countP p<l.countP q
 |a::r,hx,h1,h2=>by
  rw[MP,MP]
  let le:=countP_le h r
  rcases bQ.mp hx with rfl|hx
  ·grind
  ·let ih:=Ks h hx h1 h2
   grind
noncomputable def rank(ls:List (ae))(i:Nat):Int:=(ls.countP λz=>decide (z<ls.getD i []):Nat)
def a5R{x y z:ae}(h:z<y)(h2:¬x<y):z<x:=by
 grind
def Xo{ls:List (ae)}{i j:Nat}(hi:i<ls.length):decide (rank ls i<rank ls j)=decide (ls.getD i []<ls.getD j []):=by
 let hm:ls.getD i []∈ls:=by
  grind
 unfold rank;by_cases c:ls.getD i []<ls.getD j []
 ·rw[aR c];show aR (Int.ofNat_lt.mpr (Ks (λz hz=>?_) hm ?_ ?_))
  ·grind
  ·grind
  grind
 ·rw[cC c];show cC λz=>?_;let:=countP_le (p:=λz=>decide (z<ls.getD j [])) (q:=λz=>decide (z<ls.getD i [])) (λz hz=>aR (a5R (dw hz) c)) ls;omega
section
variable{prog:Program}{w:World}{A:Around}{E:∅}{s:Shared}{Q:Bool->Shared->Prop}
def Qw:∀{xs ys:aw}{ns ms:ae} (i:Nat),IntsAre xs ns->IntsAre ys ms->Q (decide (ns<ms)) s->KatLex prog w A true (decide (xs.length<ys.length)) Q (xs.zip ys) i s
 |_,_,_,_,i,.nil,.nil,h=>by
  show kat_nil ?_
  show h
 |_,_,_,_,i,.nil,.cons (vs:=ys) (ns:=ms) m u y,h=>by
  show kat_nil ?_
  let e:decide (([]:ae)<m::ms)=true:=aR (List.Lex.nil)
  rw[e]at h
  let e2:decide (([]:aw).length<(Value.int m u::ys).length)=true:=by simp
  rw[e2];show h
 |_,_,_,_,i,.cons (vs:=xs) (ns:=ns) n t x,.nil,h=>by
  show kat_nil ?_
  let e:decide (n::ns<([]:ae))=false:=cC (List.not_lt_nil _)
  rw[e]at h
  let e2:decide ((Value.int n t::xs).length<([]:aw).length)=false:=by simp
  rw[e2];show h
 |_,_,_,_,i,.cons (vs:=xs) (ns:=ns) n t x,.cons (vs:=ys) (ns:=ms) m u y,h=>by
  let ef:decide ((Value.int n t::xs).length<(Value.int m u::ys).length)=decide (xs.length<ys.length):=by
   simp only[List.length_cons,Nat.add_lt_add_iff_right]
  rw[ef]
  show kat_cons (wpAny_eqBool_int ?_)
  by_cases c:n=m
  ·subst c
   rw[MT]
   show kat_yes (Qw (i+1) x y ?_)
   let e:decide (n::ns<n::ms)=decide (ns<ms):=by
    let:(n::ns<n::ms)↔ns<ms:=by rw[Tn];simp
    simp only[this]
   rw[e]at h;show h
  ·rw[qz.mpr c]
   show kat_no ?_
   let e:decide (n::ns<m::ms)=decide (n<m):=by
    let:(n::ns<m::ms)↔n<m:=by rw[Tn];simp[c]
    simp only[this]
   rw[e]at h
   cases z:(true&&i==0)with
   |true=>show oneLt_int h
   |false=>show kat_one _ _ (lt_int h)
structure a5S(h:Heap)(v:Value)(ns:ae):Prop where
 at':∃a o xs n,v=.ref a/\h.get? a=some o/\o.cls=.type "tuple" /\o.data=.seq xs n/\IntsAre xs.toList ns
 ne:ns≠[]
inductive tD(h:Heap):aw->List (ae)->Prop
 |nil:tD h [] []
 |cons {v ns vs ls}:a5S h v ns->tD h vs ls->tD h (v::vs) (ns::ls)
def tD.keep{h':Heap}(k:∀b o,h.get? b=some o->h'.get? b=some o){vs ls}(t:tD h vs ls):tD h' vs ls:=by
 induction t with
 |nil=>show .nil
 |cons x _ ih =>
  let⟨⟨a,o,xs,n,e,ho,r⟩,ne⟩:=x;show .cons ⟨⟨a,o,xs,n,e,k _ _ ho,r⟩,ne⟩ ih
def tD.len{vs ls}(t:tD h vs ls):vs.length=ls.length:=by
 induction t with
 |nil=>rfl
 |cons _ _ ih=>rw[iH,iH,ih]
def tD.get{vs ls}(t:tD h vs ls){i}(hi:i<vs.length):a5S h (vs.getD i .none) (ls.getD i []):=by
 induction t generalizing i with
 |nil=>cases hi
 |cons a _ ih =>
  cases i with
  |zero=>show a
  |succ i=>show ih (Td hi)
def tD.kat{vs ls}(t:tD h vs ls):∃fs,KatTups h vs fs/\fs.length=vs.length/\∀v∈fs,∃n t,v=Value.int n t:=by
 induction t with
 |nil=>show⟨[],KatTups.nil,Z,λv hv=>absurd hv eO⟩
 | @cons v ns vs ls x _ ih =>
  let⟨⟨a,o,xs,n,e,ho,hc,hd,hi⟩,ne⟩:=x;let⟨fs,k,l,q⟩:=ih;subst e;let⟨xl⟩:=xs;let hi:IntsAre xl ns:=hi;cases hi with
  |nil=>grind
  |cons m u r =>
   show⟨.int m u::fs,KatTups.cons ho hc hd Z k,(),λv hv=>?_⟩;grind
def Y4{vs:aw}{ls:List (ae)}(h:tD s.heap vs ls)(h2:2<=vs.length):Asks prog w A (tuples' true) vs (rank ls) s:=by
 show⟨λE Q q=>?_,λi j C hi hj q=>?_⟩
 ·let⟨fs,k,l,ty⟩:=h.kat;show kat_kind (T:=.type "int") k () (λv hv=>?_) Z q;let⟨n,t,rfl⟩:=ty v hv;show Looks.of_pure rfl
 ·let⟨⟨a,o,xs,n,e1,ho,hc,hd,hx⟩,_⟩:=h.get hi;let⟨⟨a',o',ys,n',e2,ho',hc',hd',hy⟩,_⟩:=h.get hj;unfold kas_ask;rw[e1,e2];show kat_lt ho hd ho' hd' ?_;rw[Xo (by rw[<-h.len];show hi)]at q;show Qw 0 hx hy q
end
end Qu
namespace L2
open PyProof.Rows Bg Qu
def a3C(K:aJ)(H:Hp)(v:V)(ns:ae):Prop:=∃p,v=.ref p/\cN K H p (ns.map V.int)
inductive č(K:aJ)(xs:af)(H:Hp)(Q:VK):Prop
 |mk (l vs:_) (ls:List (ae)) (_:xs=[.ref l]) (_:bB K H l vs) (_:Paired (a3C K H) vs ls) (_:(∀ns∈ls,ns≠[])) (_:vs.length<64) (_:∀(q:ay) p H',q.Perm (List.range vs.length)->(q.map λi=>ls.getD i []).Pairwise (λa b=>¬b<a)->iD H p (.lst (q.map λi=>vs.getD i .non)) H'->Q (.ref p) H')
theorem ints_of:∀{ns:ae}{us:aw},cJ (ns.map V.int) us->IntsAre us ns
 | [],_,.nil=>.nil
 |n::ns,_,.cons r t=>by
  let⟨k,rfl⟩:=r
  show .cons n k (ints_of t)
section
variable{X:Cx}{K:aJ}
def a0C{Y:aE}{σ:St}{H:Hp}{s:Shared}(I:bD X Y σ H s){vs:af}{us:aw}{ls:List (ae)}(v:cJ vs us)(p:Paired (a3C X.K H) vs ls)(ne:∀ns∈ls,ns≠[]):tD s.heap us ls:=by
 induction v generalizing ls with
 |nil =>
  cases p;show .nil
 |cons r t ih =>
  cases p with
  |cons a b =>
   let⟨pt,rfl,hT⟩:=a;let⟨bR,ri,⟨o,ho,hc,n,hd⟩,_⟩:=I.tuple hT;cases r;show .cons ⟨⟨pt,o,bR.toArray,n,Z,ho,hc,hd,by simpa using ints_of ri⟩,ne _ bh⟩ (ih b λns h=>ne ns (bM _ h))
def Y5{vs:af}{us:aw}(v:cJ vs us)(i:Nat)(h:i<vs.length):cX (vs.getD i .non) (us.getD i .none):=by
 induction v generalizing i with
 |nil=>cases h
 |cons r _ ih =>
  cases i with
  |zero=>show r
  |succ i=>show ih i (Td h)
theorem Qx{vs:af}{us:aw}(r:cJ vs us):∀(q:ay),(∀i∈q,i<vs.length)->cJ (q.map λi=>vs.getD i .non) (q.map λi=>us.getD i .none)
 | [],_=>.nil
 |i::q,h=>.cons (Y5 r i (h i bh)) (Qx r q λj hj=>h j (bM _ hj))
def Ao(e:X.K=K):jx X (.builtin "sorted") (č K):=by
 subst e;intro Y s σ H xs us Q I r h;let⟨l,vs,ls,rfl,hL,hP,ne,h64,q⟩:=h;let⟨u,rfl,rx⟩:=vals1 r;cases rx;let⟨bR,r',pl,hz⟩:=I.list hL;let hlen:=r'.length;let ht:=a0C I r' hP ne;let hl2:=ht.len;show Y0 (κ:=tuples' true) (key:=rank ls) pl.isList () (λh2 A' h' kp=>Y4 (ht.keep kp) h2) λp pm sr=>?_;let⟨c,hc⟩:=sortedAll_at s.heap bR (HB bR p);let hs:=pm.size;let mem:∀i∈p.toList,i<bR.length:=λi hi=>by
  let:=(SN.mp pm.perm).mem_iff (a:=i);grind
 let z:(p.toList.map λi=>vs.getD i V.non).length=bR.length:=()
 show⟨.ref (s⁻¹+1),_,I.laid (t':=s.toks) (o:=.lst (p.toList.map λi=>vs.getD i V.non)) (λb o eo=>sortedAll_old eo) (vH _) ?_,Z,?_⟩
 ·show⟨by rw[z,<-hlen];show hz,_,c,Qx r' p.toList (λi hi=>by rw[hlen];show mem i hi),hc⟩
 ·show q p.toList _ _ ?_ ?_ (iD.oh (I.hok.fresh (vH _)))
  ·let:=SN.mp pm.perm;grind
  ·rw[SQ];intro i j hi hj hij;rw[aH,tX,hs]at hi hj;let q1:=sr i j (fD hij) hj;unfold Qu.KK at q1;let li:=pm.lt hi;let lj:=pm.lt hj;rw[List.getElem_map,List.getElem_map];let e1:p.getD i 0=p.toList[i]'(by rw[tX,hs];show hi):=by simp[Array.getD,hs,hi]
   let e2:p.getD j 0=p.toList[j]'(by rw[tX,hs];show hj):=by simp[Array.getD,hs,hj]
   rw[<-e1,<-e2];intro c;let z1:=Xo (ls:=ls) (i:=p.getD j 0) (j:=p.getD i 0) ();grind
end
end L2
namespace Sm
variable{xs:Array Nat}{k j:Nat}
def Xp(xs:Array Nat)(j k:Nat):Prop:=k<=xs.size/\∀i (h:i<xs.size),xs[i]<j↔i<k
def Xq(h:xs.toList.Pairwise (· < ·)){i:Nat}(hi:i<xs.size)(hk:k<xs.size)(ik:i<k):xs[i]<xs[k]:=by
 let:=SQ.mp h i k (by simpa using hi) (by simpa using hk) ik;simpa using this
def Ď(h:xs.toList.Pairwise (· < ·)):∀(fuel lo hi:Nat),hi-lo<=fuel->lo<=hi->hi<=xs.size->
  (∀i (z:i<xs.size),i<lo->xs[i]<j)->(∀i (z:i<xs.size),hi<=i->j<=xs[i])->Xp xs j (SetTable.below.go xs j fuel lo hi):=by
 intro fuel
 induction fuel with
 |zero =>
  intro lo hi a b c d e;unfold SetTable.below.go;let:lo=hi:=()
  subst this;show⟨c,λi z=>⟨λq=>by
   rcases wV i lo with g|g
   ·show g
   ·let:=e i z g;omega,λq=>d i z q⟩⟩
 |succ f ih =>
  intro lo hi a b c d e;unfold SetTable.below.go;by_cases q:lo<hi
  ·rw[aB q];lk;let m1:lo<=(lo+hi)/2:=()
   let m2:(lo+hi)/2<hi:=()
   let m3:(lo+hi)/2<xs.size:=()
   let ge:xs.getD ((lo+hi)/2) j=xs[(lo+hi)/2]:=by simp[Array.getD,m3]
   rw[ge];by_cases r:xs[(lo+hi)/2]<j
   ·rw[aB r];show ih _ _ () () c (λi z hi'=>?_) e;rcases wV i ((lo+hi)/2)with g|g
    ·let:=Xq h z m3 g;omega
    ·let:i=(lo+hi)/2:=()
     subst this;show r
   ·rw[aA r];show ih _ _ () () () d (λi z hi'=>?_);rcases wV ((lo+hi)/2) i with g|g
    ·let:=Xq h m3 z g;omega
    ·let:i=(lo+hi)/2:=()
     subst this;omega
  ·rw[aA q];let:lo=hi:=()
   subst this;show⟨c,λi z=>⟨λq=>by
    rcases wV i lo with g|g
    ·show g
    ·let:=e i z g;omega,λq=>d i z q⟩⟩
def Aq(h:xs.toList.Pairwise (· < ·))(j:Nat):Xp xs j (SetTable.below xs j) :=
 Ď h _ _ _ () (cW _) (aK _) (λi z q=>absurd q (wQ _)) (λi z q=>absurd z ())
def below_at(h:xs.toList.Pairwise (· < ·))(hk:k<xs.size):SetTable.below xs (xs[k])=k:=by
 let⟨a,b⟩:=Aq h xs[k];rcases Nat.lt_trichotomy (SetTable.below xs xs[k]) k with g|g|g
 ·let c:=(b (SetTable.below xs xs[k]) ()).mp (Xq h () hk g);omega
 ·show g
 ·let c:=(b k hk).mpr g;omega
def Vx(h:xs.toList.Pairwise (· < ·)):SetTable.below xs 0=0:=by
 let⟨a,b⟩:=Aq h 0;rcases Nat.eq_zero_or_pos (SetTable.below xs 0)with g|g
 ·show g
 grind
def Vy(h:xs.toList.Pairwise (· < ·))(hk:k<xs.size):SetTable.below xs (xs[k]+1)=k+1:=by
 let⟨a,b⟩:=Aq h (xs[k]+1);let c:=(b k hk).mp ();rcases wV (k+1) (SetTable.below xs (xs[k]+1))with g|g
 ·let e:=(b (k+1) ()).mpr g;let:=Xq h hk (show k+1<xs.size by omega) (wM _);omega
 ·omega
def Xr(j:Nat):SetTable.has #[] j=false:=by
 unfold SetTable.has;simp
def yV{t:SetTable}(dm:t.dummies = #[])(h:j∉t.place.toList):t.slot j=.empty:=by
 unfold SetTable.slot;let e:(t.place[SetTable.below t.place j]?==some j)=false:=by
  rw[qz];intro c;show h (by simpa using Array.mem_of_getElem? c)
 lk;rw[e,dm,Xr];rfl
def Y6{t:SetTable}(up:t.place.toList.Pairwise (· < ·))(h:j∈t.place.toList):∃i,t.slot j=.live i:=by
 let⟨k,hk,e⟩:=qC h;let hk':k<t.place.size:=by simpa using hk
 let e':t.place[k]=j:=by simpa using e
 unfold SetTable.slot;let q:SetTable.below t.place j=k:=by rw[<-e'];show below_at up hk'
 lk;rw[q];let:(t.place[k]?==some j)=true:=by simp[hk',e']
 rw[this];grind
noncomputable def adv(mask:Nat)(p:SetTable.Probe):SetTable.Probe :=
 if 0<p.more then{ p with more:=p.more-1,j:=p.j+1}else
 { p with j:=(SetTable.leap mask p.i p.perturb).1,more:=SetTable.runEnd mask (SetTable.leap mask p.i p.perturb).1-(SetTable.leap mask p.i p.perturb).1,i:=(SetTable.leap mask p.i p.perturb).1,perturb:=(SetTable.leap mask p.i p.perturb).2}
def a3D(t:SetTable)(p:SetTable.Probe):t.advance p=adv t.mask p:=by
 unfold SetTable.advance adv;rfl
def nth(mask:Nat)(p:SetTable.Probe):Nat->SetTable.Probe
 |0=>p
 |k+1=>nth mask (adv mask p) k
def Y7(m:Nat)(p:SetTable.Probe):(adv m p).dummy=p.dummy:=by
 unfold adv;split<;>rfl
def ď{t:SetTable}(dm:t.dummies = #[])(up:t.place.toList.Pairwise (· < ·))(h:Int):∀(k fuel:Nat) (p:SetTable.Probe),k<fuel->p.dummy=none->(nth t.mask p k).j∉t.place.toList->
  ∃j,j∉t.place.toList/\SetTable.probe.go t (λ_=>h+1) h fuel p=some (.empty j none):=by
 intro k
 induction k with
 |zero =>
  intro fuel p hf hd hn;obtain⟨f,rfl⟩:∃f,fuel=f+1:=⟨fuel-1,()⟩;unfold SetTable.probe.go;let hn':p.j∉t.place.toList:=hn;show⟨p.j,hn',?_⟩;rw[yV dm hn',hd]
 |succ k ih =>
  intro fuel p hf hd hn;obtain⟨f,rfl⟩:∃f,fuel=f+1:=⟨fuel-1,()⟩;unfold SetTable.probe.go;by_cases c:p.j∈t.place.toList
  ·let⟨i,e⟩:=Y6 up c;rw[e];lk;let:(h+1==h)=false:=()
   rw[this];rw[a3D];show ih f (adv t.mask p) () (by rw[Y7];show hd) hn
  ·rw[yV dm c,hd];show⟨p.j,c,Z⟩
noncomputable def Vz(v:Nat):SetTable.Probe:={ j:=v%8,more:=0,i:=v%8,perturb:=v,dummy:=none}
def seven:∀v,v<16->∀j,j<8->∃k,k<16/\(nth 7 (Vz v) k).j=j:=by decide
def Od{v:Nat}(h:v<16):SetTable.bits (v:Int)=v:=by
 unfold SetTable.bits;omega
def a0D{t:SetTable}(dm:t.dummies = #[])(up:t.place.toList.Pairwise (· < ·)){v:Nat}(hk:k<10*SetTable.turns t.mask)(hn:(nth t.mask (t.probeStart (v:Int)) k).j∉t.place.toList) :
  ∃j,j∉t.place.toList/\t.freeSlot (v:Int)=some (j,false):=by
 let⟨j,hj,e⟩:=ď dm up (v:Int) k (10*SetTable.turns t.mask) (t.probeStart (v:Int)) hk Z hn;show⟨j,hj,?_⟩;unfold SetTable.freeSlot SetTable.probe;rw[e];rfl
theorem VB:∀(l m:ay),l.Nodup->(∀x∈l,x∈m)->l.length<=m.length
 | [],_,_,_=>cW _
 |a::r,m,nd,h=>by
  let am:a∈m:=h a bh
  let⟨n1,n2⟩:=jb.mp nd
  let q:=VB r (m.erase a) n2 λx hx=>(Tz (λe=>n1 ())).mpr (h x (bM _ hx))
  grind
def a3E{l:ay}(h:l.length<=4):∃j,j<8/\j∉l:=by
 apply Ú;intro c;let q:∀j,j<8->j∈l:=λj hj=>Ú λd=>c ⟨j,hj,d⟩;let:=VB (List.range 8) l Uj (λj hj=>q j (fX.mp hj));rw[vA]at this;omega
def Đ{t:SetTable}(dm:t.dummies = #[]){v:Nat}(hv:v<16)(hm:15<=t.mask)(hn:v∉t.place.toList):t.freeSlot (v:Int)=some (v,false):=by
 unfold SetTable.freeSlot SetTable.probe;let e:(t.probeStart (v:Int)).j=v:=by
  unfold SetTable.probeStart;lk;rw[Od hv];show Nat.mod_eq_of_lt ()
 obtain⟨f,hf⟩:∃f,10*SetTable.turns t.mask=f+1:=⟨10*SetTable.turns t.mask-1,by unfold SetTable.turns;omega⟩;rw[hf];unfold SetTable.probe.go;rw[e,yV dm hn];rfl
def Es(es:Array (Int×Value))(L:ay):Prop:=Paired (λe v=>e.1=((v:Nat):Int)/\∃tk,e.2=Value.int ((v:Nat):Int) tk) es.toList L
structure Tb(B:Bool)(t:SetTable)(L:ay):Prop where
 dm:t.dummies = #[]
 pl:t.plain=true
 led:t.led = !B
 up:t.place.toList.Pairwise (· < ·)
 sz:t.place.size=L.length
 nd:L.Nodup
 lt:∀v∈L,v<16
 sh:(t.mask=7/\L.length<=4)\/(15<=t.mask/\t.place.toList=L/\L.length*5<t.mask*3)
def a3F(up:xs.toList.Pairwise (· < ·))(h:j∉xs.toList):(SetTable.insertAt xs (SetTable.below xs j) j).toList.Pairwise (· < ·):=by
 let⟨a,b⟩:=Aq up j;rw[Gs];let z:∀i (hi:i<xs.toList.length),xs.toList[i]<j↔i<SetTable.below xs j:=λi hi=>by
  let:=b i (by simpa using hi);simpa using this
 rw[Mj];show⟨up.sublist (Mu _ _),?_,?_⟩
 ·rw[tY];show⟨λy hy=>?_,up.sublist (List.drop_sublist _ _)⟩;let⟨i,hi,e⟩:=qC hy;grind
 ·intro x hx y hy;let⟨i,hi,e⟩:=qC hx;rw[List.getElem_take]at e;let hl:i<xs.toList.length:=()
  let hb:i<SetTable.below xs j:=()
  let x1:x<j:=()
  rcases bQ.mp hy with rfl|hy
  ·show x1
  ·let⟨k,hk,e2⟩:=qC hy;grind
def Es.len{es:Array (Int×Value)}{L:ay}(h:Es es L):es.size=L.length:=by
 let:=aW h;grind
theorem Eg{α β:Type}{R:α->β->Prop}:∀{xs:List α}{ys:List β} (n:Nat),Paired R xs ys->Paired R (xs.take n) (ys.take n)
 |_,_,0,_=>.nil
 |_,_,_+1,.nil=>.nil
 |_,_,n+1,.cons r t=>.cons r (Eg n t)
theorem Eh{α β:Type}{R:α->β->Prop}:∀{xs:List α}{ys:List β} (n:Nat),Paired R xs ys->Paired R (xs.drop n) (ys.drop n)
 |_,_,0,r=>r
 |_,_,_+1,.nil=>.nil
 |_,_,n+1,.cons _ t=>Eh n t
def jH{α β:Type}{R:α->β->Prop}{xs xs':List α}{ys ys':List β}(h:Paired R xs ys)(q:Paired R xs' ys'):Paired R (xs++xs') (ys++ys'):=by
 induction h with
 |nil=>show q
 |cons a _ ih=>show .cons a ih
def bI{α β:Type}{R:α->β->Prop}{xs:List α}{ys:List β}(p:Paired R xs ys)(i:Nat)(h:i<ys.length):∃x,xs[i]?=some x/\R x ys[i]:=by
 induction p generalizing i with
 |nil=>cases h
 |cons r _ ih =>
  cases i with
  |zero=>show⟨_,Z,r⟩
  |succ i=>show ih i (Td h)
def a3G{B:Bool}{t:SetTable}{L:ay}{es:Array (Int×Value)}{v:Nat}{x:Value}(T:Tb B t L)(hE:Es es L)(hv:v<16)(hn:v∉L)(hx:∃tk,x=Value.int ((v:Nat):Int) tk) :
  ∃t1 es1 p,layNew t es ((v:Nat):Int) x=(es1,t1,false,false)/\Es es1 (L.take p++v::L.drop p)/\t1.dummies = #[]/\t1.plain=true/\(t1.led = !B)/\t1.mask=t.mask/\t1.finger=t.finger/\t1.moves=t.moves/\
   t1.place.toList.Pairwise (· < ·)/\t1.place.size=L.length+1/\(15<=t.mask->t1.place.toList=L.take p++v::L.drop p):=by
 let main:∃j,j∉t.place.toList/\t.freeSlot ((v:Nat):Int)=some (j,false)/\(15<=t.mask->j=v):=by
  rcases T.sh with⟨m7,l4⟩|⟨Xu,pe,fl⟩
  ·let lp:t.place.toList.length<=4:=by rw[tX,T.sz];show l4
   let⟨j,hj,nj⟩:=a3E lp;let⟨k,hk,e⟩:=seven v hv j hj;let st:t.probeStart ((v:Nat):Int)=Vz v:=by
    unfold SetTable.probeStart Vz;rw[Od hv,m7];unfold SetTable.runEnd;let:¬v%(7+1)+9<=7:=()
    simp only[if_neg this];simp
   let⟨j',hj',e'⟩:=a0D (v:=v) (k:=k) T.dm T.up (by unfold SetTable.turns;omega) (by rw[st,m7,e];show nj);show⟨j',hj',e',λc=>by omega⟩
  ·let nv:v∉t.place.toList:=by rw[pe];show hn
   show⟨v,nv,Đ T.dm hv Xu nv,λ_=>rfl⟩
 let⟨j,nj,ef,ej⟩:=main;let sz1:(SetTable.insertAt t.place (SetTable.below t.place j) j).size=L.length+1:=by
  let:=congrArg List.length (Gs t.place (SetTable.below t.place j) j);rw[tX]at this;rw[this,bO,iH,eN,iI,tX,T.sz];omega
 let es1:(SetTable.insertAt es (SetTable.below t.place j) (((v:Nat):Int),x)).size=L.length+1:=by
  let:=congrArg List.length (Gs es (SetTable.below t.place j) (((v:Nat):Int),x));rw[tX]at this;rw[this,bO,iH,eN,iI,tX,hE.len];omega
 let mk:L.length+1<=t.mask:=by
  rcases T.sh with⟨m7,l4⟩|⟨Xu,pe,fl⟩<;>omega
 show⟨{ t with place:=SetTable.insertAt t.place (SetTable.below t.place j) j},SetTable.insertAt es (SetTable.below t.place j) (((v:Nat):Int),x),SetTable.below t.place j,?_,?_,T.dm,T.pl,T.led,rfl,rfl,rfl,a3F T.up nj,sz1,?_⟩
 ·unfold layNew;rw[ef];lk;unfold SetTable.put;let hd:SetTable.has t.dummies j=false:=by rw[T.dm];show Xr j
  lk;rw[hd];let ft:SetTable.fits { t with place:=SetTable.insertAt t.place (SetTable.below t.place j) j} (SetTable.insertAt es (SetTable.below t.place j) (((v:Nat):Int),x)).size=true:=by
   unfold SetTable.fits SetTable.fill;lk;rw[sz1,es1,T.dm];simp;omega
  unfold SetTable.orStandIn;simp only[if_false,Bool.false_eq_true];rw[aB ft,ft];rfl
 ·unfold Es;rw[Gs];show jH (Eg _ hE) (.cons ⟨Z,hx⟩ (Eh _ hE))
 ·intro hm;lk;let:=ej hm;subst this;rcases T.sh with⟨m7,l4⟩|⟨Xu,pe,fl⟩
  ·omega
  ·rw[Gs,pe]
end Sm
namespace Sm
variable{L:ay}{m f n:Nat}{es:Array (Int×Value)}
def đ(m:Nat)(owner:Array (Option Nat))(L:ay):Prop:=owner.size=m+1/\∀j,j<=m->owner.getD j none=if j∈L then some (L.idxOf j)else none
def Ē{owner:Array (Option Nat)}(Z96:đ m owner L){v:Nat}(hv:v<=m)(hn:v∉L):SetTable.layClean.free m owner (f+1) v v=some v:=by
 unfold SetTable.layClean.free;obtain⟨k,hk⟩:∃k,SetTable.runEnd m v+1-v=k+1:=⟨SetTable.runEnd m v-v,by unfold SetTable.runEnd;split<;>omega⟩;rw[hk,List.range_succ_eq_map];let g:owner.getD (v+0) (some 0)=none:=by
  let a:=Z96.2 v hv;rw[aA hn]at a;let hs:v<owner.size:=by rw[Z96.1];omega
  simp[Array.getD,hs]at a ⊢;show a
 rw[rH (by rw[g];rfl)];rfl
def ē(hm:15<=m):∀(R L:ay) (owner:Array (Option Nat)),đ m owner L->(L++R).Nodup->(∀v∈R,v<16)->
  ∃Ĕ,đ m Ĕ (L++R)/\(R.map λv=>((v:Nat):Int)).foldl (λ(acc:Option (Array (Option Nat)×Nat)) h=>do
   let(owner,k) <-acc
   let j <-SetTable.layClean.free m owner (SetTable.turns m) (SetTable.bits h%(m+1)) (SetTable.bits h)
   pure (owner.setIfInBounds j (some k),k+1)) (some (owner,L.length))=some (Ĕ,(L++R).length):=by
 intro R
 induction R with
 |nil=>grind
 |cons v R ih =>
  intro L owner Z96 nd hlt;let hv:v<16:=hlt v bh;let hn:v∉L:=λc=>by
   grind
  let O':đ m (owner.setIfInBounds v (some L.length)) (L++[v]):=by
   show⟨by rw[Array.size_setIfInBounds];show Z96.1,λj hj=>?_⟩;let hs:v<owner.size:=by rw[Z96.1];omega
   let hs':j<owner.size:=by rw[Z96.1];omega
   let a:=Z96.2 j hj;by_cases e:j=v
   ·subst e;rw[aB (fQ _ (bG.mpr Z)),Mx,aA hn];simp[Array.getD,hs]
   ·let e1:(owner.setIfInBounds v (some L.length)).getD j none=owner.getD j none:=by
     simp only[Array.getD,Array.size_setIfInBounds,hs'];simp[Array.getElem_setIfInBounds,hs',Ne.symm e]
    grind
  let⟨o2,O2,e2⟩:=ih (L++[v]) _ O' () (λu hu=>hlt u (bM _ hu));show⟨o2,(),?_⟩;rw[b8,List.foldl_cons];let st:(do
   let(owner,k) <-some (owner,L.length);let j <-SetTable.layClean.free m owner (SetTable.turns m) (SetTable.bits ((v:Nat):Int)%(m+1)) (SetTable.bits ((v:Nat):Int))
   pure (owner.setIfInBounds j (some k),k+1):Option (Array (Option Nat)×Nat))=some (owner.setIfInBounds v (some L.length),(L++[v]).length):=by
   rw[Od hv,Nat.mod_eq_of_lt ()];let:SetTable.turns m=(m+14)+1:=rfl;rw[this];show(SetTable.layClean.free m owner (m+14+1) v v).bind _=_;rw[Ē Z96 () hn];simp
  grind
noncomputable def upTo(m:Nat)(L:ay):ay:=(List.range (m+1)).filter λj=>decide (j∈L)
def Oe(m:Nat)(L:ay):(upTo m L).Pairwise (· < ·):=GC _ List.pairwise_lt_range
def mem_upTo(h:∀v∈L,v<=m){j:Nat}:j∈upTo m L↔j∈L:=by
 unfold upTo;grind
def Ei(h:L.Pairwise (· < ·)):L.Nodup:=h.imp λh=>bY h
def xT(h:∀v∈L,v<=m)(nd:L.Nodup):(upTo m L).Perm L :=
 (Gr (Ei (Oe m L)) nd).mpr λj=>mem_upTo h
def a0E(nd:L.Nodup):L.map (λv=>L.idxOf v)=List.range L.length:=by
 apply List.ext_getElem
 ·simp
 grind
theorem ĕ{α β:Type}(p:α->Bool)(f:α->β):∀l:List α,l.filterMap (λa=>if p a=true then some (f a)else none)=(l.filter p).map f
 | []=>rfl
 |a::r=>by
  rw[M4]
  cases e:p a with
  |true=>rw[LQ (b:=f a) (by rw[e];rfl),ĕ p f r];simp
  |false=>rw[List.filterMap_cons_none (by rw[e];rfl),ĕ p f r];simp
theorem Qy{α β:Type}{f g:α->Option β}:∀{l:List α},(∀a∈l,f a=g a)->l.filterMap f=l.filterMap g
 | [],_=>rfl
 |a::r,h=>by
  let e:=h a bh
  let q:=Qy (l:=r) λb hb=>h b (bM _ hb)
  grind
def Es.hashes(h:Es es L):(es.map (·.1)).toList=L.map λv=>((v:Nat):Int):=by
 rw[Array.toList_map];unfold Es at h;generalize es.toList=l at h
 induction h with
 |nil=>rfl
 |cons r _ ih=>grind
def Es.at{es:Array (Int×Value)}{L:ay}(h:Es es L){v:Nat}(hv:v∈L):∃e,es[L.idxOf v]?=some e/\e.1=((v:Nat):Int)/\∃tk,e.2=Value.int ((v:Nat):Int) tk:=by
 let hi:=Gq hv;let⟨x,e,q⟩:=bI h (L.idxOf v) hi;rw[T8 hi]at q;show⟨x,by simpa using e,q⟩
theorem a2t{es:Array (Int×Value)}{L:ay}(h:Es es L):∀S:ay,(∀v∈S,v∈L)->Paired (λe v=>e.1=((v:Nat):Int)/\∃tk,e.2=Value.int ((v:Nat):Int) tk) ((S.map λv=>L.idxOf v).filterMap λi=>es[i]?) S
 | [],_=>.nil
 |v::S,hs=>by
  let⟨e,a,b⟩:=h.at (hs v bh)
  rw[b8,LQ a]
  show .cons b (a2t h S λu hu=>hs u (bM _ hu))
def Og{mv:Nat}{led plain:Bool}(hm:15<=m)(hE:Es es L)(nd:L.Nodup)(hlt:∀v∈L,v<16) :
  ∃order:Array Nat,SetTable.laid m f mv led plain (es.map (·.1))=some ({ mask:=m,place:=(upTo m L).toArray,dummies:=#[],finger:=f,led:=led,moves:=mv,plain:=plain},order)/\
   Es (order.filterMap (es[·]?)) (upTo m L)/\coversAll order es.size=true:=by
 let hle:∀v∈L,v<=m:=λv hv=>by grind
 let O0:đ m (Array.replicate (m+1) none) []:=⟨by simp,λj hj=>by simp[Array.getD]⟩;let⟨ow,Z96,e⟩:=ē hm L [] _ O0 (by simpa using nd) hlt;rw[List.nil_append]at Z96 e;let ec:SetTable.layClean m (es.map (·.1))=some ow:=by
  unfold SetTable.layClean;rw[<-Array.foldl_toList,hE.hashes];grind
 let lv:(List.range (m+1)).filterMap (λj=>(ow.getD j none).map λk=>(j,k))=(upTo m L).map λj=>(j,L.idxOf j):=by
  unfold upTo;rw[<-ĕ];apply Qy;intro j hj;rw[Z96.2 j ()];grind
 show⟨((upTo m L).map λj=>L.idxOf j).toArray,?_,?_,?_⟩
 ·unfold SetTable.laid;rw[ec];show some _=some _;let:(List.range (m+1)).filterMap (λj=>(ow.getD j none).map (j,·))=(upTo m L).map λj=>(j,L.idxOf j):=lv;rw[this,lR,lR];let i1:((λ(x:Nat×Nat)=>x.1)∘λj=>(j,L.idxOf j))=λj=>j:=rfl;let i2:((λ(x:Nat×Nat)=>x.2)∘λj=>(j,L.idxOf j))=λj=>L.idxOf j:=rfl;rw[i1,i2,List.map_id']
 ·unfold Es;rw[Array.toList_filterMap];show a2t hE (upTo m L) λv hv=>(mem_upTo hle).mp hv
 ·unfold coversAll;rw[List.isPerm_iff,hE.len];let p:=(xT hle nd).map λv=>L.idxOf v;rw[a0E nd]at p;show p
def VD(h:∀v∈L,v<16)(hm:15<=m)(nd:L.Nodup):(upTo m L).length=L.length:=(xT (λv hv=>by let:=h v hv;omega) nd).length_eq
def Ar(h:n<2^40):n<SetTable.sizeAbove n:=by
 let go:∀fuel size,n<size*2^fuel->n<SetTable.sizeAbove.go n fuel size:=by
  intro fuel
  induction fuel with
  |zero=>intro size h;unfold SetTable.sizeAbove.go;simpa using h
  |succ f ih =>
   intro size h;unfold SetTable.sizeAbove.go;split
   ·show ih _ (by rw[Nat.pow_succ]at h;rw[Nat.mul_assoc,Nat.mul_comm 2];show h)
   ·omega
 show go 64 8 ()
def Av(h:8<=n):16<=SetTable.sizeAbove n:=by
 let go:∀fuel size,16<=size->16<=SetTable.sizeAbove.go n fuel size:=by
  intro fuel
  induction fuel with
  |zero=>intro size h;unfold SetTable.sizeAbove.go;show h
  |succ f ih =>
   intro size h;unfold SetTable.sizeAbove.go;split
   ·show ih _ ()
   ·show h
 unfold SetTable.sizeAbove;unfold SetTable.sizeAbove.go;rw[aB h];show go 63 _ ()
def Tb.fits{B:Bool}{t:SetTable}{L:ay}(T:Tb B t L):t.fits L.length=true:=by
 unfold SetTable.fits SetTable.fill;let:=T.sz;rw[T.dm];rcases T.sh with⟨a,b⟩|⟨a,b,c⟩<;>simp[this]<;>omega
def Oh{B:Bool}{mv:Nat}(hm:15<=m)(nd:L.Nodup)(hlt:∀v∈L,v<16)(hr:L.length*5<m*3) :
  Tb B { mask:=m,place:=(upTo m L).toArray,dummies:=#[],finger:=f,led:=!B,moves:=mv,plain:=true} (upTo m L) where
 dm:=rfl
 pl:=rfl
 led:=rfl
 up:=by simpa using Oe m L
 sz:=by simp
 nd:=Ei (Oe m L)
 lt:=λv hv=>hlt v ((mem_upTo (λv hv=>by grind)).mp hv)
 sh:=.inr ⟨hm,by simp,by rw[VD hlt hm nd];show hr⟩
def Ė{B:Bool}{t:SetTable}(hp:t.plain=true)(hl:t.led = !B)(hE:Es es L)(nd:L.Nodup)(hlt:∀v∈L,v<16)(hn:8<=n)(h2:2*L.length<=n)(hb:n<2^40) :
  ∃es' t' L',relayAll t es n=(es',t',false)/\Es es' L'/\Tb B t' L'/\L'.Perm L:=by
 let a1:=Ar hb;let a2:=Av hn;let hm:15<=SetTable.sizeAbove n-1:=()
 let⟨order,e,hE',hc⟩:=Og (f:=t.finger) (mv:=t.movedTo (SetTable.sizeAbove n-1)) (led:=!B) (plain:=true) hm hE nd hlt;let T:=Oh (B:=B) (f:=t.finger) (mv:=t.movedTo (SetTable.sizeAbove n-1)) hm nd hlt ();show⟨_,_,_,?_,hE',T,xT (λv hv=>by let:=hlt v hv;omega) nd⟩;unfold relayAll SetTable.relaid;rw[hp,hl,e];lk;let z:=hE'.len;rw[hc,z,T.fits];rfl
end Sm
namespace Sm
variable{L:ay}{es:Array (Int×Value)}{h:Heap}{a:Addr}{B:Bool}{tk:Nat}
abbrev lC(es:Array (Int×Value))(ep:Nat)(t:SetTable):Obj:={ cls:=.type "set",dict:=none,data:=.set es ep t,slots:=#[]}
def jf(B:Bool)(h:Heap)(a:Addr)(L:ay):Prop:=∃es ep t,h.get? a=some (lC es ep t)/\Es es L/\Tb B t L
def ql(h:Heap)(a:Addr):Prop:=∃es ep t,h.get? a=some (lC es ep t)/\(t.mask=7\/5<=es.size)
def ql.keep{h':Heap}(S:ql h a)(k:∀o,h.get? a=some o->h'.get? a=some o):ql h' a :=
 let⟨es,ep,t,ho,r⟩:=S;⟨es,ep,t,k _ ho,r⟩
def jf.keep{h':Heap}(S:jf B h a L)(k:∀o,h.get? a=some o->h'.get? a=some o):jf B h' a L :=
 let⟨es,ep,t,ho,r⟩:=S;⟨es,ep,t,k _ ho,r⟩
def Tb.len{t:SetTable}(T:Tb B t L):L.length<=16:=by
 let:=VB L (List.range 16) T.nd λx hx=>fX.mpr (T.lt x hx);simpa using this
def VF:∀v:Nat,v<16->hashInt ((v:Nat):Int)=((v:Nat):Int):=by decide
def Es.elems{prog:Program}{w:World}(h:Es es L)(lt:∀v∈L,v<16):ElemsOf (intKind prog w) es.toList:=by
 unfold Es at h;generalize es.toList=l at h
 induction h with
 |nil=>intro e he;simp at he
 | @cons x y xs ys r _ ih =>
  intro e he;rcases bQ.mp he with rfl|he
  ·let⟨tk,e2⟩:=r.2;show⟨⟨((y:Nat):Int),?_,?_⟩,?_⟩
   ·show Value.isInt _ _=true;rw[e2];simp[Value.isInt]
   ·rw[r.1];show(VF y (lt y bh)).symm
   ·rw[e2];rfl
  ·show ih (λv hv=>lt v (bM _ hv)) e he
def Es.find(h:Es es L)(v:Nat):(es.toList.findIdx? λe=>Value.isInt ((v:Nat):Int) e.2).isSome=decide (v∈L):=by
 unfold Es at h;generalize es.toList=l at h
 induction h with
 |nil=>simp
 | @cons x y xs ys r _ ih =>
  let⟨tk,e2⟩:=r.2;rw[List.findIdx?_cons,e2];by_cases c:v=y
  ·subst c;simp[Value.isInt]
  ·let:Value.isInt ((v:Nat):Int) (.int ((y:Nat):Int) tk)=false:=by simp[Value.isInt];omega
   grind
section
variable{prog:Program}{w:World}{A:Around}{E:∅}{s:Shared}
def a0F{ep:Nat}{t:SetTable}{v:Nat}{ad:Bool}{Q:ScanMet->Shared->Prop}(ho:s^^^a=some (lC es ep t))(hE:Es es L)(T:Tb B t L)(hv:v<16)
  (h1:v∈L->∀j,Q (.found j) s) (h2:v∉L->Q .absent s):∎ (setScan a (.int ((v:Nat):Int) tk) ((v:Nat):Int) ad es) Q E s:=by
 let hf:t.fits es.size=true:=by rw[hE.len];show T.fits
 let sc:=wpAny_setScan_of (prog:=prog) (w:=w) (A:=A) (E:=E) (s:=s) (knd:=intKind prog w) (k:=((v:Nat):Int)) (x:=.int ((v:Nat):Int) tk) (adding:=ad) (Q:=Q) (by simp[intKind,Value.isInt]) ho Z hf (hE.elems T.lt) (by
  let q:=hE.find v;let e:(λe:Int×Value=>(intKind prog w).is ((v:Nat):Int) e.2)=λe=>Value.isInt ((v:Nat):Int) e.2:=rfl;grind)
 let e:(intKind prog w).hash ((v:Nat):Int)=((v:Nat):Int):=VF v hv;rw[e]at sc;show sc
def xU{es':Array (Int×Value)}{ep:Nat}{t t':SetTable}(ho:h.get? a=some (lC es ep t)):(h.update a (Obj.putSet es' t')).get? a=some (lC es' (ep+1) t'):=by
 let:=yH (Obj.putSet es' t') ho (by rw[putSet_of es' t' rfl];rfl);rw[putSet_of es' t' rfl]at this;show this
def a0G(prog:Program)(w:World){t:SetTable}{v:Nat}(hE:Es es L)(T:Tb B t L):byScan (.int ((v:Nat):Int) tk) es=true :=
 byScan_of (knd:=intKind prog w) Z (by rw[hE.len];let:=T.len;unfold scanBound;omega) (hE.elems T.lt)
def ė{v:Nat}{Q:Bool->Shared->Prop}(S:jf B s.heap a L)(hv:v<16)
  (h:∀b h' L',Heap.SameBut a s.heap h'->jf B h' a L'->(∀u,u∈L'↔u=v\/u∈L)->(ql s.heap a->ql h' a)->Q b (s•h')) :
  ∎ (setAddHashed a (.int ((v:Nat):Int) tk) ((v:Nat):Int)) Q E s:=by
 let⟨es,ep,t,ho,hE,T⟩:=S;let hf:t.fits es.size=true:=by rw[hE.len];show T.fits
 unfold setAddHashed setAddHashedIn;show dY (M (wpAny_setState_of ho Z hf ?_));lk;rw[a0G prog w hE T];simp only[↓reduceIte];unfold setAddByScan;show M (M (jY (M (a0F ho hE T hv (λhm j=>?_) λhm=>?_))))
 ·lk;show ao (ao ?_);let q:=h false s.heap L (Ue a s.heap) ⟨es,ep,t,ho,hE,T⟩ (λu=>⟨.inr,λc=>c.elim (λe=>e▸hm) id⟩) id;show q
 ·lk;let⟨t1,es1,p,e1,hE1,dm,pl,ld,mk,_,_,up,sz,own⟩:=a3G (x:=.int ((v:Nat):Int) tk) T hE hv hm ⟨tk,Z⟩;rw[e1];lk;show M (ao ?_);rw[pl];show M (ao ?_);simp only[↓reduceIte];let mem:∀u,u∈L.take p++v::L.drop p↔u=v\/u∈L:=λu=>by
   rw[cH,bQ];let e:u∈L↔u∈L.take p\/u∈L.drop p:=by rw[<-cH,tW]
   rw[e];constructor
   ·rintro(c|c|c)
    ·show .inr (.inl c)
    ·show .inl c
    ·show .inr (.inr c)
   ·rintro(c|c|c)
    ·show .inr (.inl c)
    ·show .inl c
    ·show .inr (.inr c)
  let nd1:(L.take p++v::L.drop p).Nodup:=by
   let pm:(L.take p++v::L.drop p).Perm (v::L):=by
    let:L.take p++L.drop p=L:=tW p L;show List.perm_middle.trans (by rw[this])
   show pm.nodup_iff.mpr (jb.mpr ⟨hm,T.nd⟩)
  let lt1:∀u∈L.take p++v::L.drop p,u<16:=λu hu=>((mem u).mp hu).elim (λe=>e▸hv) (T.lt u);let ln1:(L.take p++v::L.drop p).length=L.length+1:=by
   rw[bO,iH,eN,iI];omega
  let fl:t1.fill=L.length+1:=by unfold SetTable.fill;rw[dm,sz];rfl
  let l16:=T.len;let z1:es1.size=L.length+1:=by rw[hE1.len,ln1]
  show M (GF ho Z ?_ (by rw[z1,gM];omega));let ho1:=xU (es':=es1) (t':=t1) ho;cases tf:t1.tooFull with
  |false =>
   simp only[Bool.not_false,Bool.and_false,Bool.false_eq_true,if_false];show ao (ao ?_);show h true _ _ (qD ..) ⟨es1,ep+1,t1,ho1,hE1,⟨dm,pl,ld,up,by rw[ln1,sz],nd1,lt1,?_⟩⟩ mem (λ⟨es0,ep0,t0,ho0,d⟩=>⟨es1,ep+1,t1,ho1,by
    rw[ho]at ho0;cases ho0;rw[mk,z1];let:=hE.len;omega⟩)
   unfold SetTable.tooFull at tf;let tf':=T9 tf;rw[fl,mk]at tf';rw[ln1,mk];rcases T.sh with⟨m7,l4⟩|⟨Xu,pe,_⟩
   ·show .inl ⟨m7,()⟩
   ·show .inr ⟨Xu,own Xu,()⟩
  |true =>
   simp only[Bool.not_false,Bool.and_self,if_true];unfold SetTable.tooFull at tf;let tf':=dw tf;rw[fl,mk]at tf';let five:5<=L.length+1:=by
    rcases T.sh with⟨m7,l4⟩|⟨Xu,pe,_⟩<;>omega
   let gr:SetTable.grown es1.size=(L.length+1)*4:=by
    unfold SetTable.grown;rw[z1,aA ()]
   let⟨es2,t2,L2,e2,hE2,T2,pm⟩:=Ė (t:=t1) (n:=SetTable.grown es1.size) pl ld hE1 nd1 lt1 (by rw[gr];omega) (by rw[gr,ln1];omega) (by rw[gr];omega);rw[e2];lk;show M (ao ?_);show M (GF ho1 Z ?_ (by rw[hE2.len,pm.length_eq,ln1,gM];omega));show ao (ao ?_);show h true _ L2 ((qD ..).trans (qD ..)) ⟨es2,_,t2,xU ho1,hE2,T2⟩ (λu=>(pm.mem_iff).trans (mem u)) λ_=>⟨es2,_,t2,xU ho1,.inr (by rw[hE2.len,pm.length_eq,ln1];show five)⟩
end
end Sm
namespace Sm
variable{es:Array (Int×Value)}{ep:Nat}
abbrev oF(w:World):Bool:=w.params.followText "set-order"
theorem HD{α:Type}:∀(l:List α) (i:Nat) (h:i<l.length),(l[i]::l.eraseIdx i).Perm l
 |_::r,0,_=>.refl _
 |x::r,i+1,h=>by
  let q:=HD r i (by simpa using h)
  rw[List.getElem_cons_succ,List.eraseIdx_cons_succ]
  show(List.Perm.swap x (r[i]'(by simpa using h)) (r.eraseIdx i)).trans (q.cons x)
def a0H{α:Type}(nx:Nat->Nat):∀(fuel k:Nat) (left:List α) (out:Array α),left.length<=fuel->(pickOrder.go nx fuel k left out).toList.Perm (out.toList++left):=by
 intro fuel
 induction fuel with
 |zero =>
  intro k left out h;let:left=[]:=Ma.mp ();subst this;unfold pickOrder.go;simp
 |succ f ih =>
  intro k left out h;unfold pickOrder.go;by_cases c:left=[]
  ·subst c;simp
  ·let pos:0<left.length:=List.length_pos_iff.mpr c;let lt:=Nat.mod_lt (nx k) pos;rw[bC lt];lk;show(ih (k+1) _ _ ()).trans ?_;rw[Array.toList_push,oM];show List.Perm.append_left _ (HD left _ lt)
def Ku{α:Type}(nx:Nat->Nat)(xs:Array α):(pickOrder nx xs).toList.Perm xs.toList:=by
 let:=a0H nx xs.size 0 xs.toList #[] (by simp);unfold pickOrder;simpa using this
def Xv(a:Addr):setWalk a=(do
 let(xs,c,tb) <-setState a
 if <-setsByText then
  let q <-ask
  return pickOrder (q.params.setOrder a c) xs
 if !tb.plain&&xs.size>1 then return (<-drawOrder xs.size xs.toList).toArray
 (do if !tb.led&&xs.size>1 then unsupported "set:maker-not-led" : Sem Unit)
 return xs):=rfl
def Es.perm{L:ay}(h:Es es L){es':List (Int×Value)}(p:es'.Perm es.toList):∃L',Paired (λe v=>e.1=((v:Nat):Int)/\∃tk,e.2=Value.int ((v:Nat):Int) tk) es' L'/\L'.Perm L:=by
 show⟨es'.map λe=>e.1.toNat,?_,?_⟩
 ·let all:∀e∈es.toList,∃v:Nat,e.1=((v:Nat):Int)/\∃tk,e.2=Value.int ((v:Nat):Int) tk:=by
   unfold Es at h;generalize es.toList=l at h;clear p
   induction h with
   |nil=>intro e he;simp at he
   |cons r _ ih =>
    intro e he;rcases bQ.mp he with rfl|he
    ·show⟨_,r⟩
    ·show ih e he
  let all':∀e∈es',∃v:Nat,e.1=((v:Nat):Int)/\∃tk,e.2=Value.int ((v:Nat):Int) tk:=λe he=>all e (p.mem_iff.mp he);clear p
  induction es' with
  |nil=>show .nil
  |cons e r ih =>
   let⟨v,e1,e2⟩:=all' e bh;rw[b8];show .cons ?_ (ih λx hx=>all' x (bM _ hx));rw[e1];show⟨Z,e2⟩
 ·show(p.map λe=>e.1.toNat).trans ?_;unfold Es at h;generalize es.toList=l at h;let:l.map (λe=>e.1.toNat)=L:=by
   induction h with
   |nil=>rfl
   |cons r _ ih=>rw[b8,ih,r.1];rfl
  rw[this]
section
variable{prog:Program}{w:World}{A:Around}{E:∅}{s:Shared}{a:Addr}{L:ay}
def jA{t:SetTable}{B:Bool}{Q:(Array (Int×Value)×Nat×SetTable)->Shared->Prop}(ho:s^^^a=some (lC es ep t))(hE:Es es L)(T:Tb B t L)(h:Q (es,ep,t) s) :
  ∎ (setState a) Q E s:=wpAny_setState_of ho Z (by rw[hE.len];show T.fits) h
def rC{Q:Bool->Shared->Prop}(h:Q (oF w) s):∎ setsByText Q E s:=by
 unfold setsByText;show M (M5 (ao h))
def walk_at{t:SetTable}{Q:Array (Int×Value)->Shared->Prop}(ho:s^^^a=some (lC es ep t))(hE:Es es L)(T:Tb (oF w) t L)
  (h:∀es',es'.toList.Perm es.toList->Q es' s):∎ (setWalk a) Q E s:=by
 rw[Xv];show M (jA ho hE T (M (rC ?_)));let pl:=T.pl;let ld:=T.led;cases c:oF w with
 |true =>
  simp only[if_true];show M (M5 (ao (h _ (Ku _ _))))
 |false =>
  rw[c]at ld;simp only[pl,ld,Bool.not_true,Bool.not_false,Bool.false_and,Bool.false_eq_true,if_false];first|exact M (ao (ao (h _ .rfl)))|exact ao (h _ .rfl)
def Y8{t:SetTable}{others:aI}{f:Option Addr}{Q:Array (Int×Value)->Shared->Prop}(ho:s^^^a=some (lC es ep t))(hE:Es es L)(T:Tb (oF w) t L)
  (h:∀es',es'.toList.Perm es.toList->Q es' s):∎ (setWalkUnseen a others f) Q E s:=by
 unfold setWalkUnseen;show M (jA ho hE T (M (rC ?_)));let e:(oF w||(t.led&&t.plain)||decide (es.size<=1))=true:=by rw[T.led,T.pl];grind
 lk;rw[aB e];show walk_at ho hE T h
noncomputable def Xw(es:Array (Int×Value))(laid:Option (SetTable×Array Nat)):Sem (Array (Int×Value)×SetTable):=do
 let some (t,order):=laid
  |unsupported "internal:set-table-without-room"
 if(order.filterMap (es[·]?)).size != es.size then unsupported "internal:set-table-lost-an-element"
 pure (order.filterMap (es[·]?),t)
def Ę(a:Addr)(n:Nat):setRelay a n=(do
 let(es,_,t) <-setState a
 if SetTable.sizeAbove n>sizeLine then unsupported "set:memory"
 let(es,t) <-Xw es (t.relaid (es.map (·.1)) n)
 storeSet a es t):=rfl
def Qz{t:SetTable}{order:Array Nat}{S:ay}{Q:Array (Int×Value)×SetTable->Shared->Prop}(hE':Es (order.filterMap (es[·]?)) S)(hz:es.size=S.length)(h:Q (order.filterMap (es[·]?),t) s) :
  ∎ (Xw es (some (t,order))) Q E s:=by
 unfold Xw;lk;let e:((order.filterMap (es[·]?)).size != es.size)=false:=by rw[hE'.len,hz];simp
 simp only[e,Bool.false_eq_true,if_false];first|exact M (ao (ao h))|exact ao h
def ę{n:Nat}(h:n<=64):SetTable.sizeAbove n<=128:=by
 let:∀n,n<=64->SetTable.sizeAbove n<=128:=()
 grind
def a0I{more:Nat}{Q:Unit->Shared->Prop}{B:Bool}(S:jf B s.heap a L)(hm:more<=16)
  (h:∀h' es ep t L',Heap.SameBut a s.heap h'->h'.get? a=some (lC es ep t)->Es es L'->Tb B t L'->L'.Perm L->(L.length+more)*5<t.mask*3->Q ⟨⟩ (s•h')):∎ (setRoomFor a more) Q E s:=by
 let⟨es,ep,t,ho,hE,T⟩:=S;unfold setRoomFor;show M (jA ho hE T ?_);let fl:t.fill=L.length:=by unfold SetTable.fill;rw[T.dm,T.sz];rfl
 let l16:=T.len;unfold SetTable.roomFor;lk;rw[fl,T.sz];by_cases c:(L.length+more)*5>=t.mask*3
 ·rw[aB c];lk;rw[Ę];show M (jA ho hE T ?_);let five:5<=L.length+more:=by
   rcases T.sh with⟨m7,_⟩|⟨Xu,_,_⟩<;>omega
  let b1:=Ar (n:=(L.length+more)*2) ();let b2:=Av (n:=(L.length+more)*2) ();let b3:=ę (n:=(L.length+more)*2) ();lk;rw[aA (by rw[gM];omega)];let hm':15<=SetTable.sizeAbove ((L.length+more)*2)-1:=()
  let⟨order,e,hE',hc⟩:=Og (f:=t.finger) (mv:=t.movedTo (SetTable.sizeAbove ((L.length+more)*2)-1)) (led:=t.led) (plain:=t.plain) hm' hE T.nd T.lt;unfold SetTable.relaid;rw[e];let lz:=VD T.lt hm' T.nd;show M (Qz hE' (by rw[hE.len,lz]) ?_);show GF ho Z ?_ (by rw[hE'.len,lz,gM];omega);let T':=Oh (B:=B) (f:=t.finger) (mv:=t.movedTo (SetTable.sizeAbove ((L.length+more)*2)-1)) hm' T.nd T.lt ();rw[<-T.led,<-T.pl]at T';show h _ _ _ _ _ (qD ..) (xU ho) hE' T' (xT (λv hv=>by let:=T.lt v hv;omega) T.nd) (by show _<(SetTable.sizeAbove ((L.length+more)*2)-1)*3;omega)
 ·rw[aA c];show ao (h s.heap es ep t L (Ue a s.heap) ho hE T .rfl ())
end
end Sm
namespace Sm
def Ě(sA oA:Addr)(each:Sem Unit):setMerge sA oA each=(do
 if sA==oA then return
 let(eo,epoch,to) <-setState oA
 if eo.isEmpty then return
 setRoomFor sA eo.size
 let(_,_,ts) <-setState sA
 match ts.road to with
 |.slotForSlot =>
  storeSet sA eo { to with finger:=ts.finger,led:=ts.led&&to.led,moves:=ts.moves,plain:=ts.plain&&to.plain}
 |.clean =>
  let(es,t) <-Xw eo (SetTable.laid ts.mask ts.finger ts.moves (ts.led&&to.led) (ts.plain&&to.plain) (eo.map (·.1)))
  storeSet sA es t
 |.oneByOne =>
  for (h,x)in <-setWalkUnseen oA [sA] (some sA) do
   let _ <-holding [x] (setAddHashed sA x h)
   each
   if(<-setState oA).2.1 != epoch then unsupported "set.changed-during-merge"):=rfl
section
variable{prog:Program}{w:World}{A:Around}{E:∅}{s:Shared}{sA oA:Addr}{L1 L2:ay}
def QB{each:Sem Unit}{Q:Unit->Shared->Prop}(ne:sA≠oA)(S1:jf (oF w) s.heap sA L1)(S2:jf (oF w) s.heap oA L2)(D:ql s.heap oA)
  (he:∀(s':Shared) (Q':Unit->Shared->Prop),(∀o,s^^^oA=some o->s'^^^oA=some o)->Q' ⟨⟩ s'->∎ each Q' E s')
  (h:∀h' L,Heap.SameBut sA s.heap h'->jf (oF w) h' sA L->(∀u,u∈L↔u∈L1\/u∈L2)->Q ⟨⟩ (s•h')):∎ (setMerge sA oA each) Q E s:=by
 let⟨eo,ep,to,ho,hE,T⟩:=S2;rw[Ě];let nb:(sA==oA)=false:=qz.mpr ne;rw[nb];simp only[Bool.false_eq_true,if_false];show M (jA ho hE T ?_);lk;let hz:=hE.len;let l16:=T.len;by_cases c:eo.isEmpty=true
 ·rw[aB c];let l0:L2.length=0:=by rw[<-hz];simpa using c
  let:L2=[]:=Ma.mp l0;subst this;show ao (h s.heap L1 (Ue _ _) S1 λu=>by simp)
 rw[aA c];show M (a0I S1 () λh1 es1 ep1 t1 L1' QC ho1 hE1 T1 pm hr=>?_);let ho':h1.get? oA=some (lC eo ep to):=by rw[QC.2 oA (Ne.symm ne)];show ho
 show M (jA (s:=(s•h1)) ho1 hE1 T1 ?_);lk;let fl:t1.fill=L1'.length:=by unfold SetTable.fill;rw[T1.dm,T1.sz];rfl
 unfold SetTable.road;rw[fl,pm.length_eq];let ld:(t1.led&&to.led) = !oF w:=by rw[T1.led,T.led];simp
 let pl:(t1.plain&&to.plain)=true:=by rw[T1.pl,T.pl];rfl
 by_cases e0:L1.length=0
 ·let n1:L1=[]:=Ma.mp e0;let nb:(L1.length != 0)=false:=by rw[e0];rfl
  rw[nb];simp only[Bool.false_eq_true,if_false];let dmt:to.dummies.isEmpty=true:=by rw[T.dm];rfl
  by_cases em:t1.mask=to.mask
  ·let:(t1.mask==to.mask&&to.dummies.isEmpty)=true:=()
   rw[this];simp only[if_true];show GF (s:=(s•h1)) ho1 rfl ?_ (by rw[hz,gM];omega);show h _ L2 (QC.trans (qD ..)) ⟨eo,_,_,xU ho1,hE,⟨T.dm,pl,ld,T.up,T.sz,T.nd,T.lt,T.sh⟩⟩ λu=>by rw[n1];simp
  ·let:(t1.mask==to.mask&&to.dummies.isEmpty)=false:=()
   rw[this];simp only[Bool.false_eq_true,if_false];let Xu:15<=t1.mask:=by
    let⟨es0,ep0,t0,ho0,d⟩:=D;rw[ho]at ho0;cases ho0;rcases T1.sh with⟨m7,_⟩|⟨Xu,_⟩
    ·grind
    ·show Xu
   let⟨order,e,hE',hc⟩:=Og (f:=t1.finger) (mv:=t1.moves) (led:=t1.led&&to.led) (plain:=t1.plain&&to.plain) Xu hE T.nd T.lt;rw[e];let lz:=VD T.lt Xu T.nd;show M (Qz hE' (by rw[hz,lz]) ?_);show GF (s:=(s•h1)) ho1 rfl ?_ (by rw[hE'.len,lz,gM];omega);let T':=Oh (B:=oF w) (f:=t1.finger) (mv:=t1.moves) Xu T.nd T.lt ();rw[<-ld,<-pl]at T';show h _ _ (QC.trans (qD ..)) ⟨_,_,_,xU ho1,hE',?_⟩ λu=>?_
   ·grind
   ·rw[n1,mem_upTo (λv hv=>by let:=T.lt v hv;omega)];simp
 ·let nb:(L1.length != 0)=true:=by simp[e0]
  rw[nb];simp only[if_true];show M (Y8 (s:=(s•h1)) ho' hE T λes' pe=>?_);let⟨R,hR,pR⟩:=hE.perm pe;show M ?_;rw[<-Ua];show wpAny_forIn_list _ (λrest _ s'=>∃h' L R,s'=(s•h')/\Heap.SameBut sA s.heap h'/\jf (oF w) h' sA L/\Paired (λ(e:Int×Value) (v:Nat)=>e.1=((v:Nat):Int)/\∃tk,e.2=Value.int ((v:Nat):Int) tk) rest R/\
   (∀v∈R,v<16)/\∀u,(u∈L\/u∈R)↔(u∈L1\/u∈L2)) _ ?_ ?_ _ _ ⟨h1,L1',R,Z,QC,⟨es1,ep1,t1,ho1,hE1,T1⟩,hR,λv hv=>T.lt v (pR.mem_iff.mp hv),λu=>by rw[pm.mem_iff,pR.mem_iff]⟩
  ·rintro⟨hh,x⟩ rest b s' ⟨h',L,R',rfl,sb,S,hP,lt,mem⟩;cases hP with
   | @cons _ v _ R'' r t =>
    let⟨e1,tk,e2⟩:=r;dsimp only at e1 e2;subst e1;subst e2;lk;show M (dY (ė (s:=(s•h')) S (lt v bh) λb2 h2 L' sb2 S' mem' _=>?_));let sb3:=sb.trans sb2;let oo:h2.get? oA=some (lC eo ep to):=by rw[sb3.2 oA (Ne.symm ne)];show ho
    show M (he _ _ (λo q=>by grind) (M (jA (s:=(s•h2)) oo hE T ?_)));simp only[bne_self_eq_false,Bool.false_eq_true,if_false];show ao ⟨h2,L',R'',Z,sb3,S',t,λu hu=>lt u (bM _ hu),λu=>?_⟩;grind
  ·rintro b s' ⟨h',L,R',rfl,sb,S,hP,lt,mem⟩;cases hP;show ao (h h' L sb S λu=>by rw[<-mem u];simp)
end
end Sm
namespace Sm
open PySem.Builtin.Frozenset
variable{Q:∅}{B:Bool}
def VG:isSubtype (.type "set") (.type "set")=pure true:=by rw[Uw];kernel_rfl
def ě:entryFor table "set.__or__" = some Builtin.«frozenset.__or__» := Ng (id':="frozenset.__or__") (by kernel_rfl) Z () (by kernel_rfl)
def VH:entryFor table "set.__iter__" = some Builtin.«frozenset.__iter__» := Ng (id':="frozenset.__iter__") (by kernel_rfl) Z () (by kernel_rfl)
noncomputable def Oi(id:String)(l:Addr)(r:Value):Sem Value:=do
 let result <-copyOf l
 if r != .ref l then
  let q <-addrOf result
  holding [result] (updateFrom id q r)
 return result
def or_eq(x y:Value):Builtin.«frozenset.__or__» ⟨[x,y],[]⟩=(do
 let(self,cM) <-slot1 "__or__" ⟨[x,y],[]⟩
 if !(<-isAnySet self <&&> isAnySet cM)then
  rule s!"frozenset.{"__or__"}.declined"
  return <-ret .notImplemented
 ret (<-Oi s!"frozenset.{"__or__"}" (<-addrOf self) cM)):=rfl
section
variable{prog:Program}{w:World}{A:Around}{E:∅}{s:Shared}{a b:Addr}{L1 L2:ay}
def QD(B:Bool):Tb B (.fresh 0 0 (!B)) []:=⟨Z,Z,Z,.nil,Z,.nil,λv h=>by simp at h,.inl ⟨Z,by simp⟩⟩
def a3H(h:Q (.ref s⁻¹) (s•s.heap.push (lC #[] 0 (.fresh 0 0 (!oF w))))):∎ (newSet (.type "set")) Q E s:=by
 unfold newSet;show M (rC ?_);lk;simp only[newObj];show M (wpAny_alloc (ao h))
def jf.type(S:jf B s.heap a L1):s.TypeIs (.ref a) "set" := let⟨_,_,_,ho,_⟩:=S;⟨_,ho,Z⟩
def VJ{Q:Bool->Shared->Prop}(S:jf B s.heap a L1)(h:Q true s):∎ (isAnySet (.ref a)) Q E s:=by
 unfold isAnySet orM;show M (vB S.type VG (ao h))
def a0J(S:jf (oF w) s.heap a L1)(D:ql s.heap a)
  (h:∀h' L,(∀b o,s^^^b=some o->h'.get? b=some o)->jf (oF w) h' s⁻¹ L->(∀u,u∈L↔u∈L1)->Q (.ref s⁻¹) (s•h')):∎ (copyOf a) Q E s:=by
 unfold copyOf baseOf;show M (M (vB S.type VG (ao ?_)));simp only[if_true];show M (a3H ?_);show wpAny _ _ (do setMerge s⁻¹ a;pure (Value.ref s⁻¹)) _ _ _;let lt:a<s⁻¹:=by
  let⟨_,_,_,ho,_⟩:=S;show bf ho
 let k:∀b o,s^^^b=some o->(s.heap.push (lC #[] 0 (.fresh 0 0 (!oF w)))).get? b=some o:=λb o e=>bL _ e;show M (QB (s:=(s•s.heap.push (lC #[] 0 (.fresh 0 0 (!oF w))))) (L1:=[]) (iJ lt) ⟨#[],0,_,b7 _ rfl,.nil,QD _⟩ (S.keep (k a)) (D.keep (k a)) (λs' Q' _ q=>ao q) λh' L sb S' mem=>?_);show ao (h h' L (λb o e=>?_) S' λu=>by grind);let lb:=bf e;rw[sb.2 b (bY lb)];show k b o e
def HF{es:Array (Int×Value)}{ep:Nat}{t:SetTable}{Q:Nat->Shared->Prop}(ho:s^^^a=some (lC es ep t))(hE:Es es L1)(T:Tb B t L1)(h:Q ep s):∎ (setEpoch a) Q E s :=
 wpAny_setEpoch_of ho Z (by rw[hE.len];show T.fits) h
def Ĝ{id:String}(ne:a≠b)(S1:jf (oF w) s.heap a L1)(D1:ql s.heap a)(S2:jf (oF w) s.heap b L2)(D2:ql s.heap b)
  (h:∀h' L,(∀b o,s^^^b=some o->h'.get? b=some o)->jf (oF w) h' s⁻¹ L->(∀u,u∈L↔u∈L1\/u∈L2)->Q (.ref s⁻¹) (s•h')) :
  ∎ (Oi id a (.ref b)) Q E s:=by
 unfold Oi;show M (a0J S1 D1 λh1 L k S mem=>?_);let nb:(Value.ref b != Value.ref a)=true:=()
 rw[nb];simp only[if_true];let S2':=S2.keep (k b);let D2':=D2.keep (k b);let lt:b<s⁻¹:=by
  let⟨_,_,_,ho,_⟩:=S2;show bf ho
 let S2c:=S2';let⟨es,ep,t,ho,hE,T⟩:=S2c;show wpAny _ _ (holding [Value.ref s⁻¹] (updateFrom id s⁻¹ (.ref b)) >>= λ_=>pure (Value.ref s⁻¹)) _ _ _;show M (dY ?_);unfold updateFrom;show M (VJ (s:=(s•h1)) S2' ?_);simp only[if_true];show wpAny _ _ (merge id s⁻¹ b) _ _ _;unfold merge;show M (HF (s:=(s•h1)) ho hE T (QB (s:=(s•h1)) (iJ lt) S S2' D2' (λs' Q' ks q=>?_) λh' L' sb S' mem'=>?_))
 ·unfold unchanged;show M (HF (s:=s') (ks _ ho) hE T ?_);simp only[bne_self_eq_false,Bool.false_eq_true,if_false];show ao q
 ·show ao (h h' L' (λc o e=>?_) S' λu=>by rw[mem' u,mem u]);rw[sb.2 c (bY (bf e))];show k c o e
def a5T(ne:a≠b)(S1:jf (oF w) s.heap a L1)(D1:ql s.heap a)(S2:jf (oF w) s.heap b L2)(D2:ql s.heap b)
  (h:∀h' L,(∀b o,s^^^b=some o->h'.get? b=some o)->jf (oF w) h' s⁻¹ L->(∀u,u∈L↔u∈L1\/u∈L2)->Q (.ref s⁻¹) (s•h')) :
  ∎ (binaryOp .BitOr (.ref a) (.ref b)) Q E s:=by
 show wpAny_binaryOp_same S1.type S2.type F.fills_set_or F.slot_set_or (gD F.slot_set_or S1.type ě ?_ (F.args_set_or_2 _ _));rw[or_eq];show M (m:=slot1 "__or__" _) (ao ?_);lk;unfold andM;show M (M (VJ S1 (VJ S2 ?_)));simp only[Bool.not_true,Bool.false_eq_true,if_false];show wpAny _ _ (Oi _ a (.ref b) >>= λv=>ret v) _ _ _;show M (Ĝ ne S1 D1 S2 D2 λh' L k S mem=>?_);show ao ⟨_,Z,by simp,h h' L k S mem⟩
end
end Sm
namespace Sm
def lD:Slot "set_iterator" "__next__" "set_iterator.__next__" := .of (owner:="set_iterator") (n:="__next__") (by rw[typeLookup_type,builtinLookup_eq_fast];kernel_rfl) () () () (by first|exact .inl ()|exact .inr ()) (by rw[Uw];kernel_rfl)
def yr:entryFor table "set_iterator.__next__" = some Builtin.«set_iterator.__next__» := entryFor_of_fast (by kernel_rfl)
def Aw(a:Value):argsOk "set_iterator.__next__" ⟨[a],[]⟩:=by unfold argsOk;kernel_rfl
def Ax:Slot "set_iterator" "__iter__" "set_iterator.__iter__" := .of (owner:="set_iterator") (n:="__iter__") (by rw[typeLookup_type,builtinLookup_eq_fast];kernel_rfl) () () () (by first|exact .inl ()|exact .inr ()) (by rw[Uw];kernel_rfl)
def Oj(a:Value):argsOk "set_iterator.__iter__" ⟨[a],[]⟩:=by unfold argsOk;kernel_rfl
end Sm
namespace Sm
variable{es:Array (Int×Value)}{ep:Nat}
def JH:entryFor table "set_iterator.__iter__" = some Builtin.«dict_keyiterator.__iter__» := Ng (id':="dict_keyiterator.__iter__") (by kernel_rfl) Z () (by kernel_rfl)
noncomputable def walked(w:World)(a:Addr)(ep:Nat)(es:Array (Int×Value)):Array (Int×Value):=if oF w=true then pickOrder (w.params.setOrder a ep) es else es
def Ej(w:World)(a:Addr)(ep:Nat)(es:Array (Int×Value)):(walked w a ep es).toList.Perm es.toList:=by
 unfold walked;split
 ·show Ku _ _
 ·show .rfl
def qp(w:World)(a:Addr)(ep:Nat)(es:Array (Int×Value)):(walked w a ep es).size=es.size:=by
 let:=(Ej w a ep es).length_eq;simpa using this
def a0K(a:Addr)(slot given epochThen:Nat):setNext a slot given epochThen=(do
 let(xs,c,tb) <-setState a
 if <-setsByText then
  if c != epochThen then
   unsupported "set_iterator.__next__:elements-changed"
  let zs <-setWalk a
  return (zs[given]?).map λz=>(z.2,slot)
 if !tb.plain&&xs.size>1 then
  unsupported "set_iterator.__next__:the-table-is-plain-no-more"
 (do if !tb.led && !xs.isEmpty then unsupported "set:maker-not-led" : Sem Unit)
 return match xs[SetTable.below tb.place slot]?,tb.place[SetTable.below tb.place slot]? with
  |some (_,z),some m=>some (z,m+1)
  |_,_=>none):=rfl
noncomputable def nF(B:Bool)(t:SetTable)(i:Nat):Nat:=if B=true then 0 else if i=0 then 0 else t.place.getD (i-1) 0+1
def VL{B:Bool}{t:SetTable}{L:ay}(T:Tb B t L)(hB:B=false):∀i,i<=L.length->SetTable.below t.place (nF B t i)=i
 |0,_=>by
  unfold nF
  rw[hB]
  show Vx T.up
 |k+1,h=>by
  unfold nF
  rw[hB]
  let hk:k<t.place.size:=by rw[T.sz];omega
  simp only[Bool.false_eq_true,if_false,Nat.add_sub_cancel]
  rw[aA ()]
  let:t.place.getD k 0=t.place[k]:=by simp[Array.getD,hk]
  rw[this]
  show Vy T.up hk
section
variable{prog:Program}{w:World}{A:Around}{E:∅}{s:Shared}{a:Addr}{L:ay}
def a0L{t:SetTable}{Q:Array (Int×Value)->Shared->Prop}(ho:s^^^a=some (lC es ep t))(hE:Es es L)(T:Tb (oF w) t L)
  (h:Q (walked w a ep es) s):∎ (setWalk a) Q E s:=by
 rw[Xv];show M (jA ho hE T (M (rC ?_)));let pl:=T.pl;let ld:=T.led;unfold walked at h;cases c:oF w with
 |true =>
  rw[c]at h;simp only[if_true]at h ⊢;show M (M5 (ao h))
 |false =>
  rw[c]at ld h;simp only[pl,ld,Bool.not_true,Bool.not_false,Bool.false_and,Bool.false_eq_true,if_false]at h ⊢;first|exact M (ao (ao h))|exact ao h
def QF{i:Nat}{t:SetTable}{Q:Option (Value×Nat)->Shared->Prop}(ho:s^^^a=some (lC es ep t))(hE:Es es L)(T:Tb (oF w) t L)(hi:i<=L.length)
  (h:Q (((walked w a ep es)[i]?).map λe=>(e.2,nF (oF w) t (i+1))) s):∎ (setNext a (nF (oF w) t i) i ep) Q E s:=by
 rw[a0K];show M (jA ho hE T (M (rC ?_)));let pl:=T.pl;let ld:=T.led;cases c:oF w with
 |true =>
  simp only[if_true,bne_self_eq_false,Bool.false_eq_true,if_false];show M (a0L ho hE T (ao ?_));rw[c]at h;unfold nF at h ⊢;grind
 |false =>
  rw[c]at ld h;simp only[pl,ld,Bool.not_true,Bool.not_false,Bool.false_and,Bool.false_eq_true,if_false];let bs:=VL T c i hi;rw[c]at bs;rw[bs];let wk:walked w a ep es=es:=by unfold walked;rw[c];rfl
  rw[wk]at h;let e:(match es[i]?,t.place[i]? with
   |some (_,z),some m=>some (z,m+1)
   |_,_=>none)=(es[i]?).map λe=>(e.2,nF false t (i+1)):=by
   by_cases q:i<L.length
   ·let h1:i<es.size:=by rw[hE.len];show q
    let h2:i<t.place.size:=by rw[T.sz];show q
    rw[yG h1,yG h2];unfold nF;simp[Array.getD,h2]
   ·let h1:es[i]?=none:=Mi (by rw[hE.len];omega);rw[h1];rfl
  first
  |exact M (ao (ao (by rw[e];show h)))
  |exact ao (by rw[e];show h)
abbrev Χ(sl i:Nat)(a:Addr)(n ep:Nat):Obj:={ cls:=.type "set_iterator",dict:=none,data:=.fields #[.int (sl:Nat) 0,.int (i:Nat) 0,.ref a,.int (n:Nat) 0,.int (ep:Nat) 0],slots:=#[]}
def item_at{I:Addr}{i:Nat}{t:SetTable}{e:Int×Value}{Q:Option Value->Shared->Prop}(ne:a≠I)(ho:s^^^a=some (lC es ep t))(hE:Es es L)(T:Tb (oF w) t L)
  (hI:s^^^I=some (Χ (nF (oF w) t i) i a L.length ep)) (hw:(walked w a ep es)[i]?=some e)
  (h:∀h',h'.get? I=some (Χ (nF (oF w) t (i+1)) (i+1) a L.length ep)->Heap.SameBut I s.heap h'->Q (some e.2) (s•h')):∎ (pyNext (.ref I)) Q E s:=by
 let hi:i<L.length:=by
  rcases wV i (walked w a ep es).size with q|q
  ·rw[qp,hE.len]at q;show q
  grind
 let hT:s.TypeIs (.ref I) "set_iterator" :=⟨_,hI,Z⟩;unfold pyNext;show M (ug (m9 (name:=Str.ofString "__next__") hT lD (gD lD hT yr ?_ (Aw _))));unfold Builtin.«set_iterator.__next__»;show M (m:=slotArgs "__next__" 0 _) (ao ?_);lk;show M (CJ hI Z ?_);lk;unfold setEntries;show M (M (jA ho hE T (ao ?_)));let z:(((es.size:Nat):Int) !=((L.length:Nat):Int))=false:=by rw[hE.len];simp
 lk;rw[z];simp only[Bool.false_eq_true,if_false,Int.toNat_natCast];show M (QF ho hE T () ?_);rw[hw];dsimp only[Option.map];show M (jX hI (by simp) λh1 hI1 QC=>M (jX (s:=(s•h1)) hI1 (by simp) λh2 hI2 sb2=>ao ⟨_,Z,ao (h h2 ?_ (QC.trans sb2))⟩));rw[hI2];simp[rawInt]
def HJ{I:Addr}{t:SetTable}{Q:Option Value->Shared->Prop}(hh:A.handled=none)(ne:a≠I)(ho:s^^^a=some (lC es ep t))(hE:Es es L)(T:Tb (oF w) t L)
  (hI:s^^^I=some (Χ (nF (oF w) t L.length) L.length a L.length ep))
  (h:∀h',Heap.ExtBut I s.heap h'->Q none (s•h')):∎ (pyNext (.ref I)) Q E s:=by
 let hT:s.TypeIs (.ref I) "set_iterator" :=⟨_,hI,Z⟩;unfold pyNext;show M (ug (m9 (name:=Str.ofString "__next__") hT lD (gD lD hT yr ?_ (Aw _))));unfold Builtin.«set_iterator.__next__»;show M (m:=slotArgs "__next__" 0 _) (ao ?_);lk;show M (CJ hI Z ?_);lk;unfold setEntries;show M (M (jA ho hE T (ao ?_)));let z:(((es.size:Nat):Int) !=((L.length:Nat):Int))=false:=by rw[hE.len];simp
 lk;rw[z];simp only[Bool.false_eq_true,if_false,Int.toNat_natCast];show M (QF ho hE T () ?_);rw[Mi (by rw[qp,hE.len];grind)];dsimp only[Option.map];show M (jX hI (by simp) λh1 hI1 QC=>M ?_);simp only[newExc,newTuple];show M (jP ?_ (by size_fits));show M (m:=firstArgMember _ _) (Hg (a:=Value.none) (by first|rfl|(simp only[firstArgMember];rfl)) ?_);show jP ?_ (by size_fits);simp only[raiseNew];show M (Np ?_);rw[show A.in1.handled=none from hh];show M (ao (Nx ?_));show M (vB (U:="StopIteration") (T:="StopIteration") (b:=true) ⟨_,b7 _ Z,Z⟩ GR (ao (h _ ((QC.extBut.push _).push _))))
end
end Sm
namespace Sm
open PyProof.Rows
variable{a:Addr}{es:Array (Int×Value)}{ep:Nat}
section
variable{prog:Program}{w:World}{A:Around}{E:∅}{s:Shared}{L:ay}
def a3I{I:Addr}{t:SetTable}(hh:A.handled=none)(ne:a≠I)(hE:Es es L)(T:Tb (oF w) t L) :
  Walks prog w A I [I,a] [I] L.length (λi v=>∃e,(walked w a ep es)[i]?=some e/\v=e.2)
   (λi h=>h.get? I=some (Χ (nF (oF w) t i) i a L.length ep)/\h.get? a=some (lC es ep t)) where
 sub:=λb hb=>by grind
 frame:=λ_ _ _ st hk=>⟨hk I (by simp) _ st.1,hk a (by simp) _ st.2⟩
 item:=λi s Q E hi st hQ=>by
  obtain⟨e,he⟩:∃e,(walked w a ep es)[i]?=some e:=⟨_,yG (by rw[qp,hE.len];show hi)⟩
  show item_at ne st.2 hE T st.1 he λh' hI sb=>?_
  show hQ _ h' s.toks ⟨e,he,Z⟩ ⟨hI,by rw[sb.2 a ne];show st.2⟩ λb o hb q=>by rw[sb.2 b (λc=>hb (by simp[c]))];show q
 done:=λs Q E st hQ=>HJ hh ne st.2 hE T st.1 λh' xb=>hQ h' s.toks λb o hb q=>xb b o (λc=>hb (by simp[c])) q
 self:=λi s Q E st hQ=>by
  let hT:s.TypeIs (.ref I) "set_iterator" :=⟨_,st.1,Z⟩
  show Mz hT Ax (gD Ax hT JH ?_ (Oj _))
  show wpAny _ _ (ret (Value.ref I)) _ _ s;show ao ⟨_,Z,"set_iterator",_,hT,lD.lookup,hQ⟩
def ĝ(a:Addr):setDrawn a=(do
 let(es,_,t) <-setState a
 let byText <-setsByText
 return !byText&&(!t.plain&&es.size>1)):=rfl
def Ay{t:SetTable}{Q:∅}(ho:s^^^a=some (lC es ep t))(hE:Es es L)(T:Tb (oF w) t L)
  (h:Q (.ref s⁻¹) (s•s.heap.push (Χ 0 0 a L.length ep))):∎ (pyIter (.ref a)) Q E s:=by
 let hT:s.TypeIs (.ref a) "set" :=⟨_,ho,Z⟩;show Mz hT F.slot_set_iter (gD F.slot_set_iter hT VH ?_ (F.args_set_iter_1 _));unfold Builtin.«frozenset.__iter__»;show M (m:=Builtin.Frozenset.slot0 _ _) (ao ?_);unfold Builtin.Frozenset.sizeOf setEntries;show M (M (M (jA ho hE T (ao (ao ?_)))));rw[ĝ];show M (M (jA ho hE T (M (rC (ao ?_)))));rw[T.pl];simp only[Bool.not_true,Bool.false_and,Bool.and_false,Bool.false_eq_true,if_false];show M (ao (M (HF ho hE T (M ?_))));unfold newFields;show jP (ao ⟨_,Z,"set_iterator",_,⟨_,b7 _ Z,Z⟩,lD.lookup,?_⟩);rw[hE.len];show h
def a0M:(Value.type "set" == Value.type "list")=false:=by decide
def a3J:(Value.type "set" == Value.type "tuple")=false:=by decide
def Ğ:typeLookup (.type "set") "__len__" = pure (some (.builtin "set.__len__")):=F.slot_set_len.lookup
def split_len:splitId "set.__len__" = some ("set","__len__"):=by decide
def QG{t:SetTable}{Q:aw->Shared->Prop}(hh:A.handled=none)(ho:s^^^a=some (lC es ep t))(hE:Es es L)(T:Tb (oF w) t L)
  (h:∀(h':Heap) (tk:Nat),(∀b o,s^^^b=some o->h'.get? b=some o)->s⁻¹<h'.objs.size->Q ((walked w a ep es).toList.map (·.2)) { s with heap:=h',toks:=tk}):∎ (collect (.ref a)) Q E s:=by
 let lt:a<s⁻¹:=bf ho;unfold collect;show M (wpAny_runValue (jq F.entry_proto_collect ?_));rw[jD F.plain_proto_collect _];show wpAny _ A.in1 (newList [] >>= λl=>again (.builtin "list.__iadd__" ⟨[l,.ref a],[]⟩)) _ _ s;show M (jP (ao ⟨jR F.plain_list_iadd _,jq F.entry_list_iadd ?_⟩));rw[jD F.plain_list_iadd _];let S0:(s.heap.push { cls:=.type "list",data:=.seq ([]:aw).toArray}).get? s⁻¹=some { cls:=.type "list",data:=.seq ([]:aw).toArray}:=b7 _ rfl;let ho1:(s.heap.push { cls:=.type "list",data:=.seq ([]:aw).toArray}).get? a=some (lC es ep t):=bL _ ho;let hT1:Shared.TypeIs (s•s.heap.push { cls:=.type "list",data:=.seq ([]:aw).toArray}) (.ref a) "set" :=⟨_,ho1,rfl⟩;show wpAny _ A.in1 (Builtin.List.listExtendWith (.ref s⁻¹) (.ref a) (.ref s⁻¹)) _ _ (s•s.heap.push { cls:=.type "list",data:=.seq ([]:aw).toArray});unfold Builtin.List.listExtendWith;show M (rN hT1 ?_);let n1:Builtin.List.listSameRef (.ref s⁻¹) (.ref a)=false:=by simp[Builtin.List.listSameRef,Nat.ne_of_gt lt]
 simp only[n1,a0M,a3J,Bool.or_false,Bool.false_eq_true,if_false];show M (Ay ho1 hE T (M (dY ?_)));let ho2:((s.heap.push { cls:=.type "list",data:=.seq ([]:aw).toArray}).push (Χ 0 0 a L.length ep)).get? a=some (lC es ep t):=bL _ ho1;let hT2:Shared.TypeIs (s•(s.heap.push { cls:=.type "list",data:=.seq ([]:aw).toArray}).push (Χ 0 0 a L.length ep)) (.ref a) "set" :=⟨_,ho2,rfl⟩;unfold Builtin.List.listLengthHint;show M (GP hT2 Ğ ?_);lk;rw[split_len];lk;show M (vB hT2 VG ?_);rw[aA ()];rw[aB ()];show M (rN hT2 ?_);lk;show ao ?_;rw[aB ()];show M (jY ?_);let lsz:(s.heap.push { cls:=.type "list",data:=.seq ([]:aw).toArray}).objs.size=s⁻¹+1:=Ny _ _;let S1:((s.heap.push { cls:=.type "list",data:=.seq ([]:aw).toArray}).push (Χ 0 0 a L.length ep)).get? s⁻¹=some { cls:=.type "list",data:=.seq ([]:aw).toArray}:=bL _ S0;show M ?_;show wpAny _ A.in1 (updateSeq s⁻¹ (·.push .none) >>= λ_=>updateSeq s⁻¹ (·.pop)) _ _ _;show M (M9 S1 Z ?_);let S2:=yH (Obj.mapSeq (·.push Value.none)) S1 rfl;show M9 S2 Z ?_;let S3:=yH (Obj.mapSeq (·.pop)) S2 rfl;let oth:∀b o,b≠s⁻¹->((s.heap.push { cls:=.type "list",data:=.seq ([]:aw).toArray}).push (Χ 0 0 a L.length ep)).get? b=some o->
   ((((s.heap.push { cls:=.type "list",data:=.seq ([]:aw).toArray}).push (Χ 0 0 a L.length ep)).update s⁻¹ (Obj.mapSeq (·.push Value.none))).update s⁻¹ (Obj.mapSeq (·.pop))).get? b=some o :=
  λb o hb e=>(Mh _ _ (Ne.symm hb)).trans ((Mh _ _ (Ne.symm hb)).trans e)
 let neI:a≠(s.heap.push { cls:=.type "list",data:=.seq ([]:aw).toArray}).objs.size:=()
 let W:=(a3I (prog:=prog) (w:=w) (A:=A.in1) (I:=(s.heap.push { cls:=.type "list",data:=.seq ([]:aw).toArray}).objs.size) (ep:=ep) () neI hE T).toS;let l16:=T.len;let sl0:nF (oF w) t 0=0:=by unfold nF;split<;>rfl
 show ao ⟨jR F.plain_extend_loop _,codeAny_extend_loopS W (by rw[gM];omega) _ (by
   grind) _ _ 0 _ #[] _ Z (cW _) ⟨?_,?_⟩ S3 (ItemsOf.nil _) λs' acc' c' hm hS' hacc=>?_⟩
 ·show oth _ _ () ?_;rw[sl0];show b7 _ rfl
 ·show oth _ _ (bY lt) ho2
 ·let⟨h',g',d',tk',os'⟩:=s';let eg:g'=s.gens:=hm.gens;let ed:d'=s.drawn:=hm.drawn;let eo:os'=s.os:=hm.os;subst eg;subst ed;subst eo;show wpAny _ A (load s⁻¹ >>= _) _ _ _;show M (wpAny_load hS' ?_);lk;let el:acc'.toList=(walked w a ep es).toList.map (·.2):=by
   apply List.ext_getElem?;intro i;rw[Gz,cI,Gz];rcases wV i acc'.size with q|q
   ·let⟨e,he,hv⟩:=hacc.2 i acc'[i] (yG q);rw[yG q,he,hv];rfl
   ·rw[Mi q,Mi (by rw[qp,hE.len,<-hacc.1];show q)];rfl
  rw[el];show ao (h h' tk' (λb o e=>?_) (bf hS'));let lb:b<s⁻¹:=bf e;show hm.heap b o () (oth b o (bY lb) (bL _ (bL _ e)))
def a3K{h:Heap}{b:Addr}{vs:aw}{out:Array Value}{o:Obj}(lb:b<h.objs.size)(ne:b≠a)(e:h.get? b=some o):(sortedHeap h a vs out).get? b=some o:=by
 unfold sortedHeap;rw[Mp _ _ _ _ ne];show bL _ (bL _ (by rw[Mp _ _ _ _ ne];show e))
def a5U{h:Heap}{vs:aw}{xs out:Array Value}{n:Nat}(e:h.get? a=some (seqObj "list" xs n)):∃n',(sortedHeap h a vs out).get? a=some (seqObj "list" out n'):=by
 unfold sortedHeap;show⟨_,Ur (bL _ (bL _ (Ur e λ_=>#[]))) λ_=>out⟩
def VN{Q:∅}(hh:A.handled=none)(S:jf (oF w) s.heap a L)
  (h:∀(h':Heap) (tk:Nat) (p:Addr) (vs:aw) (n:Nat) (ns:ae),(∀b o,s^^^b=some o->h'.get? b=some o)->s⁻¹<=p->h'.get? p=some (seqObj "list" vs.toArray n)->IntsAre vs ns->
   ns.Perm (L.map λv=>((v:Nat):Int))->ns.Pairwise (· <= ·)->Q (.ref p) { s with heap:=h',toks:=tk}):∎ (call (.builtin "sorted") [.ref a]) Q E s:=by
 let⟨es,ep,t,ho,hE,T⟩:=S;let l16:=T.len;apply Ù kind_sorted plain_sorted entry_sorted (args_sorted1 _);unfold Builtin.«sorted»;show M (m:=checkCount "sorted" 1 1 _) (ao ?_);show M (QG (by simpa using hh) ho hE T λh1 tk k lz=>?_);let⟨L',hP,pm⟩:=hE.perm (Ej w a ep es);let hl:L'.length=L.length:=pm.length_eq;let hI:IntsAre ((walked w a ep es).toList.map (·.2)) (L'.map λv=>((v:Nat):Int)):=by
  generalize (walked w a ep es).toList=l at hP;clear pm hl
  induction hP with
  |nil=>show .nil
  |cons r _ ih =>
   let⟨q,e⟩:=r.2;rw[b8,b8,e];show .cons _ q ih
 let hn:((walked w a ep es).toList.map (·.2)).length=L.length:=by rw[aH,tX,qp,hE.len]
 show M (Uz ?_ (by rw[hn,gM];omega));let o1:(h1.push (seqObj "list" ((walked w a ep es).toList.map (·.2)).toArray 0)).get? h1.objs.size=some (seqObj "list" ((walked w a ep es).toList.map (·.2)).toArray 0):=b7 _ rfl;show M (dY (gD slot_list_sort ⟨_,o1,Z⟩ entry_list_sort (list_sort_tree o1 hI (by rw[hn];omega) λout ns a1 a2 a3=>⟨_,Z,?_⟩) (args_list_sort _)));let⟨n',o2⟩:=a5U (vs:=(walked w a ep es).toList.map (·.2)) (out:=out) o1;show ao ⟨_,Z,h _ _ _ out.toList n' ns (λb o e=>?_) (fD lz) (by simpa using o2) a1 (a2.trans (pm.map _)) a3⟩;let lb:b<h1.objs.size:=uh (bf e) lz;show a3K (by rw[Ny];show GD lb) (bY lb) (bL _ (k b o e))
end
end Sm
namespace Sm
open PyProof.Rows
section
variable{prog:Program}{w:World}{A:Around}{R:Result->Shared->Prop}{I:Addr}{fp wr:aI}{G:Array GenState->Array GenState->Prop}{n:Nat}{P:Nat->Value->Prop}{St:Nat->Shared->Prop}
def a0N(W:WalksS prog w A.in1 I fp wr G n P St)(S:Addr)(nf:S∉fp)(val:Nat->Nat)(hv:∀i v,i<n->P i v->∃t,v=.int ((val i:Nat):Int) t)(lt:∀i,i<n->val i<16) :
  ∀(k i:Nat) (s:Shared) (L:ay),n-i=k->i<=n->St i s->jf (oF w) s.heap S L->ql s.heap S->(∀u,u∈L↔∃j,j<i/\val j=u)->
   (∀s' L',Moved (S::wr) G s s'->jf (oF w) s'.heap S L'->ql s'.heap S->(∀u,u∈L'↔∃j,j<n/\val j=u)->R (.ok (.ret .none)) s')->
   codeAny (model prog w) A (.builtin "set.update.loop" ⟨[.ref S,.ref I],[]⟩) R s:=by
 let nw:S∉wr:=λh=>nf (W.sub _ h);let up:∀b∈wr,b∈S::wr:=λb hb=>bM _ hb;intro k
 induction k with
 |zero =>
  intro i s L hk hi st hS hD mem hR;obtain rfl:i=n:=()
  show jq F.entry_set_update_loop ?_;rw[jD S5 _];show wpAny _ A.in1 (pyNext (.ref I) >>= _) _ _ s;show M (W.done s _ _ st λs' hm=>?_);show ao (hR s' L (hm.mono up) (hS.keep λo e=>hm.heap S o nw e) (hD.keep λo e=>hm.heap S o nw e) mem)
 |succ k ih =>
  intro i s L hk hi st hS hD mem hR;let li:i<n:=()
  show jq F.entry_set_update_loop ?_;rw[jD S5 _];show wpAny _ A.in1 (pyNext (.ref I) >>= _) _ _ s;show M (W.item i s _ _ li st λv s' hP st' hm=>?_);let⟨t,rfl⟩:=hv i v li hP;let hS':=hS.keep λo e=>hm.heap S o nw e;let hD':=hD.keep λo e=>hm.heap S o nw e;show wpAny _ A.in1 (holding [Value.int ((val i:Nat):Int) t] (setAdd S (.int ((val i:Nat):Int) t)) >>= _) _ _ s';show M (dY ?_);unfold setAdd;show dY (M ((intKind prog w).pyHash (k:=((val i:Nat):Int)) (intKind_is _ _ _ _) ?_));let eh:(intKind prog w).hash ((val i:Nat):Int)=((val i:Nat):Int):=VF _ (lt i li);rw[eh];show ė (s:={ s' with toks:=s'.toks+1}) hS' (lt i li) λb h' L' sb S2 a8H dn=>ao ⟨jR S5 _,ih (i+1) _ L' () li (W.frame _ s' _ _ st' (vH _) λc hc o e=>?_) S2 (dn hD') (λu=>?_) λs2 L2 hm2 h2 h3 h4=>hR s2 L2 (Moved.trans W.gtrans ((hm.mono up).then_heap (vH _) λc o hc e=>?_) hm2) h2 h3 h4⟩
  ·rw[sb.2 c (λq:c=S=>nf ())];show e
  ·grind
  ·rw[sb.2 c (λq:c=S=>hc ())];show e
end
section
variable{prog:Program}{w:World}{A:Around}{E:∅}{s:Shared}
def a0O(a:Value){Q:∅}(h:Q (.ref s⁻¹) (s•s.heap.push (lC #[] 0 (.fresh 0 0 (!oF w))))) :
  codeAny (model prog w) A (.call (.builtin "set.__new__") ⟨[.type "set",a],[]⟩) (wants Q E) s:=by
 show codeAny_of_tree ?_;show wpAny _ A.in1 (do checkBuiltinCall "set.__new__" ⟨[.type "set",a],[]⟩;again (.builtin "set.__new__" ⟨[.type "set",a],[]⟩)) _ _ s;show M (Hg (F.newCall_set_1 a) (ao ⟨jR F.plain_set_new _,jq F.entry_set_new ?_⟩));rw[jD F.plain_set_new _];unfold Builtin.«set.__new__» Builtin.Frozenset.newClass;let hsub:=sub_set_self;let⟨hp,g,d,tk,os⟩:=s;dsimp only at h ⊢
 wp_walk
 show M5 (ao ?_);lk;simp only[newObj];show M (wpAny_alloc (ao (ao h)))
def a3L{l:Addr}{items:Array Value}{vals:ay}{Q:∅}(hh:A.handled=none)(hl:s.heap.IsList l items)(hi:IntsAre items.toList (vals.map λv=>((v:Nat):Int)))(lt:∀v∈vals,v<16)
  (h:∀(h':Heap) (tk:Nat) (L:ay),jf (oF w) h' s⁻¹ L->ql h' s⁻¹->(∀u,u∈L↔u∈vals)->(∀b o,b<s⁻¹->s^^^b=some o->h'.get? b=some o)->Q (.ref s⁻¹) { s with heap:=h',toks:=tk}) :
  ∎ (call (.type "set") [.ref l]) Q E s:=by
 let⟨c,tl,hmro⟩:=F.called_set.mro;let hmade:=F.called_set.made;let hsub:=F.called_set.sub;let hlen:items.size=vals.length:=by
  let:=hi.length;simpa using this
 show wpAny_call (codeAny_of_tree ?_);show wpAny _ _ (callAny (.type "set") _) _ _ _;show ao ⟨Code.quiet_builtin _ (),jq F.entry_type_call ?_⟩;rw[Around.under_plain (weight_type_call_type "set" [.ref l] []) rfl];let h1:=F.called_set.notType;let h2:=F.called_set.canCreate;let hct:=F.typeCall_set_1 (.ref l);repeat (any_goals (first|assumption|wp_step))
 show CN (a0O (.ref l) (E:=E) (Q:=λobj s₁=>obj=.ref s⁻¹/\s₁=(s•s.heap.push (lC #[] 0 (.fresh 0 0 (!oF w))))) ⟨rfl,rfl⟩) λr s₁ hr=>?_;cases r with
 |error e=>show hr
 |ok fl =>
  cases fl with
  |ret obj =>
   let⟨rfl,rfl⟩:=hr;let gS:(s.heap.push (lC #[] 0 (.fresh 0 0 (!oF w)))).get? s⁻¹=some (lC #[] 0 (.fresh 0 0 (!oF w))):=b7 _ rfl;let hT:Shared.TypeIs (s•s.heap.push (lC #[] 0 (.fresh 0 0 (!oF w)))) (.ref s⁻¹) "set" :=⟨_,gS,rfl⟩;let hli:=F.called_set.init.lookup;let hbi:=F.called_set.init.bind (.ref s⁻¹);repeat (any_goals (first|assumption|wp_step))
   show CN (codeAny_call_builtin (R:=wants (λr s₂=>r=.none/\∃h' tk L,s₂={ s with heap:=h',toks:=tk}/\jf (oF w) h' s⁻¹ L/\ql h' s⁻¹/\(∀u,u∈L↔u∈vals)/\
     (∀b o,b<s⁻¹->s^^^b=some o->h'.get? b=some o)) E) F.called_set.init.plain F.entry_set_init (check_set_init_1 hT ?_)) λr₂ s₂ hr₂=>?_
   ·let⟨ol,hol,hcl,nl,hdl⟩:=hl;let⟨ocls,odict,odata,oslots⟩:=ol;simp only at hcl hdl;subst hcl;subst hdl;let hol':(s.heap.push (lC #[] 0 (.fresh 0 0 (!oF w)))).get? l=some { cls:=.type "list",dict:=odict,data:=.seq items nl,slots:=oslots}:=bL _ hol;let hsls:=F.sub_list_set;let hslf:=F.sub_list_frozenset;let hne:(Value.type "list" == Value.type "dict")=false:=()
    let hl1:(s.heap.push (lC #[] 0 (.fresh 0 0 (!oF w)))).IsList l items:=⟨_,hol',Z,nl,Z⟩;unfold Builtin.«set.__init__» noKeywords Builtin.Frozenset.updateFrom;generalize hPI:pyIter=PI
    wp_walk
    subst hPI;show vz hl1 (M (wpAny_runValue ?_));let ll:l<s⁻¹:=bf hol;let hh3:A.in1.in1.in1.handled=none:=by simp[hh]
    let ni:l≠(s.heap.push (lC #[] 0 (.fresh 0 0 (!oF w)))).objs.size:=by rw[oN];show bY (GD ll)
    let nf:s⁻¹∉[(s.heap.push (lC #[] 0 (.fresh 0 0 (!oF w)))).objs.size,l]:=by
     rw[oN];simp only[List.mem_cons,List.not_mem_nil,or_false,not_or];show⟨bY (wM _),iJ ll⟩
    let hval:∀(i:Nat) (v:Value),i<items.size->items[i]?=some v->∃t,v=.int (((λi=>vals.getD i 0) i:Nat):Int) t:=λi v li hv=>by
     let⟨t,e⟩:=PyProof.Rows.IntsAre.int_at hi i v (by rw[Gz];show hv);let lv:i<vals.length:=()
     show⟨t,?_⟩;rw[e];simp[List.getD,lv]
    show a0N ((Walks.list hh3 _ l ni items).toS) s⁻¹ nf (λi=>vals.getD i 0) hval (λi li=>?_) (items.size-0) 0 _ [] () (cW _) ⟨⟨_,b7 _ Z,Z,Z⟩,(hl1.push _)⟩ ?hS0 ?hD0 (λu=>by simp) ?hR
    ·let lv:i<vals.length:=()
     show lt _ ?_;simp[List.getD,lv]
    case hS0=>show⟨#[],0,_,bL _ gS,.nil,QD _⟩
    case hD0=>show⟨#[],0,_,bL _ gS,.inl Z⟩
    case hR =>
     intro s' L' hm hS' hD' mem;let⟨h',g',d',tk',os'⟩:=s';let eg:g'=s.gens:=hm.gens;let ed:d'=s.drawn:=hm.drawn;let eo:os'=s.os:=hm.os;subst eg;subst ed;subst eo;show wpAny _ _ _ _ _ _;show ao ?_;show wpAny _ _ (ret Value.none) _ _ _;show ao ⟨Z,h',tk',L',Z,hS',hD',λu=>?_,λb o hb e=>?_⟩
     ·rw[mem u];constructor
      ·rintro⟨j,hj,rfl⟩;let lv:j<vals.length:=()
       simp[List.getD,lv]
      ·intro hu;let⟨j,hj,e⟩:=qC hu;show⟨j,(),by simp[List.getD,hj,e]⟩
     ·let b1:b≠s⁻¹:=bY hb;let b2:b≠(s.heap.push (lC #[] 0 (.fresh 0 0 (!oF w)))).objs.size:=by rw[oN];show bY (GD hb)
      show hm.heap b o (by simp only[List.mem_cons,List.not_mem_nil,or_false,not_or];show⟨b1,b2⟩) (bL _ (bL _ e))
   ·cases r₂ with
    |error e=>show hr₂
    |ok fl₂ =>
     cases fl₂ with
     |ret r =>
      let⟨rfl,h',tk,L,rfl,q1,q2,q3,q4⟩:=hr₂;repeat (any_goals (first|assumption|wp_step))
      show h _ _ L q1 q2 q3 q4
     |_=>show hr₂.elim
  |_=>show hr.elim
end
end Sm
namespace L2
open PyProof.Rows Sm
def QH(w:World)(a:Addr)(d:Bool)(L:ay):HO:=.ext λh=>jf (oF w) h a L/\(d=true->ql h a)
def Small(ns:ae):Prop:=∀n∈ns,0<=n/\n<16
noncomputable def PN(p:Int->Bool):ae:=((List.range 16).map λi=>((i:Nat):Int)).filter p
def a3M(p:Int->Bool):(PN p).Pairwise (· < ·):=by
 unfold PN;show GC _ ?_;rw[wL];show List.pairwise_lt_range.imp λh=>by omega
def xV{p:Int->Bool}{v:Int}:v∈PN p↔0<=v/\v<16/\p v=true:=by
 unfold PN;rw[jQ,dM];constructor
 ·grind
 ·rintro⟨h0,h1,h⟩;show⟨⟨v.toNat,fX.mpr (),()⟩,h⟩
theorem up_eq:∀{xs ys:ae},xs.Pairwise (· < ·)->ys.Pairwise (· < ·)->(∀v,v∈xs↔v∈ys)->xs=ys
 | [],[],_,_,_=>rfl
 | [],y::ys,_,_,h=>absurd ((h y).mpr bh) eO
 |x::xs,[],_,_,h=>absurd ((h x).mp bh) eO
 |x::xs,y::ys,hx,hy,h=>by
  let⟨x1,x2⟩:=tY.mp hx
  let⟨y1,y2⟩:=tY.mp hy
  let e:x=y:=by
   rcases bQ.mp ((h x).mp bh)with e|e
   ·show e
   ·rcases bQ.mp ((h y).mpr bh)with f|f
    ·show f.symm
    ·let a:=y1 x e
     let b:=x1 y f
     omega
  subst e
  congr 1
  show up_eq x2 y2 λv=>?_
  constructor
  ·intro q
   rcases bQ.mp ((h v).mp (bM _ q))with e|e
   ·subst e;let:=x1 v q;omega
   ·show e
  ·intro q
   rcases bQ.mp ((h v).mpr (bM _ q))with e|e
   ·subst e;let:=y1 v q;omega
   ·show e
inductive a5V(w:World)(K:aJ)(xs:af)(H:Hp)(Q:VK):Prop
 |mk (l ns:_) (_:xs=[.ref l]) (_:bB K H l (List.map V.int ns)) (_:Small ns) (_:∀p L H',iD H p (QH w p true L) H'->(∀u:Nat,u∈L↔(u:Int)∈ns)->Q (.ref p) H')
inductive a7X(w:World)(x:V)(y:V)(H:Hp)(Q:VK):Prop
 |mk (a b L1 L2:_) (_:x=.ref a) (_:y=.ref b) (_:a≠b) (_:H a=some (QH w a true L1)) (_:H b=some (QH w b true L2)) (_:∀p L H',iD H p (QH w p false L) H'->(∀u:Nat,u∈L↔u∈L1\/u∈L2)->Q (.ref p) H')
inductive a3N(w:World)(xs:af)(H:Hp)(Q:VK):Prop
 |mk (a d L:_) (_:xs=[.ref a]) (_:H a=some (QH w a d L)) (_:∀p H',iD H p (.lst ((PN λv=>decide (v.toNat∈L)).map V.int)) H'->Q (.ref p) H')
inductive a3O(K:aJ)(xs:af)(H:Hp)(Q:VK):Prop
 |mk (l ns:_) (_:xs=[.ref l]) (_:bB K H l (List.map V.int ns)) (_:ns.length<64) (_:∀p H' zs,iD H p (.lst (List.map V.int zs)) H'->zs.Perm ns->zs.Pairwise (· <= ·)->Q (.ref p) H')
def Dh:∀{vs:aw}{ns:ae},IntsAre vs ns->cJ (ns.map V.int) vs
 |_,_,.nil=>.nil
 |_,_,.cons n t r=>.cons ⟨t,Z⟩ (Dh r)
def ğ{xs:ae}{L:ay}(pm:xs.Perm (L.map λv=>((v:Nat):Int)))(nd:L.Nodup)(lt:∀v∈L,v<16)(le:xs.Pairwise (· <= ·)):xs=PN λv=>decide (v.toNat∈L):=by
 let Y9:xs.Nodup:=pm.nodup_iff.mpr (by
  unfold List.Nodup;rw[wL];show nd.imp λh e=>h ())
 let lt2:xs.Pairwise (· < ·):=by
  unfold List.Nodup at Y9;show(le.and Y9).imp λh=>by omega
 show up_eq lt2 (a3M _) λv=>?_;rw[pm.mem_iff,xV,dM];constructor
 ·rintro⟨u,hu,rfl⟩;let:=lt u hu;show⟨(),(),aR (by rw[iG];show hu)⟩
 ·rintro⟨h0,h1,h⟩;show⟨v.toNat,dw h,()⟩
section
variable{X:Cx}{K:aJ}{w:World}
def Xx{H:Hp}{h:Heap}{a:Addr}{d:Bool}{L:ay}{P:Program}{w':World}(S:jf (oF w) h a L)(D:d=true->ql h a):fC P w' H h a (QH w a d L):=by
 show⟨⟨S,D⟩,?_,?_⟩
 ·let⟨_,_,_,ho,_⟩:=S;grind
 ·rintro h1 h2 ⟨s1,d1⟩ k;show⟨s1.keep k,λe=>(d1 e).keep k⟩
def Kv(ek:X.K=K)(ew:X.w=w)(cm:X.calm=true):jx X (.type "set") (a5V w K):=by
 subst ek;subst ew;intro Y s σ H xs us Q I r h;let⟨l,ns,rfl,hL,sm,q⟩:=h;let⟨u,rfl,rx⟩:=vals1 r;cases rx;let⟨bR,r',pl,hz⟩:=I.list hL;let hi:=ints_of r';let e:(ns.map Int.toNat).map (λv=>((v:Nat):Int))=ns:=by
  rw[lR];let:∀n∈ns,((λv=>((v:Nat):Int))∘Int.toNat) n=id n:=λn hn=>by
   let:=(sm n hn).1;show((n.toNat:Nat):Int)=n;omega
  rw[vq this,List.map_id]
 show a3L (vals:=ns.map Int.toNat) (I.ok.hd cm) pl.isList () (λv hv=>?_) λh' tk L S D mem k=>?_
 ·let⟨n,hn,rfl⟩:=dM.mp hv;let:=sm n hn;omega
 ·let hf:H s⁻¹=none:=I.hok.fresh (aK _);show⟨.ref s⁻¹,_,I.laid (t':=tk) (o:=QH X.w s⁻¹ true L) (λb o eo=>k b o (bf eo) eo) (aK _) (Xx S λ_=>D),Z,q _ L _ (iD.oh hf) λu=>?_⟩;rw[mem u,dM];constructor
  ·rintro⟨n,hn,rfl⟩;let:=(sm n hn).1;let e2:((n.toNat:Nat):Int)=n:=()
   rw[e2];show hn
  ·intro hn;show⟨_,hn,()⟩
def a3P(ew:X.w=w):rA X (binaryOp .BitOr) (a7X w):=by
 subst ew;intro Y s σ H x y v u Q I rx ry h;let⟨a,b,L1,L2,rfl,rfl,ne,hA,hB,q⟩:=h;cases rx;cases ry;let⟨⟨S1,D1⟩,_⟩:=I.hok a _ hA;let⟨⟨S2,D2⟩,_⟩:=I.hok b _ hB;show a5T ne S1 (D1 Z) S2 (D2 Z) λh' L k S mem=>?_;let hf:H s⁻¹=none:=I.hok.fresh (aK _);show⟨.ref s⁻¹,_,I.laid (t':=s.toks) (o:=QH X.w s⁻¹ false L) (λb o eo=>k b o eo) (aK _) (Xx S λe=>by cases e),Z,q _ L _ (iD.oh hf) mem⟩
def Ol(ew:X.w=w)(cm:X.calm=true):jx X (.builtin "sorted") (a3N w):=by
 subst ew;intro Y s σ H xs us Q I r h;let⟨a,d,L,rfl,hA,q⟩:=h;let⟨u,rfl,rx⟩:=vals1 r;cases rx;let⟨⟨S,_⟩,_⟩:=I.hok a _ hA;let⟨_,_,t,_,_,T⟩:=id S;show VN (I.ok.hd cm) S λh' tk p vs n ns k hp ho hi pm le=>?_;let e:=ğ pm T.nd T.lt le;subst e;let l16:(PN λv=>decide (v.toNat∈L)).length<=16:=by rw[pm.length_eq,aH];show T.len
 let hf:H p=none:=I.hok.fresh hp;show⟨.ref p,_,I.laid (t':=tk) (o:=.lst ((PN λv=>decide (v.toNat∈L)).map V.int)) k hp ⟨?_,vs,n,Dh hi,ho⟩,Z,q p _ (iD.oh hf)⟩;rw[aH,gM];omega
def Az(e:X.K=K):jx X (.builtin "sorted") (a3O K):=by
 subst e;intro Y s σ H xs us Q I r h;let⟨l,ns,rfl,hL,h64,q⟩:=h;let⟨u,rfl,rx⟩:=vals1 r;cases rx;let⟨bR,r',pl,hz⟩:=I.list hL;let hlen:=r'.length;rw[aH]at hlen;show sorted_ints (ns:=ns) pl.isList (ints_of r') () λout zs hi pm le=>?_;let⟨c,hc⟩:=sortedAll_at s.heap bR out;show⟨.ref (s⁻¹+1),_,I.laid (t':=s.toks) (o:=.lst (zs.map V.int)) (λb o eo=>sortedAll_old eo) (vH _) ⟨?_,out.toList,c,Dh hi,by simpa using hc⟩,Z,q _ _ zs (iD.oh (I.hok.fresh (vH _))) pm le⟩;rw[aH,pm.length_eq,gM];omega
end
end L2
namespace L2
open PyProof.Rows
section
variable{K:aJ}{a:Addr}{xs:af}{ix:List (Option Nat)}{g:TG}{tt:TT}{te:TE}{σ:St}{H1:Hp}{Q:VK}
def a0P(f:V->Option V)(hx:cN K H1 a xs)(hz:xs.length<=1000)
  (hs:∀x H (N:Option V->Hp->Prop),x∈xs->aL H1 H->(∀H',aL H1 H'->N (f x) H')->g x (qj ix σ) H λσ2 H2=>tt σ2 H2 λb H3=>if b=true then te σ2 H3 λv H4=>N (some v) H4 else N none H3)
  (hd:∀H p H',aL H1 H->iD H p (.lst (xs.filterMap f)) H'->Q (.ref p) H'):lV ix g tt te σ H1 Q (Itt K a):=by
 show⟨λi m ys H=>m=xs.length-i/\i<=xs.length/\ys=(xs.take i).filterMap f/\aL H1 H,⟨xs.length,by simp,cW _,Z,aL.refl _⟩,?_⟩;rintro i m ys H ⟨rfl,hi,e,s⟩;let q:=s.vM hx;let z:ys.length<=sizeLine:=by
  subst e;show cF (SX _ _) (cF ?_ (fD (cZ hz)));rw[eN];show Uh _ _
 by_cases hlt:i<xs.length
 ·show .inr ⟨⟨xs,xs[i],q,by simp[hlt]⟩,z,λys' H'=>ys'=(xs.take (i+1)).filterMap f/\aL H1 H',λys' H' p'=>⟨xs.length-(i+1),(),Z,hlt,p'⟩,λx H' y=>?_⟩;let⟨e',y⟩:=y;subst e';let hx':=y xs q;let hm:x∈xs:=gZ hx';let⟨hil,hix⟩:=eG.mp hx';let et:xs.take (i+1)=xs.take i++[x]:=by rw[yD hil,hix]
  show hs x _ (λo H'=>match o with|some v=>(ys++[v]=(xs.take (i+1)).filterMap f/\aL H1 H')|none=>(ys=(xs.take (i+1)).filterMap f/\aL H1 H')) hm s λH' s'=>?_;cases ef:f x with
  |some v=>show⟨by rw[e,et,wK];simp[ef],s'⟩
  |none=>show⟨by rw[e,et,wK];simp[ef],s'⟩
 ·let ei:i=xs.length:=()
  subst ei;show .inl ⟨⟨xs,q,aK _⟩,z,λp hp=>?_⟩;subst e;rw[ig];show hd H p _ s (iD.oh hp)
end
section
variable{X:Cx}{K:aJ}
inductive a5W(K:aJ)(x:V)(lo:Option Int)(hi:Option Int)(H:Hp)(Q:VK):Prop
 |mk (a xs:_) (_:x=.ref a) (_:cN K H a xs) (_:¬(HT.jZ xs.length 0 lo=0/\HT.jZ xs.length xs.length hi=xs.length)) (_:∀p H',iD H p (.tup (uo xs lo hi)) H'->Q (.ref p) H')
def Ba(e:X.K=K):SlR X (a5W K):=by
 subst e;show λY s σ H x v vl vu lo hi sl Q I rx hs pl pu ⟨a,xs,e,h,hw,q⟩=>ö Y s σ H x v vl vu lo hi sl Q I rx hs pl pu ⟨a,xs,e,h,hw,λp hp=>q p _ (iD.oh hp)⟩
end
end L2
namespace L2
open PyProof.Rows
variable{H H':Hp}{w:World}{J:List (aS×V)}{u:Value}{X:Cx}{y:V}{P:Program}{a b:Addr}{Q E:∅}{pos:Pos}{o:Option V}{h:Heap}{Y:aE}{σ:St}{A:Around}
section
variable{κ:Type} [DecidableEq κ]
noncomputable def dG(J:List (κ×V))(k:κ):Option V:=(J.find? λkv=>decide (kv.1=k)).map (·.2)
noncomputable def putK(J:List (κ×V))(k:κ)(v:V):List (κ×V) :=
 if(J.any λkv=>decide (kv.1=k))=true then J.map (λkv=>if kv.1=k then(kv.1,v)else kv)else J++[(k,v)]
def j5{p:κ×V}{r:List (κ×V)}{k:κ}(e:p.1=k):dG (p::r) k=some p.2:=by simp[dG,List.find?_cons,e]
def j6{p:κ×V}{r:List (κ×V)}{k:κ}(e:¬p.1=k):dG (p::r) k=dG r k:=by simp[dG,List.find?_cons,e]
theorem w5(k:κ):∀J:List (κ×V),(J.any λkv=>decide (kv.1=k))=(dG J k).isSome
 | []=>rfl
 |p::r=>by
  rw[oO]
  by_cases e:p.1=k
  ·simp only[j5 e,decide_eq_true e,Bool.true_or,Option.isSome_some]
  ·rw[j6 e,cC e,Bool.false_or];show w5 k r
theorem QJ(k j:κ)(y:V):∀J:List (κ×V),dG (J.map λkv=>if kv.1=k then(kv.1,y)else kv) j=(dG J j).map λx=>if j=k then y else x
 | []=>rfl
 |p::r=>by
  let ih:=QJ k j y r
  rw[b8]
  by_cases h:p.1=k
  ·rw[aB h]
   by_cases e:p.1=j
   ·rw[j5 (p:=(p.1,y)) e,j5 e,GQ,aB (e.symm.trans h)]
   ·rw[j6 (p:=(p.1,y)) e,j6 e,ih]
  ·rw[aA h]
   by_cases e:p.1=j
   ·rw[j5 (p:=p) e,j5 e,GQ,aA (λz=>h (e.trans z))]
   ·rw[j6 (p:=p) e,j6 e,ih]
theorem rD(k j:κ)(y:V):∀J:List (κ×V),dG J k=none->dG (J++[(k,y)]) j=if j=k then some y else dG J j
 | [],_=>by
  by_cases e:k=j
  ·rw[aB e.symm];show j5 (p:=(k,y)) e
  ·rw[aA (λz=>e z.symm)];show j6 (p:=(k,y)) e
 |p::r,hn=>by
  rw[List.cons_append]
  let hk:¬p.1=k:=λz=>by rw[j5 z]at hn;cases hn
  rw[j6 hk]at hn
  let ih:=rD k j y r hn
  by_cases e:p.1=j
  ·rw[j5 e,j5 e,aA (λz=>hk (e.trans z))]
  ·rw[j6 e,j6 e,ih]
def Ġ(J:List (κ×V))(k j:κ)(y:V):dG (putK J k y) j=if j=k then some y else dG J j:=by
 unfold putK;by_cases a:(J.any λkv=>decide (kv.1=k))=true
 ·rw[aB a,QJ];rw[w5]at a;by_cases e:j=k
  ·let⟨x,hx⟩:=Ü.mp a;rw[aB e,e,hx,GQ,aB rfl]
  ·rw[aA e];cases dG J j with
   |none=>rfl
   |some x=>rw[GQ,aA e]
 ·rw[aA a];show rD k j y J ?_;rw[w5]at a;cases q:dG J k with
  |none=>rfl
  |some x=>rw[q]at a;show(a Z).elim
def w6(J:List (κ×V))(k:κ)(v:V):(putK J k v).length<=J.length+1:=by
 unfold putK;split
 ·rw[aH];omega
 ·rw[bO,iH,List.length_nil];omega
def ġ{J:List (κ×V)}{k:κ}(v:V)(h:dG J k=none):putK J k v=J++[(k,v)]:=by
 unfold putK;rw[w5,h];show aA ()
def oR.Dj{u:Option Value}(r:oR o u):o.isSome=u.isSome:=by
 cases o with
 |none=>cases u with
  |none=>rfl
  |some _=>show(show False from r).elim
 |some _=>cases u with
  |none=>show(show False from r).elim
  |some _=>rfl
def oR.getD{o:Option V}{u:Option Value}{d:V}{d':Value}(r:oR o u)(rd:cX d d'):cX (o.getD d) (u.getD d'):=by
 cases o with
 |none=>cases u with
  |none=>show rd
  |some _=>show(show False from r).elim
 |some _=>cases u with
  |none=>show(show False from r).elim
  |some _=>show r
def KV.val{J:List (κ×V)}{vs:List (κ×Value)}(r:KV J vs)(k:κ):oR (dG J k) (valueAt vs k):=by
 unfold KV at r
 induction r with
 |nil=>show mQ
 | @cons p q ps qs h t ih =>
  let⟨h1,h2⟩:=h;by_cases e:p.1=k
  ·let e':q.1=k:=h1.symm.trans e;let b:valueAt (q::qs) k=some q.2:=by simp[valueAt,List.find?_cons,e']
   rw[j5 e,b];show h2
  ·let e':¬q.1=k:=λz=>e (h1.trans z);let b:valueAt (q::qs) k=valueAt qs k:=by simp[valueAt,List.find?_cons,e']
   rw[j6 e,b];show ih
def KV.any{J:List (κ×V)}{vs:List (κ×Value)}(r:KV J vs)(k:κ):(J.any λkv=>decide (kv.1=k))=vs.any λkv=>decide (kv.1=k):=by
 unfold KV at r
 induction r with
 |nil=>rfl
 |cons h t ih=>rw[oO,oO,ih,h.1]
def KV.repl{J:List (κ×V)}{vs:List (κ×Value)}(r:KV J vs)(k:κ)(ry:cX y u) :
  KV (J.map λkv=>if kv.1=k then(kv.1,y)else kv) (vs.map λkv=>if kv.1=k then(kv.1,u)else kv):=by
 unfold KV at r ⊢
 induction r with
 |nil=>show .nil
 | @cons p q ps qs h t ih =>
  rw[b8,b8];show .cons ?_ ih;let⟨h1,h2⟩:=h;by_cases e:p.1=k
  ·rw[aB e,aB (h1.symm.trans e)];show⟨h1,ry⟩
  ·rw[aA e,aA (λz=>e (h1.trans z))];show⟨h1,h2⟩
def KV.put{J:List (κ×V)}{vs:List (κ×Value)}(r:KV J vs)(k:κ)(ry:cX y u):KV (putK J k y) (stored vs k u):=by
 unfold putK stored;rw[r.any k];by_cases e:(vs.any λkv=>decide (kv.1=k))=true
 ·rw[aB e,aB e];show r.repl k ry
 ·rw[aA e,aA e];show Paired.snoc r ⟨Z,ry⟩
def KV.length{J:List (κ×V)}{vs:List (κ×Value)}(r:KV J vs):J.length=vs.length:=aW r
end
def HN{k:Key}(r:cX (kV k) u):(fH P w).is k u=true:=by
 cases k with
 |inl i=>let⟨t,e⟩:=(show ∃t,u=Value.int i t from r);subst e;show Qc P w i t
 |inr x=>let⟨t,e⟩:=(show ∃t,u=Value.str x t from r);subst e;show gq P w x t
theorem Kw{P:Program}{w:World}:∀{ks:aS}{us:aw},cJ (ks.map kV) us->ItemsAre (fH P w) ks us
 | [],_,r=>by rw[List.map_nil]at r;cases r;show .nil
 |k::ks,_,r=>by
  rw[b8]at r
  cases r with
  |cons h t=>show .cons (HN h) (Kw t)
abbrev KT(H:Hp):List (aS×V)->List (aS×Addr×Value)->Prop:=Paired λp q=>p.1=q.1/\H q.2.1= ~~~(p.1.map kV)/\cX p.2 q.2.2
def KT.val{xs:List (aS×Addr×Value)}(r:KT H J xs)(k:aS):oR (dG J k) ((atKey xs k).map (·.2)):=by
 induction r with
 |nil=>show mQ
 | @cons p q ps qs h t ih =>
  let⟨h1,_,h2⟩:=h;by_cases e:p.1=k
  ·let e':q.1=k:=h1.symm.trans e;let b:atKey (q::qs) k=some q.2:=by simp[atKey,List.find?_cons,e']
   rw[j5 e,b];show h2
  ·let e':¬q.1=k:=λz=>e (h1.trans z);let b:atKey (q::qs) k=atKey qs k:=by simp[atKey,List.find?_cons,e']
   rw[j6 e,b];show ih
def KT.repl{xs:List (aS×Addr×Value)}(r:KT H J xs)(k:aS)(ry:cX y u) :
  KT H (J.map λkv=>if kv.1=k then(kv.1,y)else kv) (xs.map (putAt k u)):=by
 induction r with
 |nil=>show .nil
 | @cons p q ps qs h t ih =>
  rw[b8,b8];show .cons ?_ ih;let⟨h1,h2,h3⟩:=h;unfold putAt;by_cases e:p.1=k
  ·rw[aB e,aB (h1.symm.trans e)];show⟨h1,h2,ry⟩
  ·rw[aA e,aA (λz=>e (h1.trans z))];show⟨h1,h2,h3⟩
def KT.put{xs:List (aS×Addr×Value)}(r:KT H J xs)(k:aS)(hb:H b= ~~~(k.map kV))(ry:cX y u) :
  KT H (putK J k y) (storedH xs k b u):=by
 let e:(J.any λkv=>decide (kv.1=k))=(atKey xs k).isSome:=by
  rw[w5,(r.val k).Dj,Option.isSome_map]
 unfold putK storedH;rw[e];by_cases q:(atKey xs k).isSome=true
 ·rw[aB q,aB q];show r.repl k ry
 ·rw[aA q,aA q];show Paired.snoc r ⟨Z,hb,ry⟩
def KT.keeps{xs:List (aS×Addr×Value)}(r:KT H J xs)(ht:∀b ys,H b= ~~~ys->H' b= ~~~ys):KT H' J xs :=
 Paired.cD r λ_ _ z=>⟨z.1,ht _ _ z.2.1,z.2.2⟩
def a2u{u:HO}(ok:xQ P w H h)(e:Rd H a u):fC P w H h a u:=e.ok ok
def QK{J:List (Key×V)}(ok:xQ P w H h)(e:Rd H a (.dK J)):J.length<=sizeLine/\(a==sysModules)=false/\∃vs,KV J vs/\h.DictOf (fH P w) a vs :=
 show fC P w H h a (.dK J)from a2u ok e
def Ģ{J:List (Key×V)}(ok:xQ P w H h)(e:H a=some (.dK J)):J.length<=sizeLine/\(a==sysModules)=false/\∃vs,KV J vs/\h.DictOf (fH P w) a vs:=QK ok (.inl e)
def yW{ks:aS}(ok:xQ P w H h)(e:H a= ~~~(ks.map kV)):(tupleKind (fH P w)).is h ks a:=by
 let⟨_,bR,r,o,h1,h2,n,h3⟩:=(show fC P w H h a (.tup (ks.map kV))from ok a _ e);show⟨o,bR.toArray,n,h1,h2,h3,by simpa using Kw r⟩
def Xy(ok:xQ P w H h)(e:Rd H a (.dT J)):J.length<=sizeLine/\(a==sysModules)=false/\
  ∃xs,KT H J xs/\h.DictOfH (tupleKind (fH P w)) a xs:=by
 let⟨z,y,xs,r,o,es,ep,h1,h2,h3,h4,h5⟩:=(show fC P w H h a (.dT J)from a2u ok e);show⟨z,y,xs,r,o,es,ep,h1,h2,h3,h4,λx hx=>?_,h5⟩;let all:∀{l:List (aS×V)}{m:List (aS×Addr×Value)},KT H l m->∀x∈m,(tupleKind (fH P w)).is h x.1 x.2.1:=by
  intro l m q
  induction q with
  |nil=>intro x hx;show nomatch hx
  | @cons p q ps qs hq t ih =>
   intro x hx;rcases bQ.mp hx with e|hx
   ·subst e;show yW ok (by rw[<-hq.1];show hq.2.1)
   ·show ih x hx
 show all r x hx
def Ek(ok:xQ P w H h)(e:H a=some (.dT J)):J.length<=sizeLine/\(a==sysModules)=false/\
  ∃xs,KT H J xs/\h.DictOfH (tupleKind (fH P w)) a xs:=Xy ok (.inl e)
def Fg(H:Hp)(a:Addr)(y:V)(r:Option V):Prop :=
 (∃J k,Rd H a (.dK J)/\y=kV k/\r=dG J k)\/∃J k b,Rd H a (.dT J)/\y=.ref b/\H b= ~~~(k.map kV)/\r=dG J k
def a0Q(H:Hp)(a:Addr)(y v:V)(H':Hp):Prop :=
 (∃J k,H a=some (.dK J)/\y=kV k/\J.length<sizeLine/\H'=cY H a (.dK (putK J k v)))\/
 ∃J k b,H a=some (.dT J)/\y=.ref b/\H b= ~~~(k.map kV)/\J.length<sizeLine/\H'=cY H a (.dT (putK J k v))
def Fg.t{k:aS}(e:H a=some (.dT J))(eb:H b= ~~~(k.map kV)):Fg H a (.ref b) (dG J k):=.inr ⟨J,k,b,.inl e,Z,eb,Z⟩
def a0Q.t{k:aS}{v:V}(e:H a=some (.dT J))(eb:H b= ~~~(k.map kV))(hl:J.length<sizeLine) :
  a0Q H a (.ref b) v (cY H a (.dT (putK J k v))):=.inr ⟨J,k,b,e,Z,eb,hl,Z⟩
section
variable{s:Shared}{v:V}{r:Value}
def bD.big(I:bD X Y σ H s):sysModules<s⁻¹:=by
 let h:mainGlobals<s⁻¹:=(I.mod.glob.keeps I.bk).lt;show uh () h
def Za(hu:A.units+1<cLine)(I:bD X Y σ H s)(g:Fg H a y (some v))(ry:cX y u)(h:∀w' s',bD X Y σ H s'->cX v w'->Q w' s') :
  wpAny (model X.prog X.w) A (getItem (.ref a) u) Q E s:=by
 rcases g with⟨J,k,e,ey,l⟩|⟨J,k,b,e,ey,eb,l⟩
 ·subst ey;let⟨z,hd,vs,rel,dd⟩:=QK I.hok e;let⟨w',hw,Vj⟩:=oR.some_of (v:=v) (o:=valueAt vs k) (by rw[l];show rel.val k);show wpAny_getItem_of (HN ry) dd.mapOf hw (h w' _ (I.tok _) Vj)
 ·subst ey;cases(show u=Value.ref b from ry);let⟨z,hd,xs,rel,dd⟩:=Xy I.hok e;let⟨w',hw,Vj⟩:=oR.some_of (v:=v) (o:=(atKey xs k).map (·.2)) (by rw[l];show rel.val k);let⟨p,hp,hp2⟩:=lN.mp hw;show wpAny_getItem_heap (yJ hu) (yW I.hok eb) dd hp ?_;rw[hp2];show h w' _ (I.tok _) Vj
def a7Y(hu:A.units+1<cLine)(I:bD X Y σ H s)(g:Fg H a y o)(ry:cX y u)(h:∀s',bD X Y σ H s'->Q (.bool o.isSome) s') :
  wpAny (model X.prog X.w) A (compareOp .In u (.ref a)) Q E s:=by
 rcases g with⟨J,k,e,ey,l⟩|⟨J,k,b,e,ey,eb,l⟩
 ·subst ey;let⟨z,hd,vs,rel,dd⟩:=QK I.hok e;show wpAny_in_of (HN ry) hd dd.mapOf ?_;rw[<-(rel.val k).Dj,<-l];show h _ (I.tok _)
 ·subst ey;cases(show u=Value.ref b from ry);let⟨z,hd,xs,rel,dd⟩:=Xy I.hok e;show wpAny_in_heap (yJ hu) (yW I.hok eb) hd dd ?_;let q:=(rel.val k).Dj;rw[Option.isSome_map]at q;rw[<-q,<-l];show h _ (I.tok _)
def FZ{h':Heap}{t':Nat}{ob:HO}(I:bD X Y σ H s)(mu:Mut (H a))(hs:Heap.SameBut a s.heap h')(he:∃q,h'.get? a=some q)(new:fC X.prog X.w (cY H a ob) h' a ob) :
  bD X Y σ (cY H a ob) { s with heap:=h',toks:=t'} :=
 I.write (x:=a) (e:=a) mu (.inl Z) (λb q hb z=>(hs.2 b hb).trans z) he new
def ģ{h':Heap}{J:List (Key×V)}{vs:List (Key×Value)}(z:J.length<=sizeLine)(hd:(a==sysModules)=false)(rel:KV J vs)(dd:h'.DictOf (fH P w) a vs) :
  fC P w H' h' a (.dK J):=⟨z,hd,vs,rel,dd⟩
def Zb{Q:Unit->Shared->Prop}(hu:A.units+1<cLine)(I:bD X Y σ H s)(g:a0Q H a y v H')(ry:cX y u)(rv:cX v r)(h:∀s',bD X Y σ H' s'->Q ⟨⟩ s') :
  wpAny (model X.prog X.w) A (setItem (.ref a) u r) Q E s:=by
 rcases g with⟨J,k,e,ey,l,eH⟩|⟨J,k,b,e,ey,eb,l,eH⟩
 ·subst ey eH;let⟨z,hd,vs,rel,dd⟩:=Ģ I.hok e;let hz:vs.length<=sizeLine:=by rw[<-rel.length];show z
  let hl:(putK J k v).length<=sizeLine:=by let:=w6 J k v;omega
  show wpAny_setItem_pairs (hsz:=hz) (HN ry) dd λh' Ω hs=>h _ ?_;let he:∃q,h'.get? a=some q:=let⟨q,_,_,hq,_⟩:=Ω;⟨q,hq⟩
  show FZ I (by rw[e];show mQ) hs he (ģ hl hd (rel.put k rv) Ω)
 ·subst ey eH;cases(show u=Value.ref b from ry);let⟨z,hd,xs,rel,dd⟩:=Ek I.hok e;let hz:xs.length<=sizeLine:=by rw[<-aW rel];show z
  let hl:(putK J k v).length<=sizeLine:=by let:=w6 J k v;omega
  show wpAny_setItem_heap (hsz:=hz) (yJ hu) (yW I.hok eb) dd λh' Ω hs=>h _ ?_;let⟨q,es,ep,hq,h2,h3,h4,_,h5⟩:=Ω;show FZ I (by rw[e];show mQ) hs ⟨q,hq⟩ ⟨hl,hd,_,(rel.put k eb rv).keeps λc ys ec=>?_,q,es,ep,hq,h2,h3,h4,h5⟩;rw[aZ (a2n ec e λz=>nomatch z)];show ec
end
section
variable{s:Shared}{J:List (Key×V)}{k:Key}
def a5X(I:bD X Y σ H s)(e:Rd H a (.dK J))(h:∀t s',bD X Y σ H s'->Q (.int J.length t) s'):wpAny (model X.prog X.w) A (call (.builtin "len") [.ref a]) Q E s:=by
 let⟨z,hd,vs,rel,dd⟩:=QK I.hok e;show call_len_dict hd dd (by rw[<-rel.length];rw[gM]at z;omega) ?_;rw[<-rel.length];show h _ _ (I.tok _)
end
def a3Q(i:Expr):Prop:=∀ov iv,subscripted i false ov iv=operate [ov,iv] (getItem ov iv)
def Xz{prog:Program}{s:Shared}{env:Env}{value slice:Expr}{T id:String}
  (hl:typeLookup (.type T) "__getitem__" = pure (some (.builtin id))) (hs:a3Q slice)
  (h:∎ (eval value env) (λo s₁=>∎ (eval slice env) (λi s₂=>s₂.TypeIs o T/\∎ (getItem o i) Q E s₂) E s₁) E s) :
  ∎ (eval (.Subscript value slice pos) env) Q E s:=by
 show Subscript_ (iw h (λo s₁ h₁=>iw h₁ (λi s₂ h₂=>?_) λ_ _ x=>x) λ_ _ x=>x);let⟨hT,h₂⟩:=h₂;unfold subscriptTail;show M ?_;rw[getitemInPython_of_ne hT.not_modules];show M (GP hT hl ?_);let fin:∎ (subscripted slice false o i) (λr s₃=>∎ (letTemporaryGo value o r >>= λ_=>pure r) Q E s₃) E s₂:=by
  rw[hs o i];show wpAny_operating (iw h₂ (λr s₃ h₃=>M (wpAny_letTemporaryGo (ao h₃))) λ_ _ x=>x)
 first
  |exact ao (M fin)
  |exact M (ao (M fin))
  |exact M fin
def QS{s:Shared}(I:bD X Y σ H s)(g:Fg H a y o):s.TypeIs (.ref a) "dict" := by
 rcases g with⟨J,k,e,_,_⟩|⟨J,k,b,e,_,_,_⟩
 ·let⟨_,_,vs,_,dd⟩:=QK I.hok e;show dd.typeIs
 ·let⟨_,_,xs,_,dd⟩:=Xy I.hok e;show dd.typeIs
def a5Y(td ty:TE):TE:=λσ H Q=>td σ H λx H1=>ty σ H1 λy H2=>∃a v,x=.ref a/\Fg H2 a y (some v)/\Q v H2
section
variable{o i e value:Expr}{pos' tpos:Pos}{td ty tv:TE}
def Bb(hu:X.A.units+1<cLine)(ho:PE X o td)(hi:PE X i ty)(hs:a3Q i):PE X (.Subscript o i pos) (a5Y td ty):=by
 intro Y s σ H Q I h;show Xz PySem.F.slot_dict_getitem.lookup hs (jC (ho Y s σ H _ I h) λu s1 ⟨x,H1,I1,rx,q1⟩=>jC (hi Y s1 σ H1 _ I1 q1) λiv s2 ⟨y,H2,I2,ry,a,v,ex,g,q2⟩=>?_);subst ex;obtain rfl:u=Value.ref a:=rx;show⟨QS I2 g,Za hu I2 g ry λw' s3 I3 Vj=>⟨v,H2,I3,Vj,q2⟩⟩
end
def Ĥ(h:Heap)(hb:sysModules<h.objs.size):fC P w H (h.push { cls:=.type "dict",data:=.dict #[]}) h.objs.size (.dK []) :=
 ⟨cW _,qz.mpr (Ne.symm (bY hb)),[],.nil,Heap.DictOf.new h⟩
def ĥ(h:Heap)(hb:sysModules<h.objs.size):fC P w H (h.push { cls:=.type "dict",data:=.dict #[]}) h.objs.size (.dT []) :=
 ⟨cW _,qz.mpr (Ne.symm (bY hb)),[],.nil,_,#[],0,b7 _ Z,⟨Z,Z,Z⟩,Z,Z,vC⟩
def a3R:TE:=λ_ H Q=>∀p,H p=none->Q (.ref p) (cY H p (.dK []))
def a3S:TE:=λ_ H Q=>∀p,H p=none->Q (.ref p) (cY H p (.dT []))
def QT:PE X (.Dict [] [] pos) a3R:=λY s σ H Q I h =>
 wpAny_Dict_empty ⟨.ref s⁻¹,_,I.laid (a:=s⁻¹) (o:=.dK []) (t':=s.toks) (λ_ _ q=>bL _ q) (aK _) (Ĥ s.heap I.big),Z,h _ (I.hok.fresh (aK _))⟩
def HS:PE X (.Dict [] [] pos) a3S:=λY s σ H Q I h =>
 wpAny_Dict_empty ⟨.ref s⁻¹,_,I.laid (a:=s⁻¹) (o:=.dT []) (t':=s.toks) (λ_ _ q=>bL _ q) (aK _) (ĥ s.heap I.big),Z,h _ (I.hok.fresh (aK _))⟩
inductive a5Z(x:V)(vs:af)(H:Hp)(Q:VK):Prop
 |mk (l xs y:_) (_:x=.ref l) (_:vs=[]) (_:H l=↥(xs++[y])) (_:∀H',uP H l (.lst xs) H'->Q y H')
def Ga:PL X "list.pop" a5Z:=a3r.weak λx vs H Q ⟨l,xs,y,e1,e2,h,q⟩=>⟨l,xs++[y],y,e1,e2,h,(by simp),(by
 let:=q _ (uP.oh (H:=H) (l:=l) (o:=.lst xs));grind)⟩
noncomputable def El:List (Key×V):=[(.inr "leaf",.int 0),(.inr "in",.int 1),(.inr "tie",.int 1),(.inr "out",.int 1),(.inr "join",.int 2)]
set_option genInjectivity false in
structure Used(w:World)(K:aJ)(mg:Str->Option Value) where
 d:Addr
 m:mg "USED" =⇑d
 es:Array DictEntry
 ep:Nat
 l:K.lookup d=some ⟨.type "dict",none,.dict es ep,#[]⟩
 ks:∃t0 t1 t2 t3 t4 t5 t6 t7 t8 t9:Tok,es = #[⟨PyData.keyHash w.params "leaf",.str "leaf" t0,.int 0 t1⟩,⟨PyData.keyHash w.params "in",.str "in" t2,.int 1 t3⟩,⟨PyData.keyHash w.params "tie",.str "tie" t4,.int 1 t5⟩,⟨PyData.keyHash w.params "out",.str "out" t6,.int 1 t7⟩,⟨PyData.keyHash w.params "join",.str "join" t8,.int 2 t9⟩]
def a0R{K:aJ}{mg:Str->Option Value}{d:Addr}{es:Array DictEntry}{ep:Nat}(X:K.In h)(G:h.Ns mainGlobals mg)
  (a:nsIn K mainGlobals "USED" = some ⇑d) (l:K.lookup d=some ⟨.type "dict",none,.dict es ep,#[]⟩)
  (ks:∃t0 t1 t2 t3 t4 t5 t6 t7 t8 t9:Tok,es = #[⟨PyData.keyHash w.params "leaf",.str "leaf" t0,.int 0 t1⟩,⟨PyData.keyHash w.params "in",.str "in" t2,.int 1 t3⟩,⟨PyData.keyHash w.params "tie",.str "tie" t4,.int 1 t5⟩,⟨PyData.keyHash w.params "out",.str "out" t6,.int 1 t7⟩,⟨PyData.keyHash w.params "join",.str "join" t8,.int 2 t9⟩]):Nonempty (Used w K mg) :=
 ⟨⟨d,Nm X G a,es,ep,l,ks⟩⟩
def Used.dict{K:aJ}{mg:Str->Option Value}(U:Used w K mg)(X:K.In h):∃vs,KV El vs/\h.DictOf (fH P w) U.d vs:=by
 let⟨t0,t1,t2,t3,t4,t5,t6,t7,t8,t9,e⟩:=U.ks;show⟨[(.inr "leaf",.int 0 t1),(.inr "in",.int 1 t3),(.inr "tie",.int 1 t5),(.inr "out",.int 1 t7),(.inr "join",.int 2 t9)],?_,_,U.es,U.ep,X _ _ U.l,⟨Z,Z,Z⟩,Z,?_,?_,?_⟩
 ·show .cons ⟨Z,t1,Z⟩ (.cons ⟨Z,t3,Z⟩ (.cons ⟨Z,t5,Z⟩ (.cons ⟨Z,t7,Z⟩ (.cons ⟨Z,t9,Z⟩ .nil))))
 ·rw[e];intro x hx;simp only[Array.mem_def,List.mem_cons,List.not_mem_nil,or_false]at hx;rcases hx with rfl|rfl|rfl|rfl|rfl
  ·show⟨.inr "leaf",gq P w _ _,Z⟩
  ·show⟨.inr "in",gq P w _ _,Z⟩
  ·show⟨.inr "tie",gq P w _ _,Z⟩
  ·show⟨.inr "out",gq P w _ _,Z⟩
  ·show⟨.inr "join",gq P w _ _,Z⟩
 ·rw[e];show .cons (gq P w _ _) Z (.cons (gq P w _ _) Z (.cons (gq P w _ _) Z (.cons (gq P w _ _) Z (.cons (gq P w _ _) Z .nil))))
 ·show([.inr "leaf",.inr "in",.inr "tie",.inr "out",.inr "join"]:aS).Nodup;decide
def a6a(ty:TE):TE:=λσ H Q=>ty σ H λy H1=>∃k v,y=kV k/\dG El k=some v/\Q v H1
section
variable{i:Expr}{np:Pos}{ty:TE}
def a0S(U:Used X.w X.K X.mg)(hg:Gl X "USED")(hi:PE X i ty)(hs:a3Q i):PE X (.Subscript (.Name "USED" np) i pos) (a6a ty):=by
 intro Y s σ H Q I h;show Xz PySem.F.slot_dict_getitem.lookup hs (zV I hg U.m (jC (hi Y s σ H _ I h) λiv s2 ⟨y,H2,I2,ry,k,v,ey,hv,q2⟩=>?_));subst ey;let⟨vs,rel,dd⟩:=U.dict (P:=X.prog) I2.Cj;let⟨w',hw,Vj⟩:=oR.some_of (v:=v) (o:=valueAt vs k) (by rw[<-hv];show rel.val k);show⟨dd.typeIs,wpAny_getItem_of (HN ry) dd.mapOf hw ⟨v,H2,I2.tok _,Vj,q2⟩⟩
end
end L2
namespace L2
open PyProof.Rows Bg Qu
def VP(K:aJ)(H:Hp)(v:V)(ns:ae):Prop:=∃p,v=.ref p/\bB K H p (ns.map V.int)
end L2
namespace L2
open PyProof.Rows
structure Dm(K:aJ)(C:Addr)(m qual:Str)(st:Stmt)(ps:ag) where
 f:Addr
 fd:FuncData
 F:Fun K m qual st f fd
 b:Binds K fd ps []
 mt:Meth K C m f
def a6b{K:aJ}{C:Addr}{m qual:Str}{st:Stmt}{ps:ag}{f:Addr}{oc:Value}{od an:Option Addr}{osl:Array (Option Value)}{kV doc pm dX ct:Value}
  (a:findIn K (.ref C) m=some ⇑f) (i:isFn K (.ref f)=true)
  (l:K.lookup f=some ⟨oc,od,.func (fnOf m qual (gO st) (gj st) (aG st) .none kV doc pm an dX ct),osl⟩) (c:codeIn K dX qual=true) (k:keepIn K (.ref f)=true)
  (h:∀(kV doc pm:Value) (an:Option Addr) (dX ct:Value) (us:aw),us.length=ps.length->bindArgs (fnOf m qual (gO st) (gj st) (aG st) .none kV doc pm an dX ct) ⟨us,[]⟩=pure (ps.zip us)):Dm K C m qual st ps :=
 { f:=f,fd:=_,F:=Vo (st:=st) l c k,b:=(Vo (st:=st) l c k).binds h,mt:=⟨a,i,k⟩}
end L2
namespace L2
open PyProof.Rows
structure a6c(K:aJ)(C:Addr)(m:Str)(f:Addr):Prop where
 ga:PySem.W.specialIn K (.ref C) "__getattribute__" = some (some (.builtin "type.__getattribute__"))
 rd:∃mc,PySem.W.readsIn K C mc=true/\PySem.W.findCls K (.ref C) mc m=some (.val (.ref f))
 kp:keepIn K (.ref f)=true
section
variable{X:Cx}{CX:Ss}{k:Nat}{f C:Addr}{fd:FuncData}{ps:ag}{sp:Sp}{JC:af}{ds:aw}{E:XK}{x m:Str}{p pos apos:Pos}{e:Expr}{es:ba}{t:TA}
def a0T{pl:Sem Bool}(hg:Gl X x)(hm:X.mg x=⇑C)(c:a6c X.K C m f)(F:bF X.prog X.w X.K X.mg X.base CX k f fd ps sp)(hr:qO k X.A)(hb:Binds X.K fd ps ds)(hd:cJ JC ds)(hx:yS CX X E)(ha:PA X (e::es) t)
  (hdb:@&((x==("__debug__" : Str))=false)) (hst:@&(starEach (e::es) X.env=(false,eval e X.env)::starEach es X.env)) (hpl:@&((backTo pos (starEach es X.env)).any (·.1)=false))
  (ht:@&(eval (.Call (.Attribute (.Name x p) m apos) (e::es) [] pos) X.env=(do
   let ov <-eval (.Name x p) X.env
   standAt apos.atName
   let(f,first) <-holding [ov] (getMethod ov m pl)
   callWith pos f first (backTo pos (starEach (e::es) X.env)) (backToKw pos (keywordEach [] X.env))))) :
  PE X (.Call (.Attribute (.Name x p) m apos) (e::es) [] pos) (a2p sp JC E t):=by
 intro Y s σ H Q I h;show PySem.W.methodCall_KW (pl:=pl) (zV I hg hm ?_ hdb) ht;let⟨mc,hrd,hf⟩:=c.rd;show PySem.W.method_cls I.Cj c.ga (PySem.W.cls_value I.Cj hrd hf Z ?_);let I1:bD X Y σ H { s with toks:=s.toks+1}:=I.tok _;show Mr (first:=[]) (h₀:=X.base) I.ok.mod.kin c.kp (jC (ha pos Y _ σ H _ I1 h) λus s2 ⟨vs,H2,I2,r,q2⟩=>⟨I2.Cj,Ve F hr hb hd hx I2 r q2⟩) hst hpl
end
noncomputable def pK(t:Int×Int):aS:=[.inl t.1,.inl t.2]
def Ħ{s t:Int×Int}(h:pK s=pK t):s=t:=by
 unfold pK at h;injection h with h1 h2
 injection h2 with h2 _
 injection h1 with h1
 injection h2 with h2
 show Prod.ext h1 h2
end L2
namespace Dy
open PyProof.Rows
variable{prog:Program}{w:World}{A:Around}
def vP:entryFor table "dict.update.loop" = some Builtin.«dict.update.loop» := entryFor_of_tree (by kernel_rfl)
def j7:plainId "dict.update.loop" = true:=by decide
def Zc:typeLookup (.type "list") "keys" = pure none:=Us (by kernel_rfl)
section
variable{E:∅}{s:Shared}
def Ze{a:Addr}{o:Obj}{xs:Array Value}{k:Nat}{Q:Option Value->Shared->Prop}(hx:s^^^a=some o)(hc:o.cls=.type "list")(hdat:o.data=.seq xs k)(hd:o.dict=none)(hA:A.handled=none)
  (h:∀h' tk,(∀b o,s^^^b=some o->h'.get? b=some o)->Q none { s with heap:=h',toks:=tk}):∎ (getAttr? (.ref a) "keys") Q E s:=by
 let⟨c,dct,dat,sl⟩:=o;simp only at hc hdat hd;subst hc hdat hd;let⟨hp,g,d,tk,os⟩:=s;let hT:∀tk',(⟨hp,g,d,tk',os⟩:Shared).TypeIs (.ref a) "list" := λ_=>⟨_,hx,Z⟩;let f1:=sub_AttributeError;let f3:=F.slot_list_getattribute.lookup;let f4:=F.slot_list_getattribute.bind (.ref a);let f5:=am_list_getattr_none;unfold getAttr? getAttrBy? getAttrBy;repeat (any_goals (first|assumption|exact hT _|((with_reducible show wpAny _ _ (call (Value.builtin "list.__getattribute__") _ _) _ _ _);show yQ F.slot_list_getattribute (hT _) am_entry_list_getattribute (F.args_list_getattribute_2 _ _) (meets_getattribute_miss_list a xs k sl "keys" _ Zc ()) ⟨hx,hA,λh' tk' e hx'=>?_⟩)|wp_step))
 let⟨t',u',he⟩:=hx'.there;show wpAny _ _ (getattributeRaised _ _ _ _ _ _ _) _ _ _;unfold getattributeRaised;repeat (any_goals (first|assumption|wp_step))
 show h _ _ hx'.of.keeps
end
section
variable{R:Result->Shared->Prop}{I:Addr}{fp wr:aI}{G:Array GenState->Array GenState->Prop}{n:Nat}{P:Nat->Value->Prop}{St:Nat->Shared->Prop}{κ:Type} [DecidableEq κ] {knd:HeapKind prog w κ}
def HW{L:List (κ×Addr×Value)}(nd:(L.map (·.1)).Nodup){i:Nat}{x:κ×Addr×Value}(hx:L[i]?=some x):atKey (L.take i) x.1=none:=by
 unfold atKey;let:(L.take i).find? (λy=>decide (y.1=x.1))=none:=by
  rw[Cw];intro y hy;simp only[decide_eq_true_eq];intro e;let⟨j,hj⟩:=Tp.mp hy;rw[List.getElem?_take]at hj;by_cases q:j<i
  ·rw[aB q]at hj;let:=idxH_unique (xs:=L) nd (i:=j) (j:=i) (k:=x.1) (p:=y.2) (q:=x.2) () (by rw[hx]);omega
  ·rw[aA q]at hj;show nomatch hj
 rw[this];rfl
def fill(W:WalksS prog w A.in1 I fp wr G n P St)(d:Addr)(nf:d∉fp)(L:List (κ×Addr×Value))(hn:L.length=n)(nd:(L.map (·.1)).Nodup)(bs:Nat->Addr)(hv:∀i v,i<n->P i v->v=.ref (bs i))
  (Kp:Heap->Prop) (kpS:∀h h',Kp h->Heap.SameBut d h h'->Kp h') (kpM:∀s s':Shared,Kp s.heap->Moved wr G s s'->Kp s'.heap)
  (hT:∀h i x,Kp h->L[i]?=some x->knd.is h x.1 x.2.1/\IsTup h (bs i) #[.ref x.2.1,x.2.2]) (hu:knd.room A.in1) (hz:n<=sizeLine) :
  ∀(k i:Nat) (s:Shared) (j:Int) (t:Tok),n-i=k->i<=n->St i s->s.heap.DictOfH knd d (L.take i)->Kp s.heap->
   (∀s',Moved (d::wr) G s s'->s'.heap.DictOfH knd d L->Kp s'.heap->R (.ok (.ret .none)) s')->
   codeAny (model prog w) A (.builtin "dict.update.loop" ⟨[.ref d,.ref I,.int j t,.none],[]⟩) R s:=by
 let nw:d∉wr:=λh=>nf (W.sub _ h);let up:∀b∈wr,b∈d::wr:=λb hb=>bM _ hb;let a2v:∀(s s':Shared) (i:Nat),Moved wr G s s'->Kp s'.heap->s.heap.DictOfH knd d (L.take i)->s'.heap.DictOfH knd d (L.take i):=λs s' i hm kp z=>by
  let⟨o,es,ep,ho,hc,hd,he,his,hnn⟩:=z;show⟨o,es,ep,hm.heap d o nw ho,hc,hd,he,λx hx=>by
   let⟨j,hj⟩:=Tp.mp (lQ hx);show(hT _ j x kp hj).1,hnn⟩
 intro k
 induction k with
 |zero =>
  intro i s j t hk hi st hD kp hR;obtain rfl:i=n:=()
  show jq vP ?_;rw[jD j7 _];show wpAny _ A.in1 (pyNext (.ref I) >>= _) _ _ s;show M (W.done s _ _ st λs' hm=>?_);let kp':=kpM _ _ kp hm;let hD':=a2v _ _ _ hm kp' hD;rw[<-hn,ig]at hD';show wpAny _ _ (Builtin.Dict.addKeywords d [] >>= _) _ _ _;show M (ao (ao (hR s' (hm.mono up) hD' kp')))
 |succ k ih =>
  intro i s j t hk hi st hD kp hR;let li:i<n:=()
  obtain⟨x,hx⟩:∃x,L[i]?=some x:=⟨L[i]'(),bC _⟩;show jq vP ?_;rw[jD j7 _];show wpAny _ A.in1 (pyNext (.ref I) >>= _) _ _ s;show M (W.item i s _ _ li st λv s' hP st' hm=>?_);obtain rfl:=hv i v li hP;let kp':=kpM _ _ kp hm;let hD':=a2v _ _ _ hm kp' hD;let⟨hk1,hk2⟩:=hT _ i x kp' hx;let⟨ob,hb,hcl,m,hdat⟩:=id hk2;let hTy:s'.TypeIs (.ref (bs i)) "tuple" :=⟨_,hb,hcl⟩;show M (dY (M (wpAny_tryCatch ?_)));unfold Builtin.Dict.pairItems;show M (rN hTy ?_);let e1:((Value.type "tuple" == Value.type "list")||(Value.type "tuple" == Value.type "tuple"))=true:=()
  rw[aB e1];show M (qF hb hdat (ao ?_));show wpAny _ _ (holding [Value.ref x.2.1,x.2.2] (dictSet d (.ref x.2.1) x.2.2)) _ _ _;show dY (wpAny_dictSet_heap (hsz:=by rw[eN];omega) hu hk1 hD' λh' hD2 sb=>?_);let hD3:h'.DictOfH knd d (L.take (i+1)):=by
   rw[storedH_new (HW nd hx)]at hD2;rw[List.take_add_one,hx];show hD2
  show ao ⟨jR j7 _,ih (i+1) _ _ _ () li (W.frame _ s' _ _ st' (GJ _ _) λc hc o e=>?_) hD3 (kpS _ _ kp' sb) λs2 hm2 h2 h3=>hR s2 (Moved.trans W.gtrans ((hm.mono up).then_heap (GJ _ _) λc o hc e=>?_) hm2) h2 h3⟩
  ·rw[sb.2 c (λq:c=d=>nf ())];show e
  ·rw[sb.2 c (λq:c=d=>hc ())];show e
end
section
variable{E:∅}{s:Shared}{κ:Type} [DecidableEq κ] {knd:HeapKind prog w κ}
def Zf(h:Heap):(h.push { cls:=.type "dict",data:=.dict #[]}).DictOfH knd h.objs.size [] :=
 ⟨_,#[],_,b7 _ Z,⟨Z,Z,Z⟩,Z,Z,λx hx=>absurd hx (by simp),vC⟩
def a0U{l:Addr}{o:Obj}{items:Array Value}{m:Nat}{L:List (κ×Addr×Value)}{bs:Nat->Addr}{Q:∅}(hh:A.handled=none)(hu:knd.room A.in1.in1)
  (hx:s^^^l=some o) (hc:o.cls=.type "list") (hdat:o.data=.seq items m) (hd:o.dict=none) (hn:L.length=items.size) (nd:(L.map (·.1)).Nodup) (hz:items.size<=sizeLine)
  (hv:∀(i:Nat) (v:Value),items[i]?=some v->v=.ref (bs i))
  (hT:∀(h:Heap) (i:Nat) (x:κ×Addr×Value),(∀b ob,s^^^b=some ob->h.get? b=some ob)->L[i]?=some x->knd.is h x.1 x.2.1/\IsTup h (bs i) #[.ref x.2.1,x.2.2])
  (h:∀(h':Heap) (tk:Nat),h'.DictOfH knd s⁻¹ L->(∀b ob,s^^^b=some ob->h'.get? b=some ob)->Q (.ref s⁻¹) { s with heap:=h',toks:=tk}) :
  ∎ (call (.type "dict") [.ref l]) Q E s:=by
 show callType_codes (Q₁:=λobj s₁=>obj=.ref s⁻¹/\s₁=(s•s.heap.push { cls:=.type "dict",data:=.dict #[]})) PySem.F.kt_called_dict (Ø _) PySem.F.entry_dict_init (kt_code_dict_new _ ⟨rfl,rfl⟩) ?_;rintro obj s₁ ⟨rfl,rfl⟩;let hnew:(s.heap.push { cls:=.type "dict",data:=.dict #[]}).DictOfH knd s⁻¹ []:=Zf s.heap;let hTd:Shared.TypeIs (s•s.heap.push { cls:=.type "dict",data:=.dict #[]}) (.ref s⁻¹) "dict" :=⟨_,b7 _ rfl,rfl⟩;let hx1:(s.heap.push { cls:=.type "dict",data:=.dict #[]}).get? l=some o:=bL _ hx;let hTl:Shared.TypeIs (s•s.heap.push { cls:=.type "dict",data:=.dict #[]}) (.ref l) "list" :=⟨_,hx1,hc⟩;show⟨hTd,Þ _ _,?_⟩;unfold Builtin.«dict.__init__»;show M ?_;unfold Builtin.Dict.selfAndRest;show M (Cm hTd ?_);show wpAny _ _ (pure (s⁻¹,[Value.ref l])) _ _ _;show ao ?_;show wpAny _ _ (Builtin.Dict.updateFrom "dict.__init__" s⁻¹ (.ref l) [] .none) _ _ _;unfold Builtin.Dict.updateFrom;show M (rN hTl ?_);rw[aB ()];show M (Ze hx1 hc hdat hd (by simp[hh]) λh1 tk1 k1=>?_);simp only[Option.isNone_none,if_true];show M (jY ?_);let ll:l<s⁻¹:=bf hx;let g1:h1.get? s⁻¹=some { cls:=.type "dict",data:=.dict #[]}:=k1 _ _ (b7 _ Z);let g2:h1.get? l=some o:=k1 _ _ hx1;let dl:s⁻¹<h1.objs.size:=bf g1;let hl1:h1.IsList l items:=⟨_,g2,hc,m,hdat⟩;show M (vz (s:={ s with heap:=h1,toks:=tk1}) hl1 ?_);let hh3:A.in1.in1.handled=none:=by simp[hh]
 let ni:l≠h1.objs.size:=bY (uh ll dl);let nf:s⁻¹∉[h1.objs.size,l]:=by
  simp only[List.mem_cons,List.not_mem_nil,or_false,not_or];show⟨bY dl,iJ ll⟩
 show ao ⟨jR j7 _,?_⟩;show fill (knd:=knd) (n:=items.size) ((Walks.list hh3 _ l ni items).toS) s⁻¹ nf L hn nd bs (λi v _ hp=>hv i v hp)
  (λh2=>∀b ob,s^^^b=some ob->h2.get? b=some ob) (λh2 h3 kp sb b ob e=>?_) (λs2 s3 kp hm b ob e=>?_) (λh2 i x kp e=>hT h2 i x kp e) hu hz items.size 0 _ _ _ () (cW _)
  ⟨⟨_,b7 _ Z,Z,Z⟩,(hl1.push _)⟩ ?_ ?_ ?_
 ·rw[sb.2 b (bY (bf e))];show kp b ob e
 ·show hm.heap b ob ?_ (kp b ob e);simp only[List.mem_cons,List.not_mem_nil,or_false];show λq=>absurd q (bY (uh (bf e) dl))
 ·show⟨_,#[],_,bL _ g1,⟨Z,Z,Z⟩,Z,by rw[Nh];rfl,λx hx=>absurd hx (by simp),by rw[Nh];show vC⟩
 ·show λb ob e=>bL _ (k1 b ob (bL _ e))
 ·intro s' hm hD kp;let⟨h',g',d',tk',os'⟩:=s';let eg:g'=s.gens:=hm.gens;let ed:d'=s.drawn:=hm.drawn;let eo:os'=s.os:=hm.os;subst eg;subst ed;subst eo;show⟨Z,h h' tk' hD kp⟩
end
end Dy
namespace L2
open PyProof.Rows
def a6d{c:Prop} [Decidable c] {a b:Prop} (hc:c) (h:a):if c then a else b:=by grind
def xg{c:Prop} [Decidable c] {a b:Prop} (hc:¬c) (h:b):if c then a else b:=by grind
def Dl{prog:Program}{w:World}{A:Around}{E:∅}{s:Shared}{l:Addr}{items:Array Value}{Q:aw->Shared->Prop}(hd:A.handled=none)(hl:s.heap.IsList l items)
  (h:∀h',(∀b o,b≠s⁻¹->s^^^b=some o->h'.get? b=some o)->Q items.toList (s•h')):∎ (unpackItems (.ref l) items.size none) Q E s:=by
 let hl0:=hl;let⟨o,e,c,d⟩:=hl;unfold unpackItems notIterableAtAll;show M (M (GP (T:="list") ⟨_,e,c⟩ F.slot_list_iter.lookup (jF (a6d Z (ao (jF (xg cL (M (dY (vz hl0 ?_))))))))));lk;show M (dY ?_);let hn:l≠s⁻¹:=λz=>by
  let hlt:=bf e;show absurd z (bY hlt)
 let e1:∀(h':Heap),(∀b o,b≠s⁻¹->s^^^b=some o->h'.get? b=some o)->h'.IsList l items:=λh' k=>⟨o,k _ _ hn e,c,d⟩;show PySem.W.kun_draw hn items.size 0 _ _ ⟨_,b7 _ Z,Z,Z⟩ (e1 _ λb o _ z=>bL _ z) () λh' st sb=>?_;let k1:∀b o,b≠s⁻¹->s^^^b=some o->h'.get? b=some o:=λb o hb z=>(sb.2 b hb).trans (bL _ z);let et:List.take items.size (List.drop 0 items.toList)=items.toList:=by rw[Ni];show wJ (by simp)
 rw[et];show jF (xg (by simp) (M (dY (wpAny_pyNext_list_end hd st (e1 _ k1) (by simp) λh2 eb=>jF (xg (by simp) (ao (h h2 λb o hb z=>eb b o hb (k1 b o hb z))))))))
section
variable{X:Cx}{pos:Pos}
inductive a2w(K:aJ)(n:Nat)(t:æ)(v:V)(σ:St)(H:Hp)(Q:St->Hp->Prop):Prop
 |mk (a xs:_) (_:v=.ref a) (_:bB K H a xs) (_:xs.length=n) (_:t xs σ H Q)
def a0V{es:ba}{k:Nat}{t:æ}{n:Nat}(hc:X.calm=true)(h:PGs X es t)
  (hn:@&((assignEach es X.env).length=n)) (hst:@&((assignEach es X.env).findIdx? (·.1)=none)):PG X (.Tuple es k pos) (a2w X.K n t):=by
 intro Y s σ H v u Q I r hw;let⟨a,xs,e1,hq,hl,hw⟩:=hw;subst e1;cases r;let⟨bR,rv,p,hz⟩:=I.list hq;rw[assign_Tuple];show M (Nj ?_);unfold unpack;show M (dY ?_);let e2:(assignEach es X.env).length=bR.toArray.size:=by simp[hn,<-hl,rv.length]
 rw[hst,e2];show Dl (I.ok.hd hc) p.isList λh' k=>?_;let hi:=I.Fd (aK s⁻¹) (I.hok.fresh (aK _));let⟨f0,f1,f2,f3,f4,f5⟩:=hi;let I1:bD X Y σ H (s•h'):=I.turned (t':=s.toks) k f0 f1 f3 f4 f5;show h Y _ σ H xs _ Q I1 (by simpa using rv) hw
def QV{K:aJ}{es:ba}{k:Nat}{t:æ}{n:Nat}(e:X.K=K)(hc:X.calm=true)(h:PGs X es t)
  (hn:@&((assignEach es X.env).length=n)) (hst:@&((assignEach es X.env).findIdx? (·.1)=none)):PG X (.Tuple es k pos) (a2w K n t):=by subst e;show a0V hc h hn hst
end
end L2
namespace Dq
open PyProof.Rows
variable{I:Addr}{o:Obj}{es:Array DictEntry}{ep:Nat}
variable{prog:Program}{w:World}{A:Around}{E:∅}{s:Shared}
abbrev kO(d:Addr)(i n ep:Nat):Obj:={ cls:=.type "dict_keyiterator",data:=.fields #[.ref d,.int (i:Nat) 0,.int (n:Nat) 0,.int (ep:Nat) 0]}
def args_next(a:Value):argsOk "dict_keyiterator.__next__" ⟨[a],[]⟩:=by unfold argsOk;kernel_rfl
def XC:∃l,mroOf (.type "dict_keyiterator")=pure l/\(["dict_reversekeyiterator","dict_reversevalueiterator","dict_reverseitemiterator"].any λt=>l.contains (Value.type t))=false/\(["dict_keyiterator","dict_reversekeyiterator"].any λt=>l.contains (Value.type t))=true:=⟨_,Z,(),()⟩
def ħ{Q:Bool->Shared->Prop}(hT:s.TypeIs (.ref I) "dict_keyiterator")(h:Q false s):∎ (Builtin.Dict_items.isOneOf (.ref I) ["dict_reversekeyiterator","dict_reversevalueiterator","dict_reverseitemiterator"]) Q E s:=by
 let⟨l,e,n,_⟩:=XC;unfold Builtin.Dict_items.isOneOf;show M (rN hT ?_);rw[e];show M (ao (ao ?_));rw[n];show h
def Zg{Q:Bool->Shared->Prop}(hT:s.TypeIs (.ref I) "dict_keyiterator")(h:Q true s):∎ (Builtin.Dict_items.isOneOf (.ref I) ["dict_keyiterator","dict_reversekeyiterator"]) Q E s:=by
 let⟨l,e,_,n⟩:=XC;unfold Builtin.Dict_items.isOneOf;show M (rN hT ?_);rw[e];show M (ao (ao ?_));rw[n];show h
def item_at{d:Addr}{i:Nat}{e:DictEntry}{Q:Option Value->Shared->Prop}(ne:d≠I)(ho:s^^^d=some o)(hd:o.data=.dict es ep)(hI:s^^^I=some (kO d i es.size ep))(hx:es[i]?=some e)
  (h:∀h',h'.get? I=some (kO d (i+1) es.size ep)->Heap.SameBut I s.heap h'->Q (some e.key) (s•h')):∎ (pyNext (.ref I)) Q E s:=by
 let hT:s.TypeIs (.ref I) "dict_keyiterator" :=⟨_,hI,Z⟩;unfold pyNext;show M (ug (m9 (name:=Str.ofString "__next__") hT Lz (gD Lz hT Ò ?_ (args_next _))));unfold Builtin.«dict_keyiterator.__next__»;show M (m:=Builtin.Dict_items.slot0 "__next__" _) (ao ?_);lk;show M (M (M (m:=typeNameOfWhole _) (Lx hT ?_)));rw[show(if Builtin.Dict_items.ownsTuple "dict_keyiterator" = true then 2 else 0)=0 from rfl];show ao (M (CJ hI Z ?_));show wpAny _ _ (if(Value.ref d==Value.none)=true then _ else _) _ _ _;show jF (L2.xg (by simp) (M (m:=Builtin.Dict_items.addrOf _) (ao (M (rJ ho hd (jF (L2.xg (by simp) (M (m:=Builtin.Dict_items.addrOf _) (ao (M (wR ho hd (jF (L2.xg (by simp) (ao ?_))))))))))))));lk;let e1:(if(i:Int)<0 then none else es[(i:Int).toNat]?)=some e:=by
  rw[aA (),iG];show hx
 rw[e1];lk;show M (M (m:=typeNameOfWhole _) (Lx hT ?_));rw[show(if Builtin.Dict_items.ownsTuple "dict_keyiterator" = true then 2 else 0)=0 from rfl];show ao (M (ħ hT (M (jX hI (by simp) λh1 hI1 QC=>?_))));let hT1:Shared.TypeIs (s•h1) (.ref I) "dict_keyiterator" :=⟨_,hI1,rfl⟩;show M (dY (M (Zg hT1 (jF (L2.a6d Z (ao (ao ⟨_,Z,ao (h h1 ?_ QC)⟩)))))));rw[hI1];simp[rawInt]
def HJ{d:Addr}{Q:Option Value->Shared->Prop}(hh:A.handled=none)(ne:d≠I)(ho:s^^^d=some o)(hd:o.data=.dict es ep)(hI:s^^^I=some (kO d es.size es.size ep))
  (h:∀h',Heap.ExtBut I s.heap h'->Q none (s•h')):∎ (pyNext (.ref I)) Q E s:=by
 let hT:s.TypeIs (.ref I) "dict_keyiterator" :=⟨_,hI,Z⟩;unfold pyNext;show M (ug (m9 (name:=Str.ofString "__next__") hT Lz (gD Lz hT Ò ?_ (args_next _))));unfold Builtin.«dict_keyiterator.__next__»;show M (m:=Builtin.Dict_items.slot0 "__next__" _) (ao ?_);lk;show M (M (M (m:=typeNameOfWhole _) (Lx hT ?_)));rw[show(if Builtin.Dict_items.ownsTuple "dict_keyiterator" = true then 2 else 0)=0 from rfl];show ao (M (CJ hI Z ?_));show wpAny _ _ (if(Value.ref d==Value.none)=true then _ else _) _ _ _;show jF (L2.xg (by simp) (M (m:=Builtin.Dict_items.addrOf _) (ao (M (rJ ho hd (jF (L2.xg (by simp) (M (m:=Builtin.Dict_items.addrOf _) (ao (M (wR ho hd (jF (L2.xg (by simp) (ao ?_))))))))))))));lk;let e1:(if(es.size:Int)<0 then none else es[(es.size:Int).toNat]?)=none:=by
  rw[aA (),iG];simp
 rw[e1];lk;show M (M (m:=typeNameOfWhole _) (Lx hT ?_));rw[show(if Builtin.Dict_items.ownsTuple "dict_keyiterator" = true then 2 else 0)=0 from rfl];show ao (M (jX hI (by simp) λh1 hI1 QC=>M ?_));simp only[newExc,newTuple];show M (jP ?_ (by size_fits));show M (m:=firstArgMember _ _) (Hg (a:=Value.none) (by first|rfl|(simp only[firstArgMember];rfl)) ?_);show jP ?_ (by size_fits);simp only[raiseNew];show M (Np ?_);rw[show A.in1.handled=none from hh];show M (ao (Nx ?_));show M (vB (U:="StopIteration") (T:="StopIteration") (b:=true) ⟨_,b7 _ Z,Z⟩ GR (ao (h _ ((QC.extBut.push _).push _))))
def Ay{d:Addr}{Q:∅}(hs:(d==sysModules)=false)(ho:s^^^d=some o)(hx:o.ExactDict)(hd:o.data=.dict es ep)
  (h:Q (.ref s⁻¹) (s•s.heap.push (kO d 0 es.size ep))):∎ (pyIter (.ref d)) Q E s:=by
 let hT:s.TypeIs (.ref d) "dict" :=⟨_,ho,hx.1⟩;show Mz hT F.slot_dict_iter (gD F.slot_dict_iter hT F.entry_dict_iter ?_ (F.args_dict_iter_1 _));unfold Builtin.«dict.__iter__»;show M ?_;unfold Builtin.Dict.dictSlotNone;show M (Cm hT (M (m:=slotArgs "__iter__" 0 _) (ao (ao (M (m:=Builtin.Dict.addrOf _) (ao (M ?_)))))));unfold Builtin.Dict.showsAll;show jF (L2.xg () (ao (M (rJ ho hd (M (wR ho hd (M ?_)))))));unfold newFields;show jP (ao ⟨_,Z,"dict_keyiterator",_,⟨_,b7 _ Z,Z⟩,F.slot_dict_keyiterator_next.lookup,h⟩)
end Dq
namespace L2
open PyProof.Rows
section
variable{X:Cx}{Y:aE}{σ:St}{H:Hp}{s:Shared}{d:Addr}{J:List (Key×V)}
def bD.Om{o o':HO}(I:bD X Y σ H s)(e:H d=some o)(nt:∀xs,o≠.tup xs)(no:∀y,o≠.own y)(nb:∀ps,o≠.tbl ps)(nf:∀b u,X.H₀ d≠some (.iK b u))(q:fC X.prog X.w H s.heap d o'):bD X Y σ (cY H d o') s:=by
 let ne:∀b,H b=none->b≠d:=λb n z=>by rw[z,e]at n;cases n
 let nn:∀b,H b=none->cY H d o' b=none:=λb n=>by rw[aZ (ne b n)];show n
 let ho:∀b c,H b=some (.own c)->cY H d o' b=some (.own c):=λb c r=>by
  rw[aZ]
  ·show r
  ·intro z;rw[z,e]at r;show no c (dD r)
 let ht:∀b xs,H b= ~~~xs->cY H d o' b= ~~~xs:=λb xs r=>by
  rw[aZ]
  ·show r
  ·intro z;rw[z,e]at r;show nt xs (dD r)
 show⟨I.ok,I.os,I.bare,⟨I.base.keep,I.base.slot,λb ob q1 q2 q3=>nn b (I.base.free b ob q1 q2 q3),I.base.there,λb xs r=>ht b xs (I.base.tups b xs r),λb ob u r=>?_,λb ps r=>?_⟩,I.loc,I.cell,nn _ I.free,λx c r=>nn c (I.rO x c r),λp hp=>?_,λb u r=>?_,I.len⟩
 ·rw[aZ]
  ·show I.base.Hi b ob u r
  ·intro z;rw[z]at r;show nf ob u r
 ·let⟨m,r1⟩:=I.base.Nz b ps r;show⟨m,?_⟩;rw[aZ]
  ·show r1
  ·intro z;rw[z,e]at r1;show nb _ (dD r1)
 ·let⟨p1,p2,p3⟩:=I.pin p hp;show⟨p1,nn _ p2,p3⟩
 ·by_cases c:b=d
  ·subst c;rw[dN]at r;cases r;show q.stay (λ_ _ _ z=>z) (λc r=>ho c b r) ht
  ·rw[aZ c]at r;show(I.hok b u r).stay (λ_ _ _ z=>z) (λc r=>ho c b r) ht
def bD.QW{o:HO}(I:bD X Y σ H s)(e:H d=some o)(nf:∀b u,o≠.iK b u):∀b u,X.H₀ d≠some (.iK b u):=λb u z=>by
 let:=I.base.Hi d b u z;grind
def bD.Oo{o:Obj}{u:HO}(I:bD X Y σ H s)(nf:∀b u,X.H₀ d≠some (.iK b u))(e:H d=some (.iK o u)):bD X Y σ (cY H d u) s:=by
 let⟨_,q⟩:=I.hok d _ e;show I.Om e (λ_ z=>by cases z) (λ_ z=>by cases z) (λ_ z=>by cases z) nf q
end
end L2
namespace L2
open PyProof.Rows Bg
noncomputable def Itp(o:Obj)(d:Addr)(u:HO)(as:aI):It :=
 ⟨λi H=>H d=some (.iK o u)/\i<as.length,λi H x H'=>H'=H/\(as.map V.ref)[i]?=some x,λi H=>H d=some (.iK o u)/\i=as.length⟩
def VR{P:Program}{w:World}{K:aJ}{tg:Expr}{o:Obj}{u:HO}(d it:Addr){as:aI}{es:Array DictEntry}{ep:Nat}(hd:o.data=.dict es ep)(ek:es.toList.map (·.key)=as.map Value.ref) :
  Turn P w K tg (Itp o d u as) [it] it (λi h=>h.get? it=some (Dq.kO d i es.size ep)) where
 mem:=by simp
 obj:=λi h st b hb=>by
  grind
 keep:=λi h h' st k=>k it (by simp) _ st
 item:=by
  intro X hP hw hK hc i Y s σ H E I hf st hg
  subst hP hw hK
  let⟨hq,hi⟩:=hg
  let⟨hd1,_⟩:=I.hok d _ hq
  let⟨f0,f1,f2,f3,f4,f5⟩:=hf it (by simp)
  let ne:d≠it:=λz=>by grind
  let lz:es.size=as.length:=by let:=congrArg List.length ek;grind
  let he:es[i]?=some (es[i]'()):=yG ()
  let a3T:(es[i]'()).key=Value.ref as[i]:=by
   let:=congrArg (λl=>l[i]?) ek
   try dsimp only at this
   rw[cI,cI,Gz,he,bC hi]at this
   show dD this
  show Dq.item_at ne hd1 hd st he λh' hI sb=>?_
  let I1:bD X Y σ H (s•h'):=I.turned (t':=s.toks) (λb o hb e=>(sb.2 b hb).trans e) f0 f1 f3 f4 f5
  show⟨_,Z,W7 (s:=(s•h')) hI rfl rfl () ⟨.ref as[i],H,I1,a3T,⟨rfl,by rw[cI,bC hi];rfl⟩,hI,λb hb=>(hf b hb).1⟩⟩
 done:=by
  intro X hP hw hK hc i Y s σ H E I hf st hg
  subst hP hw hK
  let⟨hq,hx⟩:=hg
  let⟨hd1,_⟩:=I.hok d _ hq
  let⟨f0,f1,f2,f3,f4,f5⟩:=hf it (by simp)
  let ne:d≠it:=λz=>by grind
  let lz:es.size=as.length:=by let:=congrArg List.length ek;grind
  rw[hx,<-lz]at st
  show Dq.HJ (I.ok.hd hc) ne hd1 hd st λh' eb=>⟨Z,I.turned (t':=s.toks) (λb o hb e=>eb b o hb e) f0 f1 f3 f4 f5⟩
 self:=λ_ _ _ _ _ st h=>wpAny_pyIter_keyiter ⟨_,st,Z,Z⟩ h
end L2
namespace L2
open PyProof.Rows Bg Qu
section
variable{X:Cx}
inductive a7Z(x:V)(y:V)(H:Hp)(Q:VK):Prop
 |mk (b a:Addr) (k:aS) (J:List (aS×V)) (_:x=.ref b) (_:y=.ref a) (_:H b= ~~~(k.map kV)) (_:H a=some (.dT J)) (_:Q (.bl (dG J k).isSome) H)
def Ĩ(hu:X.A.units+1<cLine):rA X (compareOp .In) a7Z:=by
 intro Y s σ H x y v u Q I rx ry h;let⟨b,a,t,ts,rfl,rfl,hb,e,q⟩:=h;obtain rfl:u=Value.ref a:=ry;show a7Y hu I (Fg.t e hb) rx λs3 I3=>⟨.bl _,H,I3,Z,q⟩
inductive a6e(o:V)(i:V)(v:V)(H:Hp)(Q:Hp->Prop):Prop
 |mk (a b:Addr) (k:aS) (J:List (aS×V)) (_:o=.ref a) (_:i=.ref b) (_:H b= ~~~(k.map kV)) (_:H a=some (.dT J)) (_:J.length<=5000) (_:∀H',uP H a (.dT (putK J k v)) H'->Q H')
def Dp(hu:X.A.units+1<cLine):a0d X a6e:=by
 intro Y s σ H o i v ov iv u Q I ro ri rv h;let⟨a,b,t,ts,rfl,rfl,hb,e,z,q⟩:=h;obtain rfl:ov=Value.ref a:=ro;show Zb hu I (a0Q.t e hb (Mt z ())) ri rv λs' I'=>⟨_,I',q _ uP.oh⟩
def ĩ{P:Program}{w:World}{H':Hp}{h':Heap}{a:Addr}{J:List (aS×V)}{xs:List (aS×Addr×Value)}(z:J.length<=sizeLine)(hd:(a==sysModules)=false)(rel:KT H' J xs)(dd:h'.DictOfH (tupleKind (fH P w)) a xs) :
  fC P w H' h' a (.dT J):=by
 let⟨o,es,ep,h1,h2,h3,h4,_,h5⟩:=dd;show⟨z,hd,xs,rel,o,es,ep,h1,h2,h3,h4,h5⟩
end
section
variable{X:Cx}{tg:Expr}
def a3U(t:TE):TE:=λσ H Q=>t σ H λv H1=>∃d o J kvs',H d=some (.dT kvs')/\H1 d=some (.iK o (.dT J))/\Q v (cY H1 d (.dT J))
def Ī{e:Expr}{t:TE}(h:PE X e t):PE X e (a3U t):=by
 intro Y s σ H Q I q;show jC (h Y s σ H _ I q) λv s1 z=>?_;let⟨x,H1,I1,r1,d,o,ts,ts',e0,e1,q1⟩:=z;show⟨x,_,I1.Oo (I.QW e0 λ_ _ z=>by cases z) e1,r1,q1⟩
def a0W(t:TS):TS:=λD σ H=>t { D with nx:=λσ1 H1=>∃d o J kvs',H d=some (.dT kvs')/\H1 d=some (.iK o (.dT J))/\D.nx σ1 (cY H1 d (.dT J))} σ H
def xj{st:Stmt}{t:TS}(h:PS X st t):PS X st (a0W t):=by
 intro Y s σ H D I q;show jC (h Y s σ H _ I q) λf s1 z=>?_;cases f with
 |next =>
  let⟨σ1,H1,I1,d,o,J,kvs',e0,e1,q1⟩:=z;show⟨σ1,_,I1.Oo (I.QW e0 λ_ _ z=>by cases z) e1,q1⟩
 |ret u=>show z
 |brk=>show z
 |cont=>show z
inductive PrL(H:Hp)(v:V)(kv:aS×V):Prop
 |mk (p kp:_) (_:v=.ref p) (_:H p= ~~~[.ref kp,kv.2]) (_:H kp= ~~~(kv.1.map kV))
inductive a3V(K:aJ)(xs:af)(H:Hp)(Q:VK):Prop
 |mk (l:Addr) (vs:af) (J:List (aS×V)) (_:xs=[.ref l]) (_:H l=↥vs) (_:Paired (PrL H) vs J) (_:(J.map (·.1)).Nodup) (_:∀p H',iD H p (.dT J) H'->Q (.ref p) H')
def a3W{P:Program}{w:World}{H:Hp}{h:Heap}(hok:xQ P w H h):∀{vs:af}{J:List (aS×V)}{bR:aw},Paired (PrL H) vs J->cJ vs bR->
  ∃(L:List (aS×Addr×Value)) (bs:aI),bR=bs.map Value.ref/\KT H J L/\Paired (λ(b:Addr) (x:aS×Addr×Value)=>IsTup h b #[.ref x.2.1,x.2.2]) bs L:=by
 intro vs J bR hp
 induction hp generalizing bR with
 |nil=>intro hv;cases hv;show⟨[],[],Z,.nil,.nil⟩
 | @cons v kv vs J a t ih =>
  intro hv;cases hv with
  | @cons _ u _ us ru rus =>
   let⟨L,bs,e,kt,pt⟩:=ih rus;let⟨p,kp,rfl,hp,hk⟩:=a;obtain rfl:u=Value.ref p:=ru;let⟨_,its2,r2,tp⟩:=(show fC P w H h p (.tup [.ref kp,kv.2])from hok p _ hp);cases r2 with
   | @cons _ u1 _ us1 q1 q2 =>
    obtain rfl:u1=Value.ref kp:=q1;cases q2 with
    | @cons _ u2 _ us2 q3 q4 =>
     cases q4;show⟨(kv.1,kp,u2)::L,p::bs,by rw[e];rfl,.cons ⟨Z,hk,q3⟩ kt,.cons tp pt⟩
def V0{K:aJ}(ek:X.K=K)(cm:X.calm=true)(hu:X.A.units+2<cLine):jx X (.type "dict") (a3V K):=by
 subst ek;intro Y s σ H xs us Q I r h;let⟨l,vs,J,rfl,hL,pr,nd,q⟩:=h;let⟨u,rfl,rx⟩:=vals1 r;cases rx;let⟨z,bR,n,rv,ol⟩:=(show fC X.prog X.w H s.heap l (.lst vs)from I.hok l _ hL);let⟨L,bs,rfl,kt,pt⟩:=a3W I.hok pr rv;let ln:L.length=bs.length:=(aW pt).symm;let lv:vs.length=bs.length:=by let:=rv.length;grind
 let lk:J.length=vs.length:=(aW pr).symm;let ek:J.map (·.1)=L.map (·.1):=by
  clear nd pr pt ln lk q
  induction kt with
  |nil=>rfl
  |cons a b ih=>grind
 let hr:(tupleKind (fH X.prog X.w)).room X.A.in1.in1:=by
  show X.A.in1.in1.units<cLine;show X.A.units+1+1<cLine;show hu
 show Dy.a0U (knd:=tupleKind (fH X.prog X.w)) (L:=L) (bs:=λi=>bs.getD i 0) (I.ok.hd cm) hr ol Z Z Z (by rw[fW,aH];show ln) (by rw[<-ek];show nd) (by rw[fW,aH];omega) (λi v hv=>?_) (λh i x kp hx=>?_) λh' tk dd kp=>?_
 ·rw[Tq,cI]at hv;cases c:bs[i]? with
  |none=>rw[c]at hv;show nomatch hv
  |some b =>
   rw[c]at hv;rw[fB,c];show(dD hv).symm
 ·constructor
  ·let⟨kv,hkv,a1,a2,a3⟩:=cP kt hx;let⟨o,bR,n,h1,h2,h3,h4⟩:=yW I.hok a2;rw[<-a1];show⟨o,bR,n,kp _ _ h1,h2,h3,h4⟩
  ·let⟨b,hb,o,h1,h2⟩:=cP pt hx;rw[fB,hb];show⟨o,kp _ _ h1,h2⟩
 ·let hf:H s⁻¹=none:=I.hok.fresh (aK _);let hs:(s⁻¹==sysModules)=false:=qz.mpr (Ne.symm (bY I.big));show⟨.ref s⁻¹,_,I.laid (t':=tk) (o:=.dT J) (λb o e=>kp b o e) (aK _) (ĩ () hs (kt.keeps λc ys ec=>?_) dd),Z,q _ _ (iD.oh hf)⟩;rw[aZ (dO ec hf)];show ec
end
end L2
namespace L2
open PyProof.Rows
def Gb{X:Cx}{Y:aE}{σ:St}{H:Hp}{s:Shared}(I:bD X Y σ H s){h2:Heap}(ch:aI)(fk:∀b∈ch,CQ X Y H b)
  (kp:∀b o,b∉ch->s^^^b=some o->h2.get? b=some o):bD X Y σ H (s•h2):=by
 show I.step (t':=s.toks) (g':=s.gens) (d':=s.drawn) (H':=H) (ch:=ch) (λb hb=>?_) (λb o _ _ hc q _=>kp b o hc q) (λb o _ _ hc q _=>⟨o.slots,kp b o hc q⟩) (λ_ _ _ _ n=>n)
  (λb o hc q=>⟨o,kp b o hc q⟩) (λ_ _ q=>q) (λ_ _ _ q=>q) (λb ps q=>⟨#[],by rw[q];simp⟩) (λm hm=>?_) (λb o q=>?_) I.bare
 ·let⟨f0,f1,f2,f3,f4,f5⟩:=fk b hb;show⟨f3,f1,f4,f5⟩
 ·let⟨o,es,ep,q,r⟩:=hm;show⟨o,es,ep,kp _ o (λz=>(fk _ z).2.1 Z) q,r⟩
 ·let nb:∀c v,H c=some v->c∉ch:=λc v q z=>dO q (fk c z).1 rfl;show(I.hok b o q).stay (λc v hcc r=>kp c v ?_ r) (λ_ q=>q) λ_ _ q=>q;grind
section
variable{X:Cx}{K:aJ}
def boot_zip:bootBuiltins "zip" = some (.type "zip"):=by decide
end
end L2
namespace Zd
open PyProof.Rows
def Dr:typeLookup (.type "zip") "__getattr__" = pure none:=Us (by kernel_rfl)
def JK:typeLookup (.type "zip") "keys" = pure none:=Us (by kernel_rfl)
def ī:entryFor table "zip.__getattribute__" = some Builtin.«object.__getattribute__» := Ng (id':="object.__getattribute__") (by kernel_rfl) () () (by kernel_rfl)
def V1(a:Addr)(fs:Array Value)(u:Tok):Meets (Builtin.«object.__getattribute__» ⟨[.ref a,.str "keys" u],[]⟩) (λA R s=>s^^^a=some { cls:=.type "zip",dict:=none,data:=.fields fs,slots:=#[]}/\raisesAttr (.ref a) "keys" A R s) :=
 Meets.of_wp λprog w A R s hs=>by
  let⟨hp,g,d,tk,os⟩:=s;let⟨hx,hs⟩:=hs;let hT:(⟨hp,g,d,tk,os⟩:Shared).TypeIs (.ref a) "zip" :=⟨_,hx,Z⟩;let hm:=JK;let hname:(["__module__","__name__","__qualname__","__doc__","__annotations__"]:ag).contains "keys" = false:=()
  unfold Builtin.«object.__getattribute__»;repeat (any_goals (first|assumption|wp_step))
  show wpAny_raiseAttrError hs.1 hs.2 (attrMsg_fits () (by size_fits))
section
variable{prog:Program}{w:World}{A:Around}{E:∅}{s:Shared}
def a0X{a:Addr}{fs:Array Value}{Q:Option Value->Shared->Prop}(hx:s^^^a=some { cls:=.type "zip",dict:=none,data:=.fields fs,slots:=#[]})(hA:A.handled=none)
  (h:∀h' tk,(∀b o,s^^^b=some o->h'.get? b=some o)->Q none { s with heap:=h',toks:=tk}):∎ (getAttr? (.ref a) "keys") Q E s:=by
 let⟨hp,g,d,tk,os⟩:=s;let hT:∀tk',(⟨hp,g,d,tk',os⟩:Shared).TypeIs (.ref a) "zip" := λ_=>⟨_,hx,Z⟩;let f1:=sub_AttributeError;let f3:=F.slot_zip_getattribute.lookup;let f4:=F.slot_zip_getattribute.bind (.ref a);let f5:=Dr;unfold getAttr? getAttrBy? getAttrBy;repeat (any_goals (first|assumption|exact hT _|((with_reducible show wpAny _ _ (call (Value.builtin "zip.__getattribute__") _ _) _ _ _);show yQ F.slot_zip_getattribute (hT _) ī (F.args_zip_getattribute_2 _ _) (V1 a fs _) ⟨hx,hA,λh' tk' e hx'=>?_⟩)|wp_step))
 let⟨t',u',he⟩:=hx'.there;show wpAny _ _ (getattributeRaised _ _ _ _ _ _ _) _ _ _;unfold getattributeRaised;repeat (any_goals (first|assumption|wp_step))
 show h _ _ hx'.of.keeps
end
end Zd
namespace Zd
open PyProof.Rows
variable{n T:Nat}{b:Bool}{oT:Obj}
abbrev Out(h:Heap)(n T:Nat)(b:Bool):Prop:=h.get? (n+4)=some { cls:=.type "zip",dict:=none,data:=.fields #[rawInt T,.bool b,.bool false,.ref (n+2),.ref (n+3)],slots:=#[]}
section
variable{prog:Program}{w:World}{A:Around}{E:∅}{s:Shared}
def QX{Q:Bool->Shared->Prop}(hz:Out s.heap n T b)(hT:s^^^T=some oT)(h:∀h',Out h' n T true->Heap.SameBut (n+4) s.heap h'->Q false (s•h')) :
  ∎ (Builtin.SmallTypes.ownedTupleIsFree (.ref (n+4))) Q E s:=by
 unfold Builtin.SmallTypes.ownedTupleIsFree;show M (gF hz Z (x:=rawInt T) Z ?_);show wpAny _ _ (loadIfAlive ((T:Int).toNat) >>= _) _ _ _;rw[iG];show M (PySem.W.kdx_alive hT ?_);simp only[Option.isNone_some,if_false,Bool.false_eq_true];show M (gF hz Z (x:=.bool b) Z ?_);cases b with
 |true =>
  let e:(Value.bool true != Value.bool true)=false:=()
  rw[e];simp only[if_false,Bool.false_eq_true];show ao (h s.heap hz ⟨Z,λ_ _=>rfl⟩)
 |false =>
  let e:(Value.bool false != Value.bool true)=true:=()
  rw[e];simp only[if_true];show M (jX hz (by simp) λh1 hz1 s1=>ao (h h1 hz1 s1))
def Zh{l1 l2 k:Nat}{xs ys:Array Value}{x y:Value}{Q:Option Value->Shared->Prop}(q1:l1<n)(q2:l2<n)(hz:Out s.heap n T b)(hT:s^^^T=some oT)
  (hTI:IsPair s.heap (n+2) (.ref n) (.ref (n+1))) (h1:s.heap.IsListIter n l1 k) (h2:s.heap.IsListIter (n+1) l2 k) (hl1:s.heap.IsList l1 xs) (hl2:s.heap.IsList l2 ys) (hx:xs[k]?=some x) (hy:ys[k]?=some y)
  (hQ:∀h',Out h' n T true->h'.IsListIter n l1 (k+1)->h'.IsListIter (n+1) l2 (k+1)->IsPair h' s⁻¹ x y->(∀e o,e≠n->e≠n+1->e≠n+4->s^^^e=some o->h'.get? e=some o)->Q ⇑(s⁻¹) (s•h')) :
  ∎ (pyNext (.ref (n+4))) Q E s:=by
 let hTy:s.TypeIs (.ref (n+4)) "zip" :=⟨_,hz,Z⟩;let d40:(n+4:Nat)≠n:=()
 let d41:(n+4:Nat)≠n+1:=()
 let d10:(n+1:Nat)≠n:=()
 let d01:(n:Nat)≠n+1:=()
 unfold pyNext;show M (ug (m9 (name:=Str.ofString "__next__") hTy wU (gD wU hTy M6 ?_ (MF _))));show wpAny _ _ (field (.ref (n+4)) 2 >>= _) _ _ _;show M (gF hz Z (x:=.bool false) Z ?_);show wpAny _ _ (field (.ref (n+4)) 3 >>= _) _ _ _;show M (gF hz Z (x:=.ref (n+2)) Z (M (qF hTI Z ?_)));show wpAny _ _ (Builtin.SmallTypes.ownedTupleIsFree (.ref (n+4)) >>= _) _ _ _;show M (QX hz hT λg1 z1 s1=>?_);let k1:∀e o,e≠n+4->s^^^e=some o->g1.get? e=some o:=λe o he q=>s1.extBut e o he q;simp only[if_false,Bool.false_eq_true];show M ?_;try rw[<-Ua]
 simp only[List.forIn_cons,List.forIn_nil];show M (M (dY ?_));show wpAny _ _ (Builtin.SmallTypes.nextOf (.ref n) >>= _) _ _ _;show M (Gy (h1.at λo q=>k1 _ o () q) (hl1.at λo q=>k1 _ o () q) hx λg2 i2 s2=>ao (ao ?_));let k2:∀e o,e≠n+4->e≠n->s^^^e=some o->g2.get? e=some o:=λe o he h0 q=>s2.extBut e o h0 (k1 e o he q);show M (M (dY ?_));show wpAny _ _ (Builtin.SmallTypes.nextOf (.ref (n+1)) >>= _) _ _ _;show M (Gy (h2.at λo q=>k2 _ o () () q) (hl2.at λo q=>k2 _ o () () q) hy λg3 i3 s3=>ao (ao (ao ?_)));let k3:∀e o,e≠n->e≠n+1->e≠n+4->s^^^e=some o->g3.get? e=some o:=λe o a0 a1 a4 q=>s3.extBut e o a1 (k2 e o a4 a0 q);let z3:Out g3 n T true:=s3.extBut (n+4) _ d41 (s2.extBut (n+4) _ d40 z1);let i2':g3.IsListIter n l1 (k+1):=i2.at λo q=>s3.extBut n _ d01 q;let sz:g3.objs.size=s⁻¹:=by rw[s3.1,s2.1,s1.1]
 lk;show M (Nf ?_ (by show 2<=sizeLine;rw[gM];decide));show ao ⟨_,Z,ao ?_⟩;let up:∀{c:Nat}{o:Obj},g3.get? c=some o->(g3.push { cls:=.type "tuple",data:=.seq #[x,y]}).get? c=some o:=λe=>bL _ e;let hp:IsPair (g3.push { cls:=.type "tuple",data:=.seq #[x,y]}) g3.objs.size x y:=b7 _ rfl;rw[sz]at hp ⊢;show hQ _ (up z3) (i2'.at λo q=>up q) (i3.at λo q=>up q) hp λe o a0 a1 a4 q=>up (k3 e o a0 a1 a4 q)
def Ĭ{l1 k:Nat}{xs:Array Value}{Q:Option Value->Shared->Prop}(hh:A.handled=none)(q1:l1<n)(hz:Out s.heap n T b)(hT:s^^^T=some oT)
  (hTI:IsPair s.heap (n+2) (.ref n) (.ref (n+1))) (h1:s.heap.IsListIter n l1 k) (hl1:s.heap.IsList l1 xs) (hx:xs[k]?=none)
  (hQ:∀h',(∀e o,e≠n->e≠n+4->s^^^e=some o->h'.get? e=some o)->Q none (s•h')) :
  ∎ (pyNext (.ref (n+4))) Q E s:=by
 let hTy:s.TypeIs (.ref (n+4)) "zip" :=⟨_,hz,Z⟩;unfold pyNext;show M (ug (m9 (name:=Str.ofString "__next__") hTy wU (gD wU hTy M6 ?_ (MF _))));show wpAny _ _ (field (.ref (n+4)) 2 >>= _) _ _ _;show M (gF hz Z (x:=.bool false) Z ?_);show wpAny _ _ (field (.ref (n+4)) 3 >>= _) _ _ _;show M (gF hz Z (x:=.ref (n+2)) Z (M (qF hTI Z ?_)));show wpAny _ _ (Builtin.SmallTypes.ownedTupleIsFree (.ref (n+4)) >>= _) _ _ _;show M (QX hz hT λg1 z1 s1=>?_);let k1:∀e o,e≠n+4->s^^^e=some o->g1.get? e=some o:=λe o he q=>s1.extBut e o he q;simp only[if_false,Bool.false_eq_true];show M ?_;try rw[<-Ua]
 simp only[List.forIn_cons,List.forIn_nil];show M (M (dY ?_));show wpAny _ _ (Builtin.SmallTypes.nextOf (.ref n) >>= _) _ _ _;show M (wpAny_nextOf_list_end (by simpa using hh) (h1.at λo q=>k1 _ o () q) (hl1.at λo q=>k1 _ o () q) hx λg2 e s2 he=>?_);let⟨oe,hoe,hce⟩:=he;show M (vB (U:="StopIteration") (T:="StopIteration") (b:=true) ⟨oe,hoe,hce⟩ GR (ao (hQ _ λc o c0 c4 q=>s2 c o c0 (k1 c o c4 q))))
end
end Zd
namespace Zd
open PyProof.Rows
variable{n l1 l2:Nat}
section
variable{prog:Program}{w:World}{A:Around}{R:Result->Shared->Prop}{κ:Type} [DecidableEq κ] {knd:HeapKind prog w κ}
def ZSt(n d i:Nat)(h:Heap):Prop:=(i=0/\IsZip h (n+4) (n+2) (n+3) .none/\∃a b,IsPair h (n+3) a b)\/(∃(T:Nat) (b:Bool) (oT:Obj),Out h n T b/\h.get? T=some oT/\T≠d/\T≠n/\T≠n+1/\T≠n+4)
def apart(q1:l1<n)(q2:l2<n):ZipApart (n+4) (n+2) (n+3) n (n+1) l1 l2:=by
 constructor<;>(intro z;let z':(_:Nat)=_:=z;omega)
def turn{d i:Nat}{xs ys:Array Value}{x y:Value}{s:Shared}{E:∅}{Q:Option Value->Shared->Prop}(q1:l1<n)(q2:l2<n)(st:ZSt n d i s.heap)(nd:n+4<d)(ds:d<s⁻¹)
  (hTI:IsPair s.heap (n+2) (.ref n) (.ref (n+1))) (h1:s.heap.IsListIter n l1 i) (h2:s.heap.IsListIter (n+1) l2 i) (hl1:s.heap.IsList l1 xs) (hl2:s.heap.IsList l2 ys) (hx:xs[i]?=some x) (hy:ys[i]?=some y)
  (hQ:∀h',ZSt n d (i+1) h'->IsPair h' (n+2) (.ref n) (.ref (n+1))->h'.IsListIter n l1 (i+1)->h'.IsListIter (n+1) l2 (i+1)->IsPair h' s⁻¹ x y->(∀e o,e<n->s^^^e=some o->h'.get? e=some o)->(∀o,s^^^d=some o->h'.get? d=some o)->Q ⇑(s⁻¹) (s•h')) :
  ∎ (pyNext (.ref (n+4))) Q E s:=by
 rcases st with⟨rfl,hz,a,b,hTO⟩|⟨T,b,oT,hz,hT,nT,nT0,nT1,nT4⟩
 ·show wpAny_pyNext_zip_item (apart q1 q2) hz hTI hTO h1 h2 hl1 hl2 hx hy λh' a1 a2 a3 a4 a5 a6 hk0=>?_;let hk:∀(c:Nat) (o:Obj),c≠n+4->c≠n+3->c≠n->c≠n+1->s^^^c=some o->h'.get? c=some o:=hk0;show hQ h' (.inr ⟨s⁻¹,false,_,a1,a5,(),(),(),()⟩) (hk (n+2) _ () () () () hTI) a3 a4 a5 (λe o he q=>hk e o () () () () q) λo q=>hk d o () () () () q
 ·show Zh q1 q2 hz hT hTI h1 h2 hl1 hl2 hx hy λh' a1 a3 a4 a5 hk=>hQ h' (.inr ⟨T,true,oT,a1,hk T _ nT0 nT1 nT4 hT,nT,nT0,nT1,nT4⟩) (hk (n+2) _ () () () hTI) a3 a4 a5 (λe o he q=>hk e o () () () q) λo q=>hk d o () () () q
def a6f{d:Nat}{base:Heap}{xs ys:Array Value}(hh:A.handled=none)(hu:knd.room A.in1)(q1:l1<n)(q2:l2<n)(nd4:n+4<d)(hb:base.objs.size=n)(L:List (κ×Addr×Value))(nd:(L.map (·.1)).Nodup)(hz:L.length<=sizeLine)
  (hxs:xs.size=L.length) (hX:∀(i:Nat) (x:κ×Addr×Value),L[i]?=some x->xs[i]?=⇑(x.2.1)/\ys[i]?=some x.2.2) (hl1:base.IsList l1 xs) (hl2:base.IsList l2 ys) (hK:∀h x,x∈L->(∀b ob,base.get? b=some ob->h.get? b=some ob)->knd.is h x.1 x.2.1) :
  ∀(k i:Nat) (s:Shared) (j:Int) (t:Tok),L.length-i=k->i<=L.length->(∀b ob,base.get? b=some ob->s^^^b=some ob)->d<s⁻¹->ZSt n d i s.heap->IsPair s.heap (n+2) (.ref n) (.ref (n+1))->s.heap.IsListIter n l1 i->s.heap.IsListIter (n+1) l2 i->s.heap.DictOfH knd d (L.take i)->
   (∀h' tk,h'.DictOfH knd d L->(∀b ob,base.get? b=some ob->h'.get? b=some ob)->R (.ok (.ret .none)) { s with heap:=h',toks:=tk})->
   codeAny (model prog w) A (.builtin "dict.update.loop" ⟨[.ref d,.ref (n+4),.int j t,.none],[]⟩) R s:=by
 intro k
 induction k with
 |zero =>
  intro i s j t hk hi kp ds st hTI h1 h2 hD hR;obtain rfl:i=L.length:=()
  rw[ig]at hD;let e1:xs[L.length]?=none:=by rw[<-hxs];simp
  let L1:=hl1.at λo q=>kp _ o q;let fin:∀h',(∀e o,e≠n->e≠n+3->e≠n+1->e≠n+4->s^^^e=some o->h'.get? e=some o)->R (.ok (.ret .none)) (s•h'):=λh' kk=>by
   let⟨o,es,ep,ho,hc,hd,he,his,hn⟩:=hD;let kb:∀(b:Nat) ob,base.get? b=some ob->h'.get? b=some ob:=λb ob q=>by
    let lb:(b:Nat)<n:=by rw[<-hb];show bf q
    show kk b ob () () () () (kp b ob q)
   show hR h' s.toks ⟨o,es,ep,kk d o () () () () ho,hc,hd,he,λx hx=>hK _ x hx kb,hn⟩ kb
  show jq Dy.vP ?_;rw[jD Dy.j7 _];show wpAny _ A.in1 (pyNext (.ref (n+4)) >>= _) _ _ s;rcases st with⟨i0,hz0,a,b,hTO⟩|⟨T,b,oT,hz0,hT,nT,nT0,nT1,nT4⟩
  ·show M (wpAny_pyNext_zip_end (by simpa using hh) (apart q1 q2) hz0 hTI hTO h1 h2 L1 (hl2.at λo q=>kp _ o q) (.inl e1) λh' kk=>?_);show wpAny _ _ (Builtin.Dict.addKeywords d [] >>= _) _ _ _;show M (ao (ao (fin h' λe o a0 a3 a1 a4 q=>kk e o a4 a3 a0 a1 q)))
  ·show M (Ĭ (by simpa using hh) q1 hz0 hT hTI h1 L1 e1 λh' kk=>?_);show wpAny _ _ (Builtin.Dict.addKeywords d [] >>= _) _ _ _;show M (ao (ao (fin h' λe o a0 _ _ a4 q=>kk e o a0 a4 q)))
 |succ k ih =>
  intro i s j t hk hi kp ds st hTI h1 h2 hD hR;let li:i<L.length:=()
  obtain⟨x,hx⟩:∃x,L[i]?=some x:=⟨L[i],bC li⟩;let⟨hx1,hx2⟩:=hX i x hx;show jq Dy.vP ?_;rw[jD Dy.j7 _];show wpAny _ A.in1 (pyNext (.ref (n+4)) >>= _) _ _ s;show M (turn q1 q2 st nd4 ds hTI h1 h2 (hl1.at λo q=>kp _ o q) (hl2.at λo q=>kp _ o q) hx1 hx2 λh' st' a70 h1' h2' hP kk kd=>?_);let kb:∀(b:Nat) ob,base.get? b=some ob->h'.get? b=some ob:=λb ob q=>by
   let lb:(b:Nat)<n:=by rw[<-hb];show bf q
   show kk b ob lb (kp b ob q)
  let hTy:Shared.TypeIs (s•h') (.ref s⁻¹) "tuple" :=⟨_,hP,rfl⟩;let hk1:=hK h' x (gZ hx) kb;let hD':h'.DictOfH knd d (L.take i):=by
   let⟨o,es,ep,ho,hc,hd,he,his,hn⟩:=hD;show⟨o,es,ep,kd o ho,hc,hd,he,λy hy=>hK _ y (lQ hy) kb,hn⟩
  show M (dY (M (wpAny_tryCatch ?_)));unfold Builtin.Dict.pairItems;show M (rN hTy ?_);let e1:((Value.type "tuple" == Value.type "list")||(Value.type "tuple" == Value.type "tuple"))=true:=()
  rw[aB e1];show M (qF hP Z (ao ?_));show wpAny _ _ (holding [Value.ref x.2.1,x.2.2] (dictSet d (.ref x.2.1) x.2.2)) _ _ _;show dY (wpAny_dictSet_heap (hsz:=by rw[eN];omega) hu hk1 hD' λg2 hD2 sb=>?_);let hD3:g2.DictOfH knd d (L.take (i+1)):=by
   rw[storedH_new (Dy.HW nd hx)]at hD2;rw[List.take_add_one,hx];show hD2
  let up:∀(c:Nat) (o:Obj),c≠d->h'.get? c=some o->g2.get? c=some o:=λc o hc q=>by rw[sb.2 c hc];show q
  show ao ⟨jR Dy.j7 _,ih (i+1) _ _ _ () li (λb ob q=>?_) ?_ ?_ ?_ ?_ ?_ hD3 λh3 tk hD4 kb3=>hR h3 tk hD4 kb3⟩
  ·let lb:b<n:=by rw[<-hb];show bf q
   let bd:(b:Nat)≠d:=bY (uh lb (Mt (GJ n 4) nd4));show up b ob bd (kb b ob q)
  ·show d<g2.objs.size;let⟨o,_,_,ho,_⟩:=hD3;show bf ho
  ·rcases st' with⟨z,_⟩|⟨T,b,oT,hz0,hT,nT,nT0,nT1,nT4⟩
   ·omega
   ·show .inr ⟨T,b,oT,up (n+4) _ () hz0,up T _ nT hT,nT,nT0,nT1,nT4⟩
  ·show up (n+2) _ () a70
  ·show h1'.at λo q=>up n o () q
  ·show h2'.at λo q=>up (n+1) o () q
end
end Zd
namespace Zd
open PyProof.Rows
section
variable{prog:Program}{w:World}{A:Around}{E:∅}{s:Shared}{κ:Type} [DecidableEq κ] {knd:HeapKind prog w κ}
def a3X{n l1 l2:Nat}{base:Heap}{xs ys:Array Value}{L:List (κ×Addr×Value)}{Q:∅}(hh:A.handled=none)(hu:knd.room A.in1.in1)(q1:l1<n)(q2:l2<n)(hb:base.objs.size=n)(nd:(L.map (·.1)).Nodup)(hz:L.length<=sizeLine)
  (hxs:xs.size=L.length) (hX:∀(i:Nat) (x:κ×Addr×Value),L[i]?=some x->xs[i]?=⇑(x.2.1)/\ys[i]?=some x.2.2) (hl1:base.IsList l1 xs) (hl2:base.IsList l2 ys) (hK:∀h x,x∈L->(∀b ob,base.get? b=some ob->h.get? b=some ob)->knd.is h x.1 x.2.1)
  (kp:∀b ob,base.get? b=some ob->s^^^b=some ob) (z:IsZip s.heap (n+4) (n+2) (n+3) .none) (hTI:IsPair s.heap (n+2) (.ref n) (.ref (n+1))) (hTO:IsPair s.heap (n+3) .none .none) (h1:s.heap.IsListIter n l1 0) (h2:s.heap.IsListIter (n+1) l2 0)
  (h:∀(h':Heap) (tk:Nat),h'.DictOfH knd s⁻¹ L->(∀b ob,base.get? b=some ob->h'.get? b=some ob)->Q (.ref s⁻¹) { s with heap:=h',toks:=tk}) :
  ∎ (call (.type "dict") [.ref (n+4)]) Q E s:=by
 show callType_codes (Q₁:=λobj s₁=>obj=.ref s⁻¹/\s₁=(s•s.heap.push { cls:=.type "dict",data:=.dict #[]})) PySem.F.kt_called_dict (Ø _) PySem.F.entry_dict_init (kt_code_dict_new _ ⟨rfl,rfl⟩) ?_;rintro obj s₁ ⟨rfl,rfl⟩;let up:∀{c:Nat}{o:Obj},s^^^c=some o->(s.heap.push { cls:=.type "dict",data:=.dict #[]}).get? c=some o:=λe=>bL _ e;let hTd:Shared.TypeIs (s•s.heap.push { cls:=.type "dict",data:=.dict #[]}) (.ref s⁻¹) "dict" :=⟨_,b7 _ rfl,rfl⟩;let z1:IsZip (s.heap.push { cls:=.type "dict",data:=.dict #[]}) (n+4) (n+2) (n+3) .none:=up z;let hTz:Shared.TypeIs (s•s.heap.push { cls:=.type "dict",data:=.dict #[]}) (.ref (n+4)) "zip" :=⟨_,z1,rfl⟩;show⟨hTd,Þ _ _,?_⟩;unfold Builtin.«dict.__init__»;show M ?_;unfold Builtin.Dict.selfAndRest;show M (Cm hTd ?_);show wpAny _ _ (pure (s⁻¹,[Value.ref (n+4)])) _ _ _;show ao ?_;show wpAny _ _ (Builtin.Dict.updateFrom "dict.__init__" s⁻¹ (.ref (n+4)) [] .none) _ _ _;unfold Builtin.Dict.updateFrom;show M (rN hTz ?_);rw[aB ()];show M (a0X z1 (by simp[hh]) λg1 tk1 k1=>?_);simp only[Option.isNone_none,if_true];show M (jY ?_);let nz:n+4<s⁻¹:=bf z;let z2:IsZip g1 (n+4) (n+2) (n+3) .none:=k1 _ _ z1;let gd:g1.get? s⁻¹=some { cls:=.type "dict",data:=.dict #[]}:=k1 _ _ (b7 _ Z);let dl:s⁻¹<g1.objs.size:=bf gd;show M (Uk (s:={ s with heap:=g1,toks:=tk1}) z2 (ao ⟨jR Dy.j7 _,a6f (knd:=knd) (n:=n) (d:=s⁻¹) (base:=base) (xs:=xs) (ys:=ys) (by simp[hh]) hu q1 q2 nz hb L nd hz hxs hX hl1 hl2 hK L.length 0 _ _ _ () (cW _) (λb ob q=>k1 _ _ (up (kp b ob q))) dl (.inl ⟨Z,z2,_,_,k1 _ _ (up hTO)⟩) (k1 _ _ (up hTI)) (h1.at λo q=>k1 _ _ (up q)) (h2.at λo q=>k1 _ _ (up q)) ?_ ?_⟩))
 ·rw[Nh];show⟨_,#[],_,gd,⟨Z,Z,Z⟩,Z,Z,λx hx=>absurd hx (by simp),vC⟩
 ·intro g2 tk2 hD kb;show⟨Z,h g2 tk2 hD kb⟩
end
end Zd
namespace L2
open PyProof.Rows Bg
def V2:bootBuiltins "dict" = some (.type "dict"):=by decide
def KyL(H:Hp)(v:V)(k:aS):Prop:=∃p,v=.ref p/\H p= ~~~(k.map kV)
def a3Y(ta:TA):TE:=λσ H Q=>ta σ H λvs H1=>∃(a b:Addr) (xs ys:af) (ks:List (aS)),vs=[.ref a,.ref b]/\H1 a=↥xs/\H1 b=↥ys/\Paired (KyL H1) xs ks/\ks.length=ys.length/\ks.Nodup/\ks.length<=5000/\∀p H',iD H1 p (.dT (ks.zip ys)) H'->Q (.ref p) H'
def a3Z{P:Program}{w:World}{H:Hp}{h:Heap}(hok:xQ P w H h):∀{xs ys:af}{ks:List (aS)}{us vs:aw},Paired (KyL H) xs ks->cJ xs us->cJ ys vs->ks.length=ys.length->
  ∃L:List (aS×Addr×Value),KT H (ks.zip ys) L/\L.map (·.1)=ks/\us=L.map (λx=>Value.ref x.2.1)/\vs=L.map (λx=>x.2.2):=by
 intro xs ys ks us vs hp
 induction hp generalizing ys us vs with
 |nil =>
  intro hu hv hl;cases hu;cases ys with
  |nil=>cases hv;show⟨[],.nil,Z,Z,Z⟩
  |cons=>cases hl
 | @cons x k xs ks a t ih =>
  intro hu hv hl;cases hu with
  | @cons _ u _ us ru rus =>
   cases hv with
   |nil=>cases hl
   | @cons y v _ vs rv rvs =>
    let⟨L,kt,e1,e2,e3⟩:=ih rus rvs (Nat.succ.inj hl);let⟨p,rfl,hp⟩:=a;obtain rfl:u=Value.ref p:=ru;show⟨(k,p,v)::L,.cons ⟨Z,hp,rv⟩ kt,(),(),()⟩
section
variable{X:Cx}
def ĭ{l m:Expr}{ta:TA}{p p2 pos pos2:Pos}(cm:X.calm=true)(hu:X.A.units+2<cLine)(hgd:Gl X "dict")(hmd:X.mg "dict" = none)(hg:Gl X "zip")(hm:X.mg "zip" = none)(ha:PA X [l,m] ta)
  (hs:@&(starEach [l,m] X.env=[(false,eval l X.env),(false,eval m X.env)])) (hs2:@&(starEach [m] X.env=[(false,eval m X.env)]))
  (hs3:@&(starEach [Expr.Call (.Name "zip" p2) [l,m] [] pos2] X.env=[(false,eval (.Call (.Name "zip" p2) [l,m] [] pos2) X.env)])) :
  PE X (.Call (.Name "dict" p) [.Call (.Name "zip" p2) [l,m] [] pos2] [] pos) (a3Y ta):=by
 intro Y s σ H Q I h;show vy (um I hgd hmd V2 ?_);show wH ?_ (by rw[hs3];rfl) (by rfl);rw[hs3];show wpAny _ _ (spliced [(false,eval (.Call (.Name "zip" p2) [l,m] [] pos2) X.env)]) _ _ _;show Calls.spliced_cons (vy (um I hg hm boot_zip ?_));show wH (jC (ha pos2 Y s σ H _ I h) λus s1 ⟨vs,H1,I1,r1,q1⟩=>?_) (by rw[hs,hs2]) (by rw[hs2];rfl);let⟨a,b,xs,ys,ks,e,hA,hB,pk,lk,nd,l5,q⟩:=q1;subst e;let⟨u1,u2,rfl,r1,r2⟩:=vals2 r1;cases r1;cases r2;let⟨z1,a4a,n1,rv1,o1⟩:=(show fC X.prog X.w H1 s1.heap a (.lst xs)from I1.hok a _ hA);let⟨z2,its2,n2,rv2,o2⟩:=(show fC X.prog X.w H1 s1.heap b (.lst ys)from I1.hok b _ hB);let⟨L,kt,e1,rfl,rfl⟩:=a3Z I1.hok pk rv1 rv2 lk;let L1:s1.heap.IsList a (L.map λx=>Value.ref x.2.1).toArray:=⟨_,o1,Z,_,Z⟩;let L2':s1.heap.IsList b (L.map λx=>x.2.2).toArray:=⟨_,o2,Z,_,Z⟩;let la:a<s1⁻¹:=bf o1;let lb:b<s1⁻¹:=bf o2;let lL:L.length=ks.length:=()
 show call_zip_2 L1 L2' λh' hz hTI hTO h1 h2 hsz hk=>Calls.spliced_nil ?_;let hr:(tupleKind (fH X.prog X.w)).room X.A.in1.in1:=hu;show Zd.a3X (s:=(s1•h')) (knd:=tupleKind (fH X.prog X.w)) (n:=s1⁻¹) (base:=s1.heap) (L:=L) (I1.ok.hd cm) hr la lb rfl (by rw[e1];show nd) (by rw[gM];omega) (by simp) (λi x hx=>?_) L1 L2' (λg x hx kb=>?_) hk hz hTI hTO h1 h2 λg tk dd kb=>?_
 ·rw[Tq,Tq,cI,cI,hx];show⟨Z,Z⟩
 ·let⟨i,hi⟩:=Tp.mp hx;let⟨kv,hkv,a1,a2,a3⟩:=cP kt hi;let⟨o,bR,n,g1,g2,g3,g4⟩:=yW I1.hok a2;rw[<-a1];show⟨o,bR,n,kb _ _ g1,g2,g3,g4⟩
 ·let lt:s1⁻¹<=h'.objs.size:=by rw[hsz];show GJ _ _
  let hf:H1 h'.objs.size=none:=I1.hok.fresh lt;let hs:(h'.objs.size==sysModules)=false:=qz.mpr (Ne.symm (bY (iZ I1.big lt)));show⟨.ref h'.objs.size,_,I1.laid (t':=tk) (o:=.dT (ks.zip ys)) (λc o e=>kb c o e) lt (ĩ () hs (kt.keeps λc zs ec=>?_) dd),Z,q _ _ (iD.oh hf)⟩;rw[aZ (dO ec hf)];show ec
end
end L2
namespace L2
open PySem.Calls PyProof.Rows
structure a4b(K:aJ)(x qual:Str)(st:Stmt)(f:Addr)(fd:FuncData):Prop where
 ex:∃(oc:Value) (od:Option Addr) (dV kV doc pm:Value) (an:Option Addr) (dX ct:Value) (osl:Array (Option Value)),
  fd=fnOf x qual (gO st) (gj st) (aG st) dV kV doc pm an dX ct/\K.lookup f=some ⟨oc,od,.func fd,osl⟩/\codeIn K dX qual=true
 kp:keepIn K (.ref f)=true
section
variable{P:Program}{w:World}{K:aJ}{mg:Str->Option Value}{base:Heap}{x qual:Str}{st:Stmt}{f:Addr}{fd:FuncData}{N ps:ag}{k:Nat}{sp:Sp}
def a4b.ok(F:a4b K x qual st f fd)(S:bN N ps (aG st))(len:∀vs H Q E,sp vs H Q E->vs.length=ps.length)
  (hb:∀(dX:Value) (A:Around) (outer:List Env) (s:Shared) (H:Hp) (vs:af) (Q:VK) (E:XK),qO k (A.deeper (envOfC qual (aG st) s⁻¹ f dX))->sp vs H Q E->
   ∃t,Qf (Vf gk P w K mg base N qual (aG st) f dX A outer s H E).nox (gj st) t/\t { nx:=λ_ H'=>Q .non H',rt:=Q} (start N vs) H):⋯ (k+1) f fd ps sp:=by
 let⟨_,_,_,_,_,_,_,dX,_,_,rfl,lk,hcd⟩:=F.ex;show a2q lk hcd S len λA outer s H vs Q E hr hsp=>(hb dX A outer s H vs Q E hr hsp).imp λt h=>⟨h.1.nox,h.2⟩
end
structure DmD(K:aJ)(C:Addr)(m qual:Str)(st:Stmt)(ps:ag) where
 f:Addr
 fd:FuncData
 F:a4b K m qual st f fd
 b:Binds K fd ps []
 b1:Binds K fd ps [.none]
 mt:Meth K C m f
def a4c{K:aJ}{C:Addr}{m qual:Str}{st:Stmt}{ps:ag}{f T:Addr}{oc oT:Value}{od an dT:Option Addr}{osl sT:Array (Option Value)}{kV doc pm dX ct:Value}{nT:Nat}
  (a:findIn K (.ref C) m=some ⇑f) (i:isFn K (.ref f)=true)
  (l:K.lookup f=some ⟨oc,od,.func (fnOf m qual (gO st) (gj st) (aG st) (.ref T) kV doc pm an dX ct),osl⟩) (c:codeIn K dX qual=true) (k:keepIn K (.ref f)=true)
  (lT:K.lookup T=some ⟨oT,dT,.seq #[.none] nT,sT⟩)
  (h:∀(kV doc pm:Value) (an:Option Addr) (dX ct:Value) (us:aw),us.length=ps.length->∃g,bindArgs (fnOf m qual (gO st) (gj st) (aG st) (.ref T) kV doc pm an dX ct) ⟨us,[]⟩=seqItems? (.ref T) >>= g/\g (some #[.none])=pure (ps.zip us))
  (h1:∀(kV doc pm:Value) (an:Option Addr) (dX ct:Value) (us:aw),us.length+1=ps.length->∃g,bindArgs (fnOf m qual (gO st) (gj st) (aG st) (.ref T) kV doc pm an dX ct) ⟨us,[]⟩=seqItems? (.ref T) >>= g/\g (some #[.none])=pure (ps.zip (us++[.none]))):DmD K C m qual st ps :=
 {
  f:=f,fd:=_,F:=⟨⟨_,_,_,_,_,_,_,_,_,_,Z,l,c⟩,k⟩,
  b:=λs us X hl=>by
   rw[jE]at hl ⊢
   let⟨g,e1,e2⟩:=h kV doc pm an dX ct us hl
   show BindsTo.of_defaults Z (X _ _ lT) Z e1 e2,
  b1:=λs us X hl=>by
   let⟨g,e1,e2⟩:=h1 kV doc pm an dX ct us (by rw[bO]at hl;show hl)
   show BindsTo.of_defaults Z (X _ _ lT) Z e1 e2,
  mt:=⟨a,i,k⟩}
end L2
namespace Dy
open PyProof.Rows
section
variable{prog:Program}{w:World}{A:Around}{E:∅}{s:Shared}{κ:Type} [DecidableEq κ] {knd:HeapKind prog w κ}
def QZ{d a:Addr}{xs:List (κ×Addr×Value)}{k:κ}{v:Value}{Q:∅}(hu:knd.room A)(hkey:knd.is s.heap k a)(hm:s.heap.DictOfH knd d xs)(hz:xs.length<=sizeLine)
  (old:∀p tk,atKey xs k=some p->Q p.2 { s with toks:=tk}) (new:∀h' tk,atKey xs k=none->h'.DictOfH knd d (xs++[(k,a,v)])->Heap.SameBut d s.heap h'->Q v { s with heap:=h',toks:=tk}) :
  ∎ (dictSetDefault d (.ref a) v) Q E s:=by
 let⟨o,es,ep,ho,hc,hd,he,his,hn⟩:=hm;let hes:es.size<=sizeLine:=by let e:=Ut he;omega
 unfold dictSetDefault;try with_reducible show dY ?_
 show M (knd.pyHash hu hkey ?_);show M (wpAny_dictFind_heap (s:={ s with toks:=s.toks+knd.draws k}) hu hkey ho hd he his hn ?_ ?_)
 ·intro hno;let none_:=atKey_none_of_get hno;let hnot:k∉xs.map (·.1):=not_mem_keys_of_get hno;show M (jY (M (wpAny_updateDictKeys (hz:=hes) (s:={ s with toks:=s.toks+knd.draws k}) ho hd (ao (new _ _ none_ ⟨_,_,ep+1,yH _ ho (Obj.isFreed_of_dict (Obj.data_mapDictKeys hd _)),hc.mapDictKeys _,Obj.data_mapDictKeys hd _,?_,?_,?_⟩ (qD ..))))))
  ·simp[he,entryOfKey]
  ·intro x hx;rcases cH.mp hx with hx|hx
   ·show knd.keeps (his x hx) ho hd (qD ..)
   ·rw[bG.mp hx];show knd.keeps hkey ho hd (qD ..)
  ·rw[dz];show uc.mpr ⟨hn,tR _ _,λx hx y hy e=>hnot (by rw[<-show y=k from bG.mp hy,<-e];show hx)⟩
 ·intro j q hj;let hej:es[j]?=some (entryOfKey knd (k,q)):=by rw[entry_at he j,hj];rfl
  show M (rJ (s:={ s with toks:=s.toks+knd.draws k}) ho hd ?_);rw[hej];show M (jY (ao (old q _ (atKey_of_get hn hj))))
def Ds{d a:Addr}{k:κ}{v:Value}(hs:(d==sysModules)=false):MeetsIn prog w (Builtin.«dict.setdefault» ⟨[.ref d,.ref a,v],[]⟩) (λA R s=>knd.room A.in1/\∃xs,knd.is s.heap k a/\s.heap.DictOfH knd d xs/\xs.length<=sizeLine/\
   (∀p tk,atKey xs k=some p->R (.ok (.ret p.2)) { s with toks:=tk})/\∀h' tk,atKey xs k=none->h'.DictOfH knd d (xs++[(k,a,v)])->Heap.SameBut d s.heap h'->R (.ok (.ret v)) { s with heap:=h',toks:=tk}) :=
 .of_wp λA R s h=>by
  let⟨hu,xs,hkey,hm,hz,old,new⟩:=h;let⟨o,es,ep,ho,hc,hd,he,his,hn⟩:=id hm;let hT:s.TypeIs (.ref d) "dict" :=⟨_,ho,hc.1⟩;unfold Builtin.«dict.setdefault»;show M ?_;unfold Builtin.Dict.keyAndDefault;show M (Cm hT ?_);show wpAny _ _ (pure (d,Value.ref a,some v)) _ _ s;show ao ?_;lk;rw[hs];simp only[Bool.false_eq_true,if_false];show M (QZ hu hkey hm hz (λp tk e=>ao ⟨_,Z,old p tk e⟩) λh' tk e hD sb=>ao ⟨_,Z,new h' tk e hD sb⟩)
end
end Dy
namespace L2
open PyProof.Rows Bg
section
variable{X:Cx}
inductive a6g(x:V)(vs:af)(H:Hp)(Q:VK):Prop
 |mk (a b:Addr) (k:aS) (J:List (aS×V)) (v:V) (_:x=.ref a) (_:vs=[.ref b,v]) (_:H b= ~~~(k.map kV)) (_:H a=some (.dT J)) (_:Q ((dG J k).getD v) H)
def a0Y(hu:X.A.units+1<cLine):PL X "dict.get" a6g:=by
 intro Y s σ H x xs v us Q I rx rs h;let⟨a,b,k,J,y,rfl,rfl,hb,e,q⟩:=h;obtain rfl:v=Value.ref a:=rx;let⟨u,u2,rfl,ru,Zi⟩:=vals2 rs;obtain rfl:u=Value.ref b:=ru;let⟨z,hd,xs,rel,dd⟩:=Ek I.hok e;show GZ Cp dd.typeIs Tf (S6 _ _ _) (meetsH_dict_get_default (tupleKind (fH X.prog X.w)) a b hd u2) ⟨yJ hu,k,xs,yW I.hok hb,dd,⟨_,H,I.tok _,(rel.val k).getD Zi,q⟩⟩
end
end L2
namespace Dk
open PyProof.Rows
variable{b:Bool}
noncomputable def a6h(b:Bool)(v:Value):Bool:=match v with
 |.bool c=>c==b
 |_=>false
def oY{v:Value}(h:a6h b v=true):v=.bool b:=by
 cases v with
 |bool c=>show congrArg Value.bool (eq_of_beq h)
 |_=>cases h
section
variable{prog:Program}{w:World}{A:Around}{E:∅}{s:Shared}
def Zj{Q : Int → Shared → Prop}(h : Q (if b then 1 else 0) { s with toks := s.toks + 1 }) : ∎ (pyHash (.bool b)) Q E s := by
  unfold pyHash;let hv : [Value.bool b].any Value.onHeap = false := rfl;show M ?_;rw [cRoomFor, aA ()]; show ao ?_;show M (GP (CG s b) F.slot_bool_hash.lookup ?_);show wpAny _ _ (if (some (Value.builtin "int.__hash__") == some Value.none) = true then _ else _) Q E s;rw [aA ()];show M (GP (CG s b) F.slot_bool_hash.lookup ?_);show wpAny _ _ (callSpecialIfBoundUnlessNone? (.bool b) "__hash__" _ >>= _) Q E s;cases b
  · show M (Ì (CG s false) M7
      (gD M7 (CG s false) entry_int_hash
        (show wpAny _ _ (do ret (← mkInt 0)) _ _ s from wpAny_ret_mkInt ?_) (args_int_hash _)))
    show ao h
  · show M (Ì (CG s true) M7
      (gD M7 (CG s true) entry_int_hash
        (show wpAny _ _ (do ret (← mkInt 1)) _ _ s from wpAny_ret_mkInt ?_) (args_int_hash _)))
    show ao h
def Į{a:Bool}{Q:Bool->Shared->Prop}(h:Q (decide (a=b)) s):∎ (eqBool (.bool a) (.bool b)) Q E s:=by
 unfold eqBool;show wpAny _ _ (if(Value.bool a==Value.bool b)=true then _ else _) Q E s;by_cases hab:(Value.bool a==Value.bool b)=true
 ·rw[aB hab];let e:a=b:=()
  subst e;show M (jY (ao (by simpa using h)))
 ·rw[aA hab];show M (eq_bool (Cz ?_));grind
end
def HX(prog:Program)(w:World):KeyKind prog w Bool where
 is:=a6h
 hash:=λb=>if b then 1 else 0
 inj:=λv a b h h'=>by
  let e:=oY h
  let e':=oY h'
  rw[e]at e'
  injection e'
 byValue:=λk v h=>by rw[oY h];rfl
 pyHash:=λhv h=>by rw[oY hv];show Zj h
 eqBool:=λhu hv h=>by rw[oY hu,oY hv];show Į h
 «strs» := λk x t v h=>by cases h
end Dk
namespace L2
open PyProof.Rows Bg
section
variable{P:Program}{w:World}{κ:Type} [DecidableEq κ]
inductive Zk(knd:KeyKind P w κ)(H:Hp)(b:Addr)(k:List κ):Prop
 |mk (vs:_) (_:H b= ~~~vs) (_:Paired (λv x=>∀u,cX v u->knd.is x u=true) vs k)
def Zk.same{knd:KeyKind P w κ}{H H':Hp}{b:Addr}{k:List κ}(e:∀c ys,H c= ~~~ys->H' c= ~~~ys)(h:Zk knd H b k):Zk knd H' b k:=by
 let⟨vs,h1,h2⟩:=h;show⟨vs,e _ _ h1,h2⟩
def a4d{knd:KeyKind P w κ}{vs:af}{k:List κ}{us:aw}(p:Paired (λv x=>∀u,cX v u->knd.is x u=true) vs k)(q:cJ vs us):ItemsAre knd k us:=by
 induction p generalizing us with
 |nil=>cases q;show .nil
 |cons h _ ih =>
  cases q with
  |cons r s=>show .cons (h _ r) (ih s)
def Oq{knd:KeyKind P w κ}{H:Hp}{h:Heap}{b:Addr}{k:List κ}(ok:xQ P w H h)(e:Zk knd H b k):(tupleKind knd).is h k b:=by
 let⟨vs,e1,e2⟩:=e;let⟨_,bR,r,o,h1,h2,n,h3⟩:=(show fC P w H h b (.tup vs)from ok b _ e1);show⟨o,bR.toArray,n,h1,h2,h3,by simpa using a4d e2 r⟩
def į(knd:KeyKind P w κ)(a:Addr)(xs:List (List κ×Addr×Value)):Heap->Prop:=λh=>(a==sysModules)=false/\∃o es ep,h.get? a=some o/\o.ExactDict/\o.data=.dict es ep/\es.toList=xs.map (entryOfKey (tupleKind knd))/\(xs.map (·.1)).Nodup
def DX(knd:KeyKind P w κ)(H:Hp)(a:Addr)(J:List (List κ×V)):Prop:=J.length<=5000/\((J=[]/\H a=some (.dT []))\/∃xs:List (List κ×Addr×Value),H a=some (.ext (į knd a xs))/\Paired (λp q=>p.1=q.1/\Zk knd H q.2.1 p.1/\cX p.2 q.2.2) J xs)
def DX.same{knd:KeyKind P w κ}{H H':Hp}{a:Addr}{J:List (List κ×V)}(e:aL H H')(h:DX knd H a J):DX knd H' a J:=by
 obtain⟨z,h|⟨xs,h1,h2⟩⟩:=h
 ·show⟨z,.inl ⟨h.1,e _ _ h.2⟩⟩
 ·show⟨z,.inr ⟨xs,e _ _ h1,Paired.cD h2 λ_ _ ⟨a,b,c⟩=>⟨a,b.same λ_ _ q=>e _ _ q,c⟩⟩⟩
def DX.a2R{knd:KeyKind P w κ}{H:Hp}{a:Addr}{J:List (List κ×V)}(h:DX knd H a J){ys:af}:H a≠~~~ys:=λe=>by
 obtain⟨z,h|⟨xs,h1,h2⟩⟩:=h
 ·grind
 grind
def DX.new{knd:KeyKind P w κ}{H:Hp}{a:Addr}(h:H a=some (.dT [])):DX knd H a []:=⟨cW _,.inl ⟨Z,h⟩⟩
def İ{knd:KeyKind P w κ}{H:Hp}{h:Heap}{a:Addr}{J:List (List κ×V)}(ok:xQ P w H h)(d:DX knd H a J):(a==sysModules)=false/\∃xs,Paired (λp q=>p.1=q.1/\Zk knd H q.2.1 p.1/\cX p.2 q.2.2) J xs/\h.DictOfH (tupleKind knd) a xs:=by
 obtain⟨z,⟨rfl,h1⟩|⟨xs,h1,h2⟩⟩:=d
 ·let⟨_,hs,xs,r,o,es,ep,e1,e2,e3,e4,e5⟩:=(show fC P w H h a (.dT [])from ok a _ h1);cases r;show⟨hs,[],.nil,o,es,ep,e1,e2,e3,e4,(λx hx=>absurd hx eO),vC⟩
 ·let⟨⟨hs,o,es,ep,e1,e2,e3,e4,e5⟩,_⟩:=(show fC P w H h a (.ext (į knd a xs))from ok a _ h1);show⟨hs,xs,h2,o,es,ep,e1,e2,e3,e4,?_,e5⟩;let all:∀{l:List (List κ×V)}{m:List (List κ×Addr×Value)},Paired (λp q=>p.1=q.1/\Zk knd H q.2.1 p.1/\cX p.2 q.2.2) l m->∀x∈m,(tupleKind knd).is h x.1 x.2.1:=by
   intro l m q
   induction q with
   |nil=>grind
   |cons z _ ih =>
    intro x hx;rcases bQ.mp hx with rfl|hx
    ·rw[<-z.1];show Oq ok z.2.1
    ·show ih x hx
  show all h2
def a0Z{knd:KeyKind P w κ}{H':Hp}{h':Heap}{a:Addr}{xs:List (List κ×Addr×Value)}(hs:(a==sysModules)=false)(dd:h'.DictOfH (tupleKind knd) a xs):fC P w H' h' a (.ext (į knd a xs)):=by
 let⟨o,es,ep,h1,h2,h3,h4,_,h5⟩:=dd;show⟨⟨hs,o,es,ep,h1,h2,h3,h4,h5⟩,⟨o,h1⟩,λg1 g2 q k=>?_⟩;let⟨hs,o,es,ep,h1,h2,h3,h4,h5⟩:=q;show⟨hs,o,es,ep,k _ h1,h2,h3,h4,h5⟩
def a6i{knd:KeyKind P w κ}{H:Hp}(k:List κ){J:List (List κ×V)}{xs:List (List κ×Addr×Value)}(h:Paired (λp q=>p.1=q.1/\Zk knd H q.2.1 p.1/\cX p.2 q.2.2) J xs):oR (dG J k) ((atKey xs k).map (·.2)):=by
 induction h with
 |nil=>show mQ
 | @cons p q J xs h t ih =>
  let⟨k1,v1⟩:=p;let⟨k2,a2,u2⟩:=q;let⟨e,_,r⟩:=h;let e:k1=k2:=e;subst e;unfold dG atKey at ih ⊢;by_cases c:k1=k
  ·rw[rH (),rH ()];show r
  ·rw[tV (by simpa using c),tV (by simpa using c)];show ih
end
section
variable{X:Cx}{κ:Type} [DecidableEq κ]
inductive ı{P:Program}{w:World}(knd:KeyKind P w κ)(x:V)(vs:af)(H:Hp)(Q:VK):Prop
 |mk (a b:Addr) (k:List κ) (J:List (List κ×V)) (v:V) (_:x=.ref a) (_:vs=[.ref b,v]) (_:Zk knd H b k) (_:DX knd H a J) (_:J.length<=4000) (_:(∀y,dG J k=some y->Q y H)) (_:(dG J k=none->∀H',(∀c,c≠a->H' c=H c)->DX knd H' a (J++[(k,v)])->Q v H'))
def HY(knd:KeyKind X.prog X.w κ)(hu:X.A.units+1<cLine):PL X "dict.setdefault" (ı knd):=by
 intro Y s σ H x xs v us Q I rx rs h;let⟨a,b,k,J,y,rfl,rfl,hb,e,l5,old,new⟩:=h;obtain rfl:v=Value.ref a:=rx;let⟨u,u2,rfl,ru,Zi⟩:=vals2 rs;obtain rfl:u=Value.ref b:=ru;let⟨hd,xs,rel,dd⟩:=İ I.hok e;let lx:xs.length=J.length:=(aW rel).symm;let rv:=a6i k rel;let hr:(tupleKind knd).room X.A.in1:=yJ hu;show GZ LC dd.typeIs Ó (Ð _ _ _) (Dy.Ds (knd:=tupleKind knd) (k:=k) hd) ⟨hr,xs,Oq I.hok hb,dd,by rw[gM];omega,λp tk ep=>?_,λh' tk en Ω hs=>?_⟩
 ·let ev:(atKey xs k).map (·.2)=some p.2:=by rw[ep];rfl
  cases c:dG J k with
  |none =>
   rw[c]at rv;let:=oR.none_of rv;grind
  |some y0 =>
   rw[c]at rv;let⟨w',hw,Vj⟩:=oR.some_of rv;rw[ev]at hw;cases hw;show⟨y0,H,I.tok tk,Vj,old y0 c⟩
 ·let he:∃q,h'.get? a=some q:=by
   let⟨q,_,_,hq,_⟩:=Ω;show⟨q,hq⟩
  let cn:dG J k=none:=by
   cases c:dG J k with
   |none=>rfl
   |some y0 =>
    rw[c]at rv;let⟨w',hw,_⟩:=oR.some_of rv;grind
  let mu:Mut (H a):=by
   obtain⟨_,h|⟨xs,h1,_⟩⟩:=e
   ·rw[h.2];show mQ
   ·rw[h1];show mQ
  let nt:=λys=>e.a2R (ys:=ys);let keep:∀c ys,H c= ~~~ys->cY H a (.ext (į knd a (xs++[(k,b,u2)]))) c= ~~~ys:=λc ys hc=>by
   rw[aZ (λz=>nt ys ())];show hc
  show⟨y,_,FZ I mu hs he (a0Z hd Ω),Zi,new cn _ (λc hc=>aZ hc) ⟨(),.inr ⟨_,dN,?_⟩⟩⟩;let go:∀{ks:List (List κ×V)}{ys:List (List κ×Addr×Value)},Paired (λp q=>p.1=q.1/\Zk knd H q.2.1 p.1/\cX p.2 q.2.2) ks ys->Paired (λp q=>p.1=q.1/\Zk knd (cY H a (.ext (į knd a (xs++[(k,b,u2)])))) q.2.1 p.1/\cX p.2 q.2.2) (ks++[(k,y)]) (ys++[(k,b,u2)]):=λ{ks ys} r=>by
   induction r with
   |nil=>show .cons ⟨Z,hb.same keep,Zi⟩ .nil
   |cons a _ ih=>show .cons ⟨a.1,a.2.1.same keep,a.2.2⟩ ih
  show go rel
inductive a6j{P:Program}{w:World}(knd:KeyKind P w κ)(x:V)(vs:af)(H:Hp)(Q:VK):Prop
 |mk (a b:Addr) (k:List κ) (J:List (List κ×V)) (v:V) (_:x=.ref a) (_:vs=[.ref b,v]) (_:Zk knd H b k) (_:DX knd H a J) (_:Q ((dG J k).getD v) H)
def a00(knd:KeyKind X.prog X.w κ)(hu:X.A.units+1<cLine):PL X "dict.get" (a6j knd):=by
 intro Y s σ H x xs v us Q I rx rs h;let⟨a,b,k,J,y,rfl,rfl,hb,e,q⟩:=h;obtain rfl:v=Value.ref a:=rx;let⟨u,u2,rfl,ru,Zi⟩:=vals2 rs;obtain rfl:u=Value.ref b:=ru;let⟨hd,xs,rel,dd⟩:=İ I.hok e;show GZ Cp dd.typeIs Tf (S6 _ _ _) (meetsH_dict_get_default (tupleKind knd) a b hd u2) ⟨yJ hu,k,xs,Oq I.hok hb,dd,⟨_,H,I.tok _,(a6i k rel).getD Zi,q⟩⟩
def tBX{P:Program}{w:World}(knd:KeyKind P w κ)(r:V->af->Hp->VK->Prop)(to:TE)(t:TA):TE:=λσ H Q=>to σ H λx H1=>(∃a J,x=.ref a/\DX knd H1 a J)/\t σ H1 λxs H2=>r x xs H2 Q
def Ĵ{o e:Expr}{es:ba}{to:TE}{t:TA}{name:Str}{apos cpos:Pos}{id:String}{r:V->af->Hp->VK->Prop}(knd:KeyKind X.prog X.w κ)(pa:PlainAttrs "dict")(slot:Slot "dict" name id)(hty:typeOf (.builtin id)=pure (.type "method_descriptor"))(hm:PL X id r)(ho:PE X o to)(ha:PA X (e::es) t)
  (hbase:@&(attributeBase o name X.env (eval o X.env)=eval o X.env))
  (hfew:@&(((backTo cpos (starEach (e::es) X.env)).all (λx=>!x.1)&&(backToKw cpos (keywordEach [] X.env)).all (λx=>x.1.isSome)
   && decide ((e::es).length+([]:List Keyword).length+(if([]:List Keyword).isEmpty then 0 else 1)<30))=true))
  (hline:@&((apos.endLine==cpos.line)=true)) (hs:@&(starEach (e::es) X.env=(false,eval e X.env)::starEach es X.env)) (hplain:@&((backTo cpos (starEach es X.env)).any (·.1)=false)) :
  PE X (.Call (.Attribute o name apos) (e::es) [] cpos) (tBX knd r to t):=by
 intro Y s σ H Q I h;show wpAny_Call_method_late hbase hfew hline Z (jC (ho Y s σ H _ I h) λv s1 ⟨x,H1,I1,r1,⟨a,J,ex,dx⟩,q1⟩=>?_);subst ex;obtain rfl:v=Value.ref a:=r1;let⟨_,xs,_,dd⟩:=İ I1.hok dx;show⟨"dict",id,pa,slot,hty,dd.typeIs,λb eb=>?_,?_⟩
 ·injection eb with eb
  subst eb;let⟨o,_,_,h1,h2,_⟩:=dd;show⟨o,h1,h2.2.1⟩
 let hA:=ha cpos Y s1 σ H1 _ I1 q1;rw[hs]at hA ⊢;show S9 (by show(false||(backTo cpos (starEach es X.env)).any (·.1))=false;rw[hplain]<;>rfl) (Calls.evalArgs_plain ?_);show jC hA λus s2 ⟨vs,H2,I2,r2,q2⟩=>hm Y s2 σ H2 (.ref a) vs _ us Q I2 Z r2 q2
end
end L2
namespace Di
open PyProof.Rows
variable{o:Obj}{es:Array DictEntry}{ep:Nat}
variable{prog:Program}{w:World}{A:Around}{E:∅}{s:Shared}
abbrev vO(d:Addr):Obj:={ cls:=.type "dict_items",data:=.fields #[.ref d]}
def ĵ{d:Addr}{Q:∅}(hs:(d==sysModules)=false)(ho:s^^^d=some o)(hx:o.ExactDict)
  (h:Q (.ref s⁻¹) (s•s.heap.push (vO d))):∎ (call (.builtin "dict.items") [.ref d]) Q E s:=by
 let hT:s.TypeIs (.ref d) "dict" :=⟨_,ho,hx.1⟩;show gD F.slot_dict_items hT F.entry_dict_items ?_ (F.args_dict_items_1 _);unfold Builtin.«dict.items»;show M ?_;unfold Builtin.Dict.noArgs;show M (Cm hT (ao ?_));show M ?_;unfold Builtin.Dict.showsAll;show jF (L2.xg () (ao ?_));show M (jP (ao ⟨_,Z,h⟩))
def Ay{v d:Addr}{Q:∅}(hv:s^^^v=some (vO d))(ho:s^^^d=some o)(hd:o.data=.dict es ep)
  (h:∀h',IsItemIter h' s⁻¹ d 0 es.size ep .none .none->(∀b ob,s^^^b=some ob->h'.get? b=some ob)->Q (.ref s⁻¹) (s•h')):∎ (pyIter (.ref v)) Q E s:=by
 let hT:s.TypeIs (.ref v) "dict_items" :=⟨_,hv,Z⟩;show Mz hT F.slot_dict_items_iter (gD F.slot_dict_items_iter hT F.entry_dict_items_iter ?_ (F.args_dict_items_iter_1 _));unfold Builtin.«dict_items.__iter__»;show M (ao ?_);show M ?_;unfold Builtin.Dict_items.dictOf;show M (gF hv Z (x:=.ref d) Z (ao ?_));show M ?_;unfold Builtin.Dict_items.newIterator;show M (rJ ho hd ?_);show M (wR ho hd ?_);let own:Builtin.Dict_items.ownsTuple "dict_itemiterator" = true:=()
 simp only[own,if_true];show jP ?_ (by simp only[sizeOk,sizeLine_eq,Builtin.Dict_items.ownedTupleFields,List.size_toArray,List.length_append,List.length_cons,List.length_nil];omega);show ao ⟨_,Z,"dict_itemiterator",_,⟨_,b7 _ Z,Z⟩,F.slot_dict_itemiterator_next.lookup,h _ (b7 _ Z) λb ob e=>bL _ e⟩
def item_at{it d:Addr}{i:Nat}{e:DictEntry}{ok ov:Value}{Q:Option Value->Shared->Prop}(ho:s^^^d=some o)(hd:o.data=.dict es ep)(hit:IsItemIter s.heap it d i es.size ep ok ov)(hx:es[i]?=some e)
  (h:∀h',IsItemIterOut h' it d (i+1) es.size ep e.key e.val s⁻¹->h'.get? s⁻¹=some { cls:=.type "tuple",data:=.seq #[e.key,e.val]}->h'.objs.size=s⁻¹+1->
   (∀b ob,b≠it->s^^^b=some ob->h'.get? b=some ob)->Q ⇑(s⁻¹) (s•h')):∎ (pyNext (.ref it)) Q E s:=by
 let hT:s.TypeIs (.ref it) "dict_itemiterator" :=⟨_,hit,Z⟩;let own:Builtin.Dict_items.ownsTuple "dict_itemiterator" = true:=()
 unfold pyNext;show M (ug (m9 (name:=Str.ofString "__next__") hT Ly (gD Ly hT Ñ ?_ (Ï _))));show M (ao ?_);show M ?_;show M ?_;show M (m:=typeNameOfWhole _) (Ls hT (ao ?_));show M (CJ hit Z ?_);rw[aB own];show wpAny _ _ (if(Value.ref d==Value.none)=true then _ else _) _ _ _;show jF (L2.xg (by simp) ?_);show M (m:=Builtin.Dict_items.addrOf _) (ao ?_);show M (rJ ho hd ?_);show jF (L2.xg (by simp) ?_);show M (m:=Builtin.Dict_items.addrOf _) (ao ?_);show M (wR ho hd ?_);show jF (L2.xg (by simp) (ao ?_));lk;let e1:(if(i:Int)<0 then none else es[(i:Int).toNat]?)=some e:=by
  rw[aA (),iG];show hx
 rw[e1];lk;show M (M (m:=typeNameOfWhole _) (Ls hT (ao (M (Tg hT ?_)))));show wpAny _ _ (setField (.ref it) 3 (rawInt ((i:Int)+1)) >>= _) _ _ _;show M (jX hit (by simp) λh1 he1 QC=>?_);let q1:((i+1:Nat):Int)=(i:Int)+1:=()
 let a6k:IsItemIter h1 it d (i+1) es.size ep ok ov:=by unfold IsItemIter;rw[q1];simpa [rawInt]using he1
 let hT1:Shared.TypeIs (s•h1) (.ref it) "dict_itemiterator" :=⟨_,a6k,rfl⟩;let z1:h1.objs.size=s⁻¹:=QC.1;let il:it<s⁻¹:=bf hit;show M (dY (M (Tg hT1 (M (Tg hT1 ?_)))));show wpAny _ _ (Builtin.Dict_items.pairFromOwner (.ref it) 6 e.key e.val) _ _ (s•h1);unfold Builtin.Dict_items.pairFromOwner;show M (Nf ?_);let he2:IsItemIter (h1.push { cls:=.type "tuple",data:=.seq #[e.key,e.val]}) it d (i+1) es.size ep ok ov:=bL _ a6k;let t2:(h1.push { cls:=.type "tuple",data:=.seq #[e.key,e.val]}).get? s⁻¹=some { cls:=.type "tuple",data:=.seq #[e.key,e.val]}:=by rw[<-z1];show b7 _ rfl
 let z2:(h1.push { cls:=.type "tuple",data:=.seq #[e.key,e.val]}).objs.size=s⁻¹+1:=by rw[oN,z1]
 let k2:∀b ob,b≠it->s^^^b=some ob->(h1.push { cls:=.type "tuple",data:=.seq #[e.key,e.val]}).get? b=some ob:=λb ob hb q=>bL _ (QC.extBut b ob hb q);rw[z1];generalize h1.push { cls:=.type "tuple",data:=.seq #[e.key,e.val]}=h2 at he2 t2 z2 k2;show M ?_;unfold Builtin.Dict_items.ownedTupleIsFree;show M (gF he2 Z (x:=.none) Z (ao ?_));simp only[if_true];show M (gF he2 Z (x:=ok) Z (M (gF he2 Z (x:=ov) Z ?_)));show M (jX he2 (by simp) λh3 he3 s3=>?_);let he3:IsItemIter h3 it d (i+1) es.size ep e.key ov:=he3;show M (jX he3 (by simp) λh4 he4 s4=>?_);let he4:IsItemIter h4 it d (i+1) es.size ep e.key e.val:=he4;show M (jX he4 (by simp) λh5 he5 s5=>?_);let he5:IsItemIterOut h5 it d (i+1) es.size ep e.key e.val s⁻¹:=he5;show M (jX he5 (by simp) λh6 he6 s6=>?_);let he6:IsItemIterOut h6 it d (i+1) es.size ep e.key e.val s⁻¹:=he6;let up:∀b ob,b≠it->h2.get? b=some ob->h6.get? b=some ob:=λb ob hb q=>s6.extBut b ob hb (s5.extBut b ob hb (s4.extBut b ob hb (s3.extBut b ob hb q)));show M (yP (ao (ao ⟨_,Z,ao (h h6 he6 (up _ _ (iJ il) t2) ?_ λb ob hb q=>up b ob hb (k2 b ob hb q))⟩)));show h6.objs.size=_;rw[s6.1,s5.1,s4.1,s3.1];show z2
def HJ{it d:Addr}{ok ov:Value}{Q:Option Value->Shared->Prop}(hh:A.handled=none)(ho:s^^^d=some o)(hd:o.data=.dict es ep)(hit:IsItemIter s.heap it d es.size es.size ep ok ov)
  (h:∀h',Heap.ExtBut it s.heap h'->Q none (s•h')):∎ (pyNext (.ref it)) Q E s:=by
 let hT:s.TypeIs (.ref it) "dict_itemiterator" :=⟨_,hit,Z⟩;let own:Builtin.Dict_items.ownsTuple "dict_itemiterator" = true:=()
 unfold pyNext;show M (ug (m9 (name:=Str.ofString "__next__") hT Ly (gD Ly hT Ñ ?_ (Ï _))));show M (ao ?_);show M ?_;show M ?_;show M (m:=typeNameOfWhole _) (Ls hT (ao ?_));show M (CJ hit Z ?_);rw[aB own];show wpAny _ _ (if(Value.ref d==Value.none)=true then _ else _) _ _ _;show jF (L2.xg (by simp) ?_);show M (m:=Builtin.Dict_items.addrOf _) (ao ?_);show M (rJ ho hd ?_);show jF (L2.xg (by simp) ?_);show M (m:=Builtin.Dict_items.addrOf _) (ao ?_);show M (wR ho hd ?_);show jF (L2.xg (by simp) (ao ?_));lk;let e1:(if(es.size:Int)<0 then none else es[(es.size:Int).toNat]?)=none:=by rw[aA (),iG];simp
 rw[e1];lk;show M (M (m:=typeNameOfWhole _) (Ls hT (ao ?_)));show wpAny _ _ (setField (.ref it) 2 .none >>= _) _ _ _;show M (jX hit (by simp) λh1 hI1 QC=>?_);show M ?_;simp only[newExc,newTuple];show M (jP ?_ (by size_fits));show M (m:=firstArgMember _ _) (Hg (a:=Value.none) (by first|rfl|(simp only[firstArgMember];rfl)) ?_);show jP ?_ (by size_fits);simp only[raiseNew];show M (Np ?_);rw[show A.in1.handled=none from hh];show M (ao (Nx ?_));show M (vB (U:="StopIteration") (T:="StopIteration") (b:=true) ⟨_,b7 _ Z,Z⟩ GR (ao (h _ ((QC.extBut.push _).push _))))
end Di
namespace L2
open PyProof.Rows Bg
variable{o:Obj}{u:HO}{as:aI}
noncomputable def XD(p d:Addr):HO:=.ext (λh=>h.get? p=some (Di.vO d))
noncomputable def Iti(o:Obj)(d:Addr)(u:HO)(as:aI)(vs:af):It :=
 ⟨λi H=>H d=some (.iK o u)/\i<as.length,λi H x H'=>∃p a v,x=.ref p/\as[i]?=some a/\vs[i]?=some v/\iD H p (.tup [.ref a,v]) H',λi H=>H d=some (.iK o u)/\i=as.length⟩
def V3{P:Program}{w:World}{K:aJ}{elts:ba}{k:Nat}{pos:Pos}(d it:Addr){vs:af}{es:Array DictEntry}{ep:Nat}(hd:o.data=.dict es ep)(ek:es.toList.map (·.key)=as.map Value.ref)(ev:cJ vs (es.toList.map (·.val))) :
  Turn P w K (.Tuple elts k pos) (Iti o d u as vs) [it] it (λi h=>∃ok ov,IsItemIter h it d i es.size ep ok ov) where
 mem:=by simp
 obj:=λi h st b hb=>by
  grind
 keep:=λi h h' ⟨ok,ov,st⟩ k=>⟨ok,ov,k it (by simp) _ st⟩
 item:=by
  intro X hP hw hK hc i Y s σ H E I hf st hg
  subst hP hw hK
  let⟨ok,ov,st⟩:=st
  let⟨hq,hi⟩:=hg
  let⟨hd1,_⟩:=I.hok d _ hq
  let⟨f0,f1,f2,f3,f4,f5⟩:=hf it (by simp)
  let ne:d≠it:=λz=>by grind
  let lz:es.size=as.length:=by let:=congrArg List.length ek;grind
  let he:es[i]?=some (es[i]'()):=yG ()
  let a3T:(es[i]'()).key=Value.ref as[i]:=by
   let:=congrArg (λl=>l[i]?) ek
   grind
  let lv:vs.length=as.length:=by
   let:=ev.length
   grind
  obtain⟨v,hv⟩:∃v,vs[i]?=some v:=⟨vs[i]'(),bC _⟩
  let⟨u1,hu1,ru1⟩:=ev.get hv
  let a8E:(es[i]'()).val=u1:=by
   grind
  show Di.item_at hd1 hd st he λh' hI ht hz kp=>⟨_,Z,wpAny_letOwnedTupleGo_items hI λh3 hI3 sb3=>?_⟩
  let nit:s⁻¹≠it:=iJ (bf st)
  let kp3:∀c oc,c∉[it]->s^^^c=some oc->h3.get? c=some oc:=λc oc hc q=>by
   let hc':c≠it:=()
   show(sb3.2 c hc').trans (kp c oc hc' q)
  let I1:bD X Y σ H (s•h3):=Gb I [it] (λc hc=>hf c hc) kp3
  let hfree:H s⁻¹=none:=I.hok.fresh (aK _)
  let ht3:h3.get? s⁻¹=some { cls:=.type "tuple",data:=.seq #[(es[i]'()).key,(es[i]'()).val]}:=(sb3.2 _ nit).trans ht
  let I2:bD X Y σ (cY H s⁻¹ (.tup [.ref as[i],v])) (s•h3):=by
   show bD.track I1 hfree I.sz (iJ I.lt) (λy c q=>?_) (λp hp=>bY (bf (I.pin p hp).1)) ?_
   ·let⟨v,oc,q1,_⟩:=I.cell y c q
    grind
   ·show⟨(by show 2<=sizeLine;decide),[(es[i]'()).key,(es[i]'()).val],.cons a3T (.cons () .nil),⟨_,ht3,Z,_,Z⟩⟩
  show⟨.ref s⁻¹,_,I2,Z,⟨_,as[i],v,Z,bC hi,hv,iD.oh hfree⟩,⟨_,_,hI3⟩,λc hc=>?_⟩
  let e:c=it:=()
  subst e
  rw[aZ (Ne.symm nit)]
  show f0
 done:=by
  intro X hP hw hK hc i Y s σ H E I hf st hg
  subst hP hw hK
  let⟨ok,ov,st⟩:=st
  let⟨hq,hx⟩:=hg
  let⟨hd1,_⟩:=I.hok d _ hq
  let⟨f0,f1,f2,f3,f4,f5⟩:=hf it (by simp)
  let lz:es.size=as.length:=by let:=congrArg List.length ek;grind
  rw[hx,<-lz]at st
  show Di.HJ (I.ok.hd hc) hd1 hd st λh' eb=>⟨Z,I.turned (t':=s.toks) (λb o hb e=>eb b o hb e) f0 f1 f3 f4 f5⟩
 self:=λ_ _ _ _ _ ⟨ok,ov,st⟩ h=>PySem.W.kcp_self st h
section
variable{X:Cx}
inductive a01(x:V)(vs:af)(H:Hp)(Q:VK):Prop
 |mk (d:Addr) (J:List (aS×V)) (_:x=.ref d) (_:vs=[]) (_:H d=some (.dT J)) (_:∀p H',iD H p (XD p d) H'->Q (.ref p) H')
def uT:PL X "dict.items" a01:=by
 intro Y s σ H x xs v us Q I rx rs h;let⟨d,J,rfl,rfl,e,q⟩:=h;obtain rfl:v=Value.ref d:=rx;cases rs;let⟨_,hs,xs,rel,o,es,ep,ho,hx,hdt,hes,_,_⟩:=Ek I.hok e;show Di.ĵ hs ho hx ?_;let g:(s.heap.push (Di.vO d)).get? s⁻¹=some (Di.vO d):=b7 _ rfl;show⟨.ref s⁻¹,_,I.laid (t':=s.toks) (o:=XD s⁻¹ d) (λb ob eb=>bL _ eb) (aK _) ⟨g,⟨_,g⟩,λh1 h2 e1 k=>k _ e1⟩,Z,q _ _ (iD.oh (I.hok.fresh (aK _)))⟩
def a02(tl:TE):TI:=λσ H R=>tl σ H λx H1=>∃p d J,x=.ref p/\H1 p=some (XD p d)/\H1 d=some (.dT J)/\
 ∀o as,Paired (λa (kv:aS×V)=>(cY H1 d (.iK o (.dT J))) a= ~~~(kv.1.map kV)) as J->R (Iti o d (.dT J) as (J.map (·.2))) (cY H1 d (.iK o (.dT J)))
def uU{elts:ba}{k:Nat}{tpos:Pos}{l:Expr}{tl:TE}(hl:PE X l tl):PI X (.Tuple elts k tpos) l (a02 tl):=by
 intro Y s σ H R I h;show jC (hl Y s σ H _ I h) λv s1 ⟨x,H1,I1,r1,q1⟩=>?_;let⟨p,d,J,e,hp,hd,q⟩:=q1;subst e;cases r1;let⟨_,hs,xs,rel,o,es,ep,ho,hx,hdt,hes,_,_⟩:=Ek I1.hok hd;let hv:s1^^^p=some (Di.vO d):=(show fC X.prog X.w H1 s1.heap p (XD p d)from I1.hok p _ hp).1;let I2:bD X Y σ (cY H1 d (.iK o (.dT J))) s1:=I1.Om hd (λ_ z=>by cases z) (λ_ z=>by cases z) (λ_ z=>by cases z) (I1.QW hd λ_ _ z=>by cases z) ⟨ho,I1.hok d _ hd⟩;let ek:es.toList.map (·.key)=(xs.map λx=>x.2.1).map Value.ref:=by rw[hes,lR,lR];rfl
 let ev:cJ (J.map (·.2)) (es.toList.map (·.val)):=by
  rw[hes,lR];let go:∀{ks:List (aS×V)}{ys:List (aS×Addr×Value)},KT H1 ks ys->cJ (ks.map (·.2)) (ys.map λx=>x.2.2):=λ{ks ys} r=>by
   induction r with
   |nil=>show .nil
   |cons a _ ih=>show .cons a.2.2 ih
  show go rel
 let pk:Paired (λa (kv:aS×V)=>(cY H1 d (.iK o (.dT J))) a= ~~~(kv.1.map kV)) (xs.map λx=>x.2.1) J:=by
  let go:∀{ks:List (aS×V)}{ys:List (aS×Addr×Value)},KT H1 ks ys->Paired (λa (kv:aS×V)=>(cY H1 d (.iK o (.dT J))) a= ~~~(kv.1.map kV)) (ys.map λx=>x.2.1) ks:=λ{ks ys} r=>by
   induction r with
   |nil=>show .nil
   | @cons kv y _ _ a _ ih =>
    show .cons ?_ ih;let nb:y.2.1≠d:=λz=>by grind
    rw[aZ nb];show a.2.1
  show go rel
 show Di.Ay hv ho hdt λh' hI kp=>⟨s1⁻¹,[s1⁻¹],_,_,_,Z,I2.kept (t':=s1.toks) (λb ob e=>kp b ob e),V3 d _ hdt ek ev,⟨_,_,hI⟩,λb hb=>?_,q o _ pk⟩;let e:b=s1⁻¹:=()
 subst e;show I2.Fd (aK _) (I2.hok.fresh (aK _))
end
def vQ{d:Addr}{vs:af}{g:TG}{tb:TS}{D:Ends}{σ:St}{H:Hp}(Pv:Nat->St->Hp->Prop)(h0:Pv 0 σ H)(hl:∀i σ H,i<=as.length->Pv i σ H->H d=some (.iK o u))
  (hs:∀(i:Nat) a v σ H p H',as[i]?=some a->vs[i]?=some v->Pv i σ H->iD H p (.tup [.ref a,v]) H'->g (.ref p) σ H' λσ2 H2=>tb { D with nx:=Pv (i+1),ct:=Pv (i+1),bk:=D.nx} σ2 H2) (hd:∀σ H,Pv as.length σ H->D.nx σ H) :
  ∃W:Nat->Nat->St->Hp->Prop,(∃m,W 0 m σ H)/\∀i m σ H,W i m σ H->
   ((Iti o d u as vs).stop i H/\D.nx σ H)\/((Iti o d u as vs).go i H/\∃N:St->Hp->Prop,(∀σ' H',N σ' H'->∃m',m'<m/\W (i+1) m' σ' H')/\∀x H',(Iti o d u as vs).W6 i H x H'->g x σ H' λσ2 H2=>tb { D with nx:=N,ct:=N,bk:=D.nx} σ2 H2):=by
 show⟨λi m σ H=>m=as.length-i/\i<=as.length/\Pv i σ H,⟨as.length,by simp,cW _,h0⟩,?_⟩;rintro i m σ H ⟨rfl,hi,p⟩;let q1:=hl i σ H hi p;by_cases hlt:i<as.length
 ·show .inr ⟨⟨q1,hlt⟩,Pv (i+1),λσ' H' p'=>⟨as.length-(i+1),(),Z,hlt,p'⟩,λx H' y=>?_⟩;let⟨pp,a,v,rfl,ea,ev,nw⟩:=y;show hs i a v σ H pp H' ea ev p nw
 ·let e:i=as.length:=()
  subst e;show .inl ⟨⟨q1,Z⟩,hd σ H p⟩
def Zm{d:Addr}{vs:af}{ix:List (Option Nat)}{g:TG}{tt:TT}{te:TE}{σ:St}{H1:Hp}{Q:VK}(Pv:Nat->af->Hp->Prop)(h0:Pv 0 [] H1)(hl:∀i ys H,i<=as.length->Pv i ys H->H d=some (.iK o u)/\ys.length<=5000)
  (hs:∀i ys H a v p H',as[i]?=some a->vs[i]?=some v->Pv i ys H->iD H p (.tup [.ref a,v]) H'->g (.ref p) (qj ix σ) H' λσ2 H2=>tt σ2 H2 λb H3=>if b=true then te σ2 H3 λv H4=>Pv (i+1) (ys++[v]) H4 else Pv (i+1) ys H3)
  (hd:∀ys H p,Pv as.length ys H->H p=none->Q (.ref p) (cY H p (.lst ys))):lV ix g tt te σ H1 Q (Iti o d u as vs):=by
 show⟨λi m ys H=>m=as.length-i/\i<=as.length/\Pv i ys H,⟨as.length,by simp,cW _,h0⟩,?_⟩;rintro i m ys H ⟨rfl,hi,pp⟩;let⟨hx,z⟩:=hl i ys H hi pp;let z':ys.length<=sizeLine:=by rw[gM];omega
 by_cases hlt:i<as.length
 ·show .inr ⟨⟨hx,hlt⟩,z',λys' H'=>Pv (i+1) ys' H',λys' H' p'=>⟨as.length-(i+1),(),Z,hlt,p'⟩,λx H' y=>?_⟩;let⟨p,a,v,rfl,ea,ev,nw⟩:=y;show hs i ys H a v p H' ea ev pp nw
 ·let ei:i=as.length:=()
  subst ei;show .inl ⟨⟨hx,Z⟩,z',λp hp=>hd ys H p pp hp⟩
end L2
namespace Z3
open PyProof.Rows
variable{a b c x:Value}{k n l1 l2 l3:Nat}{xs ys zs:Array Value}
abbrev JL(h:Heap)(T:Addr)(a b c:Value):Prop:=h.get? T=some { cls:=.type "tuple",data:=.seq #[a,b,c]}
section
variable{prog:Program}{w:World}{A:Around}{E:∅}{s:Shared}
def put{T:Addr}{Q:Unit->Shared->Prop}(hT:JL s.heap T a b c)
  (h:∀h',h'.get? T=some { cls:=.type "tuple",data:=.seq ((#[a,b,c]:Array Value).setIfInBounds k x)}->Heap.SameBut T s.heap h'->Q ⟨⟩ (s•h')):∎ (updateSeq T (·.setIfInBounds k x)) Q E s:=by
 show M9 hT Z (h _ ?_ (qD ..));rw[yH _ hT rfl];simp[Obj.mapSeq]
def next_item{y v:Value}{Q:∅}(q1:l1<n)(q2:l2<n)(q3:l3<n)
  (hz:IsZip s.heap (n+5) (n+3) (n+4) .none) (hTI:JL s.heap (n+3) (.ref n) (.ref (n+1)) (.ref (n+2))) (hTO:JL s.heap (n+4) a b c)
  (h1:s.heap.IsListIter n l1 k) (h2:s.heap.IsListIter (n+1) l2 k) (h3:s.heap.IsListIter (n+2) l3 k) (hl1:s.heap.IsList l1 xs) (hl2:s.heap.IsList l2 ys) (hl3:s.heap.IsList l3 zs) (hx:xs[k]?=some x) (hy:ys[k]?=some y) (hv:zs[k]?=some v)
  (hQ:∀h',IsZip h' (n+5) (n+3) (n+4) (rawInt s⁻¹)->JL h' (n+4) x y v->h'.IsListIter n l1 (k+1)->h'.IsListIter (n+1) l2 (k+1)->h'.IsListIter (n+2) l3 (k+1)->JL h' s⁻¹ x y v->
   (∀e o,e≠n->e≠n+1->e≠n+2->e≠n+4->e≠n+5->s^^^e=some o->h'.get? e=some o)->Q (.ref s⁻¹) (s•h')) :
  ∎ (Builtin.«zip.__next__» ⟨[.ref (n+5)],[]⟩) (λfin s'=>∃v,fin=.done (.ret v)/\Q v s') E s:=by
 let d41:((n+4):Nat)≠(n+1):=()
 let d42:((n+4):Nat)≠(n+2):=()
 let d54:((n+5):Nat)≠(n+4):=()
 let d52:((n+5):Nat)≠(n+2):=()
 let d51:((n+5):Nat)≠(n+1):=()
 let d50:((n+5):Nat)≠n:=()
 let d04:(n:Nat)≠(n+4):=()
 let d02:(n:Nat)≠(n+2):=()
 let d01:(n:Nat)≠(n+1):=()
 let d14:((n+1):Nat)≠(n+4):=()
 let d12:((n+1):Nat)≠(n+2):=()
 let d24:((n+2):Nat)≠(n+4):=()
 show wpAny _ _ (field (.ref (n+5)) 2 >>= _) _ _ _;show M (gF hz Z (x:=.bool false) Z ?_);show wpAny _ _ (field (.ref (n+5)) 3 >>= _) _ _ _;show M (gF hz Z (x:=.ref (n+3)) Z (M (qF hTI Z ?_)));show wpAny _ _ (Builtin.SmallTypes.ownedTupleIsFree (.ref (n+5)) >>= _) _ _ _;show M ?_;unfold Builtin.SmallTypes.ownedTupleIsFree;show M (gF hz Z (x:=.none) Z (ao ?_));simp only[if_true];show M (jY (M (gF hz Z (x:=.ref (n+4)) Z ?_)));show M (jX hz (by simp) λg1 z1 s1=>?_);let z1:IsZip g1 (n+5) (n+3) (n+4) .ellipsis:=z1;show M ?_;simp only[List.zipIdx_cons,List.zipIdx_nil,List.forIn_cons,List.forIn_nil];let k1:∀e o,e≠n+5->s^^^e=some o->g1.get? e=some o:=λe o he q=>s1.extBut e o he q;show M (M (Nq ?_));show wpAny _ _ (Builtin.SmallTypes.nextOf (.ref n) >>= _) _ _ _;show M (Gy (h1.at λo q=>k1 _ o () q) (hl1.at λo q=>k1 _ o () q) hx λg2 i2 s2=>ao ?_);let k2:∀e o,e≠n+5->e≠n->s^^^e=some o->g2.get? e=some o:=λe o he h0 q=>s2.extBut e o h0 (k1 e o he q);let t2:JL g2 (n+4) a b c:=k2 _ _ () () hTO;show M (qF t2 Z (M (put t2 λg3 t3 s3=>?_)));let t3:JL g3 (n+4) x b c:=t3;show M (yP (ao ?_));let k3:∀e o,e≠n+5->e≠n->e≠n+4->s^^^e=some o->g3.get? e=some o:=λe o he h0 h4 q=>s3.extBut e o h4 (k2 e o he h0 q);show M (M (Nq ?_));show wpAny _ _ (Builtin.SmallTypes.nextOf (.ref (n+1)) >>= _) _ _ _;show M (Gy (h2.at λo q=>k3 _ o () () () q) (hl2.at λo q=>k3 _ o () () () q) hy λg4 i4 s4=>ao ?_);let k4:∀e o,e≠n+5->e≠n->e≠n+4->e≠n+1->s^^^e=some o->g4.get? e=some o:=λe o he h0 h4 h5 q=>s4.extBut e o h5 (k3 e o he h0 h4 q);let t4:JL g4 (n+4) x b c:=s4.extBut (n+4) _ d41 t3;show M (qF t4 Z (M (put t4 λg5 t5 s5=>?_)));let t5:JL g5 (n+4) x y c:=t5;show M (yP (ao ?_));let k5:∀e o,e≠n+5->e≠n->e≠n+4->e≠n+1->s^^^e=some o->g5.get? e=some o:=λe o he h0 h4 h5 q=>s5.extBut e o h4 (k4 e o he h0 h4 h5 q);show M (M (Nq ?_));show wpAny _ _ (Builtin.SmallTypes.nextOf (.ref (n+2)) >>= _) _ _ _;show M (Gy (h3.at λo q=>k5 _ o () () () () q) (hl3.at λo q=>k5 _ o () () () () q) hv λg6 i6 s6=>ao ?_);let t6:JL g6 (n+4) x y c:=s6.extBut (n+4) _ d42 t5;show M (qF t6 Z (M (put t6 λg7 t7 s7=>?_)));let t7:JL g7 (n+4) x y v:=t7;show M (yP (ao (ao ?_)));let k7:∀e o,e≠n->e≠n+1->e≠n+2->e≠n+4->e≠n+5->s^^^e=some o->g7.get? e=some o:=λe o a0 a1 a2 a4 a5 q=>s7.extBut e o a4 (s6.extBut e o a2 (k5 e o a5 a0 a4 a1 q));show M (qF t7 Z (M (Nf ?_)));let sz:g7.objs.size=s⁻¹:=by rw[s7.1,s6.1,s5.1,s4.1,s3.1,s2.1,s1.1]
 let z7:IsZip g7 (n+5) (n+3) (n+4) .ellipsis:=s7.extBut (n+5) _ d54 (s6.extBut (n+5) _ d52 (s5.extBut (n+5) _ d54 (s4.extBut (n+5) _ d51 (s3.extBut (n+5) _ d54 (s2.extBut (n+5) _ d50 z1)))));let i2':g7.IsListIter n l1 (k+1):=i2.at λo q=>s7.extBut n _ d04 (s6.extBut n _ d02 (s5.extBut n _ d04 (s4.extBut n _ d01 (s3.extBut n _ d04 q))));let i4':g7.IsListIter (n+1) l2 (k+1):=i4.at λo q=>s7.extBut (n+1) _ d14 (s6.extBut (n+1) _ d12 (s5.extBut (n+1) _ d14 q));let i6':g7.IsListIter (n+2) l3 (k+1):=i6.at λo q=>s7.extBut (n+2) _ d24 q;let nl:n+5<g7.objs.size:=bf z7;show wpAny _ _ (Builtin.SmallTypes.ownedTupleHandOut (.ref (n+5)) (.ref g7.objs.size) >>= _) _ _ _;show M ?_;unfold Builtin.SmallTypes.ownedTupleHandOut;let z8:IsZip (g7.push { cls:=.type "tuple",data:=.seq #[x,y,v]}) (n+5) (n+3) (n+4) .ellipsis:=bL _ z7;show M (jX z8 (by simp) λg9 z9 s9=>?_);let z9:IsZip g9 (n+5) (n+3) (n+4) (rawInt g7.objs.size):=z9;show jX z9 (by simp) λg10 z10 s10=>?_;let z10:IsZip g10 (n+5) (n+3) (n+4) (rawInt g7.objs.size):=z10;let up:∀e o,e≠n+5->g7.get? e=some o->g10.get? e=some o:=λe o he q=>s10.extBut _ _ he (s9.extBut _ _ he (bL _ q));let ng:g7.objs.size≠n+5:=iJ nl;let t10:JL g10 g7.objs.size x y v:=s10.extBut g7.objs.size _ ng (s9.extBut g7.objs.size _ ng (b7 _ Z));rw[sz]at z10 t10;show ao ⟨_,Z,?_⟩;show Q (.ref g7.objs.size) _;rw[sz];show hQ g10 z10 (up _ _ () t7) (i2'.at λo q=>up _ o () q) (i4'.at λo q=>up _ o () q) (i6'.at λo q=>up _ o () q) t10 λe o a0 a1 a2 a4 a5 q=>up e o a5 (k7 e o a0 a1 a2 a4 a5 q)
def Q0{y v:Value}{Q:Option Value->Shared->Prop}(q1:l1<n)(q2:l2<n)(q3:l3<n)
  (hz:IsZip s.heap (n+5) (n+3) (n+4) .none) (hTI:JL s.heap (n+3) (.ref n) (.ref (n+1)) (.ref (n+2))) (hTO:JL s.heap (n+4) a b c)
  (h1:s.heap.IsListIter n l1 k) (h2:s.heap.IsListIter (n+1) l2 k) (h3:s.heap.IsListIter (n+2) l3 k) (hl1:s.heap.IsList l1 xs) (hl2:s.heap.IsList l2 ys) (hl3:s.heap.IsList l3 zs) (hx:xs[k]?=some x) (hy:ys[k]?=some y) (hv:zs[k]?=some v)
  (hQ:∀h',IsZip h' (n+5) (n+3) (n+4) (rawInt s⁻¹)->JL h' (n+4) x y v->h'.IsListIter n l1 (k+1)->h'.IsListIter (n+1) l2 (k+1)->h'.IsListIter (n+2) l3 (k+1)->JL h' s⁻¹ x y v->
   (∀e o,e≠n->e≠n+1->e≠n+2->e≠n+4->e≠n+5->s^^^e=some o->h'.get? e=some o)->Q ⇑(s⁻¹) (s•h')) :
  ∎ (pyNext (.ref (n+5))) Q E s:=by
 let hT:s.TypeIs (.ref (n+5)) "zip" :=⟨_,hz,Z⟩;unfold pyNext;show M (ug (m9 (name:=Str.ofString "__next__") hT wU (gD wU hT M6 (next_item q1 q2 q3 hz hTI hTO h1 h2 h3 hl1 hl2 hl3 hx hy hv λh' a1 a2 a3 a4 a5 a6 a7=>ao (hQ h' a1 a2 a3 a4 a5 a6 a7)) (MF _))))
def V4{l2 l3:Nat}{a b c:Value}{Q:Option Value->Shared->Prop}(hh:A.handled=none)(q1:l1<n)
  (hz:IsZip s.heap (n+5) (n+3) (n+4) .none) (hTI:JL s.heap (n+3) (.ref n) (.ref (n+1)) (.ref (n+2))) (h1:s.heap.IsListIter n l1 k) (hl1:s.heap.IsList l1 xs) (hx:xs[k]?=none)
  (hQ:∀h',(∀e o,e≠n->e≠n+5->s^^^e=some o->h'.get? e=some o)->Q none (s•h')) :
  ∎ (pyNext (.ref (n+5))) Q E s:=by
 let hT:s.TypeIs (.ref (n+5)) "zip" :=⟨_,hz,Z⟩;let d50:(n+5:Nat)≠n:=()
 unfold pyNext;show M (ug (m9 (name:=Str.ofString "__next__") hT wU (gD wU hT M6 ?_ (MF _))));show wpAny _ _ (field (.ref (n+5)) 2 >>= _) _ _ _;show M (gF hz Z (x:=.bool false) Z ?_);show wpAny _ _ (field (.ref (n+5)) 3 >>= _) _ _ _;show M (gF hz Z (x:=.ref (n+3)) Z (M (qF hTI Z ?_)));show wpAny _ _ (Builtin.SmallTypes.ownedTupleIsFree (.ref (n+5)) >>= _) _ _ _;show M ?_;unfold Builtin.SmallTypes.ownedTupleIsFree;show M (gF hz Z (x:=.none) Z (ao ?_));simp only[if_true];show M (jY (M (gF hz Z (x:=.ref (n+4)) Z ?_)));show M (jX hz (by simp) λg1 z1 s1=>?_);let z1:IsZip g1 (n+5) (n+3) (n+4) .ellipsis:=z1;show M ?_;simp only[List.zipIdx_cons,List.zipIdx_nil,List.forIn_cons,List.forIn_nil];let k1:∀e o,e≠n+5->s^^^e=some o->g1.get? e=some o:=λe o he q=>s1.extBut e o he q;show M (M (Nq ?_));show wpAny _ _ (Builtin.SmallTypes.nextOf (.ref n) >>= _) _ _ _;show M (wpAny_nextOf_list_end () (h1.at λo q=>k1 _ o () q) (hl1.at λo q=>k1 _ o () q) hx λg2 e s2 he=>?_);let⟨oe,hoe,hce⟩:=he;let z2:IsZip g2 (n+5) (n+3) (n+4) .ellipsis:=s2 (n+5) _ d50 z1;let ne:e≠n+5:=λz=>by grind
 show jX z2 (by simp) λg3 _ s3=>M (vB (U:="StopIteration") (T:="StopIteration") (b:=true) ⟨oe,s3.extBut e _ ne hoe,hce⟩ GR (ao (hQ _ λc o c0 c5 q=>s3.extBut c o c5 (s2 c o c0 (k1 c o c5 q)))))
end
def Zn(a b c:Value):checkTypeCall "zip" ⟨[a,b,c],[]⟩=pure ⟨⟩:=by kernel_rfl
def Ķ(a b c:Value):checkBuiltinCall "zip.__new__" ⟨[.type "zip",a,b,c],[]⟩=pure ⟨⟩:=by kernel_rfl
def V5(a b c d:Value):argsOk "object.__init__" ⟨[a,b,c,d],[]⟩:=by unfold argsOk;rw[signature?_of (id:="object.__init__") (n:=['_','_','t','i','n','i','_','_']) (o:=['t','c','e','j','b','o']) (by kernel_rfl) F.owner_object];kernel_rfl
abbrev p1(h:Heap)(l1:Addr):Heap:=h.push { cls:=.type "list_iterator",data:=.fields #[.ref l1,.int 0 0]}
abbrev p2(h:Heap)(l1 l2:Addr):Heap:=p1 (p1 h l1) l2
abbrev p3(h:Heap)(l1 l2 l3:Addr):Heap:=p1 (p2 h l1 l2) l3
abbrev p4(h:Heap)(l1 l2 l3:Addr):Heap:=(p3 h l1 l2 l3).push { cls:=.type "tuple",data:=.seq #[.ref h.objs.size,.ref (p1 h l1).objs.size,.ref (p2 h l1 l2).objs.size]}
abbrev p5(h:Heap)(l1 l2 l3:Addr):Heap:=(p4 h l1 l2 l3).push { cls:=.type "tuple",data:=.seq #[.none,.none,.none]}
abbrev p6(h:Heap)(l1 l2 l3:Addr):Heap:=(p5 h l1 l2 l3).push { cls:=.type "zip",data:=.fields #[.none,.bool false,.bool false,.ref (p3 h l1 l2 l3).objs.size,.ref (p4 h l1 l2 l3).objs.size]}
def Zo(l1 l2 l3:Addr)(xs ys zs:Array Value) :
  Meets (Builtin.«zip.__new__» ⟨[.type "zip",.ref l1,.ref l2,.ref l3],[]⟩) (λ_ R s=>s.heap.IsList l1 xs/\s.heap.IsList l2 ys/\s.heap.IsList l3 zs/\R (.ok (.ret (.ref (p5 s.heap l1 l2 l3).objs.size))) (s•p6 s.heap l1 l2 l3)) :=
 .of_wp λprog w A R s h=>by
  let⟨hp,g,d,tk,os⟩:=s;let⟨hl1,hl2,hl3,h⟩:=h;let hsub:=sub_zip;let a1:Heap.IsList (Shared.heap ⟨hp,g,d,tk,os⟩) l1 xs:=hl1;let a2:Heap.IsList (Shared.heap ⟨p1 hp l1,g,d,tk,os⟩) l2 ys:=Ul hl2 _;let a3:Heap.IsList (Shared.heap ⟨p2 hp l1 l2,g,d,tk,os⟩) l3 zs:=Ul (Ul hl3 _) _
  wp_walk using vz a1,vz a2,vz a3
  show⟨_,Z,h⟩
section
variable{prog:Program}{w:World}{A:Around}{E:∅}{s:Shared}
def a6l{l1 l2 l3:Addr}{Q:∅}(hl1:s.heap.IsList l1 xs)(hl2:s.heap.IsList l2 ys)(hl3:s.heap.IsList l3 zs)
  (h:∀h',IsZip h' (s⁻¹+5) (s⁻¹+3) (s⁻¹+4) .none->JL h' (s⁻¹+3) (.ref s⁻¹) (.ref (s⁻¹+1)) (.ref (s⁻¹+2))->
   JL h' (s⁻¹+4) .none .none .none->h'.IsListIter s⁻¹ l1 0->h'.IsListIter (s⁻¹+1) l2 0->h'.IsListIter (s⁻¹+2) l3 0->
   (∀c o,s^^^c=some o->h'.get? c=some o)->Q (.ref (s⁻¹+5)) (s•h')) :
  ∎ (call (.type "zip") [.ref l1,.ref l2,.ref l3]) Q E s:=by
 show callType_new F.called_zip () (Zn _ _ _) (Ķ _ _ _) (λobj=>V5 obj _ _ _) F.entry_zip_new (Zo l1 l2 l3 xs ys zs) ⟨hl1,hl2,hl3,?_⟩;generalize hn:s⁻¹=n at h;let z1:(p1 s.heap l1).objs.size=n+1:=by rw[oN,hn]
 let z2:(p2 s.heap l1 l2).objs.size=n+2:=by rw[oN,z1]
 let z3:(p3 s.heap l1 l2 l3).objs.size=n+3:=by rw[oN,z2]
 let z4:(p4 s.heap l1 l2 l3).objs.size=n+4:=by rw[oN,z3]
 let z5:(p5 s.heap l1 l2 l3).objs.size=n+5:=by rw[oN,z4]
 let up:∀{h0:Heap}{c:Addr}{o ob:Obj},h0.get? c=some o->(h0.push ob).get? c=some o:=λe=>bL _ e;let g6:(p6 s.heap l1 l2 l3).get? (p5 s.heap l1 l2 l3).objs.size=some _:=b7 _ rfl;let g5:(p6 s.heap l1 l2 l3).get? (p4 s.heap l1 l2 l3).objs.size=some _:=up (b7 _ Z);let g4:(p6 s.heap l1 l2 l3).get? (p3 s.heap l1 l2 l3).objs.size=some _:=up (up (b7 _ Z));let g3:(p6 s.heap l1 l2 l3).get? (p2 s.heap l1 l2).objs.size=some _:=up (up (up (b7 _ Z)));let g2:(p6 s.heap l1 l2 l3).get? (p1 s.heap l1).objs.size=some _:=up (up (up (up (b7 _ Z))));let g1:(p6 s.heap l1 l2 l3).get? s⁻¹=some _:=up (up (up (up (up (b7 _ Z)))));show _/\_;rw[z3,z4,z5]at g6;rw[z4]at g5;rw[hn,z1,z2,z3]at g4;rw[z2]at g3;rw[z1]at g2;rw[hn]at g1;rw[z5];show⟨⟨_,g6,Z⟩,h _ g6 g4 g5 ⟨_,g1,Z,Z⟩ ⟨_,g2,Z,Z⟩ ⟨_,g3,Z,Z⟩ λc o q=>up (up (up (up (up (up q)))))⟩
end
end Z3
namespace L2
open PyProof.Rows
variable{K:aJ}{pos:Pos}
def ķ(K:aJ)(a b c:Addr):It :=
 ⟨λi H=>∃xs ys zs x y z,bB K H a xs/\bB K H b ys/\bB K H c zs/\xs[i]?=some x/\ys[i]?=some y/\zs[i]?=some z,
 λi H v H'=>∃p x y z,v=.ref p/\iD H p (.tup [x,y,z]) H'/\(∀xs,bB K H a xs->xs[i]?=some x)/\(∀ys,bB K H b ys->ys[i]?=some y)/\∀zs,bB K H c zs->zs[i]?=some z,
 λi H=>∃xs,bB K H a xs/\xs.length<=i⟩
def Zq{P:Program}{w:World}{elts:ba}{k:Nat}(a b c n:Nat)(an:a<n)(bn:b<n)(cn:c<n) :
  Turn P w K (.Tuple elts k pos) (ķ K a b c) [n,n+1,n+2,n+3,n+4,n+5] (n+5) (λi h=>IsZip h (n+5) (n+3) (n+4) .none/\Z3.JL h (n+3) (.ref n) (.ref (n+1)) (.ref (n+2))/\(∃x y z,Z3.JL h (n+4) x y z)/\h.IsListIter n a i/\h.IsListIter (n+1) b i/\h.IsListIter (n+2) c i) where
 mem:=by simp
 obj:=λi h st e he=>by
  let⟨hz,hTI,⟨x,y,z,hTO⟩,⟨o1,e1,c1,d1⟩,⟨o2,e2,c2,d2⟩,⟨o3,e3,c3,d3⟩⟩:=st
  grind
 keep:=λi h h' st kk=>by
  let⟨hz,hTI,⟨x,y,z,hTO⟩,h1,h2,h3⟩:=st
  show⟨kk (n+5) (by simp) _ hz,kk (n+3) (by simp) _ hTI,⟨x,y,z,kk (n+4) (by simp) _ hTO⟩,h1.at λo q=>kk n (by simp) o q,h2.at λo q=>kk (n+1) (by simp) o q,h3.at λo q=>kk (n+2) (by simp) o q⟩
 item:=by
  intro X hP hw hK hc i Y s σ H E I hf st hg
  subst hP hw hK
  let⟨xs,ys,zs,x,y,z,hq1,hq2,hq3,hx,hy,hz0⟩:=hg
  let⟨a4a,rv1,pl1,hz1⟩:=I.list hq1
  let⟨its2,rv2,pl2,hz2⟩:=I.list hq2
  let⟨a71,rv3,pl3,hz3⟩:=I.list hq3
  let⟨u1,hu1,ru1⟩:=rv1.get hx
  let⟨u2,hu2,Zi⟩:=rv2.get hy
  let⟨u3,hu3,ru3⟩:=rv3.get hz0
  let⟨hz,hTI,⟨x0,y0,z0,hTO⟩,h1,h2,h3⟩:=st
  let nl:n+5<s⁻¹:=bf hz
  show Z3.Q0 an bn cn hz hTI hTO h1 h2 h3 pl1.isList pl2.isList pl3.isList (x:=u1) (y:=u2) (v:=u3) () () () λh' a1 a2 a3 a4 a5 a6 hk=>?_
  show⟨_,Z,wpAny_letOwnedTupleGo_zip a1 λg3 hg3 hs3=>?_⟩
  let n5:s⁻¹≠n+5:=iJ nl
  let hT3:g3.get? s⁻¹=some { cls:=.type "tuple",data:=.seq #[u1,u2,u3]}:=(hs3.2 _ n5).trans a6
  let kp:∀e o,e∉[n,n+1,n+2,n+3,n+4,n+5]->s^^^e=some o->g3.get? e=some o:=λe o he q=>by
   simp only[List.mem_cons,List.not_mem_nil,or_false,not_or]at he
   show(hs3.2 e he.2.2.2.2.2).trans (hk e o he.1 he.2.1 he.2.2.1 he.2.2.2.2.1 he.2.2.2.2.2 q)
  let I1:bD X Y σ H (s•g3):=Gb I [n,n+1,n+2,n+3,n+4,n+5] (λe he=>hf e he) kp
  let hfree:H s⁻¹=none:=I.hok.fresh (aK _)
  let I2:bD X Y σ (cY H s⁻¹ (.tup [x,y,z])) (s•g3):=by
   show bD.track I1 hfree I.sz (iJ I.lt) (λy c q=>?_) (λp hp=>bY (bf (I.pin p hp).1)) ?_
   ·let⟨v,oc,q1,_⟩:=I.cell y c q
    show bY (bf q1)
   ·show⟨(by show 3<=sizeLine;decide),[u1,u2,u3],.cons ru1 (.cons Zi (.cons ru3 .nil)),⟨_,hT3,Z,_,Z⟩⟩
  let d35:(n+3:Nat)≠n+5:=()
  let d45:(n+4:Nat)≠n+5:=()
  let d05:(n:Nat)≠n+5:=()
  let d15:(n+1:Nat)≠n+5:=()
  let d25:(n+2:Nat)≠n+5:=()
  let t3:h'.get? (n+3)=_:=hk (n+3) _ () () () () () hTI
  show⟨.ref s⁻¹,_,I2,Z,⟨_,x,y,z,Z,iD.oh hfree,λxs' hy'=>by rw[I.wW hy' hq1];show hx,λys' hy'=>by rw[I.wW hy' hq2];show hy,λzs' hy'=>by rw[I.wW hy' hq3];show hz0⟩,
   ⟨hg3,(hs3.2 (n+3) d35).trans t3,⟨_,_,_,(hs3.2 (n+4) d45).trans a2⟩,a3.at λo q=>(hs3.2 n d05).trans q,a4.at λo q=>(hs3.2 (n+1) d15).trans q,a5.at λo q=>(hs3.2 (n+2) d25).trans q⟩,λe he=>?_⟩
  let f0:=(hf e he).1
  rw[aZ ?_]
  ·show f0
  grind
 done:=by
  intro X hP hw hK hc i Y s σ H E I hf st hg
  subst hP hw hK
  let⟨xs,hq1,hl⟩:=hg
  let⟨a4a,rv1,pl1,hz1⟩:=I.list hq1
  let l1:=rv1.length
  let⟨hz,hTI,⟨x0,y0,z0,hTO⟩,h1,h2,h3⟩:=st
  show Z3.V4 (a:=x0) (b:=y0) (c:=z0) (l2:=b) (l3:=c) (I.ok.hd hc) an hz hTI h1 pl1.isList (by simp;omega) λh' hk=>⟨Z,Gb I [n,n+1,n+2,n+3,n+4,n+5] (λe he=>hf e he) λe o he q=>?_⟩
  grind
 self:=λ_ _ _ _ _ st h=>Uk st.1 h
section
variable{X:Cx}
def vals3{a b c:V}{us:aw}(h:cJ [a,b,c] us):∃u v w,us=[u,v,w]/\cX a u/\cX b v/\cX c w:=by
 cases h with
 |cons h1 t =>
  let⟨u2,u3,rfl,r2,r3⟩:=vals2 t;show⟨_,_,_,Z,h1,r2,r3⟩
def a6m(K:aJ)(ta:TA):TI:=λσ H R=>ta σ H λvs H1=>∃a b c,vs=[.ref a,.ref b,.ref c]/\(∃xs,bB K H1 a xs)/\(∃ys,bB K H1 b ys)/\(∃zs,bB K H1 c zs)/\R (ķ K a b c) H1
def a03{elts:ba}{k:Nat}{tpos:Pos}{l m r:Expr}{ta:TA}{p:Pos}(e0:X.K=K)(hg:Gl X "zip")(hm:X.mg "zip" = none)(ha:PA X [l,m,r] ta)(hs:@&(starEach [l,m,r] X.env=[(false,eval l X.env),(false,eval m X.env),(false,eval r X.env)]))(hs2:@&(starEach [m,r] X.env=[(false,eval m X.env),(false,eval r X.env)])) :
  PI X (.Tuple elts k tpos) (.Call (.Name "zip" p) [l,m,r] [] pos) (a6m K ta):=by
 subst e0;intro Y s σ H R I h;show vy (um I hg hm boot_zip ?_);show wH (jC (ha pos Y s σ H _ I h) λus s1 ⟨vs,H1,I1,r1,q1⟩=>?_) (by rw[hs,hs2]) (by rw[hs2];rfl);let⟨a,b,c,e,⟨xs,hq1⟩,⟨ys,hq2⟩,⟨zs,hq3⟩,q⟩:=q1;subst e;let⟨u1,u2,u3,rfl,r1,r2,r3⟩:=vals3 r1;cases r1;cases r2;cases r3;let⟨a4a,rv1,pl1,hz1⟩:=I1.list hq1;let⟨its2,rv2,pl2,hz2⟩:=I1.list hq2;let⟨a71,rv3,pl3,hz3⟩:=I1.list hq3;show Z3.a6l pl1.isList pl2.isList pl3.isList λh' hz hTI hTO h1 h2 h3 hk=>Uk hz ?_;let I2:bD X Y σ H1 (s1•h'):=I1.kept (t':=s1.toks) hk;let la:a<s1⁻¹:=by let⟨o,e,_⟩:=pl1.isList;show bf e
 let lb:b<s1⁻¹:=by let⟨o,e,_⟩:=pl2.isList;show bf e
 let lc:c<s1⁻¹:=by let⟨o,e,_⟩:=pl3.isList;show bf e
 show⟨s1⁻¹+5,_,_,_,H1,Z,I2,Zq a b c s1⁻¹ la lb lc,⟨hz,hTI,⟨_,_,_,hTO⟩,h1,h2,h3⟩,λe he=>?_,q⟩;let hb':s1⁻¹<=e:=by
  grind
 show I1.Fd hb' (I1.hok.fresh hb')
end
def Ĺ{a b c:Addr}{xs ys zs:af}{g:TG}{tb:TS}{D:Ends}{σ:St}{H:Hp}(el:xs.length=ys.length)(el2:xs.length=zs.length)(Pv:Nat->St->Hp->Prop)(h0:Pv 0 σ H)(hl:∀i σ H,i<=xs.length->Pv i σ H->bB K H a xs/\bB K H b ys/\bB K H c zs)
  (hs:∀(i:Nat) x y z σ H p H',xs[i]?=some x->ys[i]?=some y->zs[i]?=some z->Pv i σ H->iD H p (.tup [x,y,z]) H'->g (.ref p) σ H' λσ2 H2=>tb { D with nx:=Pv (i+1),ct:=Pv (i+1),bk:=D.nx} σ2 H2) (hd:∀σ H,Pv xs.length σ H->D.nx σ H) :
  ∃W:Nat->Nat->St->Hp->Prop,(∃m,W 0 m σ H)/\∀i m σ H,W i m σ H->
   ((ķ K a b c).stop i H/\D.nx σ H)\/((ķ K a b c).go i H/\∃N:St->Hp->Prop,(∀σ' H',N σ' H'->∃m',m'<m/\W (i+1) m' σ' H')/\∀x H',(ķ K a b c).W6 i H x H'->g x σ H' λσ2 H2=>tb { D with nx:=N,ct:=N,bk:=D.nx} σ2 H2):=by
 show⟨λi m σ H=>m=xs.length-i/\i<=xs.length/\Pv i σ H,⟨xs.length,by simp,cW _,h0⟩,?_⟩;rintro i m σ H ⟨rfl,hi,p⟩;let⟨q1,q2,q3⟩:=hl i σ H hi p;by_cases hlt:i<xs.length
 ·show .inr ⟨⟨xs,ys,zs,xs[i],ys[i],zs[i],q1,q2,q3,by simp[hlt],by simp[el▸hlt],by simp[el2▸hlt]⟩,Pv (i+1),λσ' H' p'=>⟨xs.length-(i+1),(),Z,hlt,p'⟩,λx H' y=>?_⟩;let⟨pp,x0,y0,z0,rfl,nw,ex,ey,ez⟩:=y;show hs i x0 y0 z0 σ H pp H' (ex xs q1) (ey ys q2) (ez zs q3) p nw
 ·let e:i=xs.length:=()
  subst e;show .inl ⟨⟨xs,q1,aK _⟩,hd σ H p⟩
section
variable{X:Cx}{e:Expr}{f:Str}{ta:TE}
def Gd(e0:X.K=K)(he:PE X e ta)(hb:attributeBase e f X.env (eval e X.env)=eval e X.env):PE X (.Attribute e f pos) (a5w K ta f):=by subst e0;show a3h he hb
end
end L2
namespace K
open L2 Lw Bg
abbrev jL:ag:=["one","other"]
abbrev lY:ag:=["graph","steps"]
abbrev rU:ag:=["n","thing"]
abbrev xq:ag:=["self","one","other"]
abbrev yu:ag:=["self","state","spot","v"]
abbrev Bc:ag:=["question","table","state","row"]
abbrev Bd:ag:=["graph","done","step","used"]
abbrev Bf:ag:=["_law_ties_here","_law_rows_here","_law_k","_law_early"]
abbrev Bh:ag:=["numbers","one","other"]
abbrev Em:ag:=["question","old","step","bag"]
abbrev En:ag:=["graph","steps","tops","pile"]
abbrev Eo:ag:=["state","spot","number"]
abbrev Ep:ag:=["state","spot"]
abbrev Ia:ag:=["question","table","source","step","bag"]
abbrev Ib:ag:=["question","table","source","another"]
abbrev Ie:ag:=["steps","question","tops","feeds"]
abbrev Ig:ag:=["many","weights"]
abbrev Ih:ag:=["_law_due","_law_state","_law_many","_law_best"]
abbrev Ky:ag:=["self","state"]
abbrev Kz:ag:=["steps","question"]
abbrev KC:ag:=["_law_script","_law_k"]
abbrev KD:ag:=["_law_state","_law_at_here","_law_to"]
abbrev KH:ag:=["n","places"]
abbrev KJ:ag:=["ties","costs"]
abbrev Q5:ag:=["self","state","one","other","tie"]
abbrev Q6:ag:=["_law_found","_law_size"]
abbrev Q7:ag:=["_law_table","_law_at_here","_law_to","_law_cost"]
abbrev XF:ag:=["is_better","shared","joined","put_in","tied","taken_out","thing"]
abbrev XH:ag:=["self","graph","leaf","whole"]
abbrev XJ:ag:=["self","graph","told","costs"]
abbrev XM:ag:=["_law_script","_law_n","_law_most"]
abbrev XQ:ag:=["_law_v","_law_script"]
abbrev XR:ag:=["_law_script","_law_rows_here","_law_n"]
abbrev XS:ag:=["_law_found","_law_steps","_law_ties_here","_law_prices"]
abbrev ĺ:ag:=["_law_a","_law_b","_law_bag","_law_above"]
noncomputable def top(i:Nat):Stmt:=PySem.Challenge.pw_bagwood_k71_links_by_ties.main.body.getD i (.Pass ⟨0,0,0,0⟩)
abbrev dU:=ae
structure gC where
 m:Int
 b:Int
 src:List dU
variable{R:V->gC->Prop}
abbrev cu:=List (dU×gC)
noncomputable def yX(T:cu)(s:dU):Option gC:=(T.find? λx=>decide (x.1=s)).map (·.2)
noncomputable def qt(T:cu)(s:dU)(r:gC):cu:=if(T.any λx=>decide (x.1=s))=true then T.map (λx=>if x.1=s then(x.1,r)else x)else T++[(s,r)]
noncomputable def v5(bt:Int->Int->Bool)(r o:gC):gC:=if bt r.b o.b=true then r else o
def mX(bt:Int->Int->Bool)(T:cu)(s:dU)(r:gC):cu:=match yX T s with
 |none=>qt T s r
 |some o=>qt T s ⟨o.m+r.m,(v5 bt r o).b,(v5 bt r o).src⟩
noncomputable def sI(s:dU):aS:=s.map Sum.inl
def a2x(s:dU):(sI s).map kV=s.map V.int:=by
 unfold sI;rw[lR];rfl
def Ge{s t:dU}(h:sI s=sI t):s=t:=by
 induction s generalizing t with
 |nil=>cases t with
  |nil=>rfl
  |cons a t=>cases h
 |cons a s ih=>cases t with
  |nil=>cases h
  |cons b t =>
   let h1:(Sum.inl a:Key)=Sum.inl b:=(Nr h).1;let h2:sI s=sI t:=(Nr h).2;grind
def pI(H:Hp)(a:Addr)(s:dU):Prop:=H a= ~~~(s.map V.int)
def pI.key{H:Hp}{a:Addr}{s:dU}(h:pI H a s):H a= ~~~((sI s).map kV):=by rw[a2x];show h
def pI.KN{H:Hp}{a:Addr}{s:dU}(h:H a= ~~~((sI s).map kV)):pI H a s:=by rw[a2x]at h;show h
inductive JM(H:Hp)(v:V)(r:gC):Prop
 |mk (p q as:_) (_:v=.ref p) (_:H p= ~~~[.int r.m,.int r.b,.ref q]) (_:H q= ~~~(as.map V.ref)) (_:Paired (pI H) as r.src)
def oZ(H:Hp):List (aS×V)->cu->Prop:=Paired λkv tr=>kv.1=sI tr.1/\JM H kv.2 tr.2
def lZ(H H':Hp):Prop:=∀c ys,H c= ~~~ys->H' c= ~~~ys
def lZ.trans{H H' Sv:Hp}(a:lZ H H')(b:lZ H' Sv):lZ H Sv:=λc ys h=>b c ys (a c ys h)
def lZ.of{H H':Hp}(a:aL H H'):lZ H H':=λc ys h=>a c _ h
def pI.keep{H H':Hp}{a:Addr}{s:dU}(k:lZ H H')(h:pI H a s):pI H' a s:=k _ _ h
def JM.keep{H H':Hp}{v:V}{r:gC}(k:lZ H H')(h:JM H v r):JM H' v r:=by
 let⟨p,q,as,e,h1,h2,h3⟩:=h;show⟨p,q,as,e,k _ _ h1,k _ _ h2,Paired.cD h3 λ_ _ z=>z.keep k⟩
def oZ.keep{H H':Hp}{J:List (aS×V)}{T:cu}(k:lZ H H')(h:oZ H J T):oZ H' J T:=Paired.cD h λ_ _ z=>⟨z.1,z.2.keep k⟩
def Sd(t:Addr)(H H':Hp):Prop:=∀c o,c≠t->H c=some o->H' c=some o
def Sd.refl{t:Addr}{H:Hp}:Sd t H H:=λ_ _ _ h=>h
def Sd.trans{t:Addr}{H H' Sv:Hp}(a:Sd t H H')(b:Sd t H' Sv):Sd t H Sv:=λc o n h=>b c o n (a c o n h)
def Sd.of{t:Addr}{H H':Hp}(a:aL H H'):Sd t H H':=λc o _ h=>a c o h
def Sd.tups{t:Addr}{H H':Hp}{J:List (aS×V)}(a:Sd t H H')(h:H t=some (.dT J)):lZ H H':=λc ys e=>a c _ (λz=>by grind) e
def Sd.X3{t:Addr}{H H':Hp}{o:HO}(c:uP H t o H'):Sd t H H':=λb u n h=>by rw[c.rest b n];show h
def Gf(s:dU){J:List (aS×V)}{T:cu}(h:Paired (λ(kv:aS×V) (tr:dU×gC)=>kv.1=sI tr.1/\R kv.2 tr.2) J T):(dG J (sI s)=none/\yX T s=none)\/∃v r,dG J (sI s)=some v/\yX T s=some r/\R v r:=by
 induction h with
 |nil=>show .inl ⟨Z,Z⟩
 | @cons p q J T h t ih =>
  let⟨k,v⟩:=p;let⟨s',r⟩:=q;let⟨e,hr⟩:=h;let e:k=sI s':=e;subst e;unfold dG yX at ih ⊢;by_cases c:s'=s
  ·rw[rH (by show aR (congrArg sI c)),rH (by show aR c)];show .inr ⟨v,r,Z,Z,hr⟩
  ·rw[tV (by show λz=>c (Ge (dw z))),tV (by show λz=>c (dw z))];show ih
def a04(s:dU){J:List (aS×V)}{T:cu}(h:Paired (λ(kv:aS×V) (tr:dU×gC)=>kv.1=sI tr.1/\R kv.2 tr.2) J T):(J.any λkv=>decide (kv.1=sI s))=(T.any λx=>decide (x.1=s)):=by
 induction h with
 |nil=>rfl
 | @cons p q J T h t ih =>
  let⟨k,v⟩:=p;let⟨s',r⟩:=q;let e:k=sI s':=h.1;subst e;rw[oO,oO,ih];congr 1;show GK.mpr ⟨λz=>Ge z,λz=>congrArg sI z⟩
def X4{J:List (aS×V)}{T:cu}{s:dU}{v:V}{r:gC}(h:Paired (λ(kv:aS×V) (tr:dU×gC)=>kv.1=sI tr.1/\R kv.2 tr.2) J T)(hr:R v r):Paired (λ(kv:aS×V) (tr:dU×gC)=>kv.1=sI tr.1/\R kv.2 tr.2) (putK J (sI s) v) (qt T s r):=by
 unfold putK qt;rw[a04 s h];by_cases c:(T.any λx=>decide (x.1=s))=true
 ·rw[aB c,aB c];clear c
  induction h with
  |nil=>show .nil
  | @cons kv tr _ _ a _ ih =>
   show .cons ?_ ih;let⟨k,v0⟩:=kv;let⟨s',r0⟩:=tr;let⟨e,h0⟩:=a;let e:k=sI s':=e;subst e;lk;by_cases c:s'=s
   ·rw[aB (by rw[c]),aB c];show⟨Z,hr⟩
   ·rw[aA (λz=>c (Ge z)),aA c];show⟨Z,h0⟩
 ·rw[aA c,aA c];show Paired.snoc h ⟨Z,hr⟩
def Ļ(T:cu)(s:dU)(r:gC):(qt T s r).length<=T.length+1:=by
 unfold qt;split
 ·rw[aH];omega
 ·rw[bO];show aK _
structure PQ(κ:Type) where
 leaf:dU
 whole:dU
 bt:Int->Int->Bool
 sh:dU->List κ
 jn:dU->dU->List dU
 inn:dU->Nat->Nat->List (dU×Int)
 tie:dU->Nat->Nat->Int×Int->List (dU×Int)
 out:dU->Nat->Nat->List (dU×Int)
 Ok:Nat->dU->Prop
inductive È(H:Hp)(v:V)(x:dU×Int):Prop
 |mk (p a:_) (_:v=.ref p) (_:H p= ~~~[.ref a,.int x.2]) (_:pI H a x.1)
def È.keep{H H':Hp}{v:V}{x:dU×Int}(k:lZ H H')(h:È H v x):È H' v x:=by
 let⟨p,a,e,h1,h2⟩:=h;show⟨p,a,e,k _ _ h1,h2.keep k⟩
def SvL(H:Hp)(v:V)(x:dU):Prop:=∃a,v=.ref a/\pI H a x
section
variable{P:Program}{w:World}{κ:Type} [DecidableEq κ]
inductive Q8(pq:PQ κ)(At:Hp->Addr->Prop)(vs:af)(H:Hp)(Q:VK)(u_3:XK):Prop
 |mk (d:Addr) (a b:Int) (_:vs=[.ref d,.int a,.int b]) (_:At H d) (_:Q (.bl (pq.bt a b)) H)
inductive Q9(knd:KeyKind P w κ)(pq:PQ κ)(At:Hp->Addr->Prop)(vs:af)(H:Hp)(Q:VK)(u_3:XK):Prop
 |mk (d a:Addr) (m:Nat) (s:dU) (_:vs=[.ref d,.ref a]) (_:At H d) (_:pI H a s) (_:pq.Ok m s) (_:m<=4) (_:∀b H',aL H H'->Zk knd H' b (pq.sh s)->Q (.ref b) H')
inductive Ra(pq:PQ κ)(At:Hp->Addr->Prop)(vs:af)(H:Hp)(Q:VK)(u_3:XK):Prop
 |mk (d a b:Addr) (m:Nat) (s t:dU) (_:vs=[.ref d,.ref a,.ref b]) (_:At H d) (_:pI H a s) (_:pI H b t) (_:pq.Ok m s) (_:pq.Ok m t) (_:m<=4) (_:pq.sh s=pq.sh t) (_:∀r xs H',aL H H'->H' r=↥xs->Paired (SvL H') xs (pq.jn s t)->Q (.ref r) H')
inductive a2y(pq:PQ κ)(At:Hp->Addr->Prop)(vs:af)(H:Hp)(Q:VK)(u_3:XK):Prop
 |mk (d a:Addr) (m spot v:Nat) (s:dU) (_:vs=[.ref d,.ref a,.int spot,.int v]) (_:At H d) (_:pI H a s) (_:pq.Ok m s) (_:m<=4) (_:spot<=m) (_:∀r xs H',aL H H'->H' r=↥xs->Paired (È H') xs (pq.inn s spot v)->Q (.ref r) H')
inductive a2z(pq:PQ κ)(At:Hp->Addr->Prop)(Pl:Nat->Prop)(vs:af)(H:Hp)(Q:VK)(u_3:XK):Prop
 |mk (d a:Addr) (m spot v:Nat) (s:dU) (_:vs=[.ref d,.ref a,.int spot,.int v]) (_:At H d) (_:pI H a s) (_:pq.Ok m s) (_:m<=4) (_:spot<m) (_:Pl v) (_:∀r xs H',aL H H'->H' r=↥xs->Paired (È H') xs (pq.out s spot v)->Q (.ref r) H')
inductive a2A(pq:PQ κ)(At:Hp->Addr->Prop)(Ti:Int×Int->Prop)(vs:af)(H:Hp)(Q:VK)(u_3:XK):Prop
 |mk (d a p:Addr) (m gW cM:Nat) (t:Int×Int) (s:dU) (_:vs=[.ref d,.ref a,.int gW,.int cM,.ref p]) (_:At H d) (_:pI H a s) (_:pq.Ok m s) (_:m<=4) (_:gW<m) (_:cM<m) (_:gW≠cM) (_:Ti t) (_:H p= ~~~[.int t.1,.int t.2]) (_:∀r xs H',aL H H'->H' r=↥xs->Paired (È H') xs (pq.tie s gW cM t)->Q (.ref r) H')
structure QM(P:Program)(w:World)(K:aJ)(mg:Str->Option Value)(base:Heap)(C:Addr)(m:Str)(ps:ag)(k:Nat)(sp:Sp) where
 f:Addr
 fd:FuncData
 mt:Meth K C m f
 b:Binds K fd ps []
 ok:⋯ k f fd ps sp
set_option genInjectivity false in
structure JN(P:Program)(w:World)(K:aJ)(mg:Str->Option Value)(base:Heap)(κ:Type) [DecidableEq κ] where
 C:Addr
 cl:Cls K C
 knd:KeyKind P w κ
 pq:PQ κ
 At:Hp->Addr->Prop
 Pl:Nat->Prop
 Ti:Int×Int->Prop
 n:Nat
 ts:ar
 keep:∀{H H':Hp}{d:Addr},(∀c o,(∀J,o≠.dT J)->(∀φ,o≠.ext φ)->H c=some o->H' c=some o)->At H d->At H' d
 ins:∀{H:Hp}{d:Addr},At H d->∃dx fs,H d=some (.ins C dx fs)/\(∀m,m∈(XF:ag)->fs.lookup m=none)/\
  (∃a,fs.lookup ("leaf" : Str)=⇑a/\pI H a pq.leaf)/\(∃a,fs.lookup ("whole" : Str)=⇑a/\pI H a pq.whole)/\∃g,fs.lookup ("graph" : Str)=some g/\ur K H g n ts
 uw:jz K C "leaf"
 qR:jz K C "whole"
 pN:jz K C "graph"
 tE:QM P w K mg base C "is_better" xq 8 (Q8 pq At)
 uV:QM P w K mg base C "shared" Ky 8 (Q9 knd pq At)
 Bj:QM P w K mg base C "joined" xq 8 (Ra pq At)
 Bk:QM P w K mg base C "put_in" yu 8 (a2y pq At)
 tG:QM P w K mg base C "taken_out" yu 8 (a2z pq At Pl)
 Ot:QM P w K mg base C "tied" Q5 8 (a2A pq At Ti)
end
abbrev uy:Stmt:=top 28
def Gg:bN ["question","table","state","row","old","better"] Bc (aG uy):={}
section
variable{P:Program}{w:World}{K:aJ}{mg:Str->Option Value}{base:Heap}{κ:Type} [DecidableEq κ]
inductive a4e(Qn:JN P w K mg base κ)(vs:af)(H:Hp)(Q:VK)(u_3:XK):Prop
 |mk (d t a:Addr) (v:V) (J:List (aS×V)) (T:cu) (s:dU) (r:gC) (_:vs=[.ref d,.ref t,.ref a,v]) (_:Qn.At H d) (_:H t=some (.dT J)) (_:oZ H J T) (_:T.length<=4000) (_:pI H a s) (_:JM H v r) (_:∀kvs' H',Sd t H H'->H' t=some (.dT kvs')->oZ H' kvs' (mX Qn.pq.bt T s r)->Q .non H')
def X5(Qn:JN P w K mg base κ)(qH:Dn K mg "note" uy Bc):⋯ 9 qH.f qH.fd Bc (a4e Qn):=by
 let JQ:⋯ 8 _ _ _ _:=Qn.tE.ok;show qH.F.ok Gg λdX A outer s H vs Q E hr h=>?_;let⟨d,t,a,v,J,T,st,r,rfl,hD,ht,hT,lT,ha,hv,q⟩:=h;let hw1:(A.deeper (PyProof.Rows.envOfC "note" (aG uy) s⁻¹ qH.f dX)).units+1<cLine:=by let:=hr.un;omega
 show⟨_,(iW (cO (aM (Ĩ hw1) (pv 2) (pv 1) (by with_unfolding_all rfl))
   (aD (aX 4 Gg.nd (Bb hw1 (pv 1) (pv 2) λ_ _=>rfl))
   (aD (aX 5 Gg.nd (qg (dh (K:=K) Z (vK (pv 0) Qn.cl Qn.tE.mt JQ hr Qn.tE.b .nil bW (O (aP (aO (K:=K) Z) (pv 3) aq) (O (aP (aO (K:=K) Z) (pv 4) aq) aj))) λ_=>rfl) (pv 3) (pv 4)))
   (aF (aX 3 Gg.nd (bK (O (bw dF (aP (aO (K:=K) Z) (pv 4) aq) (aP (aO (K:=K) Z) (pv 3) aq)) (O (aP (aO (K:=K) Z) (pv 5) aq) (O (aP (aO (K:=K) Z) (pv 5) aq) aj))))))))
   bA)
   (aF (vI (pv 3) (NP (pv 1) (pv 2) (Dp hw1))))),?_⟩
 show⟨λσ' G=>∃v' r' o4 o5,σ'=[⇑d,⇑t,⇑a,some v',o4,o5]/\aL H G/\JM G v' r'/\mX Qn.pq.bt T st r=qt T st r',?_,?_⟩
 ·show⟨_,Z,_,Z,a,t,sI st,J,Z,Z,ha.key,ht,_,Z,?_⟩;rcases Gf st hT with⟨e1,e2⟩|⟨v0,r0,e1,e2,h0⟩
  ·rw[e1];show cV ⟨v,r,none,none,Z,aL.refl _,hv,?_⟩;unfold mX;rw[e2]
  ·rw[e1];let⟨p,qs,as,rfl,hp,hq,hs⟩:=hv;let⟨p0,q0,as0,rfl,hp0,hq0,hs0⟩:=h0;show gP ⟨_,Z,_,Z,t,.ref p0,Z,by rw[<-e1];show Fg.t ht ha.key,?_⟩;let⟨dx,fs,hd,nom,_⟩:=Qn.ins hD;show⟨_,Z,d,dx,fs,Z,hd,nom _ (),⟨_,Z,p,_,_,.int r.b,Z,Z,cN.of hp,Z,_,Z,p0,_,_,.int r0.b,Z,Z,cN.of hp0,Z,⟨d,r.b,r0.b,Z,hD,_,Z,?_⟩⟩⟩;let fin:∀(pb:Addr) (rb:gC) (qb:Addr) (asb:aI),H pb= ~~~[.int rb.m,.int rb.b,.ref qb]->H qb= ~~~(asb.map V.ref)->Paired (pI H) asb rb.src->rb=v5 Qn.pq.bt r r0->∀p' H',iD H p' (.tup [.int (r0.m+r.m),.int rb.b,.ref qb]) H'->∃v' r' o4 o5,[some (V.ref d),⇑t,⇑a,⇑p',⇑p0,⇑pb]=[⇑d,⇑t,⇑a,some v',o4,o5]/\aL H H'/\JM H' v' r'/\mX Qn.pq.bt T st r=qt T st r':=λpb rb qb asb h1 h2 h3 e p' H' nw=>by
    show⟨_,⟨r0.m+r.m,rb.b,rb.src⟩,_,_,Z,nw.same,⟨p',qb,asb,Z,nw.here,nw.same _ _ h2,Paired.cD h3 λ_ _ z=>z.keep (.of nw.same)⟩,?_⟩;unfold mX;rw[e2,e]
   cases cb:Qn.pq.bt r.b r0.b with
   |true =>
    show gP ⟨_,Z,?_⟩;show⟨_,Z,p0,_,_,.int r0.m,Z,Z,cN.of hp0,Z,_,Z,p,_,_,.int r.m,Z,Z,cN.of hp,Z,_,_,Z,Z,_,Z,p,_,_,.int r.b,Z,Z,cN.of hp,Z,_,Z,p,_,_,.ref qs,Z,Z,cN.of hp,Z,(),λp' H' nw=>?_⟩;show fin p r qs as hp hq hs (by unfold v5;rw[cb];rfl) p' H' nw
   |false =>
    show cV ⟨_,Z,?_⟩;show⟨_,Z,p0,_,_,.int r0.m,Z,Z,cN.of hp0,Z,_,Z,p,_,_,.int r.m,Z,Z,cN.of hp,Z,_,_,Z,Z,_,Z,p0,_,_,.int r0.b,Z,Z,cN.of hp0,Z,_,Z,p0,_,_,.ref q0,Z,Z,cN.of hp0,Z,(),λp' H' nw=>?_⟩;show fin p0 r0 q0 as0 hp0 hq0 hs0 (by unfold v5;rw[cb];rfl) p' H' nw
 rintro σ' G ⟨v',r',o4,o5,rfl,sG,hr',e⟩;let lk:=aW hT;show⟨_,Z,_,Z,_,Z,t,a,sI st,J,Z,Z,(ha.keep (.of sG)).key,sG _ _ ht,(),λG' c=>?_⟩;let ts:lZ G G':=λc' ys hc=>by
  rw[c.rest c' (λz=>by rw[z,sG _ _ ht]at hc;cases hc)];show hc
 show q _ G' (Sd.trans (.of sG) (.X3 c)) c.here ?_;rw[e];show oZ.keep ts (X4 (hT.keep (.of sG)) hr')
end
end K
namespace L2
open PySem.Calls PyProof.Rows
section
variable{X:Cx}
inductive a6n(x:V)(vs:af)(H:Hp)(Q:VK):Prop
 |mk (l:Addr) (ns:ae) (v:Int) (j:Nat) (_:x=.ref l) (_:vs=[.int v]) (_:H l=↥(List.map V.int ns)) (_:ns[j]?=some v) (_:(∀m:Nat,m<j->ns[m]?≠some v)) (_:ns.length<=1000) (_:Q (.int (j:Int)) H)
noncomputable def isV(v:Int):Value->Bool
 |.int a _=>a==v
 |_=>false
def uW:PL X "list.index" a6n:=by
 intro Y s σ H x vs w us Q I rx rv h;let⟨l,ns,v,j,rfl,rfl,hH,hj,hno,hz,q⟩:=h;cases rx;let⟨u,rfl,ru⟩:=vals1 rv;let⟨t,rfl⟩:=(show ∃t,u=Value.int v t from ru);let⟨z,bR,n,r,hl,e⟩:=I.Vn hH;let hi:=ints_of r;let len:=hi.length;let at_:∀m (hm:m<bR.length),∃k tk,bR[m]=Value.int k tk/\ns[m]?=some k:=λm hm=>by
  let hm2:m<ns.length:=()
  let⟨tk,e⟩:=hi.get m ns[m] (bC hm2);rw[bC hm]at e;injection e with e
  show⟨ns[m],tk,e,bC hm2⟩
 let jl:j<bR.length:=by let:=(eG.mp hj).1;omega
 show yQ F.slot_list_index ⟨_,e,Z⟩ F.entry_list_index (F.args_list_index_2 _ _) (MeetsSeq.list_index l bR.toArray n (.int v t) (isV v) (λy hy=>?_) j (by simpa using jl) () ?_ λm hm hmj=>?_) ⟨e,?_⟩
 ·let⟨m,hm,em⟩:=qC (show y∈bR by simpa using hy);let⟨k,tk,e1,_⟩:=at_ m hm;rw[<-em,e1];show MeetsSeq.EqGives.int k v tk t
 ·let⟨k,tk,e1,e2⟩:=at_ j jl;rw[hj]at e2;injection e2 with e2
  simp only[List.getElem_toArray];rw[e1,<-e2];show MT v
 ·let hm':m<bR.length:=by simpa using hm
  let⟨k,tk,e1,e2⟩:=at_ m hm';simp only[List.getElem_toArray];rw[e1];show(k==v)=false;let:k≠v:=λz=>hno m hmj (by rw[e2,z]);simpa using this
 ·show⟨.int j,H,I.tok _,⟨_,Z⟩,q⟩
end
end L2
namespace K
open L2 Lw Bg
inductive bZ where
 |leaf
 |inn (v:Int)
 |tie (a b:Int)
 |out (v:Int)
 |join
deriving DecidableEq
abbrev ax:=List bZ
variable{H:Hp}{K:aJ}
noncomputable def bZ.vs:bZ->af
 |.leaf=>[.str "leaf"]
 |.inn v=>[.str "in",.int v]
 |.tie a b=>[.str "tie",.int a,.int b]
 |.out v=>[.str "out",.int v]
 |.join=>[.str "join"]
noncomputable def bZ.d:bZ->PyData
 |.leaf=>.tuple [.str "leaf"]
 |.inn v=>.tuple [.str "in",.int v]
 |.tie a b=>.tuple [.str "tie",.int a,.int b]
 |.out v=>.tuple [.str "out",.int v]
 |.join=>.tuple [.str "join"]
noncomputable def bZ.word:bZ->Str
 |.leaf=>"leaf"
 |.inn _=>"in"
 |.tie _ _=>"tie"
 |.out _=>"out"
 |.join=>"join"
noncomputable def bZ.need:bZ->Nat
 |.leaf=>0
 |.join=>2
 |_=>1
def uz(K:aJ)(H:Hp)(v:V)(s:bZ):Prop:=∃p,v=.ref p/\cN K H p s.vs
def uz.same{H':Hp}{v:V}{s:bZ}(e:aL H H')(h:uz K H v s):uz K H' v s:=by
 let⟨p,rfl,h⟩:=h;show⟨p,Z,e.vM h⟩
def uz.isD{v:V}{s:bZ}(h:uz K H v s):Hw K H v s.d:=by
 let⟨p,rfl,h⟩:=h;cases s with
 |leaf=>show .tup h (.cons (.str _) .nil)
 |inn v=>show .tup h (.cons (.str _) (.cons (.int _) .nil))
 |tie a b=>show .tup h (.cons (.str _) (.cons (.int _) (.cons (.int _) .nil)))
 |out v=>show .tup h (.cons (.str _) (.cons (.int _) .nil))
 |join=>show .tup h (.cons (.str _) .nil)
def Zr:dG El (.inr "leaf")=some (.int 0):=by decide
def a05:dG El (.inr "in")=some (.int 1):=by decide
def ļ:dG El (.inr "tie")=some (.int 1):=by decide
def Ľ:dG El (.inr "out")=some (.int 1):=by decide
def Zt:dG El (.inr "join")=some (.int 2):=by decide
def a06(s:bZ):dG El (.inr s.word)=some (.int (s.need:Int)):=by
 cases s with
 |leaf=>show Zr
 |inn v=>show a05
 |tie a b=>show ļ
 |out v=>show Ľ
 |join=>show Zt
def xW(s:bZ):Vi s.vs ((0:Nat):Int)=some (.str s.word):=by cases s<;>rfl
def a4f:∀x∈["leaf","in","tie","out","join"],PyData.strOk (Str.ofString x)=true:=by decide
def X6(s:bZ):s.d.canLay0=true:=by
 let h:=a4f;cases s with
 |leaf=>simp[bZ.d,PyData.canLay0,PyData.canLayAll0,h]
 |inn v=>simp[bZ.d,PyData.canLay0,PyData.canLayAll0,h]
 |tie a b=>simp[bZ.d,PyData.canLay0,PyData.canLayAll0,h]
 |out v=>simp[bZ.d,PyData.canLay0,PyData.canLayAll0,h]
 |join=>simp[bZ.d,PyData.canLay0,PyData.canLayAll0,h]
def KQ(s:bZ):s.d.depth<=1:=by cases s<;>simp[bZ.d,PyData.depth,PyData.depthAll]
def V6(s:bZ):SeqAt.shaped s.d=true:=by
 unfold SeqAt.shaped;rw[X6,GX];show aR (by let:=KQ s;omega)
def Rb(ss:ax):SeqAt.shaped (.list (ss.map bZ.d))=true:=by
 unfold SeqAt.shaped;rw[PyData.canLay0,FT X6,PyData.depth,GX];show aR (by let:=uR KQ ss;omega)
noncomputable def bZ.tag:bZ->Nat
 |.leaf=>0
 |.inn _=>1
 |.tie _ _=>2
 |.out _=>3
 |.join=>4
noncomputable def bZ.args:bZ->ae
 |.leaf=>[]
 |.inn v=>[v]
 |.tie a b=>[a,b]
 |.out v=>[v]
 |.join=>[]
noncomputable def Er(i:Nat):Str:=Str.ofString (["leaf","in","tie","out","join"].getD i "")
def Ii:∀i,i<5->∀j,j<5->(Er i==Er j)=decide (i=j):=by decide
def Ij(s:bZ):s.word=Er s.tag:=by cases s<;>rfl
def V7(s:bZ):s.tag<5:=by cases s<;>simp[bZ.tag]
def a2B(s:bZ):s.d=.tuple (.str s.word::s.args.map PyData.int):=by cases s<;>rfl
def a4g{s t:bZ}(h:s.tag=t.tag)(a:s.args=t.args):s=t:=by
 cases s<;>cases t<;>simp_all[bZ.tag,bZ.args]
theorem Et:∀xs ys:ae,PyData.eqvAll (xs.map PyData.int) (ys.map PyData.int)=decide (xs=ys)
 | [],[]=>by simp[PyData.eqvAll]
 | [],_::_=>by simp[PyData.eqvAll]
 |_::_,[]=>by simp[PyData.eqvAll]
 |x::xs,y::ys=>by
  rw[b8,b8,PyData.eqvAll,Et xs ys,PyData.eqv,rK]
  simp
def X7(s t:bZ):PyData.eqv s.d t.d=decide (s=t):=by
 rw[a2B,a2B,PyData.eqv,PyData.eqvAll,Et,PyData.eqv,Ij,Ij,Ii _ (V7 s) _ (V7 t),rK,fU,dJ,dJ,dJ];show⟨λh=>a4g h.1 h.2,λh=>by grind⟩
def a07(ss:ax)(t:bZ):(ss.map bZ.d).any (λe=>PyData.eqv e t.d)=decide (t∈ss):=by
 rw[Hf,rK,Um,dJ];constructor
 ·rintro⟨x,hx,e⟩;let:PyData.eqv x.d t.d=true:=e;rw[X7]at this;show dw this▸hx
 ·show λh=>⟨t,h,by show PyData.eqv t.d t.d=true;rw[X7];show aR Z⟩
abbrev fP:Stmt:=top 26
def uX:bN ["question","old","step","bag","spot"] Em (aG fP):={}
section
variable{P:Program}{w:World}{mg:Str->Option Value}{base:Heap}{κ:Type} [DecidableEq κ]
noncomputable def V8(pq:PQ κ)(s:dU)(jN:bZ)(B:ae):List (dU×Int):=match jN with
 |.inn v=>pq.inn s (B.idxOf v) v.toNat
 |.out v=>pq.out s (B.idxOf v) v.toNat
 |.tie a b=>pq.tie s (B.idxOf a) (B.idxOf b) (a,b)
 |_=>[]
def Gh(Qn:JN P w K mg base κ)(jN:bZ)(B:ae)(m:Nat):Prop:=match jN with
 |.inn v=>(∃n:Nat,v=(n:Int))/\v∈B/\B.length=m+1/\m<=4
 |.out v=>(∃n:Nat,v=(n:Int)/\Qn.Pl n)/\v∈B/\B.length=m/\m<=4
 |.tie a b=>a∈B/\b∈B/\a≠b/\B.length=m/\m<=4/\Qn.Ti (a,b)
 |_=>False
def vR{B:ae}{v:Int}(h:v∈B):B[B.idxOf v]?=some v/\∀m:Nat,m<B.idxOf v->B[m]?≠some v:=by
 induction B with
 |nil=>cases h
 |cons x B ih =>
  rw[Uu];by_cases c:x=v
  ·subst c;rw[MT];show⟨Z,λm hm=>absurd hm (wQ m)⟩
  ·rw[qz.mpr c];let⟨h1,h2⟩:=ih ((bQ.mp h).resolve_left λz=>c z.symm);show⟨h1,λm hm=>?_⟩;cases m with
   |zero=>show λz=>c (dD z)
   |succ m=>show h2 m (by simpa using hm)
def rW{B:ae}{v:Int}(h:v∈B):B.idxOf v<B.length:=Gq h
def a4h{B:ae}{a b:Int}(h:a∈B)(h':b∈B)(n:a≠b):B.idxOf a≠B.idxOf b:=λe=>by
 let h1:=(vR h).1;let h2:=(vR h').1;rw[e,h2]at h1;show n (dD h1).symm
inductive ľ(Qn:JN P w K mg base κ)(vs:af)(H:Hp)(Q:VK)(u_3:XK):Prop
 |mk (d a ps pb:Addr) (s:dU) (jN:bZ) (B:ae) (m:Nat) (_:vs=[.ref d,.ref a,.ref ps,.ref pb]) (_:Qn.At H d) (_:pI H a s) (_:Qn.pq.Ok m s) (_:cN K H ps jN.vs) (_:H pb=↥(B.map V.int)) (_:Gh Qn jN B m) (_:∀r xs H',aL H H'->H' r=↥xs->Paired (È H') xs (V8 Qn.pq s jN B)->Q (.ref r) H')
def Dt(Qn:JN P w K mg base κ)(wA:Dn K mg "states_behind" fP Em):⋯ 9 wA.f wA.fd Em (ľ Qn):=by
 let V9:⋯ 8 _ _ _ _:=Qn.Bk.ok;let JR:⋯ 8 _ _ _ _:=Qn.tG.ok;let Ŀ:⋯ 8 _ _ _ _:=Qn.Ot.ok;show wA.F.ok uX λdX A outer s H vs Q E hr h=>?_;let⟨d,a,ps,pb,st,jN,B,m,rfl,hD,ha,ok,hs,hb,fit,q⟩:=h;let⟨dx,fs,hd,nom,_⟩:=Qn.ins hD;show⟨_,(aD (aX 4 uX.nd (gA (K:=K) Z gJ Gu Gv uW (pv 3) (O (aP (aO (K:=K) Z) (pv 2) aq) aj)))
   (aD (cO (aM lX (aP (aO (K:=K) Z) (pv 2) aq) gw)
   (aF (bJ (vK (pv 0) Qn.cl Qn.Bk.mt V9 hr Qn.Bk.b .nil bW (O (pv 1) (O (pv 4) (O (aP (aO (K:=K) Z) (pv 2) aq) aj))))))
   bA)
   (aD (cO (aM lX (aP (aO (K:=K) Z) (pv 2) aq) gw)
   (aF (bJ (vK (pv 0) Qn.cl Qn.tG.mt JR hr Qn.tG.b .nil bW (O (pv 1) (O (pv 4) (O (aP (aO (K:=K) Z) (pv 2) aq) aj))))))
   bA)
   (aF (bJ (vK (pv 0) Qn.cl Qn.Ot.mt Ŀ hr Qn.Ot.b .nil bW (O (pv 1) (O (pv 4) (O (gA (K:=K) Z gJ Gu Gv uW (pv 3) (O (aP (aO (K:=K) Z) (pv 2) aq) aj)) (O (eX (Ba (K:=K) Z) (pv 2) (gh aq) gb) aj)))))))))),?_⟩
 let lB:B.length<=1000:=by
  cases jN<;>first|exact fit.elim|skip
  ·let⟨_,_,e,l⟩:=fit;omega
  ·let⟨_,_,_,e,l,_⟩:=fit;omega
  ·let⟨_,_,e,l⟩:=fit;omega
 let fld:∀(mth:Str),mth∈(XF:ag)->fs.lookup mth=none:=nom;cases jN with
 |leaf=>show fit.elim
 |join=>show fit.elim
 |inn v =>
  let⟨⟨n,rfl⟩,hv,el,m4⟩:=fit;let ix:=vR hv;show⟨_,Z,.inl ⟨Z,_,bB.of hb⟩,_,Z,ps,_,_,_,Z,Z,hs,Z,pb,B,_,_,Z,Z,hb,ix.1,ix.2,lB,⟨_,Z,ps,_,_,_,Z,Z,hs,Z,Z,_,Z,gP ⟨_,Z,d,dx,fs,Z,hd,fld _ (),_,Z,_,Z,_,Z,ps,_,_,_,Z,Z,hs,Z,⟨d,a,m,_,n,st,Z,hD,ha,ok,m4,?_,λr xs H' s' h1 h2=>q r xs H' s' h1 h2⟩⟩⟩⟩;grind
 |out v =>
  let⟨⟨n,rfl,pn⟩,hv,el,m5⟩:=fit;let ix:=vR hv;show⟨_,Z,.inl ⟨Z,_,bB.of hb⟩,_,Z,ps,_,_,_,Z,Z,hs,Z,pb,B,_,_,Z,Z,hb,ix.1,ix.2,lB,⟨_,Z,ps,_,_,_,Z,Z,hs,Z,Z,_,Z,cV ⟨_,Z,ps,_,_,_,Z,Z,hs,Z,Z,_,Z,gP ⟨_,Z,d,dx,fs,Z,hd,fld _ (),_,Z,_,Z,_,Z,ps,_,_,_,Z,Z,hs,Z,⟨d,a,m,_,n,st,Z,hD,ha,ok,m5,?_,pn,λr xs H' s' h1 h2=>q r xs H' s' h1 h2⟩⟩⟩⟩⟩;grind
 |tie x y =>
  let⟨hx,hy,ne,el,m5,ti⟩:=fit;let ix:=vR hx;let iy:=vR hy;show⟨_,Z,.inl ⟨Z,_,bB.of hb⟩,_,Z,ps,_,_,_,Z,Z,hs,Z,pb,B,_,_,Z,Z,hb,ix.1,ix.2,lB,⟨_,Z,ps,_,_,_,Z,Z,hs,Z,Z,_,Z,cV ⟨_,Z,ps,_,_,_,Z,Z,hs,Z,Z,_,Z,cV ⟨_,Z,d,dx,fs,Z,hd,fld _ (),_,Z,_,Z,_,Z,.inl ⟨Z,_,bB.of hb⟩,_,Z,ps,_,_,_,Z,Z,hs,Z,pb,B,_,_,Z,Z,hb,iy.1,iy.2,lB,_,Z,?_⟩⟩⟩⟩;show⟨_,Z,ps,_,Z,hs,(λz=>absurd z.1 (show ¬(1:Nat)=0 by decide)),λpt H1 n1=>?_⟩;let s1:=n1.same;show⟨d,a,pt,m,_,_,(x,y),st,Z,Qn.keep (λc o _ _ e=>s1 c o e) hD,ha.keep (.of s1),ok,m5,?_,?_,a4h hx hy ne,ti,n1.here,λr xs H' s' h1 h2=>q r xs H' (s1.trans s') h1 h2⟩
  ·let:=rW hx;omega
  ·let:=rW hy;omega
end
abbrev jJ:Stmt:=top 25
def mq:bN ["question","table","source","step","bag","old","row","state","amount"] Ia (aG jJ):={}
section
variable{P:Program}{w:World}{mg:Str->Option Value}{base:Heap}{κ:Type} [DecidableEq κ]
def Nd(H H':Hp):Prop:=∀c o,(∀J,o≠.dT J)->(∀φ,o≠.ext φ)->H c=some o->H' c=some o
def Nd.trans{H' Sv:Hp}(a:Nd H H')(b:Nd H' Sv):Nd H Sv:=λc o n m h=>b c o n m (a c o n m h)
def Nd.of{H':Hp}(a:aL H H'):Nd H H':=λc o _ _ h=>a c o h
def Nd.sd{t:Addr}{H':Hp}{J:List (aS×V)}(a:Sd t H H')(h:H t=some (.dT J)):Nd H H':=λc o n _ e=>a c o (λz=>by grind) e
def Nd.iK{t:Addr}{J:List (aS×V)}{u:HO}(h:H t=some (.dT J)):Nd H (cY H t u):=λc o n _ e=>by
 rw[aZ (λz=>by grind)];show e
def Nd.Oo{t:Addr}{ob:Obj}{J:List (aS×V)}{u:HO}(h:H t=some (.iK ob (.dT J)))(c:Addr)(ys:af)(e:H c= ~~~ys):cY H t u c= ~~~ys:=by
 rw[aZ (λz=>by grind)];show e
def Nd.tups{H':Hp}(a:Nd H H'):lZ H H':=λc ys e=>a c _ (λ_ z=>by cases z) (λ_ z=>by cases z) e
def Nd.lst{H H':Hp}(a:Nd H H'){c:Addr}{ys:af}(e:H c=↥ys):H' c=↥ys:=a c _ (λ_ z=>by cases z) (λ_ z=>by cases z) e
def Nd.sqt{H':Hp}(a:Nd H H'){c:Addr}{ys:af}(e:cN K H c ys):cN K H' c ys:=by
 rcases e with(e|⟨o,e⟩)|e
 ·show .inl (.inl (a c _ (λ_ z=>by cases z) (λ_ z=>by cases z) e))
 ·show .inl (.inr ⟨o,a c _ (λ_ z=>by cases z) (λ_ z=>by cases z) e⟩)
 ·show .inr e
def Nd.at(Qn:JN P w K mg base κ){H':Hp}{d:Addr}(a:Nd H H')(h:Qn.At H d):Qn.At H' d:=Qn.keep a h
def lE(bt:Int->Int->Bool)(old:dU)(row:gC):List (dU×Int)->cu->cu
 | [],T=>T
 |x::l,T=>lE bt old row l (mX bt T x.1 ⟨row.m,row.b+x.2,[old]⟩)
def nH(pq:PQ κ)(jN:bZ)(B:ae):cu->cu->cu
 | [],T=>T
 |x::S,T=>nH pq jN B S (lE pq.bt x.1 x.2 (V8 pq x.1 jN B) T)
theorem Bm(bt:Int->Int->Bool)(old:dU)(row:gC)(x:dU×Int):∀(l:List (dU×Int)) (T:cu),lE bt old row (l++[x]) T=mX bt (lE bt old row l T) x.1 ⟨row.m,row.b+x.2,[old]⟩
 | [],_=>rfl
 |_::l,T=>Bm bt old row x l _
theorem Ik(pq:PQ κ)(jN:bZ)(B:ae)(x:dU×gC):∀(S T:cu),nH pq jN B (S++[x]) T=lE pq.bt x.1 x.2 (V8 pq x.1 jN B) (nH pq jN B S T)
 | [],_=>rfl
 |_::S,T=>Ik pq jN B x S _
def a4i(pq:PQ κ)(jN:bZ)(B:ae)(S T:cu):Prop:=∀i,i<=S.length->∀x,S[i]?=some x->∀j,j<=(V8 pq x.1 jN B).length->(lE pq.bt x.1 x.2 ((V8 pq x.1 jN B).take j) (nH pq jN B (S.take i) T)).length<=4000
inductive ŀ(Qn:JN P w K mg base κ)(vs:af)(H:Hp)(Q:VK)(u_3:XK):Prop
 |mk (d t sc ps pb:Addr) (J mR:List (aS×V)) (T S:cu) (jN:bZ) (B:ae) (m:Nat) (_:vs=[.ref d,.ref t,.ref sc,.ref ps,.ref pb]) (_:Qn.At H d) (_:H t=some (.dT J)) (_:oZ H J T) (_:H sc=some (.dT mR)) (_:oZ H mR S) (_:t≠sc) (_:(∀x∈S,Qn.pq.Ok m x.1)) (_:cN K H ps jN.vs) (_:H pb=↥(B.map V.int)) (_:Gh Qn jN B m) (_:S.length<=4000) (_:a4i Qn.pq jN B S T) (_:∀kvs' H',Sd t H H'->H' t=some (.dT kvs')->oZ H' kvs' (nH Qn.pq jN B S T)->Q .non H')
def X8{P:Nat->St->Hp->Prop}{R:Prop}(h:∀Z97:Nat->St->Hp->Prop,(∀i σ H,P i σ H->Z97 i σ H)->(∀i σ H,Z97 i σ H->P i σ H)->R):R:=h P (λ_ _ _ z=>z) (λ_ _ _ z=>z)
def JS(Qn:JN P w K mg base κ)(wA:Dn K mg "states_behind" fP Em)(qH:Dn K mg "note" uy Bc)(yc:Dn K mg "fill_along" jJ Ia):⋯ 10 yc.f yc.fd Ia (ŀ Qn):=by
 let a72:⋯ 9 _ _ _ _:=Dt Qn wA;let a4j:⋯ 9 _ _ _ _:=X5 Qn qH;show yc.F.ok mq λdX A outer s H vs Q E hr h=>?_;let⟨d,t,sc,ps,pb,J,mR,T,S,jN,B,m,rfl,hD,ht,hT,hsc,hS,nts,Ł,hs,hb,fit,lS,lim,q⟩:=h;show⟨_,(aF (xj (iz gK Z (uU (qQ (K:=K) Z tU Gw Gx uT (pv 2))) (jG (K:=K) (n:=2) Z Z (bT (aN 5 mq.nd) (bT (aN 6 mq.nd) iU)))
   (aF (iz gK Z (eY (K:=K) Z (aY a72 hr Z wA.m wA.F.kp wA.b .nil bW (O (pv 0) (O (pv 5) (O (pv 3) (O (pv 4) aj)))))) (jG (K:=K) (n:=2) Z Z (bT (aN 7 mq.nd) (bT (aN 8 mq.nd) iU)))
   (aF (dZ (aY a4j hr Z qH.m qH.F.kp qH.b .nil bW (O (pv 0) (O (pv 1) (O (pv 7) (O (bK (O (aP (aO (K:=K) Z) (pv 6) aq) (O (bw dF (aP (aO (K:=K) Z) (pv 6) aq) (pv 8)) (O (bK (O (pv 5) aj)) aj)))) aj)))))))))))),?_⟩
 show⟨_,Z,.inr (.inr (.inl ⟨Z,.inr ⟨_,hsc⟩⟩)),sc,mR,Z,Z,hsc,λpv H1 n1=>⟨pv,sc,mR,Z,n1.here,n1.same _ _ hsc,λo as pk=>?_⟩⟩;let h1s:=n1.same _ _ hsc;let Wa:Nd H (cY H1 sc (.iK o (.dT mR))):=(Nd.of n1.same).trans (Nd.iK h1s);let g0s:cY H1 sc (.iK o (.dT mR)) sc=some (.iK o (.dT mR)):=dN;let Sw:cY H1 sc (.iK o (.dT mR)) t=some (.dT J):=by rw[aZ nts];show n1.same _ _ ht
 let Yb:∀c,c≠sc->cY H1 sc (.iK o (.dT mR)) c=H1 c:=λc hc=>aZ hc;generalize cY H1 sc (.iK o (.dT mR))=G0 at pk Wa g0s Sw Yb ⊢;let lk:=aW hS;let la:=aW pk;show X8 (P:=λi σ G=>P4 (T4 (λo5 o6 o7 o8=>[⇑d,⇑t,⇑sc,⇑ps,⇑pb,o5,o6,o7,o8]) σ) (Sd t G0 G) (λkt=>G t=some (.dT kt)) λkt=>oZ G kt (nH Qn.pq jN B (S.take i) T)) λZ97 ji ij=>vQ Z97 (ji _ _ _ ⟨⟨_,_,_,_,Z⟩,.refl,J,Sw,hT.keep Wa.tups⟩) (λi σ G _ h=>(ij _ _ _ h).s _ _ (Ne.symm nts) g0s) ?_ ?_
 ·intro i a0 v0 σ G p G1 ha0 hv0 h nw;let⟨⟨o5,o6,o7,o8,rfl⟩,sG,kt,hkt,Yc⟩:=ij _ _ _ h;let⟨kv,hkv,hak⟩:=bI pk ha0;let⟨⟨old,row⟩,hsx,ek,hrow⟩:=bI hS hkv;let ek:kv.1=sI old:=ek;let hv0':v0=kv.2:=by
   rw[cI,hkv]at hv0;show(dD hv0).symm
  subst hv0';rw[ek]at hak;let nG:Nd G0 G:=.sd sG Sw;let n1':aL G G1:=nw.same;let η:Nd G0 G1:=nG.trans (.of n1');let nH1:Nd H G1:=Wa.trans η;let hold:pI G1 a0 old:=pI.KN (η.tups _ _ hak);let wg:JM G1 kv.2 row:=hrow.keep nH1.tups;let mem:(old,row)∈S:=gZ hsx;show⟨p,_,Z,cN.of nw.here,Z,_,_,Z,_,_,Z,Z,⟨_,Z,_,Z,_,Z,_,Z,d,a0,ps,pb,old,jN,B,m,Z,nH1.at Qn hD,hold,Ł _ mem,nH1.sqt hs,nH1.lst hb,fit,λr xs G2 s2 hr2 pm=>⟨r,Z,⟨_,bB.of hr2⟩,?_⟩⟩⟩;let hT2:oZ G2 kt (nH Qn.pq jN B (S.take i) T):=Yc.keep (lZ.of (n1'.trans s2));let ht2:G2 t=some (.dT kt):=(n1'.trans s2) _ _ hkt;let lpm:=aW pm;let a73:=lim i (fD (eG.mp hsx).1) _ hsx;let hTi:S.take (i+1)=S.take i++[(old,row)]:=by rw[jr,hsx];rfl
  show X8 (P:=λj σ G'=>P4 (T2 (λo7 o8=>[⇑d,⇑t,⇑sc,⇑ps,⇑pb,⇑a0,some kv.2,o7,o8]) σ) (Sd t G2 G') (λPX=>G' t=some (.dT PX)) λPX=>oZ G' PX (lE Qn.pq.bt old row ((V8 Qn.pq old jN B).take j) (nH Qn.pq jN B (S.take i) T))) λJ2 ji2 ij2=>wX (K:=K) (a:=r) (xs:=xs) J2 (ji2 _ _ _ ⟨⟨_,_,Z⟩,.refl,kt,ht2,hT2⟩) (λj σ G' _ h=>bB.of ((Nd.sd (ij2 _ _ _ h).s ht2).lst hr2)) ?_ ?_
  ·intro j x σ G' hx h2;let⟨⟨o7,o8,rfl⟩,θ,PX,Wb,hT'⟩:=ij2 _ _ _ h2;let⟨⟨st',am⟩,hmx,pp,aa,rfl,zQ,haa⟩:=bI pm hx;let n2':Nd G2 G':=.sd θ ht2;let nHG:Nd H G':=nH1.trans ((Nd.of s2).trans n2');let⟨pr,qr,asr,Wc,hpr,hqr,hsr⟩:=wg.keep ((lZ.of s2).trans n2'.tups);show⟨pp,_,Z,cN.of (n2'.tups _ _ zQ),Z,_,_,Z,_,_,Z,Z,?_⟩;rw[Wc];show⟨_,Z,_,Z,_,Z,_,Z,pr,_,_,.int row.m,Z,Z,cN.of hpr,Z,_,Z,pr,_,_,.int row.b,Z,Z,cN.of hpr,Z,_,Z,_,_,Z,Z,_,Z,(),λq1 G3 m3=>⟨(),λq2 G4 m4=>?_⟩⟩;let É:=m3.same.trans m4.same;let a6o:pI G4 a0 old:=hold.keep ((lZ.of s2).trans (n2'.tups.trans (.of É)));show⟨d,t,aa,.ref q2,PX,_,st',⟨row.m,row.b+am,[old]⟩,Z,(nHG.trans (.of É)).at Qn hD,É _ _ Wb,hT'.keep (.of É),?_,haa.keep (n2'.tups.trans (.of É)),⟨q2,q1,[a0],Z,m4.here,m4.same _ _ m3.here,.cons a6o .nil⟩,λZu G5 s5 h5 hT5=>?_⟩
   ·show a73 j (fD (eG.mp hmx).1)
   ·show ji2 _ _ _ ⟨⟨⇑aa,some (.int am),by rw[Wc];rfl⟩,θ.trans ((Sd.of É).trans s5),Zu,h5,?_⟩;rw[jr,hmx];show oZ G5 Zu (lE Qn.pq.bt old row ((V8 Qn.pq old jN B).take j++[(st',am)]) _);rw[Bm];show hT5
  ·intro σ G' h2;let⟨⟨o7,o8,rfl⟩,θ,PX,Wb,hT'⟩:=ij2 _ _ _ h2;show ji _ _ _ ⟨⟨_,_,_,_,Z⟩,sG.trans ((Sd.of (n1'.trans s2)).trans θ),PX,Wb,?_⟩;rw[hTi,Ik];rw[lpm,ig]at hT';show hT'
 ·intro σ G h;let⟨⟨o5,o6,o7,o8,rfl⟩,sG,kt,hkt,Yc⟩:=ij _ _ _ h;let gs:=sG _ _ (Ne.symm nts) g0s;show⟨sc,o,mR,mR,hsc,gs,?_⟩;show q kt _ (λc u hc e=>?_) (by rw[aZ nts];show hkt) ?_
  ·by_cases z:c=sc
   ·rw[z]at e ⊢;rw[dN,<-e,hsc]
   ·rw[aZ z];show sG c u hc ?_;rw[Yb c z];show n1.same _ _ e
  ·rw[show S.take as.length=S by rw[la,lk,ig]]at Yc;show Yc.keep (Nd.Oo gs)
end
end K
namespace L2
open PyProof.Rows Bg
section
variable{X:Cx}{tg:Expr}
def a4k(td:TE):TI:=λσ H R=>td σ H λx H1=>∃d J,x=.ref d/\H1 d=some (.dT J)/\
 ∀o as,Paired (λa (kv:aS×V)=>(cY H1 d (.iK o (.dT J))) a= ~~~(kv.1.map kV)) as J->R (Itp o d (.dT J) as) (cY H1 d (.iK o (.dT J)))
def ł{l:Expr}{td:TE}(hl:PE X l td):PI X tg l (a4k td):=by
 intro Y s σ H R I h;show jC (hl Y s σ H _ I h) λv s1 ⟨x,H1,I1,r1,q1⟩=>?_;let⟨d,J,e,hd,q⟩:=q1;subst e;cases r1;let⟨_,hs,xs,rel,o,es,ep,ho,hx,hdt,hes,_,_⟩:=Ek I1.hok hd;let I2:bD X Y σ (cY H1 d (.iK o (.dT J))) s1:=I1.Om hd (λ_ z=>by cases z) (λ_ z=>by cases z) (λ_ z=>by cases z) (I1.QW hd λ_ _ z=>by cases z) ⟨ho,I1.hok d _ hd⟩;let ek:es.toList.map (·.key)=(xs.map λx=>x.2.1).map Value.ref:=by rw[hes,lR,lR];rfl
 let pk:Paired (λa (kv:aS×V)=>(cY H1 d (.iK o (.dT J))) a= ~~~(kv.1.map kV)) (xs.map λx=>x.2.1) J:=by
  let go:∀{ks:List (aS×V)}{ys:List (aS×Addr×Value)},KT H1 ks ys->Paired (λa (kv:aS×V)=>(cY H1 d (.iK o (.dT J))) a= ~~~(kv.1.map kV)) (ys.map λx=>x.2.1) ks:=λ{ks ys} r=>by
   induction r with
   |nil=>show .nil
   | @cons kv y _ _ a _ ih =>
    show .cons ?_ ih;let nb:y.2.1≠d:=λz=>by grind
    rw[aZ nb];show a.2.1
  show go rel
 show Dq.Ay hs ho hx hdt ⟨s1⁻¹,[s1⁻¹],_,_,_,Z,I2.kept (t':=s1.toks) λb o e=>bL _ e,VR d _ hdt ek,b7 _ Z,λb hb=>?_,q o _ pk⟩;let e:b=s1⁻¹:=()
 subst e;show I2.Fd (aK _) (I2.hok.fresh (aK _))
end
def Zv{o:Obj}{d:Addr}{u:HO}{as:aI}{g:TG}{tb:TS}{D:Ends}{σ:St}{H:Hp}(Pv:Nat->St->Hp->Prop)(h0:Pv 0 σ H)(hl:∀i σ H,i<=as.length->Pv i σ H->H d=some (.iK o u))
  (hs:∀(i:Nat) a σ H,as[i]?=some a->Pv i σ H->g (.ref a) σ H λσ2 H2=>tb { D with nx:=Pv (i+1),ct:=Pv (i+1),bk:=D.nx} σ2 H2) (hd:∀σ H,Pv as.length σ H->D.nx σ H) :
  ∃W:Nat->Nat->St->Hp->Prop,(∃m,W 0 m σ H)/\∀i m σ H,W i m σ H->
   ((Itp o d u as).stop i H/\D.nx σ H)\/((Itp o d u as).go i H/\∃N:St->Hp->Prop,(∀σ' H',N σ' H'->∃m',m'<m/\W (i+1) m' σ' H')/\∀x H',(Itp o d u as).W6 i H x H'->g x σ H' λσ2 H2=>tb { D with nx:=N,ct:=N,bk:=D.nx} σ2 H2):=by
 show⟨λi m σ H=>m=as.length-i/\i<=as.length/\Pv i σ H,⟨as.length,by simp,cW _,h0⟩,?_⟩;rintro i m σ H ⟨rfl,hi,p⟩;let q1:=hl i σ H hi p;by_cases hlt:i<as.length
 ·show .inr ⟨⟨q1,hlt⟩,Pv (i+1),λσ' H' p'=>⟨as.length-(i+1),(),Z,hlt,p'⟩,λx H' y=>?_⟩;let⟨eH,ex⟩:=y;subst eH;rw[cI,bC hlt]at ex;cases ex;show hs i as[i] σ H' (bC hlt) p
 ·let e:i=as.length:=()
  subst e;show .inl ⟨⟨q1,Z⟩,hd σ H p⟩
section
variable{X:Cx}
def Ń(i j:Int):Prop:=i.natAbs<2^4000/\j.natAbs<2^4000
def KR{k:Int}(h:k.natAbs<2^4000):Builtin.Int.intBits k<=4000:=by
 unfold Builtin.Int.intBits;split
 ·grind
 ·let:k.natAbs.log2<4000:=by
   rcases Nat.eq_zero_or_pos k.natAbs with h0|hp
   ·rw[h0];decide
   ·show(Nat.log2_lt (iJ hp)).mpr h
  omega
def Ń.ok{i j:Int}(h:Ń i j):IntMulOk i j:=by
 let h1:=KR h.1;let h2:=KR h.2;let:Builtin.Int.intTooBig ((Builtin.Int.intBits i:Int)+(Builtin.Int.intBits j:Int))=false:=by
  unfold Builtin.Int.intTooBig;show cC ?_;let e:((bitsLine:Nat):Int)=134217728:=()
  grind
 unfold IntMulOk;rw[this,Bool.and_false];show cL
def a08:rA X (binaryOp .Mult) (rI Ń λi j=>.int (i*j)):=opI λ_ _ _ _ _ _ _ hc q=>mul_int q hc.ok
end
end L2
namespace K
open L2 Lw Bg
variable{P:Program}{w:World}{mg:Str->Option Value}{base:Heap}{ex:aI}{F:Hp}{pa:Addr}
section
variable{κ:Type} [DecidableEq κ]
def yw(bt:Int->Int->Bool)(gW cM:dU)(row more:gC):List dU->cu->cu
 | [],T=>T
 |x::l,T=>yw bt gW cM row more l (mX bt T x ⟨row.m*more.m,row.b+more.b,[gW,cM]⟩)
def yx(pq:PQ κ)(gW:dU)(row:gC):cu->cu->cu
 | [],T=>T
 |x::A,T=>yx pq gW row A (yw pq.bt gW x.1 row x.2 (pq.jn gW x.1) T)
noncomputable def pB(pq:PQ κ)(gW:dU)(A:cu):cu:=A.filter λx=>decide (pq.sh x.1=pq.sh gW)
def wj(pq:PQ κ)(A:cu):cu->cu->cu
 | [],T=>T
 |x::S,T=>wj pq A S (yx pq x.1 x.2 (pB pq x.1 A) T)
theorem Il(bt:Int->Int->Bool)(gW cM:dU)(row more:gC)(x:dU):∀(l:List dU) (T:cu),yw bt gW cM row more (l++[x]) T=mX bt (yw bt gW cM row more l T) x ⟨row.m*more.m,row.b+more.b,[gW,cM]⟩
 | [],_=>rfl
 |_::l,T=>Il bt gW cM row more x l _
theorem Im(pq:PQ κ)(gW:dU)(row:gC)(x:dU×gC):∀(A T:cu),yx pq gW row (A++[x]) T=yw pq.bt gW x.1 row x.2 (pq.jn gW x.1) (yx pq gW row A T)
 | [],_=>rfl
 |_::A,T=>Im pq gW row x A _
theorem join_snoc(pq:PQ κ)(A:cu)(x:dU×gC):∀(S T:cu),wj pq A (S++[x]) T=yx pq x.1 x.2 (pB pq x.1 A) (wj pq A S T)
 | [],_=>rfl
 |_::S,T=>join_snoc pq A x S _
def a4l(pq:PQ κ)(A S T:cu):Prop:=∀i x,S[i]?=some x->∀j y,(pB pq x.1 A)[j]?=some y->∀l,l<=(pq.jn x.1 y.1).length->(yw pq.bt x.1 y.1 x.2 y.2 ((pq.jn x.1 y.1).take l) (yx pq x.1 x.2 ((pB pq x.1 A).take j) (wj pq A (S.take i) T))).length<=4000
noncomputable def rY(pq:PQ κ)(L:List (Addr×dU))(k:List κ):aI:=(L.filter λx=>decide (pq.sh x.2=k)).map (·.1)
def KY(pq:PQ κ)(L:List (Addr×dU))(x:Addr×dU)(k:List κ):rY pq (L++[x]) k=if pq.sh x.2=k then rY pq L k++[x.1]else rY pq L k:=by
 unfold rY;rw[Cy,dz];by_cases c:pq.sh x.2=k
 ·rw[aB c,Mf (by show aR c)];rfl
 ·rw[aA c,S7 (by show λz=>c (dw z))];simp
def rD{J:List (List κ×V)}{k0:List κ}{v:V}(h:dG J k0=none)(k:List κ):dG (J++[(k0,v)]) k=if k0=k then some v else dG J k:=by
 unfold dG at h ⊢;rw[List.find?_append];by_cases c:k0=k
 ·subst c;rw[aB rfl];cases e:J.find? λkv=>decide (kv.1=k0)with
  |none=>rw[Option.none_or,rH (by show aR Z)];rfl
  |some y=>rw[e]at h;cases h
 ·rw[aA c,tV (by show λz=>c (dw z))];simp
end
section
variable{κ:Type} [DecidableEq κ]
structure Bo(knd:KeyKind P w κ)(pq:PQ κ)(F G:Hp)(pa:Addr)(L:List (Addr×dU))(J:List (List κ×V)):Prop where
 dx:DX knd G pa J
 len:J.length<=L.length
 val:∀k,(dG J k=none/\rY pq L k=[])\/∃l,dG J k=⇑l/\G l=↥((rY pq L k).map V.ref)
 inj:∀k k' l,dG J k=⇑l->dG J k'=⇑l->k=k'
 fr:∀k l,dG J k=⇑l->F l=none
def ń(pq:PQ κ)(L:List (Addr×dU))(k:List κ):(rY pq L k).length<=L.length:=by
 unfold rY;grind
def Rc{knd:KeyKind P w κ}{H H':Hp}{a:Addr}{J:List (List κ×V)}(e:∀c o,(∀ys,o≠.lst ys)->H c=some o->H' c=some o)(h:DX knd H a J):DX knd H' a J:=by
 obtain⟨z,h|⟨xs,h1,h2⟩⟩:=h
 ·show⟨z,.inl ⟨h.1,e _ _ (λ_ z=>by cases z) h.2⟩⟩
 ·show⟨z,.inr ⟨xs,e _ _ (λ_ z=>by cases z) h1,Paired.cD h2 λ_ _ ⟨a,b,c⟩=>⟨a,b.same λ_ _ q=>e _ _ (λ_ z=>by cases z) q,c⟩⟩⟩
def Ou{knd:KeyKind P w κ}{H:Hp}{a:Addr}{J:List (List κ×V)}(h:DX knd H a J){ys:af}:H a≠↥ys:=λe=>by
 obtain⟨z,h|⟨xs,h1,h2⟩⟩:=h
 ·grind
 grind
def Bo.same{knd:KeyKind P w κ}{pq:PQ κ}{F G G':Hp}{pa:Addr}{L:List (Addr×dU)}{J:List (List κ×V)}(I:Bo knd pq F G pa L J)(s:aL G G'):Bo knd pq F G' pa L J :=
 ⟨I.dx.same s,I.len,λk=>(I.val k).imp id λ⟨l,h1,h2⟩=>⟨l,h1,s _ _ h2⟩,I.inj,I.fr⟩
def a09{knd:KeyKind P w κ}{pq:PQ κ}{G G3:Hp}{L:List (Addr×dU)}{J:List (List κ×V)}{l a0:Addr}{st:dU}(I:Bo knd pq F G pa L J)(hv:dG J (pq.sh st)=⇑l)(c:uP G l (.lst ((rY pq L (pq.sh st)).map V.ref++[.ref a0])) G3)(hl:∃ys,G l=↥ys):Bo knd pq F G3 pa (L++[(a0,st)]) J:=by
 let⟨ys,hl⟩:=hl;show⟨Rc (λb o nl e=>?_) I.dx,by rw[bO];let:=I.len;omega,λk=>?_,I.inj,I.fr⟩
 ·rw[c.rest b (λz=>by grind)];show e
 ·rw[KY];by_cases ck:pq.sh st=k
  ·subst ck;rw[aB rfl];show .inr ⟨l,hv,?_⟩;rw[c.here,dz];rfl
  ·rw[aA ck];show(I.val k).imp id λ⟨l',h1,h2⟩=>⟨l',h1,?_⟩;rw[c.rest l' (λz=>ck (I.inj _ _ l hv ()))];show h2
def a1a{knd:KeyKind P w κ}{pq:PQ κ}{G H' G3:Hp}{L:List (Addr×dU)}{J:List (List κ×V)}{l0 a0:Addr}{st:dU}(I:Bo knd pq F G pa L J)(hv:dG J (pq.sh st)=none)(hl:G l0=↥[])(fl:F l0=none)(nl:∀k l,dG J k=⇑l->l≠l0)(hh:∀c,c≠pa->H' c=G c)(dx:DX knd H' pa (J++[(pq.sh st,.ref l0)]))(c:uP H' l0 (.lst ([]++[.ref a0])) G3):Bo knd pq F G3 pa (L++[(a0,st)]) (J++[(pq.sh st,.ref l0)]):=by
 let npa:l0≠pa:=λz=>Ou I.dx (ys:=[]) (by rw[<-z];show hl);let hl':H' l0=↥[]:=by rw[hh l0 npa];show hl
 let lk0:rY pq L (pq.sh st)=[]:=by
  rcases I.val (pq.sh st)with h|⟨l,h,_⟩
  ·show h.2
  grind
 show⟨Rc (λb o nl e=>?_) dx,by rw[bO,bO];let:=I.len;simp;omega,λk=>?_,λk k' l h h'=>?_,λk l h=>?_⟩
 ·rw[c.rest b (λz=>by grind)];show e
 ·rw[KY,rD hv];by_cases ck:pq.sh st=k
  ·subst ck;rw[aB Z,aB Z,lk0];show .inr ⟨l0,Z,c.here⟩
  ·rw[aA ck,aA ck];show(I.val k).imp id λ⟨l',h1,h2⟩=>⟨l',h1,?_⟩;rw[c.rest l' (nl k l' h1),hh l' (λz=>Ou I.dx (by rw[<-z];show h2))];show h2
 ·rw[rD hv]at h h';by_cases ck:pq.sh st=k
  ·grind
  ·by_cases ck':pq.sh st=k'
   ·grind
   ·rw[aA ck]at h;rw[aA ck']at h';show I.inj _ _ _ h h'
 ·rw[rD hv]at h;by_cases ck:pq.sh st=k
  ·grind
  ·rw[aA ck]at h;show I.fr _ _ h
def Bo.Oo{knd:KeyKind P w κ}{pq:PQ κ}{G G':Hp}{L:List (Addr×dU)}{J:List (List κ×V)}(I:Bo knd pq F G pa L J)(e:∀c o,(∀ob u,o≠.iK ob u)->G c=some o->G' c=some o):Bo knd pq F G' pa L J:=by
 show⟨?_,I.len,λk=>(I.val k).imp id λ⟨l,h1,h2⟩=>⟨l,h1,e _ _ (λ_ _ z=>by cases z) h2⟩,I.inj,I.fr⟩;obtain⟨z,h|⟨xs,h1,h2⟩⟩:=I.dx
 ·show⟨z,.inl ⟨h.1,e _ _ (λ_ _ z=>by cases z) h.2⟩⟩
 ·show⟨z,.inr ⟨xs,e _ _ (λ_ _ z=>by cases z) h1,Paired.cD h2 λ_ _ ⟨a,b,c⟩=>⟨a,b.same λ_ _ q=>e _ _ (λ_ _ z=>by cases z) q,c⟩⟩⟩
def Rf{R:Addr->dU×gC->Prop}(pq:PQ κ)(k:List κ){as:aI}{A:cu}(h:Paired R as A):Paired R (rY pq (as.zip (A.map (·.1))) k) (A.filter λx=>decide (pq.sh x.1=k)):=by
 induction h with
 |nil=>show .nil
 | @cons a x as A h t ih =>
  unfold rY at ih ⊢;rw[b8,List.zip_cons_cons];by_cases c:pq.sh x.1=k
  ·rw[Mf (by show aR c),Mf (by show aR c),b8];show .cons h ih
  ·rw[S7 (by show λz=>c (dw z)),S7 (by show λz=>c (dw z))];show ih
theorem Io:∀{A:cu}{x:dU×gC},(A.map (·.1)).Nodup->x∈A->yX A x.1=some x.2
 |y::A,x,nd,h=>by
  unfold yX
  rw[b8,jb]at nd
  rcases bQ.mp h with rfl|h
  ·rw[rH (by show aR Z)]
   rfl
  ·rw[tV (by show λz=>nd.1 (by rw[dw z];show dM.mpr ⟨x,h,Z⟩))]
   show Io nd.2 h
end
abbrev gU:Stmt:=top 27
def gB:bN ["question","table","source","another","alike","other","one","row","more","state"] Ib (aG gU):={}
section
variable{K:aJ}{κ:Type} [DecidableEq κ]
def Ip(T:cu):Prop:=∀x∈T,x.2.m.natAbs<2^4000
inductive a1b(Qn:JN P w K mg base κ)(vs:af)(H:Hp)(Q:VK)(u_3:XK):Prop
 |mk (d t sc an:Addr) (J mR uY:List (aS×V)) (T S A:cu) (m:Nat) (_:vs=[.ref d,.ref t,.ref sc,.ref an]) (_:Qn.At H d) (_:H t=some (.dT J)) (_:oZ H J T) (_:H sc=some (.dT mR)) (_:oZ H mR S) (_:H an=some (.dT uY)) (_:oZ H uY A) (_:t≠sc) (_:t≠an) (_:sc≠an) (_:(∀x∈S,Qn.pq.Ok m x.1)) (_:(∀x∈A,Qn.pq.Ok m x.1)) (_:m<=4) (_:(A.map (·.1)).Nodup) (_:S.length<=4000) (_:A.length<=900) (_:Ip S) (_:Ip A) (_:a4l Qn.pq A S T) (_:∀kvs' H',Sd t H H'->H' t=some (.dT kvs')->oZ H' kvs' (wj Qn.pq A S T)->Q .non H')
def Ir(Qn:JN P w K mg base κ)(qH:Dn K mg "note" uy Bc)(xr:Dn K mg "fill_joined" gU Ib):⋯ 10 xr.f xr.fd Ib (a1b Qn):=by
 let Iu:⋯ 9 _ _ _ _:=Qn.uV.ok.mono ();let Wd:⋯ 9 _ _ _ _:=Qn.Bj.ok.mono ();let a4j:⋯ 9 _ _ _ _:=X5 Qn qH;show xr.F.ok gB λdX A' outer s H vs Q E hr h=>?_;let⟨d,t,sc,an,J,mR,uY,T,S,A,m,rfl,hD,ht,hT,hsc,hS,han,hA,nts,nta,nsa,Ł,okA,m5,ndA,lS,lA,smS,smA,lim,q⟩:=h;let hw1:(A'.deeper (PyProof.Rows.envOfC "fill_joined" (aG gU) s⁻¹ xr.f dX)).units+1<cLine:=by let:=hr.un;omega
 show⟨_,(aD (aX 4 gB.nd HS)
   (aD (xj (iz gK Z (ł (pv 3)) (aN 5 gB.nd)
   (aF (dZ (gA (K:=K) Z gJ PySem.F.slot_list_append PySem.F.type_list_append fu (Ĵ Qn.knd PySem.F.plainAttrs_dict PySem.F.slot_dict_setdefault PySem.F.type_dict_setdefault (HY Qn.knd hw1) (pv 4) (O (vK (pv 0) Qn.cl Qn.uV.mt Iu hr Qn.uV.b .nil bW (O (pv 5) aj)) (O (cG aj) aj))) (O (pv 5) aj))))))
   (aF (xj (iz gK Z (uU (qQ (K:=K) Z tU Gw Gx uT (pv 2))) (jG (K:=K) (n:=2) Z Z (bT (aN 6 gB.nd) (bT (aN 7 gB.nd) iU)))
   (aF (iz gK Z (eY (K:=K) Z (Ĵ Qn.knd tU Cp Tr (a00 Qn.knd hw1) (pv 4) (O (vK (pv 0) Qn.cl Qn.uV.mt Iu hr Qn.uV.b .nil bW (O (pv 6) aj)) (O (cG aj) aj)))) (aN 5 gB.nd)
   (aD (aX 8 gB.nd (Bb hw1 (pv 3) (pv 5) λ_ _=>rfl))
   (aF (iz gK Z (eY (K:=K) Z (vK (pv 0) Qn.cl Qn.Bj.mt Wd hr Qn.Bj.b .nil bW (O (pv 6) (O (pv 5) aj)))) (aN 9 gB.nd)
   (aF (dZ (aY a4j hr Z qH.m qH.F.kp qH.b .nil bW (O (pv 0) (O (pv 1) (O (pv 9) (O (bK (O (bw a08 (aP (aO (K:=K) Z) (pv 7) aq) (aP (aO (K:=K) Z) (pv 8) aq)) (O (bw dF (aP (aO (K:=K) Z) (pv 7) aq) (aP (aO (K:=K) Z) (pv 8) aq)) (O (bK (O (pv 6) (O (pv 5) aj))) aj)))) aj))))))))))))))))),?_⟩
 show λpa hpa=>?_;let n1:=iD.oh (o:=.dT []) hpa;generalize cY H pa (.dT [])=H1 at n1 ⊢;let h1a:=n1.same _ _ han;show⟨_,Z,an,uY,Z,h1a,λo as pk=>?_⟩;let npa:pa≠an:=λz=>by let:=n1.fresh;rw[z,han]at this;cases this
 let npt:pa≠t:=λz=>by let:=n1.fresh;rw[z,ht]at this;cases this
 let nps:pa≠sc:=λz=>by let:=n1.fresh;rw[z,hsc]at this;cases this
 let Wa:Nd H (cY H1 an (.iK o (.dT uY))):=(Nd.of n1.same).trans (Nd.iK h1a);let g0a:cY H1 an (.iK o (.dT uY)) an=some (.iK o (.dT uY)):=dN;let g0p:cY H1 an (.iK o (.dT uY)) pa=some (.dT []):=by rw[aZ npa];show n1.here
 let Yb:∀c,c≠an->cY H1 an (.iK o (.dT uY)) c=H1 c:=λc hc=>aZ hc;generalize cY H1 an (.iK o (.dT uY))=G0 at pk Wa g0a g0p Yb ⊢;let lk:=aW hA;let la:=aW pk;obtain⟨L,hL⟩:∃L:List (Addr×dU),L=as.zip (A.map (·.1)):=⟨_,Z⟩;let lL:L.length=as.length:=by rw[hL,List.length_zip,aH];omega
 let atL:∀i a0,as[i]?=some a0->∃st more,A[i]?=some (st,more)/\L[i]?=some (a0,st)/\G0 a0= ~~~((sI st).map kV):=λi a0 ha0=>by
  let⟨kv,hkv,hak⟩:=bI pk ha0;let⟨⟨st,more⟩,hsx,ek,hrow⟩:=bI hA hkv;let ek:kv.1=sI st:=ek;rw[ek]at hak;show⟨st,more,hsx,?_,hak⟩;rw[hL,List.getElem?_zip_eq_some];show⟨ha0,by rw[cI,hsx];rfl⟩
 show X8 (P:=λi σ G=>P3 (T1 (λo5=>[⇑d,⇑t,⇑sc,⇑an,⇑pa,o5,none,none,none,none]) σ) (Sd pa G0 G) λka=>Bo Qn.knd Qn.pq G0 G pa (L.take i) ka) λZ97 ji ij=>Zv Z97 (ji _ _ _ ⟨⟨_,Z⟩,.refl,[],⟨DX.new g0p,by simp,λk=>.inl ⟨Z,Z⟩,λk k' l h=>(by cases h),λk l h=>(by cases h)⟩⟩) (λi σ G _ h=>(ij _ _ _ h).s _ _ (Ne.symm npa) g0a) ?_ ?_
 ·intro i a0 σ G ha0 h1;let⟨⟨o5,rfl⟩,sG,ka,hK⟩:=ij _ _ _ h1;let⟨st,more,hAi,hLi,hak⟩:=atL i a0 ha0;let nG:Nd G0 G:=.sd sG g0p;let nHG:Nd H G:=Wa.trans nG;let hDG:=nHG.at Qn hD;let⟨dx',fs,hd,nom,_⟩:=Qn.ins hDG;let hst:pI G a0 st:=pI.KN (nG.tups _ _ hak);let hTi:L.take (i+1)=L.take i++[(a0,st)]:=by rw[jr,hLi];rfl
  let li:(L.take i).length<=900:=by rw[eN];omega
  show⟨_,Z,⟨pa,ka,Z,hK.dx⟩,_,Z,d,dx',fs,Z,hd,nom _ (),_,Z,d,a0,m,st,Z,hDG,hst,okA _ (gZ hAi),m5,λb G1 s1 hk=>⟨(),λl0 G2 n2=>?_⟩⟩;let s2:=s1.trans n2.same;let Zw:=hK.same s2;let lk0:=hK.len;show⟨pa,b,Qn.pq.sh st,ka,.ref l0,Z,Z,hk.same λ_ _ z=>n2.same _ _ z,Zw.dx,(),λy hy=>?_,λhn H' hh dxn=>?_⟩
  ·rcases Zw.val (Qn.pq.sh st)with h|⟨l,h1,h2⟩
   ·rw[h.1]at hy;cases hy
   ·rw[h1]at hy;cases hy;show⟨.inl ⟨Z,_,bB.of h2⟩,_,Z,l,_,_,Z,Z,h2,?_,λG3 c3=>?_⟩
    ·rw[aH];let:=ń Qn.pq (L.take i) (Qn.pq.sh st);omega
    ·show ji _ _ _ ⟨⟨_,Z⟩,λc u hc e=>?_,ka,by rw[hTi];show a09 Zw h1 c3 ⟨_,h2⟩⟩;rw[c3.rest c (λz=>by let:=Zw.fr _ _ h1;rw[<-z,e]at this;cases this)];show s2 _ _ (sG c u hc e)
  ·let npl:l0≠pa:=λz=>Ou Zw.dx (ys:=[]) (by rw[<-z];show n2.here);let hl0:H' l0=↥[]:=by rw[hh l0 npl];show n2.here
   show⟨.inl ⟨Z,_,bB.of hl0⟩,_,Z,l0,[],_,Z,Z,hl0,(),λG3 c3=>?_⟩;let fl:G0 l0=none:=by
    cases e:G0 l0 with
    |none=>rfl
    |some u =>
     let h1:=s1 _ _ (sG l0 u npl e);let h2:=n2.fresh;rw[h1]at h2;cases h2
   show ji _ _ _ ⟨⟨_,Z⟩,λc u hc e=>?_,_,by
    rw[hTi];show a1a Zw hn n2.here fl (λk l h z=>?_) hh dxn c3;rcases hK.val k with h'|⟨l',h1,h2⟩
    ·rw[h'.1]at h;cases h
    ·rw[h1]at h;cases h;let h3:=s1 _ _ h2;let h4:=n2.fresh;rw[<-z,h3]at h4;cases h4⟩
   rw[c3.rest c (λz=>by rw[z,fl]at e;cases e),hh c hc];show s2 _ _ (sG c u hc e)
 intro σ G h1;let⟨⟨o5,rfl⟩,sG,ka,hK⟩:=ij _ _ _ h1;clear ji ij;let ga:=sG _ _ (Ne.symm npa) g0a;show⟨an,o,uY,uY,h1a,ga,?_⟩;let sF:aL H (cY G an (.dT uY)):=λc u e=>by
  let ncp:c≠pa:=λz=>by rw[z,n1.fresh]at e;cases e
  by_cases z:c=an
  ·rw[z]at e ⊢;rw[dN,<-e,han]
  ·rw[aZ z];show sG c u ncp ?_;rw[Yb c z];show n1.same _ _ e
 rw[show L.take as.length=L by rw[<-lL,ig]]at hK;let hKF:Bo Qn.knd Qn.pq G0 (cY G an (.dT uY)) pa L ka:=hK.Oo λc u nf e=>by
  rw[aZ (λz=>by rw[z,ga]at e;show nf _ _ (dD e).symm)];show e
 let pkF:Paired (λa (x:dU×gC)=>pI (cY G an (.dT uY)) a x.1) as A:=by
  let go:∀{as:aI}{ks:List (aS×V)}{B:cu},Paired (λa (kv:aS×V)=>G0 a= ~~~(kv.1.map kV)) as ks->oZ H ks B->Paired (λa (x:dU×gC)=>pI (cY G an (.dT uY)) a x.1) as B:=λ{as ks B} p=>by
   induction p generalizing B with
   |nil=>intro h;cases h;show .nil
   | @cons a kv as ks h1 _ ih =>
    intro h;cases h with
    | @cons _ tr _ B' h2 t2 =>
     show .cons ?_ (ih t2);let e:kv.1=sI tr.1:=h2.1;rw[e]at h1;show pI.KN (Nd.Oo ga _ _ ((Nd.sd sG g0p).tups _ _ h1))
  show go pk hA
 generalize cY G an (.dT uY)=F at sF hKF pkF ⊢;let a1c:=sF _ _ hsc;show⟨_,Z,.inr (.inr (.inl ⟨Z,.inr ⟨_,a1c⟩⟩)),sc,mR,Z,Z,a1c,λpv H2 n2=>⟨pv,sc,mR,Z,n2.here,n2.same _ _ a1c,λo2 as2 pk2=>?_⟩⟩;let s2:=sF.trans n2.same;let h2s:=s2 _ _ hsc;let Y9:Nd H (cY H2 sc (.iK o2 (.dT mR))):=(Nd.of s2).trans (Nd.iK h2s);let f0s:cY H2 sc (.iK o2 (.dT mR)) sc=some (.iK o2 (.dT mR)):=dN;let f0t:cY H2 sc (.iK o2 (.dT mR)) t=some (.dT J):=by rw[aZ nts];show s2 _ _ ht
 let f0a:cY H2 sc (.iK o2 (.dT mR)) an=some (.dT uY):=by rw[aZ (Ne.symm nsa)];show s2 _ _ han
 let f0r:∀c,c≠sc->cY H2 sc (.iK o2 (.dT mR)) c=H2 c:=λc hc=>aZ hc;let Zw:Bo Qn.knd Qn.pq G0 (cY H2 sc (.iK o2 (.dT mR))) pa L ka:=by
  let h:=hKF.same n2.same;show⟨?_,h.len,λk=>(h.val k).imp id λ⟨l,h1,h2⟩=>⟨l,h1,?_⟩,h.inj,h.fr⟩
  ·obtain⟨z,hh|⟨xs,h1,h2⟩⟩:=h.dx
   ·show⟨z,.inl ⟨hh.1,?_⟩⟩;rw[aZ nps];show hh.2
   ·show⟨z,.inr ⟨xs,?_,Paired.cD h2 λ_ _ ⟨a,b,c⟩=>⟨a,b.same λc' ys q=>?_,c⟩⟩⟩
    ·rw[aZ nps];show h1
    ·rw[aZ (λz=>by rw[z,h2s]at q;cases q)];show q
  ·rw[aZ (λz=>by rw[z,h2s]at h2;cases h2)];show h2
 let a6p:Paired (λa (x:dU×gC)=>pI (cY H2 sc (.iK o2 (.dT mR))) a x.1) as A:=Paired.cD pkF λa x h=>by
  show cY H2 sc (.iK o2 (.dT mR)) a=_;let h':H2 a= ~~~(x.1.map V.int):=n2.same _ _ h;rw[aZ (λz=>by rw[z,h2s]at h';cases h')];show h'
 generalize cY H2 sc (.iK o2 (.dT mR))=F0 at pk2 Y9 f0s f0t f0a f0r Zw a6p ⊢;let lk2:=aW hS;let la2:=aW pk2;show X8 (P:=λi σ G=>P4 (T5 (λo5 o6 o7 o8 o9=>[⇑d,⇑t,⇑sc,⇑an,⇑pa,o5,o6,o7,o8,o9]) σ) (Sd t F0 G) (λkt=>G t=some (.dT kt)) λkt=>oZ G kt (wj Qn.pq A (S.take i) T)) λZ97 ji ij=>vQ Z97 (ji _ _ _ ⟨⟨_,_,_,_,_,Z⟩,.refl,J,f0t,hT.keep Y9.tups⟩) (λi σ G _ h=>(ij _ _ _ h).s _ _ (Ne.symm nts) f0s) ?_ ?_
 ·intro i a0 v0 σ G p G1 ha0 hv0 h1 nw;let⟨⟨o5,o6,o7,o8,o9,rfl⟩,sG,kt,hkt,Yc⟩:=ij _ _ _ h1;let⟨kv,hkv,hak⟩:=bI pk2 ha0;let⟨⟨gW,row⟩,hsx,ek,hrow⟩:=bI hS hkv;let ek:kv.1=sI gW:=ek;let hv0':v0=kv.2:=by
   rw[cI,hkv]at hv0;show(dD hv0).symm
  subst hv0';rw[ek]at hak;let nG:Nd F0 G:=.sd sG f0t;let s1:aL G G1:=nw.same;let η:Nd F0 G1:=nG.trans (.of s1);let nH1:Nd H G1:=Y9.trans η;let hone:pI G1 a0 gW:=pI.KN (η.tups _ _ hak);let wg:JM G1 kv.2 row:=hrow.keep nH1.tups;let mem:(gW,row)∈S:=gZ hsx;let hDG:=nH1.at Qn hD;let⟨dx',fs,hd,nom,_⟩:=Qn.ins hDG;let hKG:Bo Qn.knd Qn.pq G0 G1 pa L ka:=by
   let ex:∀c u,c≠t->F0 c=some u->G1 c=some u:=λc u hc e=>s1 _ _ (sG c u hc e);show⟨?_,Zw.len,λk=>(Zw.val k).imp id λ⟨l,h1,h2⟩=>⟨l,h1,ex _ _ (λz=>by rw[z,f0t]at h2;cases h2) h2⟩,Zw.inj,Zw.fr⟩;obtain⟨z,hh|⟨xs,h1,h2⟩⟩:=Zw.dx
   ·show⟨z,.inl ⟨hh.1,ex _ _ npt hh.2⟩⟩
   ·show⟨z,.inr ⟨xs,ex _ _ npt h1,Paired.cD h2 λ_ _ ⟨a,b,c⟩=>⟨a,b.same λ_ _ q=>η.tups _ _ q,c⟩⟩⟩
  show⟨p,_,Z,cN.of nw.here,Z,_,_,Z,_,_,Z,Z,?_⟩;show⟨_,Z,⟨pa,ka,Z,hKG.dx⟩,_,Z,d,dx',fs,Z,hd,nom _ (),_,Z,d,a0,m,gW,Z,hDG,hone,Ł _ mem,m5,λb G2 t2 hk=>⟨(),λl0 G3 n3=>?_⟩⟩;let t3:=t2.trans n3.same;let hK3:=hKG.same t3;show⟨pa,b,Qn.pq.sh gW,ka,.ref l0,Z,Z,hk.same λ_ _ z=>n3.same _ _ z,hK3.dx,?_⟩;obtain⟨l,el,hl⟩:∃l,(dG ka (Qn.pq.sh gW)).getD (.ref l0)=.ref l/\G3 l=↥((rY Qn.pq L (Qn.pq.sh gW)).map V.ref):=by
   rcases hK3.val (Qn.pq.sh gW)with⟨h1,h2⟩|⟨l,h1,h2⟩
   ·rw[h1,h2];show⟨l0,Z,n3.here⟩
   ·rw[h1];show⟨l,Z,h2⟩
  rw[el];let nG3:Nd F0 G3:=η.trans (.of t3);let pO:Paired (λa (x:dU×gC)=>pI G3 a x.1) (rY Qn.pq L (Qn.pq.sh gW)) (pB Qn.pq gW A):=by
   rw[hL];show Paired.cD (Rf Qn.pq (Qn.pq.sh gW) a6p) λ_ _ h=>h.keep nG3.tups
  let lO:=aW pO;let st3:aL G G3:=s1.trans t3;let hT3:oZ G3 kt (wj Qn.pq A (S.take i) T):=Yc.keep (.of st3);let ht3:G3 t=some (.dT kt):=st3 _ _ hkt;let hTi:S.take (i+1)=S.take i++[(gW,row)]:=by rw[jr,hsx];rfl
  show⟨l,Z,⟨_,bB.of hl⟩,X8 (P:=λj σ G'=>P4 (T3 (λo5 o8 o9=>[⇑d,⇑t,⇑sc,⇑an,⇑pa,o5,⇑a0,some kv.2,o8,o9]) σ) (Sd t G3 G') (λPX=>G' t=some (.dT PX)) λPX=>oZ G' PX (yx Qn.pq gW row ((pB Qn.pq gW A).take j) (wj Qn.pq A (S.take i) T))) λJ2 jk kj=>wX (K:=K) (a:=l) (xs:=(rY Qn.pq L (Qn.pq.sh gW)).map V.ref) J2 (jk _ _ _ ⟨⟨_,_,_,Z⟩,.refl,kt,ht3,hT3⟩) (λj σ G' _ h=>bB.of ((Nd.sd (kj _ _ _ h).s ht3).lst hl)) ?_ ?_⟩
  ·intro j x σ G' hx h1;let⟨⟨o5,o8,o9,rfl⟩,θ,PX,Wb,hT'⟩:=kj _ _ _ h1;rw[cI]at hx;let⟨b0,hb0,rfl⟩:=lN.mp hx;let⟨⟨cM,more⟩,hox,hob⟩:=bI pO hb0;let a74:(cM,more)∈pB Qn.pq gW A:=gZ hox;let⟨a1d,shE⟩:=jQ.mp a74;let shE:Qn.pq.sh cM=Qn.pq.sh gW:=dw shE;let n3':Nd G3 G':=.sd θ ht3;let nHG:Nd H G':=Y9.trans (nG3.trans n3');let hoG:pI G' b0 cM:=hob.keep n3'.tups;let a2C:pI G' a0 gW:=hone.keep ((lZ.of t3).trans n3'.tups);let haG:G' an=some (.dT uY):=θ _ _ (Ne.symm nta) (st3 _ _ (sG _ _ (Ne.symm nta) f0a));obtain⟨vm,em,hmore⟩:∃vm,dG uY (sI cM)=some vm/\JM H vm more:=by
    rcases Gf cM hA with⟨_,e2⟩|⟨v,r,e1,e2,h⟩
    ·rw[Io ndA a1d]at e2;cases e2
    ·rw[Io ndA a1d]at e2;cases e2;show⟨v,e1,h⟩
   let a6q:=nHG.at Qn hD;let⟨dx2,fs2,hd2,a75,_⟩:=Qn.ins a6q;show⟨_,Z,_,Z,an,vm,Z,by rw[<-em];show Fg.t haG hoG.key,?_⟩;show⟨_,Z,d,dx2,fs2,Z,hd2,a75 _ (),_,Z,_,Z,d,a0,b0,m,gW,cM,Z,a6q,a2C,hoG,Ł _ mem,okA _ a1d,m5,shE.symm,λr xs G4 s4 hr4 pm=>⟨r,Z,⟨_,bB.of hr4⟩,?_⟩⟩;let ht4:=s4 _ _ Wb;let hT4:=hT'.keep (lZ.of s4);let lpm:=aW pm;let a76:=lim i _ hsx j _ hox;let ξ:(pB Qn.pq gW A).take (j+1)=(pB Qn.pq gW A).take j++[(cM,more)]:=by rw[jr,hox];rfl
   show X8 (P:=λe σ G5=>P4 (T1 (λo9=>[⇑d,⇑t,⇑sc,⇑an,⇑pa,⇑b0,⇑a0,some kv.2,some vm,o9]) σ) (Sd t G4 G5) (λZu=>G5 t=some (.dT Zu)) λZu=>oZ G5 Zu (yw Qn.pq.bt gW cM row more ((Qn.pq.jn gW cM).take e) (yx Qn.pq gW row ((pB Qn.pq gW A).take j) (wj Qn.pq A (S.take i) T)))) λJ3 jm mj=>wX (K:=K) (a:=r) (xs:=xs) J3 (jm _ _ _ ⟨⟨_,Z⟩,.refl,PX,ht4,hT4⟩) (λe σ G5 _ h=>bB.of ((Nd.sd (mj _ _ _ h).s ht4).lst hr4)) ?_ ?_
   ·intro e x σ G5 hx h1;let⟨⟨o9,rfl⟩,sG5,kt5,a4m,hT5⟩:=mj _ _ _ h1;let⟨st',hmx,aa,rfl,haa⟩:=bI pm hx;let n4':Nd G4 G5:=.sd sG5 ht4;let a6r:Nd H G5:=nHG.trans ((Nd.of s4).trans n4');let a4n:Nd G' G5:=(Nd.of s4).trans n4';let⟨pr,qr,asr,Wc,hpr,hqr,hsr⟩:=wg.keep ((lZ.of t3).trans (n3'.tups.trans a4n.tups));let⟨pm',qm,asm,a2D,hpm,hqm,hsm⟩:=hmore.keep a6r.tups;rw[Wc,a2D];show⟨_,Z,_,Z,_,Z,_,Z,pr,_,_,.int row.m,Z,Z,cN.of hpr,Z,_,Z,pm',_,_,.int more.m,Z,Z,cN.of hpm,Z,_,_,Z,Z,⟨smS _ mem,smA _ a1d⟩,_,Z,pr,_,_,.int row.b,Z,Z,cN.of hpr,Z,_,Z,pm',_,_,.int more.b,Z,Z,cN.of hpm,Z,_,_,Z,Z,_,Z,_,Z,(),λq1 G6 m6=>⟨(),λq2 G7 m7=>?_⟩⟩;let s67:=m6.same.trans m7.same;show⟨d,t,aa,.ref q2,kt5,_,st',⟨row.m*more.m,row.b+more.b,[gW,cM]⟩,Z,(a6r.trans (.of s67)).at Qn hD,s67 _ _ a4m,hT5.keep (.of s67),?_,haa.keep (n4'.tups.trans (.of s67)),⟨q2,q1,[a0,b0],Z,m7.here,m7.same _ _ m6.here,.cons (a2C.keep (a4n.tups.trans (.of s67))) (.cons (hoG.keep (a4n.tups.trans (.of s67))) .nil)⟩,λkt8 G8 s8 h8 hT8=>?_⟩
    ·show a76 e (fD (eG.mp hmx).1)
    ·show jm _ _ _ ⟨⟨_,by rw[Wc,a2D];rfl⟩,sG5.trans ((Sd.of s67).trans s8),kt8,h8,?_⟩;rw[jr,hmx];show oZ G8 kt8 (yw Qn.pq.bt gW cM row more ((Qn.pq.jn gW cM).take e++[st']) _);rw[Il];show hT8
   ·intro σ G5 h1;let⟨⟨o9,rfl⟩,sG5,kt5,a4m,hT5⟩:=mj _ _ _ h1;show jk _ _ _ ⟨⟨_,_,_,Z⟩,θ.trans ((Sd.of s4).trans sG5),kt5,a4m,?_⟩;rw[ξ,Im];rw[lpm,ig]at hT5;show hT5
  ·intro σ G' h1;let⟨⟨o5,o8,o9,rfl⟩,θ,PX,Wb,hT'⟩:=kj _ _ _ h1;show ji _ _ _ ⟨⟨_,_,_,_,_,Z⟩,sG.trans ((Sd.of st3).trans θ),PX,Wb,?_⟩;rw[hTi,join_snoc];rw[aH,lO,ig]at hT';show hT'
 ·intro σ G h1;let⟨⟨o5,o6,o7,o8,o9,rfl⟩,sG,kt,hkt,Yc⟩:=ij _ _ _ h1;let gs:=sG _ _ (Ne.symm nts) f0s;show⟨sc,o2,mR,mR,a1c,gs,?_⟩;show q kt _ (λc u hc e=>?_) (by rw[aZ nts];show hkt) ?_
  ·by_cases z:c=sc
   ·rw[z]at e ⊢;rw[dN,<-e,hsc]
   ·rw[aZ z];show sG c u hc ?_;rw[f0r c z];show s2 _ _ e
  ·rw[show S.take as2.length=S by rw[la2,lk2,ig]]at Yc;show Yc.keep (Nd.Oo gs)
end
abbrev nJ:Stmt:=top 4
def Ņ:bN jL jL (aG nJ):={}
def Zx{p q:Int->Bool}(h:∀v,0<=v->v<16->p v=q v):PN p=PN q:=by
 unfold PN;show List.filter_congr λv hv=>?_;let⟨i,hi,rfl⟩:=dM.mp hv;let:=fX.mp hi;show h _ () ()
def fV(xs ys:ae):ae:=PN λv=>decide (v∈xs\/v∈ys)
inductive a1e(K:aJ)(vs:af)(H:Hp)(Q:VK)(u_3:XK):Prop
 |mk (a b:Addr) (xs ys:ae) (_:vs=[.ref a,.ref b]) (_:bB K H a (xs.map V.int)) (_:bB K H b (ys.map V.int)) (_:Small xs) (_:Small ys) (_:∀H0 p H',aL H H0->iD H0 p (.lst ((fV xs ys).map V.int)) H'->Q (.ref p) H')
section
variable{K:aJ}
def Rg(B:Bl mg)(ou:Dn K mg "joint" nJ jL):⋯ 1 ou.f ou.fd jL (a1e K):=by
 show ou.F.ok Ņ λdX A outer s H vs Q E hr h=>?_;let⟨a,b,xs,ys,rfl,hA,hB,sA,sB,q⟩:=h;show⟨_,(aF (bJ (aV (Ol (w:=w) Z Z) Z B.sorted () (O (bw (a3P (w:=w) Z) (gV (Kv (K:=K) (w:=w) Z Z Z) Z B.set () (O (pv 0) aj)) (gV (Kv (K:=K) (w:=w) Z Z Z) Z B.set () (O (pv 1) aj))) aj)))),⟨_,Z,a,xs,Z,hA,sA,λp1 L1 H1 n1 m1=>⟨_,Z,b,ys,Z,n1.same.seq hB,sB,λp2 L2 H2 n2 m2=>⟨p1,p2,L1,L2,Z,Z,n2.ne n1.here,n2.same _ _ n1.here,n2.here,λp3 L H3 n3 m3=>⟨p3,false,L,Z,n3.here,λp4 H4 n4=>?_⟩⟩⟩⟩⟩;let e:(PN λv=>decide (v.toNat∈L))=fV xs ys:=Zx λv h0 h1=>by
  let ev:((v.toNat:Nat):Int)=v:=()
  rw[GK,m3 v.toNat,m1 v.toNat,m2 v.toNat,ev]
 rw[e]at n4;show q H3 p4 H4 (n1.same.trans (n2.same.trans n3.same)) n4
end
abbrev mU:Stmt:=top 24
def mY:bN ["steps","question","tops","feeds","told","step","bag","used","table"] Ie (aG mU):={}
section
variable{K:aJ}{κ:Type} [DecidableEq κ]
noncomputable def JT(pq:PQ κ)(aQ:List (ae))(cQ:List cu)(jN:bZ)(bH:ae)(used:ay):cu:=match used with
 | []=>[(pq.leaf,⟨1,0,[]⟩)]
 | [i]=>nH pq jN (fV bH (aQ.getD i [])) (cQ.getD i []) []
 |i::j::_=>wj pq (cQ.getD j []) (cQ.getD i []) []
def JV(pq:PQ κ)(ss:ax)(aQ:List (ae))(dH:List (ay)):Nat->List cu
 |0=>[]
 |k+1=>JV pq ss aQ dH k++[JT pq aQ (JV pq ss aQ dH k) (ss.getD k .leaf) (aQ.getD k []) (dH.getD k [])]
theorem mH(pq:PQ κ)(ss:ax)(aQ:List (ae))(dH:List (ay)):∀k,(JV pq ss aQ dH k).length=k
 |0=>rfl
 |k+1=>by
  show(_++[_]).length=_
  rw[bO,mH pq ss aQ dH k]
  rfl
def yZ(Qn:JN P w K mg base κ)(aQ:List (ae))(cQ:List cu)(jN:bZ)(bH:ae)(used:ay):Prop:=match used with
 | []=>True
 | [i]=>jN≠.join/\i<cQ.length/\(∀x∈cQ.getD i [],Qn.pq.Ok (aQ.getD i []).length x.1)/\Gh Qn jN (fV bH (aQ.getD i [])) (aQ.getD i []).length/\(cQ.getD i []).length<=4000/\a4i Qn.pq jN (fV bH (aQ.getD i [])) (cQ.getD i []) []
 | [i,j]=>jN=.join/\i<cQ.length/\j<cQ.length/\i≠j/\∃m≤4,(∀x∈cQ.getD i [],Qn.pq.Ok m x.1)/\(∀x∈cQ.getD j [],Qn.pq.Ok m x.1)/\((cQ.getD j []).map (·.1)).Nodup/\(cQ.getD i []).length<=4000/\(cQ.getD j []).length<=900/\Ip (cQ.getD i [])/\Ip (cQ.getD j [])/\a4l Qn.pq (cQ.getD j []) (cQ.getD i []) []
 |_=>False
def ņ(H:Hp)(p:Addr)(T:cu):Prop:=∃J,H p=some (.dT J)/\oZ H J T
inductive a4o(Qn:JN P w K mg base κ)(vs:af)(H:Hp)(Q:VK)(u_3:XK):Prop
 |mk (d a pt pf:Addr) (xs vt:af) (fs:aI) (ss:ax) (aQ:List (ae)) (dH:List (ay)) (_:vs=[.ref a,.ref d,.ref pt,.ref pf]) (_:Qn.At H d) (_:bB K H a xs) (_:Paired (uz K H) xs ss) (_:bB K H pt vt) (_:Paired (λv b=>∃p,v=.ref p/\bB K H p (b.map V.int)) vt aQ) (_:bB K H pf (fs.map V.ref)) (_:Paired (λf us=>H f=↥(us.map λj:Nat=>V.int (j:Int))) fs dH) (_:ss.length<=900) (_:aQ.length=ss.length) (_:dH.length=ss.length) (_:(∀b∈aQ,Small b)) (_:(∀k,k<ss.length->yZ Qn aQ (JV Qn.pq ss aQ dH k) (ss.getD k .leaf) (aQ.getD k []) (dH.getD k []))) (_:∀pl ps H',aL H H'->H pl=none->H' pl=↥(ps.map V.ref)->Paired (ņ H') ps (JV Qn.pq ss aQ dH ss.length)->ps.Nodup->(∀p∈ps,H p=none)->Q (.ref pl) H')
def Zy{α:Type}{ps:List α}{i j:Nat}{p:α}(nd:ps.Nodup)(h:ps[i]?=some p)(h':ps[j]?=some p):i=j:=by
 let h1:=eG.mp h;let h2:=eG.mp h';let pw:=SQ.mp nd;rcases Nat.lt_trichotomy i j with c|c|c
 ·show absurd (h1.2.trans h2.2.symm) (pw i j h1.1 h2.1 c)
 ·show c
 ·show absurd (h2.2.trans h1.2.symm) (pw j i h2.1 h1.1 c)
def Zz:∀{s:bZ},s.word=(Str.ofString "join")->s=.join
 |.leaf,h=>absurd (show Str.ofString "leaf" = Str.ofString "join" from h) ()
 |.inn _,h=>absurd (show Str.ofString "in" = Str.ofString "join" from h) ()
 |.tie _ _,h=>absurd (show Str.ofString "tie" = Str.ofString "join" from h) ()
 |.out _,h=>absurd (show Str.ofString "out" = Str.ofString "join" from h) ()
 |.join,_=>rfl
inductive Ň(a d pt pf pl:Addr)(H:Hp)(L:List cu)(σ:St)(G:Hp):Prop
 |mk (e:T4 (λo5 o6 o7 o8=>[⇑a,⇑d,⇑pt,⇑pf,⇑pl,o5,o6,o7,o8]) σ) (s:aL H G) (ps:aI) (_:G pl=↥(ps.map V.ref)) (_:Paired (ņ G) ps L) (_:ps.Nodup) (_:∀p∈ps,H p=none)
def Ň.s{a d pt pf pl:Addr}{H:Hp}{L:List cu}{σ:St}{G:Hp}(h:Ň a d pt pf pl H L σ G):aL H G:=by cases h;assumption
def zc{P:St->Hp->Prop}{R:Prop}(h:∀Z97:St->Hp->Prop,(∀σ H,P σ H->Z97 σ H)->(∀σ H,Z97 σ H->P σ H)->R):R:=h P (λ_ _ z=>z) (λ_ _ z=>z)
def Rh(B:Bl mg)(Bz:mg "zip" = none)(Qn:JN P w K mg base κ)(ou:Dn K mg "joint" nJ jL)(wA:Dn K mg "states_behind" fP Em)(qH:Dn K mg "note" uy Bc)(yc:Dn K mg "fill_along" jJ Ia)(xr:Dn K mg "fill_joined" gU Ib)(zf:Dn K mg "going_up" mU Ie):⋯ 11 zf.f zf.fd Ie (a4o Qn):=by
 let a77:⋯ 10 _ _ _ _:=JS Qn wA qH yc;let a78:⋯ 10 _ _ _ _:=Ir Qn qH xr;let a4p:⋯ 10 _ _ _ _:=(Rg B ou).mono ();show zf.F.ok mY λdX A outer s H vs Q E hr h=>?_;let⟨d,a,pt,pf,xs,vt,fs,ss,aQ,dH,rfl,hD,hA,pA,hP,pP,hF,pF,l9,lt,lf,smT,ok,q⟩:=h;let hw1:(A.deeper (PyProof.Rows.envOfC "going_up" (aG mU) s⁻¹ zf.f dX)).units+1<cLine:=by let:=hr.un;omega
 show⟨_,(aD (aX 4 mY.nd (cG aj))
   (aD (iz gK Z (a03 (K:=K) Z Z Bz (O (pv 0) (O (pv 2) (O (pv 3) aj)))) (jG (K:=K) (n:=3) Z Z (bT (aN 5 mY.nd) (bT (aN 6 mY.nd) (bT (aN 7 mY.nd) iU))))
   (aD (aX 8 mY.nd HS)
   (iW (cO (nC (dh (K:=K) Z (pv 7) λ_=>rfl))
   (aF (vI (bK (O aq (O aq (O (bK aj) aj)))) (NP (pv 8) (Gd (K:=K) Z (pv 1) Z) (Dp hw1))))
   (aF (cO (aM lX (aP (aO (K:=K) Z) (pv 5) aq) gw)
   (aF (dZ (aY a78 hr Z xr.m xr.F.kp xr.b .nil bW (O (pv 1) (O (pv 8) (O (aP (bx (K:=K) Z) (pv 4) (aP (bx (K:=K) Z) (pv 7) aq)) (O (aP (bx (K:=K) Z) (pv 4) (aP (bx (K:=K) Z) (pv 7) aq)) aj)))))))
   (aF (dZ (aY a77 hr Z yc.m yc.F.kp yc.b .nil bW (O (pv 1) (O (pv 8) (O (aP (bx (K:=K) Z) (pv 4) (aP (bx (K:=K) Z) (pv 7) aq)) (O (pv 5) (O (aY a4p hr Z ou.m ou.F.kp ou.b .nil bW (O (pv 6) (O (aP (bx (K:=K) Z) (pv 2) (aP (bx (K:=K) Z) (pv 7) aq)) aj))) aj)))))))))))
   (aF (dZ (gA (K:=K) Z gJ PySem.F.slot_list_append PySem.F.type_list_append fu (pv 4) (O (pv 8) aj)))))))
   (aF (bJ (pv 4))))),?_⟩
 show⟨(),λpl H1 n1=>?_⟩;let s1:=n1.same;show⟨_,Z,_,Z,_,Z,a,pt,pf,Z,⟨_,s1.seq hA⟩,⟨_,s1.seq hP⟩,⟨_,s1.seq hF⟩,?_⟩;let lx:xs.length=ss.length:=aW pA;let lv:vt.length=ss.length:=(aW pP).trans lt;let lfs:(fs.map V.ref).length=ss.length:=by rw[aH];show(aW pF).trans lf
 show X8 (P:=λk σ G=>Ň a d pt pf pl H (JV Qn.pq ss aQ dH k) σ G) λZ97 ji ij=>?_;show Ĺ (K:=K) (xs:=xs) (ys:=vt) (zs:=fs.map V.ref) (lx.trans lv.symm) (lx.trans lfs.symm) Z97 (ji _ _ _ ⟨⟨_,_,_,_,Z⟩,s1,[],n1.here,.nil,vC,λ_ h=>absurd h eO⟩) (λk σ G _ h=>have s:=(ij _ _ _ h).s;⟨s.seq hA,s.seq hP,s.seq hF⟩) ?_ ?_
 ·intro k x y z σ G p G1 hx hy hz hJ nw;let⟨⟨o5,o6,o7,o8,rfl⟩,sG,ps,hpl,pT,nd,fr⟩:=ij _ _ _ hJ;let⟨jN,a6s,Wf,rfl,hst⟩:=bI pA hx;let⟨bH,a6t,pbg,rfl,hbg⟩:=bI pP hy;rw[cI]at hz;let⟨f,hf,rfl⟩:=lN.mp hz;let⟨used,a6u,hfu⟩:=bI pF hf;let kl:k<ss.length:=(eG.mp a6s).1;let okk:=ok k kl;let eS:ss.getD k .leaf=jN:=by rw[fB,a6s];rfl
  let eT:aQ.getD k []=bH:=by rw[fB,a6t];rfl
  let eF:dH.getD k []=used:=by rw[fB,a6u];rfl
  let go:JV Qn.pq ss aQ dH (k+1)=JV Qn.pq ss aQ dH k++[JT Qn.pq aQ (JV Qn.pq ss aQ dH k) jN bH used]:=by
   show _++[_]=_;rw[eS,eT,eF]
  rw[eS,eT,eF]at okk;let lps:ps.length=k:=(aW pT).trans (mH _ _ _ _ k);let Wg:aL H G1:=sG.trans nw.same;show⟨p,_,Z,cN.of nw.here,Z,_,_,Z,_,_,Z,_,_,Z,Z,λt ht0=>?_⟩;let n2:=iD.oh (o:=.dT []) ht0;generalize cY G1 t (.dT [])=G2 at n2 ⊢;let Sx:aL H G2:=Wg.trans n2.same;let g12:aL G G2:=nw.same.trans n2.same;let ň:=g12 _ _ hpl;let pT2:Paired (ņ G2) ps (JV Qn.pq ss aQ dH k):=Paired.cD pT λ_ _ ⟨kv,h1,h2⟩=>⟨kv,g12 _ _ h1,h2.keep (.of g12)⟩;let hD2:Qn.At G2 d:=(Nd.of Sx).at Qn hD;let Ht:H t=none:=by
   cases e:H t with
   |none=>rfl
   |some u=>rw[Wg _ _ e]at ht0;cases ht0
  let ntp:∀p∈ps,p≠t:=λp' hp' z=>by
   let⟨i,hi,e⟩:=qC hp';let⟨T',_,kv,h1,_⟩:=bI pT (eG.mpr ⟨hi,e⟩);let:=nw.same _ _ h1;rw[z,ht0]at this;cases this
  let npl:pl≠t:=λz=>by let:=nw.same _ _ hpl;rw[z,ht0]at this;cases this
  let atT:∀i,i<k->∃pi kv,ps[i]?=some pi/\G2 pi=some (.dT kv)/\oZ G2 kv ((JV Qn.pq ss aQ dH k).getD i [])/\pi≠t:=λi hi=>by
   let hi':i<ps.length:=()
   let⟨T',hT',kv,h1,h2⟩:=bI pT2 (bC hi');show⟨ps[i],kv,bC hi',h1,?_,ntp _ (mO hi')⟩;rw[fB,hT'];show h2
  let ixT:∀(i:Nat) (pi:Addr),ps[i]?=some pi->Vi (ps.map V.ref) (i:Int)=⇑pi:=λi pi h=>by
   let hi:=(eG.mp h).1;show cB (by rw[cI,h];rfl)
  show zc (P:=λσ' G'=>σ'=[⇑a,⇑d,⇑pt,⇑pf,⇑pl,⇑Wf,⇑pbg,⇑f,⇑t]/\Sd t G2 G'/\∃kt,G' t=some (.dT kt)/\oZ G' kt (JT Qn.pq aQ (JV Qn.pq ss aQ dH k) jN bH used)) λJ2 ji2 ij2=>⟨J2,?_,?_⟩
  ·let hf2:=Sx _ _ hfu;rcases used with _|⟨i,_|⟨j,_|⟨e,rest⟩⟩⟩
   ·show⟨_,Z,false,.inl ⟨_,bB.of hf2,Z⟩,gP ?_⟩;let⟨dx',fs',hd,_,⟨al,hal,hlf⟩,_⟩:=Qn.ins hD2;show⟨(),λp3 G3 m3=>⟨(),λp4 G4 m4=>?_⟩⟩;let É:=m3.same.trans m4.same;show⟨_,Z,_,Z,d,_,dx',fs',_,Z,É _ _ hd,Qn.cl,Qn.uw,hal,t,al,sI Qn.pq.leaf,[],Z,Z,(hlf.keep (.of É)).key,É _ _ n2.here,(),λG5 c5=>?_⟩;let nd5:lZ G4 G5:=λc' ys hc=>by
     rw[c5.rest c' (λz=>by rw[z,É _ _ n2.here]at hc;cases hc)];show hc
    show ji2 _ _ ⟨Z,(Sd.of É).trans (.X3 c5),_,c5.here,.cons ⟨Z,p4,p3,[],Z,nd5 _ _ m4.here,nd5 _ _ (m4.same _ _ m3.here),.nil⟩ .nil⟩
   ·let⟨nj,il,Ł,fit,lS,lim⟩:=okk;rw[mH]at il;let⟨pi,kv,hpi,hgi,hTi,nti⟩:=atT i il;show⟨_,Z,true,.inl ⟨_,bB.of hf2,Z⟩,cV ?_⟩;show⟨_,Z,Wf,jN.vs,0,.str jN.word,Z,Z,Sx.vM hst,by cases jN<;>rfl,Z,_,Z,?_⟩;rw[cC (show ¬V.str jN.word=V.str (Str.ofString "join")from λz=>nj (Zz (V.str.inj z)))];show cV ⟨_,Z,_,Z,_,Z,_,Z,f,_,_,_,Z,Z,bB.of hf2,Z,pl,_,_,_,Z,Z,bB.of ň,ixT i pi hpi,_,Z,_,Z,_,Z,_,Z,f,_,_,_,Z,Z,bB.of hf2,Z,?_⟩;let it:i<aQ.length:=()
    obtain⟨vb,hvb,pbi,rfl,hbi⟩:∃vb,vt[i]?=some vb/\∃q,vb=.ref q/\bB K H q ((aQ.getD i []).map V.int):=by
     let hi':i<vt.length:=()
     let⟨b',hb',q',e',h'⟩:=bI pP (bC hi');show⟨_,bC hi',q',e',?_⟩;rw[fB,hb'];show h'
    show⟨pt,vt,_,_,Z,Z,Sx.seq hP,cB hvb,pbg,pbi,bH,aQ.getD i [],Z,Sx.seq hbg,Sx.seq hbi,smT _ (gZ a6t),smT _ (by rw[fB,bC it];show mO it),λG3 pj G4 s3 n4=>?_⟩;let Ŋ:=s3.trans n4.same;show⟨d,t,pi,Wf,pj,[],kv,[],_,jN,fV bH (aQ.getD i []),(aQ.getD i []).length,Z,(Nd.of Ŋ).at Qn hD2,Ŋ _ _ n2.here,.nil,Ŋ _ _ hgi,hTi.keep (.of Ŋ),Ne.symm nti,Ł,(Sx.trans Ŋ).vM hst,n4.here,fit,lS,lim,λkt G5 s5 h5 hT5=>ji2 _ _ ⟨Z,(Sd.of Ŋ).trans s5,kt,h5,hT5⟩⟩
   ·let⟨ej,il,jl,nij,m,m5,Ł,okA,ndA,lS,lA,smS,smA,lim⟩:=okk;rw[mH]at il jl;let⟨pi,kv,hpi,hgi,hTi,nti⟩:=atT i il;let⟨pj,kvj,hpj,hgj,ξ,ntj⟩:=atT j jl;let npp:pi≠pj:=λz=>nij (Zy nd hpi (by rw[z];show hpj));show⟨_,Z,true,.inl ⟨_,bB.of hf2,Z⟩,cV ?_⟩;subst ej;show⟨_,Z,Wf,bZ.join.vs,0,.str (Str.ofString "join"),Z,Z,Sx.vM hst,Z,Z,_,Z,?_⟩;rw[aR (show V.str (Str.ofString "join")=V.str (Str.ofString "join")from Z)];show gP ⟨_,Z,_,Z,_,Z,_,Z,f,_,_,_,Z,Z,bB.of hf2,Z,pl,_,_,_,Z,Z,bB.of ň,ixT i pi hpi,_,Z,_,Z,f,_,_,_,Z,Z,bB.of hf2,Z,pl,_,_,_,Z,Z,bB.of ň,ixT j pj hpj,⟨d,t,pi,pj,[],kv,kvj,[],_,_,m,Z,hD2,n2.here,.nil,hgi,hTi,hgj,ξ,Ne.symm nti,Ne.symm ntj,npp,Ł,okA,m5,ndA,lS,lA,smS,smA,lim,λkt G5 s5 h5 hT5=>ji2 _ _ ⟨Z,s5,kt,h5,hT5⟩⟩⟩
   ·show okk.elim
  ·intro σ' G3 h2;let⟨rfl,s3,kt,hkt,hTn⟩:=ij2 _ _ h2;let a4q:=s3 _ _ npl ň;let tu3:lZ G2 G3:=s3.tups n2.here;show⟨_,Z,.inl ⟨Z,_,bB.of a4q⟩,_,Z,pl,_,_,Z,Z,a4q,by rw[aH,lps];omega,λG4 c4=>?_⟩;let s4:∀c u,c≠pl->G3 c=some u->G4 c=some u:=λc u hc e=>by rw[c4.rest c hc];show e
   let tu4:lZ G3 G4:=λc ys e=>s4 c _ (λz=>by rw[z,a4q]at e;cases e) e;let nlp:∀p∈ps,p≠pl:=λp' hp' z=>by
    let⟨i,hi,e⟩:=qC hp';let⟨T',_,kv,h1,_⟩:=bI pT2 (eG.mpr ⟨hi,e⟩);rw[z,ň]at h1;cases h1
   show ji _ _ _ ⟨⟨_,_,_,_,Z⟩,λc u e=>?_,ps++[t],by rw[c4.here,dz];rfl,?_,?_,?_⟩
   ·let ncl:c≠pl:=λz=>by rw[z,n1.fresh]at e;cases e
    let nct:c≠t:=λz=>by rw[z,Ht]at e;cases e
    show s4 c u ncl (s3 c u nct (Sx _ _ e))
   ·rw[go];let a6v:∀{as:aI}{Ts:List cu},Paired (ņ G2) as Ts->(∀p∈as,p≠t/\p≠pl)->Paired (ņ G4) as Ts:=λ{as Ts} h=>by
     induction h with
     |nil=>intro _;show .nil
     | @cons p T _ _ h1 _ ih =>
      intro hh;let⟨kv,e1,e2⟩:=h1;let hn:=hh p (bh ..);show .cons ⟨kv,s4 _ _ hn.2 (s3 _ _ hn.1 e1),e2.keep (tu3.trans tu4)⟩ (ih λp' hp'=>hh p' (bM _ hp'))
    show d7 (a6v pT2 λp' hp'=>⟨ntp p' hp',nlp p' hp'⟩) ⟨kt,s4 _ _ (Ne.symm npl) hkt,hTn.keep tu4⟩
   ·show uc.mpr ⟨nd,tR _ _,λx hx y hy e=>ntp x hx (by rw[e,bG.mp hy])⟩
   ·intro p' hp';rcases cH.mp hp' with h|h
    ·show fr p' h
    ·rw[bG.mp h];show Ht
 ·intro σ G hJ;let⟨⟨o5,o6,o7,o8,rfl⟩,sG,ps,hpl,pT,nd,fr⟩:=ij _ _ _ hJ;rw[lx]at pT;show⟨_,Z,q pl ps G sG n1.fresh hpl pT nd fr⟩
end
abbrev zj:Stmt:=top 1
def Ri:bN ["thing"] ["thing"] (aG zj):={}
abbrev fK:Stmt:=top 2
def Rj:bN rU rU (aG fK):={}
inductive a1f(K:aJ)(vs:af)(H:Hp)(Q:VK)(u_3:XK):Prop
 |mk (x:V) (t:Value) (bi bb:Bool) (_:vs=[x]) (_:rR K H x t) (_:kitOne K t (.type "int")=some bi) (_:kitOne K t (.type "bool")=some bb) (_:Q (.bl (bi && !bb)) H)
inductive a1g(vs:af)(H:Hp)(Q:VK)(u_3:XK):Prop
 |mk (n:Int) (o:Option Int) (_:vs=[.int n,upV o]) (_:Q (.bl (oX n o)) H)
section
variable{K:aJ}
abbrev Du(K:PySem.W.Frag)(mg:Str->Option Value):=Dn K mg "is_whole" zj ["thing"]
def Rk(B:Bl mg)(lF:Du K mg):⋯ 1 lF.f lF.fd ["thing"] (a1f K):=by
 show lF.F.ok Ri λdX A outer s H vs Q E hr h=>?_;let⟨x,t,bi,bb,rfl,ty,h1,h2,q⟩:=h;show⟨_,(aF (bJ (ä (aV (iV (K:=K) Z) Z B.isinstance () (O (pv 0) (O (sX (v:=.ty "int") (u:=.type "int") Z B.int () Z) aj))) (ã (a2T (aV (iV (K:=K) Z) Z B.isinstance () (O (pv 0) (O (sX (v:=.ty "bool") (u:=.type "bool") Z B.bool () Z) aj)))))))),⟨_,Z,_,_,_,_,_,Z,Z,ty,h1,_,Z,?_⟩⟩;cases bi with
 |true =>
  show gP ⟨_,Z,_,_,_,_,_,Z,Z,ty,h2,_,Z,q⟩
 |false=>show cV q
def xu(B:Bl mg)(lF:Du K mg)(jM:Dn K mg "is_below" fK rU):⋯ 2 jM.f jM.fd rU a1g:=by
 let a79:⋯ 1 _ _ _ _:=Rk B lF;show jM.F.ok Rj λdX A outer s H vs Q E hr h=>?_;let⟨n,o,rfl,q⟩:=h;show⟨_,(aF (bJ (ä (aY a79 hr Z lF.m lF.F.kp lF.b .nil bW (O (pv 1) aj)) (ã (î a5s zZ aq (pv 1) (pv 0)))))),?_⟩;cases o with
 |none=>show⟨_,Z,_,_,_,_,Z,rR.non,Qo,Ob,_,Z,cV q⟩
 |some i =>
  show⟨_,Z,_,_,_,_,Z,rR.int i,Ec,Ak,_,Z,gP ⟨_,Z,_,_,Z,Z,_,Z,qi (λc=>?_) λc=>?_⟩⟩
  ·let c':0<=i:=dw c;show⟨_,Z,_,_,Z,Z,?_⟩;let e:oX n (some i)=decide (i<n):=by unfold oX;simp[c']
   rw[e]at q;show q
  ·let c':¬0<=i:=T9 (yK.mpr c);let e:oX n (some i)=false:=by unfold oX;simp[c']
   rw[e]at q;show q
end
noncomputable def mZ(xs ys:ae):ae:=xs.filter λv=>!decide (v∈ys)
abbrev qJ:Stmt:=top 5
def Yd:bN jL jL (aG qJ):={}
inductive a1h(K:aJ)(vs:af)(H:Hp)(Q:VK)(u_3:XK):Prop
 |mk (a b:Addr) (xs ys:ae) (_:vs=[.ref a,.ref b]) (_:cN K H a (xs.map V.int)) (_:bB K H b (ys.map V.int)) (_:xs.length<=1000) (_:∀H0 p H',aL H H0->iD H0 p (.lst ((mZ xs ys).map V.int)) H'->Q (.ref p) H')
section
variable{K:aJ}
def ŋ(B:Bl mg)(mV:Dn K mg "less" qJ jL):⋯ 1 mV.f mV.fd jL (a1h K):=by
 show mV.F.ok Yd λdX A outer s H vs Q E hr h=>?_;let⟨a,b,xs,ys,rfl,hA,hB,hz,q⟩:=h;let hv:(A.deeper (PyProof.Rows.envOfC "less" (aG qJ) s⁻¹ mV.f dX)).units+65<cLine:=by let:=hr.un;omega
 show⟨_,(aF (bJ (j4 ["v","other"] [none,some 1]  (by kernel_rfl) Z (Al (K:=K) Z (pv 0)) (λ_ _ _ _ _=>(aN 0 (show(["v","other"]:ag).Nodup by decide))) (λ_ _ _ _ _=>(sZ (aM (iB (K:=K) Z hv) (pv 0) (pv 1) (by with_unfolding_all rfl)))) λ_ _ _ _ _=>(pv 0)))),⟨_,Z,a,Z,⟨_,hA⟩,?_⟩⟩;show a0P (λx=>match x with |.int v=>if !decide (v∈ys)then some (.int v)else none|_=>none) hA (by rw[aH];show hz) (λx H1 N hx sm hN=>?_) (λH1 p H1' sm hp=>?_)
 ·let⟨v,hv,rfl⟩:=dM.mp hx;let hN':=hN H1 sm;show⟨_,Z,_,Z,rB (sm.seq hB) ⟨_,Z,?_⟩⟩;dsimp only at hN';cases c:decide (v∈ys)with
  |true=>rw[c]at hN';show cV hN'
  |false=>rw[c]at hN';show gP ⟨_,Z,hN'⟩
 ·let e:(xs.map V.int).filterMap (λx=>match x with |.int v=>if !decide (v∈ys)then some (V.int v)else none|_=>none)=(mZ xs ys).map V.int:=CZ λv _=>rfl;rw[e]at hp;show q _ _ _ sm hp
end
inductive a1i(K:aJ)(vs:af)(H:Hp)(Q:VK)(u_3:XK):Prop
 |mk (a b:Addr) (xs ys:ae) (_:vs=[.ref a,.ref b]) (_:bB K H a (xs.map V.int)) (_:cN K H b (ys.map V.int)) (_:xs.length<=1000) (_:∀H0 p H',aL H H0->iD H0 p (.lst ((mZ xs ys).map V.int)) H'->Q (.ref p) H')
theorem Rm(v:Int):∀ys:ae,inV (.int v) (ys.map V.int)=decide (v∈ys)
 | []=>rfl
 |y::r=>by
  let ih:=Rm v r
  unfold inV at ih ⊢
  rw[b8,oO,ih,rK,Nb,dJ,dJ,bQ]
  let:Τ (V.int y) (V.int v)=decide (y=v):=rfl
  rw[this,dJ]
  show or_congr_left eq_comm
def KZ(ys:ae):(ys.map V.int).all Ac=true:=g8.mpr λx hx=>by
 let⟨y,_,rfl⟩:=dM.mp hx;rfl
section
variable{K:aJ}
def Ō(B:Bl mg)(mV:Dn K mg "less" qJ jL):⋯ 1 mV.f mV.fd jL (a1i K):=by
 show mV.F.ok Yd λdX A outer s H vs Q E hr h=>?_;let⟨a,b,xs,ys,rfl,hA,hB,hz,q⟩:=h;show⟨_,(aF (bJ (j4 ["v","other"] [none,some 1]  (by kernel_rfl) Z (eY (K:=K) Z (pv 0)) (λ_ _ _ _ _=>(aN 0 (show(["v","other"]:ag).Nodup by decide))) (λ_ _ _ _ _=>(sZ (aM (Vr (K:=K) Z) (pv 0) (pv 1) (by with_unfolding_all rfl)))) λ_ _ _ _ _=>(pv 0)))),⟨_,Z,a,Z,⟨_,hA⟩,?_⟩⟩;show Hx (λx=>match x with |.int v=>if !decide (v∈ys)then some (.int v)else none|_=>none) hA (by rw[aH];show hz) (λx H1 N hx sm hN=>?_) (λH1 p H1' sm hp=>?_)
 ·let⟨v,hv,rfl⟩:=dM.mp hx;let hN':=hN H1 sm;show⟨_,Z,_,Z,b,_,Z,.inr (sm.vM hB),Z,KZ _,_,Z,?_⟩;rw[aB Z,Rm];dsimp only at hN';cases c:decide (v∈ys)with
  |true=>rw[c]at hN';show cV hN'
  |false=>rw[c]at hN';show gP ⟨_,Z,hN'⟩
 ·let e:(xs.map V.int).filterMap (λx=>match x with |.int v=>if !decide (v∈ys)then some (V.int v)else none|_=>none)=(mZ xs ys).map V.int:=CZ λv _=>rfl;rw[e]at hp;show q _ _ _ sm hp
end
def bF.either{K:aJ}{CX:Ss}{k:Nat}{f:Addr}{fd:FuncData}{ps:ag}{sp sp':Sp}(F:bF P w K mg base CX k f fd ps sp)(G:bF P w K mg base CX k f fd ps sp'):bF P w K mg base CX k f fd ps (λvs H Q E=>sp vs H Q E\/sp' vs H Q E) :=
 ⟨λvs H Q E h=>h.elim (F.len vs H Q E) (G.len vs H Q E),λA outer s H args us vs Q E hr he hb hv hs=>hs.elim (F.run A outer s H args us vs Q E hr he hb hv) (G.run A outer s H args us vs Q E hr he hb hv)⟩
def Gi(s t:Int×Int):PyData.eqv (qG s) (qG t)=decide (s=t):=by
 unfold qG;rw[PyData.eqv];let e:=PySem.W.ked_eqvAll [s.1,s.2] [t.1,t.2];grind
def a1j(ts:ar)(t:Int×Int):(ts.map qG).any (λe=>PyData.eqv e (qG t))=decide (t∈ts):=by
 rw[Hf];rw[rK,Um,dJ];constructor
 ·rintro⟨s,hs,e⟩;let:PyData.eqv (qG s) (qG t)=true:=e;rw[Gi]at this;grind
 ·intro h;show⟨t,h,by show PyData.eqv (qG t) (qG t)=true;rw[Gi];simp⟩
def zp(t:Int×Int):SeqAt.shaped (qG t)=true:=by
 unfold SeqAt.shaped;rw[Xn,GX];show aR (by let:=Kr t;omega)
abbrev fL:Stmt:=top 16
def pQ:bN ["graph","done","step","used","kind","bag","v"] Bd (aG fL):={}
noncomputable def oE(n:Nat)(ts:ar)(done:ax)(s:bZ)(used:List (ae)):Option (ae) :=
 match s with
 |.leaf=>some []
 |.inn v=>if(0<=v/\v<(n:Int))/\v∉used.getD 0 []/\bZ.out v∉done then some (fV (used.getD 0 []) [v])else none
 |.tie a b=>if(a,b)∈ts/\mZ [a,b] (used.getD 0 [])=[]/\bZ.tie a b∉done then some (used.getD 0 [])else none
 |.out v=>if v∈used.getD 0 []/\bZ.out v∉done then some (mZ (used.getD 0 []) [v])else none
 |.join=>if used.getD 0 []=used.getD 1 []then some (used.getD 0 [])else none
def a8a(K:aJ)(H:Hp)(ux:af)(H':Hp)(v:V):Option (ae)->Prop
 |none=>v=.non
 |some b=>∃p,v=.ref p/\bB K H' p (b.map V.int)/\(H p=none\/V.ref p∈ux)
def Ye{ux:af}{k:Nat}{v:V}(h:Vi ux (k:Int)=some v):v∈ux:=by
 let⟨j,_,e,_⟩:=N5 h;show gZ e
inductive a4r(K:aJ)(vs:af)(H:Hp)(Q:VK)(u_3:XK):Prop
 |mk (g:V) (n:Nat) (ts:ar) (dn st us:Addr) (ds ux:af) (done:ax) (s:bZ) (used:List (ae)) (_:vs=[g,.ref dn,.ref st,.ref us]) (_:ur K H g n ts) (_:n<=10) (_:bB K H dn ds) (_:Paired (uz K H) ds done) (_:cN K H st s.vs) (_:bB K H us ux) (_:Paired (VP K H) ux used) (_:s.need<=used.length) (_:(∀b∈used,Small b/\b.length<=1000)) (_:∀r H',aL H H'->a8a K H ux H' r (oE n ts done s used)->Q r H')
def pX{i j:Nat}(hi:i<5)(hj:j<5)(h:i≠j):decide (V.str (Er i)=V.str (Er j))=false:=cC λe=>by
 let e':Er i=Er j:=by injection e
 let:=Ii i hi j hj;grind
def w10:decide (V.str (Str.ofString "in")=V.str (Str.ofString "leaf"))=false:=pX (i:=1) (j:=0) () () ()
def w20:decide (V.str (Str.ofString "tie")=V.str (Str.ofString "leaf"))=false:=pX (i:=2) (j:=0) () () ()
def w21:decide (V.str (Str.ofString "tie")=V.str (Str.ofString "in"))=false:=pX (i:=2) (j:=1) () () ()
def w30:decide (V.str (Str.ofString "out")=V.str (Str.ofString "leaf"))=false:=pX (i:=3) (j:=0) () () ()
def w31:decide (V.str (Str.ofString "out")=V.str (Str.ofString "in"))=false:=pX (i:=3) (j:=1) () () ()
def w32:decide (V.str (Str.ofString "out")=V.str (Str.ofString "tie"))=false:=pX (i:=3) (j:=2) () () ()
def w40:decide (V.str (Str.ofString "join")=V.str (Str.ofString "leaf"))=false:=pX (i:=4) (j:=0) () () ()
def w41:decide (V.str (Str.ofString "join")=V.str (Str.ofString "in"))=false:=pX (i:=4) (j:=1) () () ()
def w42:decide (V.str (Str.ofString "join")=V.str (Str.ofString "tie"))=false:=pX (i:=4) (j:=2) () () ()
def w43:decide (V.str (Str.ofString "join")=V.str (Str.ofString "out"))=false:=pX (i:=4) (j:=3) () () ()
def Rn{K:aJ}{H:Hp}{ux:af}{used:List (ae)}{k:Nat}(p:Paired (VP K H) ux used)(h:k<used.length):∃b,Vi ux (k:Int)=⇑b/\bB K H b ((used.getD k []).map V.int)/\used.getD k []∈used:=by
 let⟨x,hx,⟨b,rfl,hb⟩⟩:=cP p (bC h);show⟨b,cB hx,?_,?_⟩
 ·rw[fB,bC h];show hb
 ·rw[fB,bC h];show mO h
def xG{K:aJ}{H:Hp}{dn st:Addr}{ds:af}{done:ax}{s:bZ}{Q:VK}(hD:bB K H dn ds)(pD:Paired (uz K H) ds done)(hS:cN K H st s.vs)(q:Q (.bl (!decide (s∈done))) H):Vq K true (.ref st) (.ref dn) H Q:=by
 show⟨s.d,done.map bZ.d,uz.isD ⟨st,Z,hS⟩,.lst hD (FQ (λ_ _ h=>uz.isD h) pD),V6 _,Rb _,?_⟩;rw[aB Z,a07];show q
section
variable{K:aJ}
def JW(B:Bl mg)(lF:Du K mg)(jM:Dn K mg "is_below" fK rU)(ou:Dn K mg "joint" nJ jL)(mV:Dn K mg "less" qJ jL)(sU:Dn K mg "bag_behind" fL Bd):⋯ 3 sU.f sU.fd Bd (a4r K):=by
 let ō:⋯ 2 _ _ _ _:=xu B lF jM;let a4p:⋯ 2 _ _ _ _:=(Rg B ou).mono ();let a6w:⋯ 2 _ _ _ _:=(bF.either (ŋ B mV) (Ō B mV)).mono ();show sU.F.ok pQ λdX A outer s H vs Q E hr h=>?_;let⟨g,n,ts,dn,st,us,ds,ux,done,sp,used,rfl,hG,dB,hD,pD,hS,hU,pU,nu,sm,q⟩:=h;let hu:(A.deeper (PyProof.Rows.envOfC "bag_behind" (aG fL) s⁻¹ sU.f dX)).units+64<cLine:=by let:=hr.un;omega
 let hv:(A.deeper (PyProof.Rows.envOfC "bag_behind" (aG fL) s⁻¹ sU.f dX)).units+65<cLine:=by let:=hr.un;omega
 let⟨pg,ta,rfl,hP,hT⟩:=id hG;show⟨_,(aD (aX 4 pQ.nd (aP (aO (K:=K) Z) (pv 2) aq))
   (aD (cO (aM lX (pv 4) gw)
   (aF (bJ (cG aj)))
   bA)
   (aD (aX 5 pQ.nd (aP (bx (K:=K) Z) (pv 3) aq))
   (aD (cO (aM lX (pv 4) gw)
   (aD (aX 6 pQ.nd (aP (aO (K:=K) Z) (pv 2) aq))
   (aF (bJ (qg (PW.pt (lU (dh (K:=K) Z (aY ō hr Z jM.m jM.F.kp jM.b .nil bW (O (aP (aO (K:=K) Z) (pv 0) aq) (O (pv 6) aj))) λ_=>rfl) (lU (aM (iB (K:=K) Z hv) (pv 6) (pv 5) (by with_unfolding_all rfl)) (nA (aM (iB (K:=K) Z hv) (bK (O gw (O (pv 6) aj))) (pv 1) (by with_unfolding_all rfl)))))) (aY a4p hr Z ou.m ou.F.kp ou.b .nil bW (O (pv 5) (O (cG (O (pv 6) aj)) aj))) oU))))
   bA)
   (aD (cO (aM lX (pv 4) gw)
   (aF (bJ (qg (PW.pt (lU (aM (tB (K:=K) Z hv) (eX (Ba (K:=K) Z) (pv 2) (gh aq) gb) (aP (aO (K:=K) Z) (pv 0) aq) (by with_unfolding_all rfl)) (lU (nC (dh (K:=K) Z (aY a6w hr Z mV.m mV.F.kp mV.b .nil bW (O (eX (Ba (K:=K) Z) (pv 2) (gh aq) gb) (O (pv 5) aj))) λ_=>rfl)) (nA (aM (iB (K:=K) Z hv) (pv 2) (pv 1) (by with_unfolding_all rfl)))))) (pv 5) oU)))
   bA)
   (aD (cO (aM lX (pv 4) gw)
   (aF (bJ (qg (PW.pt (lU (aM (tB (K:=K) Z hv) (aP (aO (K:=K) Z) (pv 2) aq) (pv 5) (by with_unfolding_all rfl)) (nA (aM (iB (K:=K) Z hv) (pv 2) (pv 1) (by with_unfolding_all rfl))))) (aY a6w hr Z mV.m mV.F.kp mV.b .nil bW (O (pv 5) (O (eX (Ba (K:=K) Z) (pv 2) (gh aq) gb) aj))) oU)))
   bA)
   (aF (bJ (qg (aM (a0u (K:=K) Z hu) (pv 5) (aP (bx (K:=K) Z) (pv 3) aq)) (pv 5) oU))))))))),?_⟩
 cases sp with
 |leaf =>
  show⟨_,Z,st,_,_,_,Z,Z,hS,Z,⟨_,Z,Z,_,Z,?_⟩⟩;rw[aR rfl];show gP ⟨(),λp1 H1 n1=>q _ H1 n1.same ⟨p1,Z,bB.of n1.here,.inl n1.fresh⟩⟩
 |inn v =>
  let⟨b0,a0,hb0,m0⟩:=Rn (k:=0) pU nu;let⟨sm0,l0⟩:=sm _ m0;show⟨_,Z,st,_,_,_,Z,Z,hS,Z,⟨_,Z,Z,_,Z,?_⟩⟩;rw[w10];show cV ⟨_,Z,us,_,_,_,Z,Z,hU,a0,⟨_,Z,Z,_,Z,?_⟩⟩;rw[aR rfl];show gP ⟨_,Z,st,_,_,_,Z,Z,hS,Z,⟨_,Z,pg,_,_,_,Z,Z,hP,Z,_,Z,(n:Int),some v,Z,_,Z,?_⟩⟩;let eb:oX (n:Int) (some v)=decide (0<=v/\v<(n:Int)):=rfl;rw[eb];let no:∀{H'},aL H H'->¬((0<=v/\v<(n:Int))/\v∉used.getD 0 []/\bZ.out v∉done)->Q .non H':=λs c=>q _ _ s (by
   unfold oE;lk;rw[aA c];show Z)
  by_cases c1:0<=v/\v<(n:Int)
  ·rw[aR c1];show gP ⟨_,Z,_,Z,rB hb0 ⟨_,Z,?_⟩⟩;by_cases c2:v∈used.getD 0 []
   ·rw[aR c2];show cV (cV (no (aL.refl _) λh=>h.2.1 c2))
   ·rw[cC c2];show gP ⟨_,Z,(),λp2 H2 n2=>?_⟩;show⟨_,Z,xG (s:=.out v) (n2.same.seq hD) (Paired.cD pD λ_ _ h=>uz.same n2.same h) (cN.of n2.here) ⟨_,Z,?_⟩⟩;by_cases c3:bZ.out v∈done
    ·rw[aR c3];show cV (no n2.same λh=>h.2.2 c3)
    ·rw[cC c3];show gP ⟨_,Z,_,Z,(),λp3 H3 n3=>?_⟩;show⟨b0,p3,_,[v],Z,(n2.same.trans n3.same).seq hb0,bB.of n3.here,sm0,λx hx=>by rw[bG.mp hx];omega,λH4 p5 H5 s4 n5=>?_⟩;show q _ H5 (n2.same.trans (n3.same.trans (s4.trans n5.same))) ?_;unfold oE;lk;rw[aB ⟨c1,c2,c3⟩];show⟨p5,Z,bB.of n5.here,.inl ((n2.same.trans (n3.same.trans s4)).free n5.fresh)⟩
  ·rw[cC c1];show cV (cV (no (aL.refl _) λh=>c1 h.1))
 |tie x y =>
  let⟨b0,a0,hb0,m0⟩:=Rn (k:=0) pU nu;show⟨_,Z,st,_,_,_,Z,Z,hS,Z,⟨_,Z,Z,_,Z,?_⟩⟩;rw[w20];show cV ⟨_,Z,us,_,_,_,Z,Z,hU,a0,⟨_,Z,Z,_,Z,?_⟩⟩;rw[w21];show cV ⟨_,Z,Z,_,Z,?_⟩;rw[aR rfl];let no:∀{H'},aL H H'->¬((x,y)∈ts/\mZ [x,y] (used.getD 0 [])=[]/\bZ.tie x y∉done)->Q .non H':=λs c=>q _ _ s (by
   unfold oE;lk;rw[aA c];show Z)
  show gP ⟨_,Z,_,Z,st,_,Z,hS,λh=>absurd h.1 (by show ¬HT.jZ 3 0 (some 1)=0;decide),λp1 H1 n1=>?_⟩;show⟨_,Z,pg,_,_,_,Z,Z,n1.same.vM hP,Z,qG (x,y),ts.map qG,Vu.isD ⟨p1,Z,cN.of n1.here⟩,(hT.same n1.same).isD,zp _,Qs _,_,Z,?_⟩;rw[aA cL,a1j];by_cases c1:(x,y)∈ts
  ·rw[aR c1];show gP ⟨_,Z,_,Z,st,_,Z,n1.same.vM hS,λh=>absurd h.1 (by show ¬HT.jZ 3 0 (some 1)=0;decide),λp2 H2 n2=>?_⟩;let s2:=n1.same.trans n2.same;show⟨_,Z,.inl ⟨p2,b0,[x,y],_,Z,cN.of n2.here,s2.seq hb0,(),λH4 p5 H5 s4 n5=>?_⟩⟩;let s5:=s2.trans (s4.trans n5.same);show⟨_,.inl ⟨_,bB.of n5.here,Z⟩,?_⟩;by_cases c2:mZ [x,y] (used.getD 0 [])=[]
   ·rw[c2];show gP ⟨_,Z,_,Z,xG (s:=.tie x y) (s5.seq hD) (Paired.cD pD λ_ _ h=>uz.same s5 h) (s5.vM hS) ⟨_,Z,?_⟩⟩;by_cases c3:bZ.tie x y∈done
    ·rw[aR c3];show cV (no s5 λh=>h.2.2 c3)
    ·rw[cC c3];show gP ⟨_,Z,q _ H5 s5 ?_⟩;unfold oE;lk;rw[aB ⟨c1,c2,c3⟩];show⟨b0,Z,s5.seq hb0,.inr (Ye a0)⟩
   ·let e:((mZ [x,y] (used.getD 0 [])).map V.int).isEmpty=false:=by
     cases c4:mZ [x,y] (used.getD 0 [])with
     |nil=>show absurd c4 c2
     |cons _ _=>rfl
    rw[e];show cV (cV (no s5 λh=>c2 h.2.1))
  ·rw[cC c1];show cV (cV (no n1.same λh=>c1 h.1))
 |out v =>
  let⟨b0,a0,hb0,m0⟩:=Rn (k:=0) pU nu;show⟨_,Z,st,_,_,_,Z,Z,hS,Z,⟨_,Z,Z,_,Z,?_⟩⟩;rw[w30];show cV ⟨_,Z,us,_,_,_,Z,Z,hU,a0,⟨_,Z,Z,_,Z,?_⟩⟩;rw[w31];show cV ⟨_,Z,Z,_,Z,?_⟩;rw[w32];show cV ⟨_,Z,Z,_,Z,?_⟩;rw[aR rfl];let no:∀{H'},aL H H'->¬(v∈used.getD 0 []/\bZ.out v∉done)->Q .non H':=λs c=>q _ _ s (by
   unfold oE;lk;rw[aA c];show Z)
  show gP ⟨_,Z,st,_,_,_,Z,Z,hS,Z,_,Z,yU hb0 ⟨_,Z,?_⟩⟩;by_cases c1:v∈used.getD 0 []
  ·rw[aR c1];show gP ⟨_,Z,_,Z,xG (s:=.out v) hD pD hS ⟨_,Z,?_⟩⟩;by_cases c2:bZ.out v∈done
   ·rw[aR c2];show cV (no (aL.refl _) λh=>h.2 c2)
   ·rw[cC c2];show gP ⟨_,Z,_,Z,_,Z,st,_,Z,hS,λh=>absurd h.1 (by show ¬HT.jZ 2 0 (some 1)=0;decide),λp2 H2 n2=>?_⟩;show .inr ⟨b0,p2,_,[v],Z,n2.same.seq hb0,cN.of n2.here,(sm _ m0).2,λH4 p5 H5 s4 n5=>q _ H5 (n2.same.trans (s4.trans n5.same)) ?_⟩;unfold oE;lk;rw[aB ⟨c1,c2⟩];show⟨p5,Z,bB.of n5.here,.inl ((n2.same.trans s4).free n5.fresh)⟩
  ·rw[cC c1];show cV (cV (no (aL.refl _) λh=>c1 h.1))
 |join =>
  let⟨b0,a0,hb0,m0⟩:=Rn (k:=0) pU (iZ () nu);let⟨b1,a1,hb1,m1⟩:=Rn (k:=1) pU (iZ () nu);show⟨_,Z,st,_,_,_,Z,Z,hS,Z,⟨_,Z,Z,_,Z,?_⟩⟩;rw[w40];show cV ⟨_,Z,us,_,_,_,Z,Z,hU,a0,⟨_,Z,Z,_,Z,?_⟩⟩;rw[w41];show cV ⟨_,Z,Z,_,Z,?_⟩;rw[w42];show cV ⟨_,Z,Z,_,Z,?_⟩;rw[w43];show cV ⟨_,Z,_,Z,us,_,_,_,Z,Z,hU,a1,_,_,.lst hb0 (uO.ints _),.lst hb1 (uO.ints _),shaped_ints _,shaped_ints _,_,Z,?_⟩;rw[aA cL,Qp];by_cases c:used.getD 0 []=used.getD 1 []
  ·rw[aR c];show gP ⟨_,Z,q _ H (aL.refl _) ?_⟩;unfold oE;lk;rw[aB c];show⟨b0,Z,hb0,.inr (Ye a0)⟩
  ·rw[cC c];show cV (q _ H (aL.refl _) ?_);unfold oE;lk;rw[aA c];show rfl
end
abbrev Eu:Stmt:=top 15
def uD:bN ["graph","steps","tops","feeds","pile","k","step","left","bag"] lY (aG Eu):={}
structure RS where
 aQ:List (ae)
 dH:List (ay)
 pile:ay
noncomputable def dW(s:bZ)(r:RS):Nat:=r.pile.length-s.need
def qN(s:bZ)(r:RS):List (ae):=(r.pile.drop (dW s r)).map λj=>r.aQ.getD j []
noncomputable def oG(n:Nat)(ts:ar)(ss:ax)(k:Nat)(r:RS):Option RS :=
 if(ss.getD k .leaf).need<=r.pile.length then
  (oE n ts (ss.take k) (ss.getD k .leaf) (qN (ss.getD k .leaf) r)).map λb=>⟨r.aQ++[b],r.dH++[r.pile.drop (dW (ss.getD k .leaf) r)],r.pile.take (dW (ss.getD k .leaf) r)++[k]⟩
 else none
def aU(n:Nat)(ts:ar)(ss:ax):Nat->RS×Bool
 |0=>(⟨[],[],[]⟩,true)
 |k+1=>if(aU n ts ss k).2=true then
   match oG n ts ss k (aU n ts ss k).1 with
   |some r=>(r,true)
   |none=>((aU n ts ss k).1,false)
  else((aU n ts ss k).1,false)
def cA(n:Nat)(ts:ar)(ss:ax):RS:=(aU n ts ss ss.length).1
theorem Iw{n:Nat}{ts:ar}{ss:ax}{k:Nat}(h:(aU n ts ss k).2=false):∀m,k<=m->aU n ts ss m=((aU n ts ss k).1,false)
 |0,hm=>by
  grind
 |m+1,hm=>by
  by_cases c:k=m+1
  ·grind
  ·let ih:=Iw h m ()
   show(if(aU n ts ss m).2=true then _ else _)=_
   rw[ih]
   rfl
structure a1k(i:Nat)(r:RS):Prop where
 tl:r.aQ.length=i
 fl:r.dH.length=i
 pl:r.pile.length<=i
 lt:∀j∈r.pile,j<i
 sm:∀b∈r.aQ,Small b/\b.length<=1000
 ff:∀f∈r.dH,f.length<=2
def ZC{n:Nat}{ts:ar}{done:ax}{s:bZ}{used:List (ae)}{b:ae}(dB:n<=10)(sm:∀b∈used,Small b/\b.length<=1000)(h:oE n ts done s used=some b):Small b/\b.length<=1000:=by
 let g:∀k,Small (used.getD k [])/\(used.getD k []).length<=1000:=λk=>by
  by_cases c:k<used.length
  ·rw[fB,bC c];show sm _ (mO c)
  ·rw[fB,List.getElem?_eq_none ()];show⟨λx hx=>absurd hx eO,()⟩
 unfold oE at h;cases s with
 |leaf =>
  let:b=[]:=(dD h).symm;subst this;show⟨λx hx=>absurd hx eO,()⟩
 |inn v =>
  dsimp only at h;split at h
  ·rw[<-dD h];show⟨λx hx=>?_,?_⟩
   ·let⟨h1,h2,_⟩:=xV.mp hx;show⟨h1,h2⟩
   ·unfold fV PN;grind
  ·cases h
 |tie x y =>
  dsimp only at h;split at h
  ·rw[<-dD h];show g 0
  ·cases h
 |out v =>
  dsimp only at h;split at h
  ·rw[<-dD h];show⟨λx hx=>(g 0).1 x (jQ.mp hx).1,cF (Cq _ _) (g 0).2⟩
  ·cases h
 |join =>
  dsimp only at h;split at h
  ·rw[<-dD h];show g 0
  ·cases h
theorem jo{n:Nat}{ts:ar}{ss:ax}(dB:n<=10):∀{i:Nat},(aU n ts ss i).2=true->a1k i (aU n ts ss i).1
 |0,_=>⟨Z,Z,aK _,λj h=>absurd h eO,λb h=>absurd h eO,λb h=>absurd h eO⟩
 |i+1,h=>by
  let e:aU n ts ss (i+1)=if(aU n ts ss i).2=true then
   (match oG n ts ss i (aU n ts ss i).1 with
   |some r=>(r,true)
   |none=>((aU n ts ss i).1,false))
  else((aU n ts ss i).1,false):=rfl
  rw[e]at h ⊢
  by_cases c:(aU n ts ss i).2=true
  ·let I:=jo dB c
   rw[aB c]at h ⊢
   cases d:oG n ts ss i (aU n ts ss i).1 with
   |none=>grind
   |some r =>
    lk
    unfold oG at d
    split at d
    ·let⟨b,hb,er⟩:=lN.mp d
     rw[<-er]
     let sb:=ZC dB (λx hx=>by
      let⟨j,hj,e⟩:=dM.mp hx
      let jl:=I.lt j (yI hj)
      rw[<-e,fB,bC (by rw[I.tl];show jl)]
      show I.sm _ (mO _)) hb
     show⟨?_,?_,?_,λj hj=>?_,λx hx=>?_,λf hf=>?_⟩
     ·show(_++[b]).length=_
      rw[bO,I.tl];rfl
     ·show(_++[_]).length=_
      rw[bO,I.fl];rfl
     ·show(_++[i]).length<=_
      rw[bO,eN]
      let:=I.pl
      show min _ _+1<=_
      omega
     ·rcases cH.mp hj with hj|hj
      ·let:=I.lt j (lQ hj)
       omega
      grind
     ·rcases cH.mp hx with hx|hx
      ·show I.sm x hx
      ·rw[bG.mp hx];show sb
     ·rcases cH.mp hf with hf|hf
      ·show I.ff f hf
      ·rw[bG.mp hf,iI]
       unfold dW
       let:(ss.getD i .leaf).need<=2:=by cases ss.getD i .leaf<;>simp[bZ.need]
       omega
    ·cases d
  grind
def Ŏ{n:Nat}{ts:ar}{ss:ax}{i:Nat}{r:RS}(c:(aU n ts ss i).2=true)(d:oG n ts ss i (aU n ts ss i).1=some r):aU n ts ss (i+1)=(r,true):=by
 show(if(aU n ts ss i).2=true then _ else _)=_;grind
def a1l{n:Nat}{ts:ar}{ss:ax}{i:Nat}(il:i<ss.length)(c:(aU n ts ss i).2=true)(d:oG n ts ss i (aU n ts ss i).1=none):cA n ts ss=(aU n ts ss i).1:=by
 let e:aU n ts ss (i+1)=((aU n ts ss i).1,false):=by
  show(if(aU n ts ss i).2=true then _ else _)=_;grind
 unfold cA;rw[Iw (k:=i+1) (by rw[e]) ss.length il,e]
abbrev yd(l:ay):af:=l.map λ(x:Nat)=>V.int (x:Int)
theorem Ro:∀{m:Nat}{l:ay},l.Nodup->(∀x∈l,x<m)->l.length<=m
 |0,l,_,lt=>by
  cases l with
  |nil=>grind
  |cons x r=>show absurd (lt x bh) (wQ _)
 |m+1,l,nd,lt=>by
  let ih:=Ro (m:=m) (nd.erase m) λx hx=>by
   let⟨h1,h2⟩:=nd.mem_erase_iff.mp hx
   let:=lt x h2
   omega
  rw[List.length_erase]at ih
  split at ih<;>omega
def wB(ex:aI)(K:aJ)(H:Hp)(v:V)(b:ae):Prop:=∃p,v=.ref p/\bB K H p (b.map V.int)/\p∉ex
def wB.same{K:aJ}{H H':Hp}{v:V}{b:ae}(s:aL H H')(h:wB ex K H v b):wB ex K H' v b:=by
 let⟨p,e,q,n⟩:=h;show⟨p,e,s.seq q,n⟩
def wB.l{K:aJ}{H:Hp}{v:V}{b:ae}(h:wB ex K H v b):VP K H v b:=by
 let⟨p,e,q,n⟩:=h;show⟨p,e,q⟩
def a1m{K:aJ}{H H':Hp}{a p:Addr}{o:HO}{xs:af}(c:uP H a o H')(n:p≠a)(h:bB K H p xs):bB K H' p xs:=by
 rcases h with h|h
 ·show .inl ?_;rcases h with h|⟨u,h⟩
  ·show .inl ((c.rest p n).trans h)
  ·show .inr ⟨u,(c.rest p n).trans h⟩
 ·show .inr h
def wB.chg{K:aJ}{H H':Hp}{a:Addr}{o:HO}{v:V}{b:ae}(c:uP H a o H')(ha:a∈ex)(h:wB ex K H v b):wB ex K H' v b:=by
 let⟨p,e,q,n⟩:=h;show⟨p,e,a1m c (λz=>n (z▸ha)) q,n⟩
def zq(ex:aI)(H:Hp)(q:Addr)(f:ay):Prop:=H q=↥(yd f)/\q∉ex
def zq.same{H H':Hp}{q:Addr}{f:ay}(s:aL H H')(h:zq ex H q f):zq ex H' q f:=⟨s _ _ h.1,h.2⟩
def zq.chg{H H':Hp}{a:Addr}{o:HO}{q:Addr}{f:ay}(c:uP H a o H')(ha:a∈ex)(h:zq ex H q f):zq ex H' q f:=⟨(c.rest q λz=>h.2 (z▸ha)).trans h.1,h.2⟩
def Rp(xs:af)(k:Nat)(h:k<=xs.length):uo xs none (some (k:Int))=xs.take k:=by
 unfold uo;let e1:HT.jZ xs.length xs.length (some (k:Int))=k:=by
  show min _ _=k;simp;omega
 let e2:HT.jZ xs.length 0 none=0:=rfl;rw[e1,e2,Ni,vG]
def Rq(xs:af)(k:Nat)(h:k<=xs.length):uo xs (some (k:Int)) none=xs.drop k:=by
 unfold uo;let e1:HT.jZ xs.length 0 (some (k:Int))=k:=by
  show min _ _=k;grind
 let e2:HT.jZ xs.length xs.length none=xs.length:=rfl;rw[e1,e2,wJ (by rw[iI];omega)]
theorem Iz{α β:Type}{R:α->β->Prop}:∀{xs:List α}{ys:List β} (i:Nat),Paired R xs ys->Paired R (xs.take i) (ys.take i)
 |_,_,0,_=>.nil
 |_,_,_+1,.nil=>.nil
 |_,_,i+1,.cons q r=>.cons q (Iz i r)
def a8b(ex:aI)(K:aJ)(H:Hp)(v:V):Option (ae)->Prop
 |none=>v=.non
 |some b=>wB ex K H v b
theorem K3{ex:aI}{K:aJ}{H:Hp}{vt:af}{aQ:List (ae)}(p:Paired (wB ex K H) vt aQ):∀l:ay,(∀j∈l,j<aQ.length)->Paired (VP K H) (l.map λj=>vt.getD j .non) (l.map λj=>aQ.getD j [])
 | [],_=>.nil
 |j::r,h=>by
  let jl:=h j bh
  let⟨x,hx,hb⟩:=cP p (bC jl)
  show .cons ?_ (K3 p r λi hi=>h i (bM _ hi))
  lk
  rw[fB,hx,fB,bC jl]
  show hb.l
inductive a6x(K:aJ)(vs:af)(H:Hp)(Q:VK)(u_3:XK):Prop
 |mk (g:V) (n:Nat) (ts:ar) (a:Addr) (xs:af) (ss:ax) (_:vs=[g,.ref a]) (_:ur K H g n ts) (_:n<=10) (_:bB K H a xs) (_:Paired (uz K H) xs ss) (_:ss.length<=900) (_:∀r pt pf pp vt fs H',aL H H'->H' r= ~~~[.ref pt,.ref pf,.ref pp]->H pt=none->H pf=none->H pp=none->H' pt=↥vt->H' pf=↥(fs.map V.ref)->zq [pt,pf] H' pp (cA n ts ss).pile->Paired (wB [pt,pf] K H') vt (cA n ts ss).aQ->Paired (zq [pt,pf] H') fs (cA n ts ss).dH->Q (.ref r) H')
inductive a6y(K:aJ)(g:V)(a p1 p2:Addr)(n:Nat)(ts:ar)(ss:ax)(H:Hp)(i:Nat)(σ:St)(H':Hp):Prop
 |mk (vt:af) (fs:aI) (pp:Addr) (a5 a6 a7 a8:Option V) (_:σ=[some g,⇑a,⇑p1,⇑p2,⇑pp,a5,a6,a7,a8]) (_:aL H H') (_:H' p1=↥vt) (_:H' p2=↥(fs.map V.ref)) (_:(aU n ts ss i).2=true) (_:H pp=none) (_:zq [p1,p2] H' pp (aU n ts ss i).1.pile) (_:Paired (wB [p1,p2] K H') vt (aU n ts ss i).1.aQ) (_:Paired (zq [p1,p2] H') fs (aU n ts ss i).1.dH)
section
variable{K:aJ}
def a4s(B:Bl mg)(U:Used w K mg)(lF:Du K mg)(jM:Dn K mg "is_below" fK rU)(ou:Dn K mg "joint" nJ jL)(mV:Dn K mg "less" qJ jL)(sU:Dn K mg "bag_behind" fL Bd)(wC:Dn K mg "run" Eu lY):⋯ 4 wC.f wC.fd lY (a6x K):=by
 let a8c:⋯ 3 _ _ _ _:=JW B lF jM ou mV sU;show wC.F.ok uD λdX A outer s H vs Q E hr h=>?_;let⟨g,n,ts,a,xs,ss,rfl,hG,dB,hA,pA,a6z,q⟩:=h;let lx:=aW pA;show⟨_,(aD (aX 2 uD.nd (cG aj))
   (aD (aX 3 uD.nd (cG aj))
   (aD (aX 4 uD.nd (cG aj))
   (aD (iz gK Z (a0y (K:=K) Z Z B.enumerate (O (pv 1) aj)) (jG (K:=K) (n:=2) Z Z (bT (aN 5 uD.nd) (bT (aN 6 uD.nd) iU)))
   (aD (aX 7 uD.nd (bw NT (aV (bV (K:=K) Z) Z B.len () (O (pv 4) aj)) (a0S U Z (aP (aO (K:=K) Z) (pv 6) aq) λ_ _=>rfl)))
   (aD (aX 8 uD.nd oU)
   (iW (cO (aM a5t (pv 7) aq)
   (aF (aX 8 uD.nd (aY a8c hr Z sU.m sU.F.kp sU.b .nil bW (O (pv 0) (O (eX (wZ (K:=K) Z) (pv 1) gb (gh (pv 5))) (O (pv 6) (O (j4 ["j","tops"] [none,some 2]  (by kernel_rfl) Z (eY (K:=K) Z (eX (wZ (K:=K) Z) (pv 4) (gh (pv 7)) gb)) (λ_ _ _ _ _=>(aN 0 (show(["j","tops"]:ag).Nodup by decide))) (λ_ _ _ _ _=>gQ) λ_ _ _ _ _=>(aP (bx (K:=K) Z) (pv 1) (pv 0))) aj)))))))
   bA)
   (aD (cO (aM ì (pv 8) oU)
   (aF å)
   bA)
   (aD (dZ (gA (K:=K) Z gJ PySem.F.slot_list_append PySem.F.type_list_append fu (pv 2) (O (pv 8) aj)))
   (aD (dZ (gA (K:=K) Z gJ PySem.F.slot_list_append PySem.F.type_list_append fu (pv 3) (O (eX (wZ (K:=K) Z) (pv 4) (gh (pv 7)) gb) aj)))
   (aF (aX 4 uD.nd (bw nD (eX (wZ (K:=K) Z) (pv 4) gb (gh (pv 7))) (cG (O (pv 5) aj))))))))))))
   (aF (bJ (bK (O (pv 2) (O (pv 3) (O (pv 4) aj)))))))))),?_⟩
 show⟨(),λp1 H1 n1=>⟨(),λp2 H2 n2=>⟨(),λp3 H3 n3=>?_⟩⟩⟩;let s3:=n1.same.trans (n2.same.trans n3.same);let f1:H p1=none:=n1.fresh;let f2:H p2=none:=n1.same.free n2.fresh;let f3:H p3=none:=n1.same.free (n2.same.free n3.fresh);let n12:p1≠p2:=n2.ne n1.here;let n13:p3≠p1:=(n3.ne (n2.same _ _ n1.here)).symm;let n23:p3≠p2:=(n3.ne n2.here).symm;let ret:∀{H':Hp}{pp:Addr}{vt:af}{fs:aI}{a5 a6 a7 a8:Option V},aL H H'->H pp=none->H' p1=↥vt->H' p2=↥(fs.map V.ref)->zq [p1,p2] H' pp (cA n ts ss).pile->Paired (wB [p1,p2] K H') vt (cA n ts ss).aQ->Paired (zq [p1,p2] H') fs (cA n ts ss).dH->a5m (a2r (Xd (UW 2) (Xd (UW 3) (Xd (UW 4) a3i)))) { nx:=λx H'=>Q V.non H',rt:=Q} [some g,⇑a,⇑p1,⇑p2,⇑pp,a5,a6,a7,a8] H':=λ{H' pp vt fs a5 a6 a7 a8} s fp h1 h2 h3 h4 h5=>by
  show⟨_,Z,_,Z,_,Z,(),λpr Hr nr=>?_⟩;show q pr p1 p2 pp vt fs Hr (s.trans nr.same) nr.here f1 f2 fp (nr.same _ _ h1) (nr.same _ _ h2) (h3.same nr.same) (Paired.cD h4 λ_ _ h=>h.same nr.same) (Paired.cD h5 λ_ _ h=>h.same nr.same)
 show⟨_,Z,a,Z,⟨_,s3.seq hA⟩,X8 (P:=λi σ H'=>a6y K g a p1 p2 n ts ss H i σ H') λZ97 ji ij=>?_⟩;show Ć (xs:=xs) Z97 (ji _ _ _ ⟨[],[],p3,none,none,none,none,Z,s3,n3.same _ _ (n2.same _ _ n1.here),n3.same _ _ n2.here,Z,f3,⟨n3.here,by simp[n13,n23]⟩,.nil,.nil⟩) (λi σ H' _ h=>by
  let⟨_,_,_,_,_,_,_,_,s,_⟩:=ij _ _ _ h;show s.seq hA) ?_ ?_
 ·intro i x σ H4 pz H5 hi hJ nz;let⟨vt,fs,pp,a5,a6,a7,a8,rfl,s4,h1,h2,go,fp,zQ,pv,pf⟩:=ij _ _ _ hJ;let⟨sp,hsp,⟨ps,rfl,hps⟩⟩:=bI pA hi;let il:i<ss.length:=(eG.mp hsp).1;let esp:ss.getD i .leaf=sp:=by rw[fB,hsp];rfl
  let I:=jo (n:=n) (ts:=ts) (ss:=ss) dB go;obtain⟨R,eR⟩:∃R,R=(aU n ts ss i).1:=⟨_,Z⟩;rw[<-eR]at I zQ pv pf;let s5:=s4.trans nz.same;show⟨pz,_,Z,cN.of nz.here,Z,_,_,Z,_,_,Z,Z,?_⟩;let a6A:=(zQ.same nz.same).1;show⟨_,Z,pp,_,Z,.inl (bB.of a6A),_,Z,ps,_,((0:Nat):Int),_,Z,Z,s5.vM hps,xW sp,.inr sp.word,_,Z,a06 sp,_,_,Z,Z,?_⟩;lk;rw[aH];obtain⟨lf,elf⟩:∃lf:Int,((R.pile.length:Nat):Int)-((sp.need:Nat):Int)=lf:=⟨_,Z⟩;rw[elf];show⟨λσ' H'=>∃bv:V,σ'=[some g,⇑a,⇑p1,⇑p2,⇑pp,some (.int (i:Int)),⇑ps,some (.int lf),some bv]/\aL H5 H'/\((sp.need<=R.pile.length/\a8b [p1,p2] K H' bv (oE n ts (ss.take i) sp (qN sp R)))\/(¬sp.need<=R.pile.length/\bv=.non)),?_,?_⟩
  ·show⟨_,Z,_,_,Z,Z,_,Z,qi (λc=>?_) λc=>⟨.non,Z,aL.refl _,.inr ⟨?_,Z⟩⟩⟩
   ·let c':(0:Int)<=lf:=dw c;let nl:sp.need<=R.pile.length:=()
    let el:lf=((dW sp R:Nat):Int):=by unfold dW;omega
    let ll:dW sp R<=R.pile.length:=by unfold dW;omega
    rw[el];show⟨_,Z,_,Z,_,Z,_,Z,a,_,Z,s5.seq hA,λp6 H6 n6=>?_⟩;rw[Rp _ _ ()]at n6;show⟨_,Z,_,Z,_,Z,_,Z,pp,_,Z,bB.of (n6.same _ _ a6A),λp7 H7 n7=>?_⟩;rw[Rq _ _ (by rw[aH];show ll)]at n7;let s57:=n6.same.trans n7.same;let ed:(yd R.pile).drop (dW sp R)=yd (R.pile.drop (dW sp R)):=by unfold yd;rw[UG]
    rw[ed]at n7;let h17:=s57 _ _ (nz.same _ _ h1);let lv:=aW pv;let jt:∀j∈R.pile.drop (dW sp R),j<R.aQ.length:=λj hj=>by rw[I.tl];show I.lt j (yI hj)
    show⟨p7,Z,⟨_,bB.of n7.here⟩,?_⟩;show Hx (λv=>match v with |.int z=>some (vt.getD z.toNat .non)|_=>none) (bB.of n7.here) (by rw[aH,iI];let:=I.pl;omega) (λv H8 N hv8 s8 hN=>?_) (λH8 p9 H9 s8 n9=>?_)
    ·let⟨j,hj,rfl⟩:=dM.mp hv8;let jl:j<vt.length:=by rw[lv];show jt j hj
     let hN':=hN H8 s8;dsimp only at hN';rw[iG]at hN';show⟨_,Z,_,Z,p1,_,_,_,Z,Z,bB.of (s8 _ _ h17),cB (bC jl),?_⟩;rw[fB,bC jl]at hN';show hN'
    let e9:(yd (R.pile.drop (dW sp R))).filterMap (λv=>match v with |.int z=>some (vt.getD z.toNat .non)|_=>none)=(R.pile.drop (dW sp R)).map λj=>vt.getD j .non:=by
     unfold yd;rw[Ms];show(vN λj _=>?_);show some (vt.getD ((j:Int)).toNat V.non)=_;rw[iG]
    rw[e9]at n9;let s59:=s57.trans (s8.trans n9.same);let s69:=n7.same.trans (s8.trans n9.same);let pv9:=Paired.cD pv λ_ _ h=>h.same (nz.same.trans s59);show⟨g,n,ts,p6,ps,p9,xs.take i,_,ss.take i,sp,qN sp R,Z,(hG.same s5).same s59,dB,bB.of (s69 _ _ n6.here),Iz i (Paired.cD pA λ_ _ h=>(h.same s5).same s59),(s5.trans s59).vM hps,bB.of n9.here,K3 pv9 _ jt,?_,λb hb=>?_,λr Yg s10 bn=>?_⟩
    ·unfold qN;rw[aH,iI];unfold dW;omega
    ·let⟨j,hj,rfl⟩:=dM.mp hb;rw[fB,bC (jt j hj)];show I.sm _ (mO _)
    show⟨r,Z,s59.trans s10,.inl ⟨nl,?_⟩⟩;cases eb:oE n ts (ss.take i) sp (qN sp R)with
    |none=>rw[eb]at bn;show bn
    |some b =>
     rw[eb]at bn;let⟨p,e,hp,h⟩:=bn;show⟨p,e,hp,?_⟩;rcases h with h|h
     ·let k1:H9 p1=↥vt:=s59 _ _ (nz.same _ _ h1);let k2:H9 p2=↥(fs.map V.ref):=s59 _ _ (nz.same _ _ h2);intro hm;rcases bQ.mp hm with hm|hm
      ·rw[hm,k1]at h;cases h
      ·rw[bG.mp hm,k2]at h;cases h
     ·let⟨j,hj,ej⟩:=dM.mp h;let jl:j<vt.length:=by rw[lv];show jt j hj
      let⟨b',_,⟨p',e',_,np⟩⟩:=bI pv (bC jl);rw[fB,bC jl,Uo,e']at ej;injection ej with ej
      rw[<-ej];show np
   ·let c':¬(0:Int)<=lf:=T9 (yK.mpr c);omega
  rintro σ' H6 ⟨bv,rfl,s6,wb⟩;let s46:=nz.same.trans s6;let h16:=s46 _ _ h1;let h26:=s46 _ _ h2;let a6B:=zQ.same s46;let pv6:=Paired.cD pv λ_ _ h=>h.same s46;let pf6:=Paired.cD pf λ_ _ h=>h.same s46;let sH6:=s4.trans s46;let stop:bv=.non->oG n ts ss i R=none:=λe=>by
   unfold oG;rw[esp];rcases wb with⟨nl,w⟩|⟨nl,_⟩
   ·rw[aB nl];cases eb:oE n ts (ss.take i) sp (qN sp R)with
    |none=>rfl
    |some b =>
     rw[eb]at w;let⟨p,e',_⟩:=w;rw[e]at e';cases e'
   ·rw[aA nl]
  show⟨_,Z,Z,_,Z,?_⟩;by_cases cn:bv=.non
  ·rw[aR cn];show gP ?_;let ee:=a1l il go (by rw[<-eR];show stop cn);rw[<-eR]at ee;show ret sH6 fp h16 h26 ?_ ?_ ?_
   ·rw[ee];show a6B
   ·rw[ee];show pv6
   ·rw[ee];show pf6
  ·rw[cC cn];show cV ?_;obtain⟨nl,b,eb,p,rfl,hp,np⟩:sp.need<=R.pile.length/\∃b,oE n ts (ss.take i) sp (qN sp R)=some b/\wB [p1,p2] K H6 bv b:=by
    rcases wb with⟨nl,w⟩|⟨_,e⟩
    ·show⟨nl,?_⟩;cases eb:oE n ts (ss.take i) sp (qN sp R)with
     |none=>rw[eb]at w;show absurd w cn
     |some b=>rw[eb]at w;show⟨b,Z,w⟩
    ·show absurd e cn
   let el:lf=((dW sp R:Nat):Int):=by unfold dW;omega
   let ll:dW sp R<=R.pile.length:=by unfold dW;omega
   rw[el];let lv:=aW pv;let lff:=aW pf;let tl:=I.tl;let fl:=I.fl;let pl:=I.pl;let es:oG n ts ss i R=some ⟨R.aQ++[b],R.dH++[R.pile.drop (dW sp R)],R.pile.take (dW sp R)++[i]⟩:=by
    unfold oG;rw[esp,aB nl,eb];rfl
   let er:=Ŏ go (by rw[<-eR];show es);let m1:p1∈[p1,p2]:=bh;let m2:p2∈[p1,p2]:=bM _ (bG.mpr Z);show⟨_,Z,.inl ⟨Z,_,bB.of h16⟩,_,Z,p1,vt,_,Z,Z,h16,(),λH7 c7=>?_⟩;let h27:H7 p2=↥(fs.map V.ref):=(c7.rest p2 (Ne.symm n12)).trans h26;let a6C:=a6B.chg c7 m1;show⟨_,Z,.inl ⟨Z,_,bB.of h27⟩,_,Z,_,Z,_,Z,pp,_,Z,bB.of a6C.1,λp8 H8 n8=>?_⟩;rw[Rq _ _ (by rw[aH];show ll),show(yd R.pile).drop (dW sp R)=yd (R.pile.drop (dW sp R)) by unfold yd;rw[UG]]at n8;let h28:=n8.same _ _ h27;show⟨p2,_,_,Z,Z,h28,by rw[aH];omega,λH9 c9=>?_⟩;let n81:p8∉[p1,p2]:=λhm=>by
    let f8:=n8.fresh;rcases bQ.mp hm with hm|hm
    ·rw[hm,c7.here]at f8;cases f8
    ·rw[bG.mp hm,h27]at f8;cases f8
   let h19:H9 p1=↥(vt++[.ref p]):=(c9.rest p1 n12).trans (n8.same _ _ c7.here);let a8d:=(a6C.same n8.same).chg c9 m2;show⟨_,Z,_,Z,_,Z,pp,_,Z,bB.of a8d.1,λο Yg sV=>?_⟩;rw[Rp _ _ (by rw[aH];show ll),show(yd R.pile).take (dW sp R)=yd (R.pile.take (dW sp R)) by unfold yd;rw[UJ]]at sV;show⟨_,Z,(),λp11 H11 Bp=>?_⟩;show⟨ο,p11,_,_,Z,Z,Bp.same _ _ sV.here,Bp.here,by rw[aH,eN];show min _ _+1<=1000;omega,λp12 ς a1n=>?_⟩;let IK:=sV.same.trans (Bp.same.trans a1n.same);let sH9:aL H H9:=((sH6.chg f1 c7).trans n8.same).chg f2 c9;let f12:H p12=none:=sH9.free (sV.same.free (Bp.same.free a1n.fresh));show ji _ _ _ ⟨vt++[.ref p],fs++[p8],p12,_,_,_,_,Z,sH9.trans IK,IK _ _ h19,?_,by rw[er],f12,?_,?_,?_⟩
   ·let:=IK _ _ c9.here;rw[this,dz];rfl
   ·rw[er];show⟨?_,λhm=>?_⟩
    ·rw[a1n.here];unfold yd;rw[dz];rfl
    ·let g:=a1n.fresh;rcases bQ.mp hm with hm|hm
     ·rw[hm,Bp.same _ _ (sV.same _ _ h19)]at g;cases g
     ·rw[bG.mp hm,Bp.same _ _ (sV.same _ _ c9.here)]at g;cases g
   ·rw[er];show d7 (Paired.cD pv6 λ_ _ h=>(((h.chg c7 m1).same n8.same).chg c9 m2).same IK) ((((wB.chg c7 m1 ⟨p,Z,hp,np⟩).same n8.same).chg c9 m2).same IK)
   ·rw[er];show d7 (Paired.cD pf6 λ_ _ h=>(((h.chg c7 m1).same n8.same).chg c9 m2).same IK) ((zq.chg c9 m2 ⟨n8.here,n81⟩).same IK)
 ·intro σ H4 hJ;let⟨vt,fs,pp,a5,a6,a7,a8,rfl,s4,h1,h2,go,fp,zQ,pv,pf⟩:=ij _ _ _ hJ;rw[lx]at zQ pv pf;show ret s4 fp h1 h2 zQ pv pf
end
abbrev eZ:Stmt:=top 17
def mJ:bN ["graph","steps","tops","pile","v","a","b"] En (aG eZ):={}
inductive a6D where
 |ok
 |step (k:Nat)
 |pile
 |place (v:Nat)
 |tie (a b:Int)
noncomputable def K4(R:RS):List (ae):=R.pile.map λj=>R.aQ.getD j []
noncomputable def Bq(n:Nat)(ts:ar)(ss:ax)(R:RS):a6D :=
 if R.aQ.length<ss.length then .step R.aQ.length
 else if K4 R=[[]]then
  match(List.range n).find? λ(v:Nat)=>!decide (bZ.inn (v:Int)∈ss)with
  |some v=>.place v
  |none=>match ts.find? λt=>!decide (bZ.tie t.1 t.2∈ss)with
   |some t=>.tie t.1 t.2
   |none=>.ok
 else .pile
noncomputable def a6E(H:Hp)(v:V):a6D->Prop
 |.ok=>v=.non
 |.step k=>∃p,v=.ref p/\H p= ~~~[.str "step",.int (k:Int)]
 |.pile=>∃p,v=.ref p/\H p= ~~~[.str "pile"]
 |.place v'=>∃p,v=.ref p/\H p= ~~~[.str "place",.int (v':Int)]
 |.tie a b=>∃p,v=.ref p/\H p= ~~~[.str "tie",.int a,.int b]
noncomputable def IV(b:ae):PyData:=.list (b.map PyData.int)
def a1o(b:ae):(IV b).canLay0=true:=by
 let h:=shaped_ints b;unfold SeqAt.shaped at h;rw[fU]at h;show h.1
def ZD(b:ae):(IV b).depth<=1:=by
 unfold IV;rw[PyData.depth];let:=uR (k:=0) (f:=PyData.int) (λb=>by simp[PyData.depth]) b;omega
def Ew(bs:List (ae)):SeqAt.shaped (.list (bs.map IV))=true:=by
 unfold SeqAt.shaped;rw[PyData.canLay0,FT a1o,PyData.depth,GX];show aR (by let:=uR ZD bs;omega)
theorem Rr:∀xs ys:List (ae),PyData.eqvAll (xs.map IV) (ys.map IV)=decide (xs=ys)
 | [],[]=>by simp[PyData.eqvAll]
 | [],_::_=>by simp[PyData.eqvAll]
 |_::_,[]=>by simp[PyData.eqvAll]
 |x::xs,y::ys=>by
  rw[b8,b8,PyData.eqvAll,Rr xs ys,show PyData.eqv (IV x) (IV y)=decide (x=y)from Qp x y,rK]
  simp
def ŏ{K:aJ}{H:Hp}{v:V}{s:ae}(h:VP K H v s):Hw K H v (IV s):=by
 let⟨p,rfl,h⟩:=h;show .lst h (uO.ints _)
inductive Ő(K:aJ)(vs:af)(H:Hp)(Q:VK)(u_3:XK):Prop
 |mk (g:V) (n:Nat) (ts:ar) (a pt pp:Addr) (xs vt:af) (ss:ax) (R:RS) (_:vs=[g,.ref a,.ref pt,.ref pp]) (_:ur K H g n ts) (_:n<=10) (_:bB K H a xs) (_:Paired (uz K H) xs ss) (_:bB K H pt vt) (_:Paired (VP K H) vt R.aQ) (_:bB K H pp (yd R.pile)) (_:(∀j∈R.pile,j<R.aQ.length)) (_:R.pile.length<=1000) (_:∀r H',aL H H'->a6E H' r (Bq n ts ss R)->Q r H')
section
variable{K:aJ}
def Fi(B:Bl mg)(uZ:Dn K mg "fault_behind" eZ En):⋯ 1 uZ.f uZ.fd En (Ő K):=by
 show uZ.F.ok mJ λdX A outer s H vs Q E hr h=>?_;let⟨g,n,ts,a,pt,pp,xs,vt,ss,R,rfl,hG,dB,hA,pA,hV,pV,hPp,jl,a6F,q⟩:=h;let hu:(A.deeper (PyProof.Rows.envOfC "fault_behind" (aG eZ) s⁻¹ uZ.f dX)).units+64<cLine:=by let:=hr.un;omega
 let hv:(A.deeper (PyProof.Rows.envOfC "fault_behind" (aG eZ) s⁻¹ uZ.f dX)).units+65<cLine:=by let:=hr.un;omega
 let⟨pg,ta,rfl,hP,hT⟩:=id hG;let lx:=aW pA;let lv:=aW pV;show⟨_,(aD (cO (aM zZ (aV (bV (K:=K) Z) Z B.len () (O (pv 2) aj)) (aV (bV (K:=K) Z) Z B.len () (O (pv 1) aj)))
   (aF (bJ (bK (O gw (O (aV (bV (K:=K) Z) Z B.len () (O (pv 2) aj)) aj)))))
   bA)
   (aD (cO (aM (Xk (K:=K) Z hu) (j4 ["k","tops"] [none,some 2]  (by kernel_rfl) Z (eY (K:=K) Z (pv 3)) (λ_ _ _ _ _=>(aN 0 (show(["k","tops"]:ag).Nodup by decide))) (λ_ _ _ _ _=>gQ) λ_ _ _ _ _=>(aP (bx (K:=K) Z) (pv 1) (pv 0))) (cG (O (cG aj) aj)))
   (aF (bJ (bK (O gw aj))))
   bA)
   (aD (iz gK Z (jw Z B.range (O (aP (aO (K:=K) Z) (pv 0) aq) aj)) (aN 4 mJ.nd)
   (aF (cO (aM (iB (K:=K) Z hv) (bK (O gw (O (pv 4) aj))) (pv 1) (by with_unfolding_all rfl))
   (aF (bJ (bK (O gw (O (pv 4) aj)))))
   bA)))
   (aD (iz gK Z (eY (K:=K) Z (aP (aO (K:=K) Z) (pv 0) aq)) (jG (K:=K) (n:=2) Z Z (bT (aN 5 mJ.nd) (bT (aN 6 mJ.nd) iU)))
   (aF (cO (aM (iB (K:=K) Z hv) (bK (O gw (O (pv 5) (O (pv 6) aj)))) (pv 1) (by with_unfolding_all rfl))
   (aF (bJ (bK (O gw (O (pv 5) (O (pv 6) aj))))))
   bA)))
   (aF (bJ oU)))))),?_⟩
 show⟨_,Z,pt,_,Z,.inl hV,_,Z,a,_,Z,.inl hA,_,_,Z,Z,_,Z,?_⟩;rw[lv,lx];by_cases c1:R.aQ.length<ss.length
 ·rw[aR (show((R.aQ.length:Nat):Int)<((ss.length:Nat):Int) by omega)];show gP ⟨_,Z,pt,_,Z,.inl hV,(),λp1 H1 n1=>q _ H1 n1.same ?_⟩;unfold Bq;rw[aB c1];rw[lv]at n1;show⟨p1,Z,n1.here⟩
 ·rw[cC (show ¬((R.aQ.length:Nat):Int)<((ss.length:Nat):Int) by omega)];show cV ⟨_,Z,pp,Z,⟨_,hPp⟩,?_⟩;show Hx (λv=>match v with |.int z=>some (vt.getD z.toNat .non)|_=>none) hPp (by rw[aH];show a6F) (λv H8 N hv8 s8 hN=>?_) (λH8 p9 H9 s8 n9=>?_)
  ·let⟨j,hj,rfl⟩:=dM.mp hv8;let jv:j<vt.length:=by rw[lv];show jl j hj
   let hN':=hN H8 s8;dsimp only at hN';rw[iG]at hN';show⟨_,Z,_,Z,pt,_,_,_,Z,Z,s8.seq hV,cB (bC jv),?_⟩;rw[fB,bC jv]at hN';show hN'
  let e9:(yd R.pile).filterMap (λv=>match v with |.int z=>some (vt.getD z.toNat .non)|_=>none)=R.pile.map λj=>vt.getD j .non:=by
   unfold yd;rw[Ms];show(vN λj _=>?_);show some (vt.getD ((j:Int)).toNat V.non)=_;rw[iG]
  rw[e9]at n9;let s09:=s8.trans n9.same;let laid:∀l:ay,(∀j∈l,j<R.aQ.length)->Paired (VP K H9) (l.map λj=>vt.getD j .non) (l.map λj=>R.aQ.getD j []):=λl=>by
   induction l with
   |nil=>show λ_=>.nil
   |cons j r ih =>
    intro h;let jl:=h j bh;let⟨x,hx,p,e,hb⟩:=cP pV (bC jl);show .cons ?_ (ih λi hi=>h i (bM _ hi));lk;rw[fB,hx,fB,bC jl];show⟨p,e,s09.seq hb⟩
  show⟨(),λο Yg sV=>⟨(),λp11 H11 Bp=>?_⟩⟩;let ő:=sV.same.trans Bp.same;show⟨.list ((K4 R).map IV),.list ([[]].map IV),.lst (bB.of (ő _ _ n9.here)) (FQ (λ_ _ h=>ŏ h) (Paired.cD (laid R.pile jl) λ_ _ ⟨p,e,hb⟩=>⟨p,e,ő.seq hb⟩)),.lst (bB.of Bp.here) (.cons (.lst (bB.of (Bp.same _ _ sV.here)) .nil) .nil),Ew _,Ew [[]],_,Z,?_⟩;rw[aB Z,PyData.eqv,Rr];let υ:=s09.trans ő;by_cases c2:K4 R=[[]]
  ·rw[aR c2];show cV ?_;show⟨_,Z,pg,_,_,_,Z,Z,υ.vM hP,Z,_,Z,(),(),?_⟩;rw[iG];show rz (n:=n) (λi σ H'=>(∃vv:Option V,σ=[⇑pg,⇑a,⇑pt,⇑pp,vv,none,none])/\aL H H'/\∀j,j<i->bZ.inn (j:Int)∈ss) ⟨⟨none,Z⟩,υ,λj h=>absurd h (wQ _)⟩ ?_ ?_
   ·rintro i σ ς hi ⟨⟨vv,rfl⟩,s12,ok⟩;let ei:(0:Int)+(i:Int)=(i:Int):=()
    rw[ei];show⟨_,Z,(),λp13 H13 n13=>?_⟩;let sJ:=s12.trans n13.same;show⟨_,Z,xG (s:=.inn (i:Int)) (sJ.seq hA) (Paired.cD pA λ_ _ h=>uz.same sJ h) (cN.of n13.here) ⟨_,Z,?_⟩⟩;by_cases c3:bZ.inn (i:Int)∈ss
    ·rw[aR c3];show cV ⟨⟨_,Z⟩,sJ,λj hj=>?_⟩;by_cases e:j=i
     ·rw[e];show c3
     ·show ok j ()
    ·rw[cC c3];show gP ⟨_,Z,(),λp14 H14 n14=>q _ H14 (sJ.trans n14.same) ?_⟩;unfold Bq;let ef:(List.range n).find? (λ(v:Nat)=>!decide (bZ.inn (v:Int)∈ss))=some i:=ß.mpr ⟨by rw[cC c3];rfl,fX.mpr hi,λj hj=>by rw[aR (ok j hj)];rfl⟩;rw[aA c1,aB c2,ef];show⟨p14,Z,n14.here⟩
   ·rintro σ ς ⟨⟨vv,rfl⟩,s12,ok⟩;let ef:(List.range n).find? (λ(v:Nat)=>!decide (bZ.inn (v:Int)∈ss))=none:=Cw.mpr λj hj=>by rw[aR (ok j (fX.mp hj))];simp
    let⟨txs,htx,ptx,ltx⟩:=id (hT.same s12);let ltl:=aW ptx;show⟨_,Z,pg,_,_,_,Z,Z,s12.vM hP,Z,ta,Z,⟨_,htx⟩,wX (xs:=txs) (λi σ H'=>(∃va vb:Option V,σ=[⇑pg,⇑a,⇑pt,⇑pp,vv,va,vb])/\aL ς H'/\∀t∈ts.take i,bZ.tie t.1 t.2∈ss) ⟨⟨none,none,Z⟩,aL.refl _,λt h=>absurd h (by simp)⟩ (λi σ H' _ ⟨_,s,_⟩=>s.seq htx) ?_ ?_⟩
    ·rintro i x σ H13 hx ⟨⟨va,vb,rfl⟩,sJ,ok2⟩;let⟨t,ht,⟨px,rfl,hpx⟩⟩:=bI ptx hx;let⟨til,tix⟩:=eG.mp ht;let et:ts.take (i+1)=ts.take i++[t]:=by rw[yD til,tix]
     show⟨px,_,Z,sJ.vM hpx,Z,_,_,Z,_,_,Z,Z,?_⟩;show⟨_,Z,_,Z,(),λp14 H14 n14=>?_⟩;let ZF:=(s12.trans sJ).trans n14.same;show⟨_,Z,xG (s:=.tie t.1 t.2) (ZF.seq hA) (Paired.cD pA λ_ _ h=>uz.same ZF h) (cN.of n14.here) ⟨_,Z,?_⟩⟩;by_cases c3:bZ.tie t.1 t.2∈ss
     ·rw[aR c3];show cV ⟨⟨_,_,Z⟩,sJ.trans n14.same,λt' h'=>?_⟩;rw[et]at h';rcases cH.mp h' with h'|h'
      ·show ok2 t' h'
      ·rw[bG.mp h'];show c3
     ·rw[cC c3];show gP ⟨_,Z,_,Z,(),λp15 H15 n15=>q _ H15 (ZF.trans n15.same) ?_⟩;unfold Bq;let eg:ts.find? (λt=>!decide (bZ.tie t.1 t.2∈ss))=some t:=by
       rw[<-tW (i+1) ts,et,oM,List.find?_append,Cw.mpr (λt' h'=>by rw[aR (ok2 t' h')];simp)];rw[Option.none_or];show List.find? _ (t::_)=_;rw[List.find?_cons,cC c3];rfl
      rw[aA c1,aB c2,ef,eg];show⟨p15,Z,n15.here⟩
    ·rintro σ H13 ⟨⟨va,vb,rfl⟩,sJ,ok2⟩;rw[ltl,ig]at ok2;show q _ H13 (s12.trans sJ) ?_;unfold Bq;let eg:ts.find? (λt=>!decide (bZ.tie t.1 t.2∈ss))=none:=Cw.mpr λt h=>by rw[aR (ok2 t h)];simp
     rw[aA c1,aB c2,ef,eg];show rfl
  ·rw[cC c2];show gP ⟨(),λp12 ς n12=>q _ ς (υ.trans n12.same) ?_⟩;unfold Bq;rw[aA c1,aA c2];show⟨p12,Z,n12.here⟩
def a1p{n:Nat}{ts:ar}{ss:ax}(dB:n<=10):∃i,i<=ss.length/\a1k i (cA n ts ss)/\(i=ss.length\/i<ss.length):=by
 let h:∀m,m<=ss.length->∃i,i<=m/\a1k i (aU n ts ss m).1:=λm=>by
  induction m with
  |zero=>show λ_=>⟨0,aK _,jo dB Z⟩
  |succ m ih =>
   intro hm;by_cases c:(aU n ts ss (m+1)).2=true
   ·show⟨m+1,aK _,jo dB c⟩
   ·let⟨i,hi,I⟩:=ih ();show⟨i,(),?_⟩;let e:(aU n ts ss (m+1)).1=(aU n ts ss m).1:=by
     let e:aU n ts ss (m+1)=if(aU n ts ss m).2=true then
      (match oG n ts ss m (aU n ts ss m).1 with
      |some r=>(r,true)
      |none=>((aU n ts ss m).1,false))
     else((aU n ts ss m).1,false):=rfl
     rw[e]at c ⊢;by_cases d:(aU n ts ss m).2=true
     ·rw[aB d]at c ⊢;cases z:oG n ts ss m (aU n ts ss m).1 with
      |none=>rfl
      |some r=>rw[z]at c;show absurd Z c
     ·rw[aA d]
    rw[e];show I
 let⟨i,hi,I⟩:=h ss.length (aK _);show⟨i,hi,I,()⟩
end
structure χ(mg:Str->Option Value) where
 pC:Value
 u6:mg "BEYOND_WEIGHTS" = some pC
 u9:cX (.int 1000000000000000000000000000000) pC
 qK:Value
 wu:mg "MOST_IN_A_BAG" = some qK
 wz:cX (.int 4) qK
def a4t{K:aJ}{h:Heap}{Dv:Tok}{Fj:Tok}(X:K.In h)(G:h.Ns mainGlobals mg)(Dw:nsIn K mainGlobals "BEYOND_WEIGHTS" = some (some (Value.int 1000000000000000000000000000000 Dv)))(Fl:nsIn K mainGlobals "MOST_IN_A_BAG" = some (some (Value.int 4 Fj))):Nonempty (χ mg) :=
 ⟨{ pC:=_,u6:=Nm X G Dw,u9:=⟨_,Z⟩,qK:=_,wu:=Nm X G Fl,wz:=⟨_,Z⟩}⟩
abbrev lW:Stmt:=inClass (top 37) 0
def xH:bN XH XH (aG lW):={}
abbrev iY:Stmt:=inClass (top 37) 1
def wD:bN xq xq (aG iY):={}
abbrev pG:Stmt:=inClass (top 40) 0
def Br:bN XJ XJ (aG pG):={}
abbrev nO:Stmt:=inClass (top 40) 1
def Fo:bN Ky Ky (aG nO):={}
abbrev nP:Stmt:=inClass (top 40) 2
def fj:bN ["self","one","other","low","high","numbers","firsts","spot","piece","first"] xq (aG nP):={}
abbrev j8:Stmt:=inClass (top 40) 3
def qL:bN ["self","state","spot","v","told","numbers"] yu (aG j8):={}
abbrev nQ:Stmt:=inClass (top 40) 4
def uE:bN ["self","state","one","other","tie","numbers","told"] Q5 (aG nQ):={}
abbrev jT:Stmt:=inClass (top 40) 5
def mW:bN ["self","state","spot","v","number","left"] yu (aG jT):={}
structure vU(K:aJ)(mg:Str->Option Value) where
 C:Addr
 cl:Cls K C
 m:mg "Question" =⇑C
 fM:Dm K C "__init__" "Question.__init__" lW XH
 Ey:a6c K C "__init__" fM.f
 mkd:Mk K C fM.f
set_option genInjectivity false in
structure Bs(K:aJ)(mg:Str->Option Value) where
 C:Addr
 cl:Cls K C
 m:mg "Links" =⇑C
 pN:jz K C "graph"
 uw:jz K C "leaf"
 qR:jz K C "whole"
 IW:jz K C "told"
 Bt:jz K C "costs"
 fM:DmD K C "__init__" "Links.__init__" pG XJ
 tH:Dm K C "is_better" "Question.is_better" iY xq
 Bu:Dm K C "shared" "Links.shared" nO Ky
 Bv:Dm K C "joined" "Links.joined" nP xq
 Bw:Dm K C "put_in" "Links.put_in" j8 yu
 Ov:Dm K C "tied" "Links.tied" nQ Q5
 tK:Dm K C "taken_out" "Links.taken_out" jT yu
 mkd:Mk K C fM.f
abbrev j9:Stmt:=top 18
def qU:bN ["graph","steps","tops","feeds","pile"] lY (aG j9):={}
abbrev uF:Stmt:=top 19
def Ja:bN ["bags"] ["bags"] (aG uF):={}
inductive a4u(K:aJ)(vs:af)(H:Hp)(Q:VK)(u_3:XK):Prop
 |mk (g:V) (n:Nat) (ts:ar) (a:Addr) (xs:af) (ss:ax) (_:vs=[g,.ref a]) (_:ur K H g n ts) (_:n<=10) (_:bB K H a xs) (_:Paired (uz K H) xs ss) (_:ss.length<=900) (_:Bq n ts ss (cA n ts ss)=.ok) (_:∀r pt pf vt fs H',aL H H'->H' r= ~~~[.ref pt,.ref pf]->H pt=none->H pf=none->H' pt=↥vt->H' pf=↥(fs.map V.ref)->Paired (wB [pt,pf] K H') vt (cA n ts ss).aQ->Paired (zq [pt,pf] H') fs (cA n ts ss).dH->Q (.ref r) H')
def xX{n:Nat}{ts:ar}{ss:ax}(dB:n<=10)(h:Bq n ts ss (cA n ts ss)=.ok):a1k ss.length (cA n ts ss):=by
 let⟨i,il,I,_⟩:=a1p (n:=n) (ts:=ts) (ss:=ss) dB;let e:¬(cA n ts ss).aQ.length<ss.length:=λc=>by
  unfold Bq at h;rw[aB c]at h;cases h
 rw[I.tl]at e;let:i=ss.length:=()
 show this▸I
def Rt(n:Nat)(ts:ar)(ss:ax)(m:Nat):aU n ts ss (m+1)=if(aU n ts ss m).2=true then
   (match oG n ts ss m (aU n ts ss m).1 with
   |some r=>(r,true)
   |none=>((aU n ts ss m).1,false))
  else((aU n ts ss m).1,false):=rfl
theorem K5{n:Nat}{ts:ar}{ss:ax}(dB:n<=10):∀m,(aU n ts ss m).2=false->(aU n ts ss m).1.aQ.length<m
 |0,h=>by cases h
 |m+1,h=>by
  rw[Rt]at h ⊢
  by_cases c:(aU n ts ss m).2=true
  ·rw[aB c]at h ⊢
   let I:=jo dB c
   cases d:oG n ts ss m (aU n ts ss m).1 with
   |none=>show(aU n ts ss m).1.aQ.length<m+1;rw[I.tl];omega
   |some r=>grind
  ·rw[aA c]
   let:=K5 dB m (yK.mpr c)
   grind
def Œ{n:Nat}{ts:ar}{ss:ax}(dB:n<=10)(h:Bq n ts ss (cA n ts ss)=.ok):∀i,i<=ss.length->(aU n ts ss i).2=true:=by
 let e:¬(cA n ts ss).aQ.length<ss.length:=λc=>by
  unfold Bq at h;grind
 intro i il;cases c:(aU n ts ss i).2 with
 |true=>rfl
 |false =>
  let e2:=Iw c ss.length il;let:=K5 dB i c;unfold cA at e;grind
section
variable{K:aJ}
def Ow(B:Bl mg)(U:Used w K mg)(lF:Du K mg)(jM:Dn K mg "is_below" fK rU)(ou:Dn K mg "joint" nJ jL)(mV:Dn K mg "less" qJ jL)(sU:Dn K mg "bag_behind" fL Bd)(wC:Dn K mg "run" Eu lY)(uZ:Dn K mg "fault_behind" eZ En)(ye:Dn K mg "run_whole" j9 lY):⋯ 5 ye.f ye.fd lY (a4u K):=by
 let a8e:⋯ 4 _ _ _ _:=a4s B U lF jM ou mV sU wC;let a8f:⋯ 4 _ _ _ _:=(Fi B uZ).mono ();show ye.F.ok qU λdX A outer s H vs Q E hr h=>?_;let⟨g,n,ts,a,xs,ss,rfl,hG,dB,hA,pA,a6z,Ł,q⟩:=h;show⟨_,(aD (vI (aY a8e hr Z wC.m wC.F.kp wC.b .nil bW (O (pv 0) (O (pv 1) aj))) (jG (K:=K) (n:=3) Z Z (bT (aN 2 qU.nd) (bT (aN 3 qU.nd) (bT (aN 4 qU.nd) iU)))))
   (aD (cO (aM Xc (aY a8f hr Z uZ.m uZ.F.kp uZ.b .nil bW (O (pv 0) (O (pv 1) (O (pv 2) (O (pv 4) aj))))) oU)
   (aF zX)
   bA)
   (aF (bJ (bK (O (pv 2) (O (pv 3) aj))))))),?_⟩
 let I:=xX dB Ł;let pl:=I.pl;show⟨_,Z,_,Z,g,n,ts,a,xs,ss,Z,hG,dB,hA,pA,a6z,λr pt pf pp vt fs H1 s1 hr1 ft ff fp ht hf hp pv pf'=>⟨r,_,Z,cN.of hr1,Z,_,_,Z,_,_,Z,_,_,Z,Z,?_⟩⟩;show⟨_,Z,_,Z,_,Z,_,Z,g,n,ts,a,pt,pp,xs,vt,ss,cA n ts ss,Z,hG.same s1,dB,s1.seq hA,Paired.cD pA λ_ _ h=>h.same s1,bB.of ht,Paired.cD pv λ_ _ h=>h.l,bB.of hp.1,(λj hj=>by rw[I.tl];show I.lt j hj),(),λv H2 s2 fv=>?_⟩;rw[Ł]at fv;obtain rfl:v=.non:=fv;show⟨Z,_,Z,cV ?_⟩;show⟨_,Z,_,Z,(),λp3 H3 n3=>?_⟩;let sJ:=s2.trans n3.same;show q p3 pt pf vt fs H3 (s1.trans sJ) n3.here ft ff (sJ _ _ ht) (sJ _ _ hf) (Paired.cD pv λ_ _ h=>h.same sJ) (Paired.cD pf' λ_ _ h=>h.same sJ)
end
inductive a4v(K:aJ)(vs:af)(H:Hp)(Q:VK)(u_3:XK):Prop
 |mk (a:Addr) (xs:af) (rs:List zP) (_:vs=[.ref a]) (_:bB K H a xs) (_:Paired (λv r=>∃q,v=.ref q/\bB K H q (r.2.map V.int)) xs rs) (_:rs.length<=900) (_:(∀r∈rs,r.2.length<=4)) (_:∀H',aL H H'->Q .non H')
section
variable{K:aJ}
abbrev œ(K:PySem.W.Frag)(mg:Str->Option Value):=Dn K mg "refuse_wide" uF ["bags"]
def Jb(B:Bl mg)(Ct:χ mg)(yg:œ K mg):⋯ 1 yg.f yg.fd ["bags"] (a4v K):=by
 show yg.F.ok Ja λdX A outer s H vs Q E hr h=>?_;let⟨a,xs,rs,rfl,hx,hp,l9,h4,q⟩:=h;let lx:=aW hp;show⟨_,(aF (cO (dh (K:=K) Z (aV (YT (K:=K) Z Z) Z B.any () (O (j4 ["bag"] [none]  (by kernel_rfl) Z (eY (K:=K) Z (pv 0)) (λ_ _ _ _ _=>(aN 0 (show(["bag"]:ag).Nodup by decide))) (λ_ _ _ _ _=>gQ) λ_ _ _ _ _=>(xR sY (aV (bV (K:=K) Z) Z B.len () (O (pv 0) aj)) (W4 (v:=.int 4) Z Ct.wu Ct.wz))) aj)) λ_=>rfl)
   (aF zX)
   bA)),?_⟩
 show⟨_,Z,a,Z,⟨_,hx⟩,ć (λj=>some (.bl false)) hx () (λj x H3 N hj s3 hN=>?_) λH3 p H4 s3 nw=>?_⟩
 ·let⟨r,hr1,⟨b,rfl,hb⟩⟩:=bI hp hj;show⟨_,Z,b,_,Z,.inl (s3.seq hb),_,_,Z,Z,?_⟩;grind
 let e1:(List.range xs.length).filterMap (λj=>some (V.bl false))=((List.range rs.length).map λ_=>false).map V.bl:=by
  rw[lx,lR];show vN λ_ _=>rfl
 rw[e1]at nw;show⟨p,_,_,Z,bB.of nw.here,jc.bls _,_,Z,?_⟩;let e2:((List.range rs.length).map λ_=>false).any id=false:=by
  rw[Ud];intro x hx;let⟨_,_,rfl⟩:=dM.mp hx;simp
 rw[e2];show cV (q H4 (s3.trans nw.same))
end
abbrev xK:Stmt:=top 21
def Dz:bN Ie Kz (aG xK):={}
abbrev jU:Stmt:=top 22
def zu:bN ["table"] ["table"] (aG jU):={}
abbrev lG:Stmt:=top 23
def uG:bN ["graph","steps","tops","feeds"] lY (aG lG):={}
def a1q{K:aJ}{H:Hp}{vs:af}{bs:List (ae)}(h:Paired (wB ex K H) vs bs):Paired (λv (r:zP)=>∃q,v=.ref q/\bB K H q (r.2.map V.int)) vs (bs.map λb=>(none,b)):=by
 induction h with
 |nil=>show .nil
 |cons h _ ih =>
  let⟨q,e,h,_⟩:=h;show .cons ⟨q,e,h⟩ ih
inductive a6G(K:aJ)(vs:af)(H:Hp)(Q:VK)(u_3:XK):Prop
 |mk (g:V) (n:Nat) (ts:ar) (a:Addr) (xs:af) (ss:ax) (_:vs=[g,.ref a]) (_:ur K H g n ts) (_:n<=10) (_:bB K H a xs) (_:Paired (uz K H) xs ss) (_:ss.length<=800) (_:Bq n ts ss (cA n ts ss)=.ok) (_:(∀b∈(cA n ts ss).aQ,b.length<=4)) (_:∀r pt pf vt fs H',aL H H'->H' r= ~~~[.ref pt,.ref pf]->H' pt=↥vt->H' pf=↥(fs.map V.ref)->Paired (wB [pt,pf] K H') vt (cA n ts ss).aQ->Paired (zq [pt,pf] H') fs (cA n ts ss).dH->Q (.ref r) H')
def a1r(H:Hp)(v:V)(r:gC):Prop:=∃p,v=.ref p/\H p= ~~~[.int r.m,.int r.b]
def yh(H:Hp):List (aS×V)->cu->Prop:=Paired λkv tr=>kv.1=sI tr.1/\a1r H kv.2 tr.2
inductive Wh(H:Hp)(v:V)(T:cu):Prop
 |mk (p J:_) (_:v=.ref p) (_:H p=some (.dT J)) (_:yh H J T)
def a1r.keep{H H':Hp}{v:V}{r:gC}(k:lZ H H')(h:a1r H v r):a1r H' v r:=by
 let⟨p,e,h⟩:=h;show⟨p,e,k _ _ h⟩
def Wh.keep{H H':Hp}{v:V}{T:cu}(s:aL H H')(h:Wh H v T):Wh H' v T:=by
 let⟨p,J,e,h1,h2⟩:=h;show⟨p,J,e,s _ _ h1,Paired.cD h2 λ_ _ z=>⟨z.1,z.2.keep (.of s)⟩⟩
inductive ZG(vs:af)(H:Hp)(Q:VK)(u_3:XK):Prop
 |mk (t:Addr) (J:List (aS×V)) (T:cu) (_:vs=[.ref t]) (_:H t=some (.dT J)) (_:oZ H J T) (_:T.length<=900) (_:(T.map (·.1)).Nodup) (_:∀p kvs' H',aL H H'->H' p=some (.dT kvs')->yh H' kvs' T->Q (.ref p) H')
section
variable{K:aJ}{κ:Type} [DecidableEq κ]
def JX(B:Bl mg)(Ct:χ mg)(U:Used w K mg)(lF:Du K mg)(jM:Dn K mg "is_below" fK rU)(ou:Dn K mg "joint" nJ jL)(mV:Dn K mg "less" qJ jL)(sU:Dn K mg "bag_behind" fL Bd)(wC:Dn K mg "run" Eu lY)(uZ:Dn K mg "fault_behind" eZ En)(ye:Dn K mg "run_whole" j9 lY)(yg:œ K mg)(Bx:Dn K mg "run_narrow" lG lY):⋯ 6 Bx.f Bx.fd lY (a6G K):=by
 let a8g:⋯ 5 _ _ _ _:=Ow B U lF jM ou mV sU wC uZ ye;let a8h:⋯ 5 _ _ _ _:=(Jb B Ct yg).mono ();show Bx.F.ok uG λdX A outer s H vs Q E hr h=>?_;let⟨g,n,ts,a,xs,ss,rfl,hg,dB,hA,pA,l8,sO,b4,q⟩:=h;show⟨_,(aD (vI (aY a8g hr Z ye.m ye.F.kp ye.b .nil bW (O (pv 0) (O (pv 1) aj))) (jG (K:=K) (n:=2) Z Z (bT (aN 2 uG.nd) (bT (aN 3 uG.nd) iU))))
   (aD (dZ (aY a8h hr Z yg.m yg.F.kp yg.b .nil bW (O (pv 2) aj)))
   (aF (bJ (bK (O (pv 2) (O (pv 3) aj))))))),?_⟩
 show⟨_,Z,_,Z,g,n,ts,a,xs,ss,Z,hg,dB,hA,pA,(),sO,λr pt pf vt fs H1 s1 hr1 fpt fpf hpt hpf pT pF=>?_⟩;show⟨r,_,Z,cN.of hr1,Z,_,_,Z,_,_,Z,Z,?_⟩;let lT:(cA n ts ss).aQ.length<=900:=by
  let:=(xX dB sO).tl;omega
 show⟨_,Z,pt,vt,(cA n ts ss).aQ.map (λb=>(none,b)),Z,bB.of hpt,a1q pT,by rw[aH];show lT,?_,λH2 s2=>?_⟩
 ·intro r' hr';let⟨b,hb,rfl⟩:=dM.mp hr';show b4 b hb
 ·show⟨_,Z,_,Z,(),λp3 H3 n3=>?_⟩;let s23:=s2.trans n3.same;show q p3 pt pf vt fs H3 (s1.trans s23) n3.here (s23 _ _ hpt) (s23 _ _ hpf) (Paired.cD pT λ_ _ ⟨p,e,h,ne⟩=>⟨p,e,s23.seq h,ne⟩) (Paired.cD pF λ_ _ ⟨h,ne⟩=>⟨s23 _ _ h,ne⟩)
abbrev a1s(K:PySem.W.Frag)(mg:Str->Option Value):=Dn K mg "without_sources" jU ["table"]
def zx(B:Bl mg)(zy:a1s K mg):⋯ 1 zy.f zy.fd ["table"] ZG:=by
 show zy.F.ok zu λdX A outer s H vs Q E hr h=>?_;let⟨t,J,T,rfl,ht,hT,lT,nd,q⟩:=h;let hw2:(A.deeper (PyProof.Rows.envOfC "without_sources" (aG jU) s⁻¹ zy.f dX)).units+2<cLine:=by let:=hr.un;omega
 show⟨_,(aF (bJ (gV (V0 (K:=K) Z Z hw2) Z B.dict () (O (Ī (j4 ["state","row"] [none,none]  (by kernel_rfl) Z (uU (qQ (K:=K) Z tU Gw Gx uT (pv 0))) (λ_ _ _ _ _=>(jG (K:=K) (n:=2) Z Z (bT (aN 0 (show(["state","row"]:ag).Nodup by decide)) (bT (aN 1 (show(["state","row"]:ag).Nodup by decide)) iU)))) (λ_ _ _ _ _=>gQ) λ_ _ _ _ _=>(bK (O (pv 0) (O (bK (O (aP (aO (K:=K) Z) (pv 1) aq) (O (aP (aO (K:=K) Z) (pv 1) aq) aj))) aj))))) aj)))),⟨_,Z,.inr (.inr (.inl ⟨Z,.inr ⟨_,ht⟩⟩)),t,J,Z,Z,ht,λpv H1 n1=>⟨pv,t,J,Z,n1.here,n1.same _ _ ht,λo as pk=>?_⟩⟩⟩;let h1t:=n1.same _ _ ht;let Wa:Nd H (cY H1 t (.iK o (.dT J))):=(Nd.of n1.same).trans (Nd.iK h1t);let Sw:cY H1 t (.iK o (.dT J)) t=some (.iK o (.dT J)):=dN;let Yb:∀c,c≠t->cY H1 t (.iK o (.dT J)) c=H1 c:=λc hc=>aZ hc;generalize cY H1 t (.iK o (.dT J))=G0 at pk Wa Sw Yb ⊢;let lk:=aW hT;let la:=aW pk;show Zm (λi ys G=>aL G0 G/\∃kw,Paired (PrL G) ys kw/\yh G kw (T.take i)) ⟨aL.refl _,[],.nil,.nil⟩ (λi ys G hi ⟨sG,kw,p1,p2⟩=>⟨sG _ _ Sw,?_⟩) (λi ys G a0 v0 p G1 ha0 hv0 ⟨sG,kw,p1,p2⟩ nw=>?_) (λys G pl ⟨sG,kw,p1,p2⟩ hpl=>?_)
 ·rw[aW p1,aW p2,eN];omega
 ·let⟨kv,hkv,hak⟩:=bI pk ha0;let⟨⟨st,row⟩,hsx,ek,hrow⟩:=bI hT hkv;let ek:kv.1=sI st:=ek;let hv0':v0=kv.2:=by
   rw[cI,hkv]at hv0;show(dD hv0).symm
  subst hv0';rw[ek]at hak;let Wg:=sG.trans nw.same;let⟨pr,qr,asr,Wc,hpr,_⟩:=hrow.keep (Wa.tups.trans (.of Wg));show⟨p,_,Z,cN.of nw.here,Z,_,_,Z,_,_,Z,Z,?_⟩;rw[Wc];show⟨_,Z,_,Z,pr,_,_,.int row.m,Z,Z,cN.of hpr,Z,_,Z,pr,_,_,.int row.b,Z,Z,cN.of hpr,Z,(),λq1 G2 m2=>⟨(),λq2 G3 m3=>?_⟩⟩;let sJ:=nw.same.trans (m2.same.trans m3.same);show⟨sG.trans sJ,kw++[(sI st,.ref q1)],d7 (Paired.cD p1 λ_ _ ⟨pp,kp,e,h1,h2⟩=>⟨pp,kp,e,sJ _ _ h1,sJ _ _ h2⟩) ⟨q2,a0,Z,m3.here,(sG.trans sJ) _ _ hak⟩,?_⟩;rw[jr,hsx];show d7 (Paired.cD p2 λ_ _ z=>⟨z.1,z.2.keep (.of sJ)⟩) ⟨Z,q1,Z,m3.same _ _ m2.here⟩
 ·let n2:=iD.oh (o:=.lst ys) hpl;generalize cY G pl (.lst ys)=G2 at n2 ⊢;let g2t:=n2.same _ _ (sG _ _ Sw);rw[show T.take as.length=T by grind]at p2;let tu:lZ G (cY G2 t (.dT J)):=λc zs e=>Nd.Oo g2t _ _ (n2.same _ _ e);let sF:aL H (cY G2 t (.dT J)):=λc u e=>by
   by_cases z:c=t
   ·rw[z]at e ⊢;rw[dN,<-e,ht]
   ·rw[aZ z];show(sG.trans n2.same) c u ?_;rw[Yb c z];show n1.same _ _ e
  let npl:pl≠t:=λz=>by let:=n2.here;grind
  show⟨t,o,J,J,ht,g2t,?_⟩;show⟨pl,ys,kw,Z,by rw[aZ npl];show n2.here,Paired.cD p1 λ_ _ ⟨pp,kp,e,h1,h2⟩=>⟨pp,kp,e,tu _ _ h1,tu _ _ h2⟩,?_,λpd H5 n5=>?_⟩
  ·let go:∀{kw:List (aS×V)}{T:cu},yh G kw T->kw.map (·.1)=T.map λx=>sI x.1:=λ{kw T} h=>by
    induction h with
    |nil=>rfl
    |cons a _ ih=>grind
   rw[go p2];let e2:(T.map λx=>sI x.1)=(T.map (·.1)).map sI:=by rw[lR];rfl
   rw[e2];show wL.mpr (nd.imp λ{a b} ne e=>ne (Ge e))
  ·show q pd kw H5 (sF.trans n5.same) n5.here (Paired.cD p2 λ_ _ z=>⟨z.1,z.2.keep (tu.trans (.of n5.same))⟩)
inductive Ŕ(Qn:JN P w K mg base κ)(vs:af)(H:Hp)(Q:VK)(u_3:XK):Prop
 |mk (d a:Addr) (xs:af) (ss:ax) (_:vs=[.ref a,.ref d]) (_:Qn.At H d) (_:Qn.n<=10) (_:bB K H a xs) (_:Paired (uz K H) xs ss) (_:ss.length<=800) (_:Bq Qn.n Qn.ts ss (cA Qn.n Qn.ts ss)=.ok) (_:(∀b∈(cA Qn.n Qn.ts ss).aQ,b.length<=4)) (_:(∀k,k<ss.length->yZ Qn (cA Qn.n Qn.ts ss).aQ (JV Qn.pq ss (cA Qn.n Qn.ts ss).aQ (cA Qn.n Qn.ts ss).dH k) (ss.getD k .leaf) ((cA Qn.n Qn.ts ss).aQ.getD k []) ((cA Qn.n Qn.ts ss).dH.getD k []))) (_:(∀T∈JV Qn.pq ss (cA Qn.n Qn.ts ss).aQ (cA Qn.n Qn.ts ss).dH ss.length,T.length<=900/\(T.map (·.1)).Nodup)) (_:∀pl ys H',aL H H'->H' pl=↥ys->Paired (Wh H') ys (JV Qn.pq ss (cA Qn.n Qn.ts ss).aQ (cA Qn.n Qn.ts ss).dH ss.length)->Q (.ref pl) H')
def ZJ(B:Bl mg)(Bz:mg "zip" = none)(Ct:χ mg)(U:Used w K mg)(Qn:JN P w K mg base κ)(lF:Du K mg)(jM:Dn K mg "is_below" fK rU)(ou:Dn K mg "joint" nJ jL)(mV:Dn K mg "less" qJ jL)(sU:Dn K mg "bag_behind" fL Bd)(wC:Dn K mg "run" Eu lY)(uZ:Dn K mg "fault_behind" eZ En)(ye:Dn K mg "run_whole" j9 lY)(yg:œ K mg)(Bx:Dn K mg "run_narrow" lG lY)(wA:Dn K mg "states_behind" fP Em)(qH:Dn K mg "note" uy Bc)(yc:Dn K mg "fill_along" jJ Ia)(xr:Dn K mg "fill_joined" gU Ib)(zf:Dn K mg "going_up" mU Ie)(zy:a1s K mg)(BJ:Dn K mg "tables" xK Kz):⋯ 12 BJ.f BJ.fd Kz (Ŕ Qn):=by
 let a8i:⋯ 11 _ _ _ _:=(JX B Ct U lF jM ou mV sU wC uZ ye yg Bx).mono ();let a8j:⋯ 11 _ _ _ _:=Rh B Bz Qn ou wA qH yc xr zf;let a8k:⋯ 11 _ _ _ _:=(zx B zy).mono ();show BJ.F.ok Dz λdX A outer s H vs Q E hr h=>?_;let⟨d,a,xs,ss,rfl,hD,dB,hA,pA,l8,sO,b4,ok,sm,q⟩:=h;show⟨_,(aD (vI (aY a8i hr Z Bx.m Bx.F.kp Bx.b .nil bW (O (Gd (K:=K) Z (pv 1) Z) (O (pv 0) aj))) (jG (K:=K) (n:=2) Z Z (bT (aN 2 Dz.nd) (bT (aN 3 Dz.nd) iU))))
   (aF (bJ (j4 ["table"] [none]  (by kernel_rfl) Z (eY (K:=K) Z (aY a8j hr Z zf.m zf.F.kp zf.b .nil bW (O (pv 0) (O (pv 1) (O (pv 2) (O (pv 3) aj)))))) (λ_ _ _ _ _=>(aN 0 (show(["table"]:ag).Nodup by grind) Z (Or.inl Z))) (λ_ _ _ _ _=>gQ) λ_ _ _ _ _=>(aY a8k hr Z zy.m zy.F.kp zy.b .nil bW (O (pv 0) aj)))))),?_⟩
 let⟨dx,fs,hd,_,_,_,g,hgl,hg⟩:=Qn.ins hD;let RI:=xX dB sO;show⟨_,Z,d,_,dx,fs,_,Z,hd,Qn.cl,Qn.pN,hgl,_,Z,⟨g,Qn.n,Qn.ts,a,xs,ss,Z,hg,dB,hA,pA,l8,sO,b4,λr pt pf vt fs' H1 s1 hr1 hpt hpf pT pF=>⟨r,_,Z,cN.of hr1,Z,_,_,Z,_,_,Z,Z,⟨_,Z,_,Z,_,Z,_,Z,?_⟩⟩⟩⟩;show⟨d,a,pt,pf,xs,vt,fs',ss,(cA Qn.n Qn.ts ss).aQ,(cA Qn.n Qn.ts ss).dH,Z,(Nd.of s1).at Qn hD,s1.seq hA,Paired.cD pA λ_ _ h=>h.same s1,bB.of hpt,Paired.cD pT λ_ _ ⟨p,e,h,_⟩=>⟨p,e,h⟩,bB.of hpf,Paired.cD pF λ_ _ ⟨h,_⟩=>h,(),RI.tl,RI.fl,λb hb=>(RI.sm b hb).1,ok,λpl ps H2 s2 fpl hpl pP nd fr=>⟨pl,Z,⟨_,bB.of hpl⟩,?_⟩⟩;let lg:=mH Qn.pq ss (cA Qn.n Qn.ts ss).aQ (cA Qn.n Qn.ts ss).dH ss.length;let lp:=aW pP;show qP (K:=K) (a:=pl) (xs:=ps.map V.ref) (λi ys G=>aL H2 G/\Paired (Wh G) ys ((JV Qn.pq ss (cA Qn.n Qn.ts ss).aQ (cA Qn.n Qn.ts ss).dH ss.length).take i)) ⟨aL.refl _,.nil⟩ (λi ys G hi ⟨sG,p⟩=>⟨bB.of (sG _ _ hpl),?_⟩) (λi x ys G hx ⟨sG,p⟩=>?_) (λys G ⟨sG,p⟩ pr hpr=>?_)
 ·rw[aW p,eN];show fD (cZ ())
 ·rw[cI]at hx;let⟨p0,hp0,rfl⟩:=lN.mp hx;let⟨T,hT,kv,h1,h2⟩:=bI pP hp0;let⟨sl,sn⟩:=sm T (gZ hT);show⟨_,Z,p0,kv,T,Z,sG _ _ h1,h2.keep (.of sG),sl,sn,λp' kv' G1 s' h1' h2'=>⟨sG.trans s',?_⟩⟩;rw[jr,hT];show d7 (Paired.cD p λ_ _ h=>h.keep s') ⟨p',kv',Z,h1',h2'⟩
 ·let n3:=iD.oh (o:=.lst ys) hpr;rw[show(ps.map V.ref).length=ss.length by grind,show(JV Qn.pq ss (cA Qn.n Qn.ts ss).aQ (cA Qn.n Qn.ts ss).dH ss.length).take ss.length=JV Qn.pq ss (cA Qn.n Qn.ts ss).aQ (cA Qn.n Qn.ts ss).dH ss.length from wJ (Nt lg)]at p;show q pr ys _ (s1.trans (s2.trans (sG.trans n3.same))) n3.here (Paired.cD p λ_ _ h=>h.keep n3.same)
end
end K
namespace L2
open PyProof.Rows Bg Qu
section
variable{X:Cx}{K:aJ}
inductive a4w(K:aJ)(x:V)(y:V)(H:Hp)(Q:VK):Prop
 |mk (a b xs ys:_) (_:x=.ref a) (_:y=.ref b) (_:cN K H a xs) (_:cN K H b ys) (_:xs≠[]) (_:ys≠[]) (_:xs.length+ys.length<=1000) (_:∀p H',iD H p (.tup (xs++ys)) H'->Q (.ref p) H')
def ŕ(e:X.K=K):rA X (binaryOp .Add) (a4w K):=by
 subst e;show Xg.weak λx y H Q ⟨a,b,xs,ys,e1,e2,h1,h2,n1,n2,z,q⟩=>⟨a,b,xs,ys,e1,e2,h1,h2,n1,fD (cZ z),λe=>absurd e n2,λ_ p hp=>q p _ (iD.oh hp)⟩
end
end L2
namespace HT
open PyProof.Rows Bg
section
variable{prog:Program}{w:World}{A:Around}{E:∅}{s:Shared}
def a1t{t b:Addr}{vs ws:aw}{Q:∅}(ht:IsTup s.heap t vs.toArray)(hb:IsTup s.heap b ws.toArray)(hv:vs=[])(h1:Q (.ref b) s):∎ (binaryOp .Add (.ref t) (.ref b)) Q E s:=by
 let⟨⟨cls,dd,data,sl⟩,ho,hc,n,hd⟩:=id ht;let⟨⟨cls2,dd2,data2,sl2⟩,ho2,hc2,n2,hd2⟩:=id hb;simp only at hc hd hc2 hd2;subst hc hd hc2 hd2;show Nu ⟨_,ho,Z⟩ ⟨_,ho2,Z⟩ MJ Nk Mg LR (LK _ _)
   (tuple_addW0 t b vs.toArray ws.toArray n n2 dd dd2 sl sl2 (by simp[hv])) ⟨ho,ho2,h1⟩
def yj{t sl:Addr}{items:Array Value}{vl vu:Value}{lo hi:Option Int}{Q:∅}(ht:IsTup s.heap t items)(hs:s.heap.IsSliceOf sl vl vu .none)(pl:IsPart vl lo)(pu:IsPart vu hi)
  (hw:jZ items.size 0 lo=0/\jZ items.size items.size hi=items.size) (h:Q (.ref t) s):∎ (getItem (.ref t) (.ref sl)) Q E s:=by
 let⟨os,hos,hcs,hds⟩:=id hs;let hTs:s.TypeIs (.ref sl) "slice" :=⟨os,hos,hcs⟩;unfold getItem;try with_reducible show dY ?_
 first|refine M (ao ?_)|skip
 show M (wpAny_sequenceKey ht.typeIs () ?_);show M (m9 (name:=Str.ofString "__getitem__") ht.typeIs Lr
  (gD Lr ht.typeIs entry_tuple_getitem ?_ (args_tuple_getitem _ _)))
 show wpAny _ _ (Builtin.Tuple.tupleItemsOf (.ref t) >>= _) _ _ s;show M (tupleItemsOf_ ht (M (rN hTs ?_)));rw[aB ()];show M (uN hs pl pu ?_);show wpAny _ _ (if(((jZ items.size 0 lo:Nat):Int)==0&&(1:Int)==1&&(jZ items.size items.size hi-jZ items.size 0 lo)==items.size)=true then _ else _) _ _ s;rw[aB (by rw[hw.1,hw.2];simp)];show M (M (rN ht.typeIs (ao ?_)));rw[aB ()];show M (jY (M (ao (ao ⟨_,Z,ao h⟩))))
end
end HT
namespace L2
open PyProof.Rows Bg
section
variable{X:Cx}
inductive a8l(x:V)(lo:Option Int)(hi:Option Int)(H:Hp)(Q:VK):Prop
 |mk (a xs:_) (_:x=.ref a) (_:H a= ~~~xs) (_:∀p H',aL H H'->H' p= ~~~(uo xs lo hi)->Q (.ref p) H')
def nR:SlR X a8l:=by
 intro Y s σ H x v vl vu lo hi sl Q I rx hs pl pu h;let⟨a,xs,rfl,hx,q⟩:=h;by_cases hw:HT.jZ xs.length 0 lo=0/\HT.jZ xs.length xs.length hi=xs.length
 ·cases rx;let⟨bR,r,ht,hz⟩:=I.tuple (cN.of hx);let hlen:bR.toArray.size=xs.length:=by rw[fW];show r.length.symm
  show⟨"tuple",_,PyProof.Rows.slot_tuple_getitem.lookup,ht.typeIs,?_⟩;show HT.yj ht hs pl pu (by rw[hlen];show hw) ⟨.ref a,H,I,Z,q a H (aL.refl _) ?_⟩;let e:uo xs lo hi=xs:=by
   unfold uo;grind
  grind
 ·show ö Y s σ H _ v vl vu lo hi sl Q I rx hs pl pu ⟨a,xs,Z,cN.of hx,hw,λp hp=>q p _ (Lw.Am hp _) dN⟩
inductive a6H(x:V)(y:V)(H:Hp)(Q:VK):Prop
 |mk (a b xs ys:_) (_:x=.ref a) (_:y=.ref b) (_:H a= ~~~xs) (_:H b= ~~~ys) (_:xs.length+ys.length<=1000) (_:∀p H',aL H H'->H' p= ~~~(xs++ys)->Q (.ref p) H')
def tL:rA X (binaryOp .Add) a6H:=by
 intro Y s σ H x y v u Q I rx ry h;let⟨a,b,xs,ys,rfl,rfl,ha,hb,hz,q⟩:=h;by_cases hx:xs=[]
 ·cases rx;cases ry;let⟨bR,r1,p1,_⟩:=I.tuple (cN.of ha);let⟨its2,r2,p2,_⟩:=I.tuple (cN.of hb);show HT.a1t p1 p2 (r1.Ab.mpr hx) ⟨.ref b,H,I,Z,q b H (aL.refl _) (by rw[hx];show hb)⟩
 ·show Xg Y s σ H _ _ v u Q I rx ry ⟨a,b,xs,ys,Z,Z,cN.of ha,cN.of hb,hx,fD (cZ hz),λe=>q a H (aL.refl _) (by rw[e,jE];show ha),λ_ p hp=>q p _ (Lw.Am hp _) dN⟩
end
end L2
namespace L2
open PyProof.Rows
section
variable{K:aJ}{a:Addr}{xs:af}{ix:List (Option Nat)}{g:TG}{tt:TT}{te:TE}{σ:St}{H1:Hp}{Q:VK}
def Yh(Pv:Nat->af->Hp->Prop)(h0:Pv 0 [] H1)(hl:∀i ys H,i<=xs.length->Pv i ys H->cN K H a xs/\ys.length<=sizeLine)
  (hs:∀i x ys H,xs[i]?=some x->Pv i ys H->g x (qj ix σ) H λσ2 H2=>tt σ2 H2 λb H3=>if b=true then te σ2 H3 λv H4=>Pv (i+1) (ys++[v]) H4 else Pv (i+1) ys H3)
  (hd:∀ys H,Pv xs.length ys H->∀p,H p=none->Q (.ref p) (cY H p (.lst ys))):lV ix g tt te σ H1 Q (Itt K a):=by
 show⟨λi m ys H=>m=xs.length-i/\i<=xs.length/\Pv i ys H,⟨xs.length,by simp,cW _,h0⟩,?_⟩;rintro i m ys H ⟨rfl,hi,p⟩;let⟨q,z⟩:=hl i ys H hi p;by_cases hlt:i<xs.length
 ·show .inr ⟨⟨xs,xs[i],q,by simp[hlt]⟩,z,λys' H'=>Pv (i+1) ys' H',λys' H' p'=>⟨xs.length-(i+1),(),Z,hlt,p'⟩,λx H' y=>?_⟩;let⟨e',y⟩:=y;subst e';show hs i x ys _ (y xs q) p
 ·let ei:i=xs.length:=()
  subst ei;show .inl ⟨⟨xs,q,aK _⟩,z,λpp hp=>hd ys H p pp hp⟩
end
end L2
namespace K
open L2 Lw Bg
variable{K:aJ}{c wd j':Nat}{P:Program}{w:World}{mg:Str->Option Value}{base:Heap}{σ:St}{T:cu}{α:Type}{E G zs us:ae}{B:ar}{Q:VK}{ix:List (Option Nat)}{g:TG}{te:TE}
abbrev jd:Stmt:=top 33
def Jc:bN Eo Eo (aG jd):={}
abbrev fY:Stmt:=top 34
def BK:bN Ep Ep (aG fY):={}
noncomputable def zA(s:dU)(p:Nat)(x:Int):dU:=s.take p++([x]++s.drop p)
noncomputable def qu(s:dU)(p:Nat):dU:=s.take p++s.drop (p+1)
def Ox(s:dU)(p:Nat)(h:p<=s.length):uo (s.map V.int) none (some (p:Int))=(s.take p).map V.int:=by
 unfold uo;rw[HT.FJ,HT.Qi,Ni,vG,aH,Uv h,UJ]
def qX(s:dU)(p:Nat)(h:p<=s.length):uo (s.map V.int) (some (p:Int)) none=(s.drop p).map V.int:=by
 unfold uo;rw[HT.FJ,HT.Qi,aH,Uv h,UG];show wJ (by rw[iI,aH];show aK _)
inductive a1u(vs:af)(H:Hp)(Q:VK)(u_3:XK):Prop
 |mk (a:Addr) (s:dU) (p:Nat) (x:Int) (_:vs=[.ref a,.int p,.int x]) (_:pI H a s) (_:p<=s.length) (_:s.length<=100) (_:∀b H',aL H H'->pI H' b (zA s p x)->Q (.ref b) H')
inductive Wi(vs:af)(H:Hp)(Q:VK)(u_3:XK):Prop
 |mk (a:Addr) (s:dU) (p:Nat) (_:vs=[.ref a,.int p]) (_:pI H a s) (_:p<s.length) (_:s.length<=100) (_:∀b H',aL H H'->pI H' b (qu s p)->Q (.ref b) H')
def Jd(uH:Dn K mg "with_number" jd Eo):⋯ 1 uH.f uH.fd Eo a1u:=by
 show uH.F.ok Jc λdX A outer s H vs Q E hr h=>?_;let⟨a,st,p,x,rfl,ha,hp,l1,q⟩:=h;show⟨_,(aF (bJ (bw tL (bw tL (eX nR (pv 0) gb (gh (pv 1))) (bK (O (pv 2) aj))) (eX nR (pv 0) (gh (pv 1)) gb)))),⟨_,Z,_,Z,_,Z,a,_,Z,ha,λb1 H1 s1 h1=>?_⟩⟩;rw[Ox st p hp]at h1;show⟨_,Z,(),λb2 H2 n2=>⟨b1,b2,_,_,Z,Z,n2.same _ _ h1,n2.here,?_,λb3 H3 s3 h3=>?_⟩⟩
 ·grind
 let sJ:=n2.same.trans s3;show⟨_,Z,_,Z,_,Z,a,_,Z,(s1.trans sJ) _ _ ha,λb4 H4 s4 h4=>?_⟩;rw[qX st p hp]at h4;show⟨b3,b4,_,_,Z,Z,s4 _ _ h3,h4,?_,λb5 H5 s5 h5=>q b5 H5 (s1.trans (sJ.trans (s4.trans s5))) ?_⟩
 ·grind
 ·show H5 b5= ~~~((zA st p x).map V.int);rw[h5];unfold zA;rw[dz,dz,oM];rfl
def BL(wF:Dn K mg "without_number" fY Ep):⋯ 1 wF.f wF.fd Ep Wi:=by
 show wF.F.ok BK λdX A outer s H vs Q E hr h=>?_;let⟨a,st,p,rfl,ha,hp,l1,q⟩:=h;show⟨_,(aF (bJ (bw tL (eX nR (pv 0) gb (gh (pv 1))) (eX nR (pv 0) (gh (bw dF (pv 1) aq)) gb)))),⟨_,Z,_,Z,_,Z,a,_,Z,ha,λb1 H1 s1 h1=>?_⟩⟩;rw[Ox st p ()]at h1;show⟨_,Z,_,Z,_,_,Z,Z,_,Z,a,_,Z,s1 _ _ ha,λb4 H4 s4 h4=>?_⟩;try dsimp only at h4
 rw[show((p:Int)+1)=((p+1:Nat):Int) by omega,qX st (p+1) ()]at h4;show⟨b1,b4,_,_,Z,Z,s4 _ _ h1,h4,?_,λb5 H5 s5 h5=>q b5 H5 (s1.trans (s4.trans s5)) ?_⟩
 ·grind
 ·show H5 b5= ~~~((qu st p).map V.int);rw[h5];unfold qu;grind
abbrev lH:Stmt:=top 31
def JZ:bN Ig Ig (aG lH):={}
noncomputable def Oz:Int:=1000000000000000000000000000000
def WtV(K:aJ)(H:Hp)(v:V)(o:Option (ae)):Prop:=match o with
 |none=>v=.non
 |some ws=>∃a,v=.ref a/\bB K H a (ws.map V.int)
def OD(m:Nat):Option (ae)->Bool
 |none=>true
 |some ws=>decide (ws.length=m)&&ws.all λx=>decide (0<=x)&&decide (x<Oz)
noncomputable def wtL(m:Nat):Option (ae)->ae
 |none=>List.replicate m 1
 |some ws=>ws
def btF:V->Option V
 |.int y=>some (.bl (oX Oz (some y)))
 |_=>none
theorem a2E:∀ws:ae,(ws.map V.int).filterMap btF=(ws.map λy=>oX Oz (some y)).map V.bl
 | []=>rfl
 |x::r=>by
  rw[b8,LQ (show btF (V.int x)=some (.bl (oX Oz (some x)))from Z),a2E r]
  rfl
def a1v(x:Int):oX Oz (some x)=(decide (0<=x)&&decide (x<Oz)):=by
 unfold oX;lk;show Bool.decide_and ..
inductive ZK(K:aJ)(vs:af)(H:Hp)(Q:VK)(u_3:XK):Prop
 |mk (m:Nat) (v:V) (o:Option (ae)) (_:vs=[.int m,v]) (_:WtV K H v o) (_:m<=100) (_:(∀ws,o=some ws->ws.length<=200)) (_:OD m o=true) (_:∀p H',aL H H'->H p=none->H' p=↥((wtL m o).map V.int)->Q (.ref p) H')
def J5(B:Bl mg)(Ct:χ mg)(lF:Du K mg)(jM:Dn K mg "is_below" fK rU)(BP:Dn K mg "weights_of" lH Ig):⋯ 3 BP.f BP.fd Ig (ZK K):=by
 let ō:⋯ 2 _ _ _ _:=xu B lF jM;show BP.F.ok JZ λdX A outer s H vs Q E hr h=>?_;let⟨m,v,o,rfl,hV,a8I,hw,ok,q⟩:=h;show⟨_,(aD (cO (aM ì (pv 1) oU)
   (aF (bJ (j4 ["k"] [none]  (by kernel_rfl) Z (jw Z B.range (O (pv 0) aj)) (λ_ _ _ _ _=>(aN 0 (show(["k"]:ag).Nodup by decide))) (λ_ _ _ _ _=>gQ) λ_ _ _ _ _=>aq)))
   bA)
   (aD (cO (PW.pt (zW (aM Hj (aV (bV (K:=K) Z) Z B.len () (O (pv 1) aj)) (pv 0)) (yR (nC (dh (K:=K) Z (aV (CW (K:=K) Z Z) Z B.all () (O (j4 ["weight"] [none]  (by kernel_rfl) Z (eY (K:=K) Z (pv 1)) (λ_ _ _ _ _=>(aN 0 (show(["weight"]:ag).Nodup by decide))) (λ_ _ _ _ _=>gQ) λ_ _ _ _ _=>(aY ō hr Z jM.m jM.F.kp jM.b .nil bW (O (W4 (v:=.int 1000000000000000000000000000000) Z Ct.u6 Ct.u9) (O (pv 0) aj)))) aj)) λ_=>rfl)))))
   (aF zX)
   bA)
   (aF (bJ (gV (oW (K:=K) Z) Z B.list () (O (pv 1) aj)))))),?_⟩
 cases o with
 |none =>
  obtain rfl:v=.non:=hV;show⟨_,Z,Z,_,Z,gP ?_⟩;show⟨_,Z,_,Z,(),(),?_⟩;rw[iG];show Xl (λ_=>some (V.int 1)) () (λi H' N hi s1 hN=>hN H' s1) (λH1 p H2 s1 n2=>q p H2 (s1.trans n2.same) (s1.free n2.fresh) ?_);rw[n2.here];show some (HO.lst _)=some (HO.lst ((List.replicate m (1:Int)).map V.int));rw[vN (f:=λ_=>some (V.int 1)) (g:=λ_=>V.int 1) (λ_ _=>rfl),List.map_const',vA,List.map_replicate]
 |some ws =>
  let⟨a,rfl,hA⟩:=hV;let lw:=hw ws rfl;let ok':=ok;unfold OD at ok';rw[fU,dJ,g8]at ok';let⟨e1,e2⟩:=ok';show⟨_,Z,Z,_,Z,cV ⟨_,Z,a,_,Z,.inl hA,_,Z,Z,_,Z,?_⟩⟩;rw[aH,e1,aR rfl];show cV ⟨_,Z,a,Z,⟨_,hA⟩,Hx btF hA () (λx G5 N hx s5 hN5=>?_) λG5 p6 H6 s5 n6=>?_⟩
  ·let⟨y,hy,rfl⟩:=dM.mp hx;show⟨_,Z,Oz,some y,Z,hN5 G5 s5⟩
  rw[a2E]at n6;show⟨p6,_,_,Z,bB.of n6.here,jc.bls _,?_⟩;let e7:(ws.map λy=>oX Oz (some y)).all id=true:=by
   rw[Nv,g8];intro x hx;show oX Oz (some x)=true;rw[a1v];show e2 x hx
  rw[e7];show⟨_,Z,cV ⟨_,Z,a,_,Z,.inl ((s5.trans n6.same).seq hA),λp8 H8 n8=>q p8 H8 (s5.trans (n6.same.trans n8.same)) ((s5.trans n6.same).free n8.fresh) n8.here⟩⟩
noncomputable def fsQ(pg:Addr)(l u:V):bc:=[("graph",.ref pg),("leaf",l),("whole",u)]
inductive a1w(K:aJ)(C:Addr)(vs:af)(H:Hp)(Q:VK)(u_3:XK):Prop
 |mk (d dx g t:Addr) (n:Nat) (xs:af) (l u:V) (_:vs=[.ref d,.ref g,l,u]) (_:H d=some (.ins C dx [])) (_:cN K H g [.int n,.ref t]) (_:H t=↥xs) (_:xs.length<=1000) (_:∀pg pt H',Sd d H H'->H pt=none->H' d=some (.ins C dx (fsQ pg l u))->H' pg= ~~~[.int n,.ref pt]->H' pt=↥xs->Q .non H')
def DG(B:Bl mg)(gG:vU K mg){C:Addr}(cl:Cls K C)(pN:jz K C "graph")(uw:jz K C "leaf")(qR:jz K C "whole"):⋯ 1 gG.fM.f gG.fM.fd XH (a1w K C):=by
 show gG.fM.F.ok xH λdX A outer s H vs Q E hr h=>?_;let⟨d,dx,g,t,n,xs,l,u,rfl,hd,hg,ht,lx,q⟩:=h;show⟨_,(aD (Hq (pv 0) (bK (O (aP (aO (K:=K) Z) (pv 1) aq) (O (gV (oW (K:=K) Z) Z B.list () (O (aP (aO (K:=K) Z) (pv 1) aq) aj)) aj))) Z)
   (aD (Hq (pv 0) (pv 2) Z)
   (aF (Hq (pv 0) (pv 3) Z)))),?_⟩
 show⟨_,Z,g,_,_,V.int n,Z,Z,hg,cB (j:=0) Z,_,Z,g,_,_,V.ref t,Z,Z,hg,cB (j:=1) Z,t,_,Z,.inl (bB.of ht),λpt H1 n1=>⟨(),λpg H2 n2=>?_⟩⟩;let h2:=n2.same _ _ (n1.same _ _ hd);show⟨_,Z,d,_,_,_,Z,h2,cl,pN,(),?_⟩;generalize hU1:cY H2 d _=U1;let u1:uP H2 d (.ins C dx (vJ "graph" (.ref pg) [])) U1:=by rw[<-hU1];show uP.oh
 show⟨_,Z,_,Z,d,_,_,_,Z,u1.here,cl,uw,(by show 1<1000;decide),?_⟩;generalize hU2:cY U1 d _=U2;let u2:uP U1 d (.ins C dx (vJ "leaf" l (vJ "graph" (.ref pg) []))) U2:=by rw[<-hU2];show uP.oh
 show⟨_,Z,_,Z,d,_,_,_,Z,u2.here,cl,qR,(by show 2<1000;decide),?_⟩;generalize hU3:cY U2 d _=U3;let u3:uP U2 d (.ins C dx (fsQ pg l u)) U3:=by rw[<-hU3];show uP.oh
 let sr:∀c,c≠d->U3 c=H2 c:=λc hc=>by rw[u3.rest _ hc,u2.rest _ hc,u1.rest _ hc]
 let dt:pt≠d:=λe=>by let:=n1.fresh;grind
 let dg:pg≠d:=λe=>by let:=n2.fresh;rw[e,n1.same _ _ hd]at this;cases this
 show q pg pt U3 (λc o hc hh=>by rw[sr c hc];show n2.same _ _ (n1.same _ _ hh)) n1.fresh u3.here (by rw[sr _ dg];show n2.here) (by rw[sr _ dt];show n2.same _ _ n1.here)
def Wj{H H':Hp}{v:V}{t:Int×Int}(k:lZ H H')(h:kZ H v t):kZ H' v t:=by
 let⟨p,e,h⟩:=h;show⟨p,e,k _ _ h⟩
noncomputable def eE(s:dU)(i:Nat):Int:=s.getD i 0
def Ê{s:dU}{i:Nat}(h:i<s.length):Vi (s.map V.int) (i:Int)=some (.int (eE s i)):=by
 show cB ?_;rw[cI,bC h];unfold eE;rw[fB,bC h];rfl
namespace Lk
noncomputable def firsts:ae->ae->ae
 |L,[]=>L
 |L,x::r=>firsts (if 0<x/\x∉L then L++[x]else L) r
def iC(ns:ae):ae:=ns.map λx=>if 0<x then(((firsts [] ns).idxOf x:Nat):Int)+1 else x
def JD(ns:ae)(a b:Nat):ae:=ns.map λx=>if x=eE ns b then eE ns a else x
def OJ(ms:ae):ay->ae->Option (ae)
 | [],ns=>some ns
 |k::r,ns=>if 0<eE ms k/\ms.idxOf (eE ms k)<k then(if eE ns (ms.idxOf (eE ms k))=eE ns k then none else OJ ms r (JD ns (ms.idxOf (eE ms k)) k))else OJ ms r ns
def jnO(ns ms:ae):List dU:=match OJ ms (List.range ms.length) ns with
 |none=>[]
 |some r=>[0::iC r]
def jnL(s t:dU):List dU:=if eE s 0=1 then(if eE t 0=1 then []else [s])else if eE t 0=1 then [t]else jnO s.tail t.tail
def qY(m:Nat)(s:dU):Bool:=s.length==m+1&&((eE s 0==1&&s.tail.all λx=>x==0)||(eE s 0==0&&(s.tail.all λx=>decide (0<=x)&&decide (x<=(m:Int)))&&iC s.tail==s.tail))
noncomputable def tups(c:Nat):Nat->List (ae)
 |0=>[[]]
 |k+1=>(tups c k).flatMap λs=>(List.range (c+1)).map λ(x:Nat)=>(x:Int)::s
def Sts(m:Nat):List dU:=(1::List.replicate m 0)::((tups m m).filter λs=>iC s==s).map (0 :: ·)
theorem Ru{c:Nat}:∀{k:Nat}{s:ae},s.length=k->(∀x∈s,0<=x/\x<=(c:Int))->s∈tups c k
 |0,[],_,_=>vo _
 |k+1,x::s,l,h=>by
  show List.mem_flatMap.mpr ⟨s,Ru (by simpa using l) λy hy=>h y (bM _ hy),dM.mpr ⟨x.toNat,fX.mpr ?_,?_⟩⟩
  ·let:=h x bh;omega
  ·let:=h x bh
   rw[show((x.toNat:Nat):Int)=x by omega]
def O1{m:Nat}{s:dU}(h:qY m s=true):s∈Sts m:=by
 unfold qY at h;rw[fU,Nb]at h;let⟨h0,h⟩:=h;let l:s.length=m+1:=by simpa using h0
 cases s with
 |nil=>cases l
 |cons a r =>
  let lr:r.length=m:=by simpa using l
  rcases h with h|h
  ·rw[fU,g8]at h;let e:a=1:=by simpa [eE]using h.1
   let:r=List.replicate m 0:=List.eq_replicate_iff.mpr ⟨lr,λx hx=>by simpa using h.2 x hx⟩;rw[e,this];show bh
  ·rw[fU,fU,g8]at h;let e:a=0:=by simpa [eE]using h.1.1
   show bM _ (dM.mpr ⟨r,jQ.mpr ⟨Ru lr λx hx=>?_,h.2⟩,by rw[e]⟩);simpa using h.1.2 x hx
def Je{P:Nat->dU->Bool}(h:((List.range c).all λm=>(Sts m).all (P m))=true){m:Nat}(hm:m<c){s:dU}(hs:qY m s=true):P m s=true :=
 g8.mp (g8.mp h m (fX.mpr hm)) s (O1 hs)
end Lk
noncomputable def Jf(cQ:ae)(cost:Int×Int->Int):PQ Bool where
 leaf:=[0]
 whole:=[1]
 bt:=λa b=>decide (a<b)
 sh:=λs=>s.tail.map λx=>decide (0<x)
 jn:=Lk.jnL
 inn:=λs p v=>(if(v:Int)∈cQ then []else [(zA s (p+1) 0,0)])++if eE s 0=0 then [(0::Lk.iC (zA s.tail p (s.length:Int)),0)]else []
 tie:=λs a b t=>(s,0)::if 0<eE s (a+1)/\0<eE s (b+1)/\eE s (a+1)≠eE s (b+1)then [(0::Lk.iC (Lk.JD s.tail a b),cost t)]else []
 out:=λs p _=>if eE s (p+1)=0\/eE s (p+1)∈qu s.tail p then [(s.take 1++Lk.iC (qu s.tail p),0)]else if(qu s.tail p).any (λx=>decide (x≠0))=true then []else [(1::qu s.tail p,0)]
 Ok:=λm s=>m<=4->Lk.qY m s=true
def a6I{t u:TT}{D:Ends}{H:Hp}{A B:TS}{c1 c2:Bool}(h1:∀Q:Bool->Hp->Prop,Q c1 H->t σ H Q)(h2:∀Q:Bool->Hp->Prop,Q c2 H->u σ H Q)(a:c1=true/\c2=true->A D σ H)(b:¬(c1=true/\c2=true)->B D σ H):a0c (â t u) A B D σ H:=by
 show h1 _ ?_;cases c1 with
 |false=>show b λh=>Bool.noConfusion h.1
 |true =>
  show h2 _ ?_;cases c2 with
  |false=>show b λh=>Bool.noConfusion h.2
  |true=>show a ⟨Z,Z⟩
namespace Go
theorem vV:∀{xs ys:ae},xs.Pairwise (· < ·)->ys.Pairwise (· < ·)->(∀v,v∈xs↔v∈ys)->xs=ys
 | [],[],_,_,_=>rfl
 | [],y::ys,_,_,h=>absurd ((h y).mpr bh) eO
 |x::xs,[],_,_,h=>absurd ((h x).mp bh) eO
 |x::xs,y::ys,hx,hy,h=>by
  rw[tY]at hx hy
  let e:x=y:=by
   rcases bQ.mp ((h x).mp bh)with h1|h1
   ·show h1
   ·rcases bQ.mp ((h y).mpr bh)with h2|h2
    ·show h2.symm
    ·let a:=hy.1 x h1
     let b:=hx.1 y h2
     omega
  subst e
  rw[vV hx.2 hy.2 λv=>⟨λhv=>?_,λhv=>?_⟩]
  ·grind
  grind
end Go
structure Jg{κ:Type}(pq:PQ κ):Prop where
 leaf:pq.Ok 0 pq.leaf
 inn:∀{m s p v},pq.Ok m s->p<=m->(pq.inn s p v).length<=4/\∀x∈pq.inn s p v,pq.Ok (m+1) x.1
 tie:∀{m s a b t},pq.Ok m s->a<m->b<m->(pq.tie s a b t).length<=4/\∀x∈pq.tie s a b t,pq.Ok m x.1
 out:∀{m s p v},pq.Ok (m+1) s->p<m+1->m+1<=4->(pq.out s p v).length<=4/\∀x∈pq.out s p v,pq.Ok m x.1
 jn:∀{m s t},pq.Ok m s->pq.Ok m t->(pq.jn s t).length<=4/\∀x∈pq.jn s t,pq.Ok m x
 fin:∀{m:Nat}{l:List dU},m<=4->l.Nodup->(∀s∈l,pq.Ok m s)->l.length<=900
noncomputable def dI(T:cu):Nat:=(T.map λx=>x.2.m.natAbs).sum
structure yC{κ:Type}(pq:PQ κ)(m:Nat)(T:cu):Prop where
 nd:(T.map (·.1)).Nodup
 ok:∀x∈T,pq.Ok m x.1
def yC.nil{κ:Type}{pq:PQ κ}{m:Nat}:yC pq m []:=⟨vC,λ_ h=>absurd h eO⟩
def yC.len{κ:Type}{pq:PQ κ}(pk:Jg pq){m:Nat}(h:yC pq m T)(m4:m<=4):T.length<=900:=by
 let:=pk.fin m4 h.nd (λs hs=>by
  let⟨x,hx,rfl⟩:=dM.mp hs;show h.ok x hx)
 rw[aH]at this;show this
def ZL(T:cu)(s:dU)(r:gC):(qt T s r).map (·.1)=if(T.any λx=>decide (x.1=s))=true then T.map (·.1)else T.map (·.1)++[s]:=by
 unfold qt;split
 ·rw[lR];show vq λx _=>?_;show(if x.1=s then(x.1,r)else x).1=x.1;split<;>rfl
 ·rw[dz];rfl
set_option tactic.hygienic true in
def a1x{κ:Type}{pq:PQ κ}{m:Nat}{s:dU}{r:gC}(h:yC pq m T)(hs:pq.Ok m s):yC pq m (qt T s r):=by
 let e:=ZL T s r;show⟨?_,λx hx=>?_⟩
 ·rw[e];split
  ·show h.nd
  ·rename_i c;show uc.mpr ⟨h.nd,tR _ _,λa ha b hb ab=>?_⟩;rw[bG.mp hb]at ab;let⟨y,hy,ey⟩:=dM.mp ha;show c (Um.mpr ⟨y,hy,aR (ey.trans ab)⟩)
 ·let:x.1∈(qt T s r).map (·.1):=dM.mpr ⟨x,hx,Z⟩;rw[e]at this;split at this
  ·let⟨y,hy,ey⟩:=dM.mp this;rw[<-ey];show h.ok y hy
  ·rcases cH.mp this with z|z
   ·let⟨y,hy,ey⟩:=dM.mp z;rw[<-ey];show h.ok y hy
   ·rw[bG.mp z];show hs
def Yi{κ:Type}{pq:PQ κ}{bt:Int->Int->Bool}{m:Nat}{s:dU}{r:gC}(h:yC pq m T)(hs:pq.Ok m s):yC pq m (mX bt T s r):=by
 unfold mX;split<;>show a1x h hs
def Yj{s:dU}{r:gC}(nd:(T.map (·.1)).Nodup):dI (qt T s r)+((yX T s).map λo=>o.m.natAbs).getD 0=dI T+r.m.natAbs:=by
 induction T with
 |nil=>show Nat.add_comm (r.m.natAbs+0) 0
 |cons x T ih =>
  rw[b8,jb]at nd;let ih:=ih nd.2;unfold qt yX at ih ⊢;by_cases c:x.1=s
  ·rw[oO,aR c,Bool.true_or,aB Z,rH (by show aR c)];let e:(T.map λy=>if y.1=s then(y.1,r)else y)=T:=by
    let:∀y∈T,(λy:dU×gC=>if y.1=s then(y.1,r)else y) y=id y:=λy hy=>aA λz=>nd.1 (dM.mpr ⟨y,hy,z.trans c.symm⟩);rw[vq this,List.map_id]
   rw[b8,aB c,e];unfold dI;rw[b8,b8,vD,vD];show r.m.natAbs+_+x.2.m.natAbs=_;omega
  ·rw[oO,cC c,Bool.false_or,tV (by show λz=>c (dw z))];by_cases d:(T.any λy=>decide (y.1=s))=true
   ·rw[aB d]at ih ⊢;rw[b8,aA c];unfold dI at ih ⊢;rw[b8,b8,vD,vD];omega
   ·rw[aA d]at ih ⊢;unfold dI at ih ⊢;rw[List.cons_append,b8,b8,vD,vD];omega
set_option tactic.hygienic true in
def Rv{bt:Int->Int->Bool}{s:dU}{r:gC}(nd:(T.map (·.1)).Nodup):dI (mX bt T s r)<=dI T+r.m.natAbs:=by
 unfold mX;split
 ·rename_i e;let:=Yj (s:=s) (r:=r) nd;omega
 ·rename_i o e;let:=Yj (s:=s) (r:=⟨o.m+r.m,(v5 bt r o).b,(v5 bt r o).src⟩) nd;rw[e]at this;let h2:(o.m+r.m).natAbs<=o.m.natAbs+r.m.natAbs:=Int.natAbs_add_le _ _;let e3:((some o).map λo:gC=>o.m.natAbs).getD 0=o.m.natAbs:=rfl;rw[e3]at this;show dI (qt T s _)<=_;let:dI (qt T s ⟨o.m+r.m,(v5 bt r o).b,(v5 bt r o).src⟩)+o.m.natAbs=dI T+(o.m+r.m).natAbs:=this;omega
section
variable{κ:Type} [DecidableEq κ]
theorem zB{pq:PQ κ}{bt:Int->Int->Bool}{m:Nat}{old:dU}{row:gC}:∀{l:List (dU×Int)}{T:cu},yC pq m T->(∀x∈l,pq.Ok m x.1)->yC pq m (lE bt old row l T)/\dI (lE bt old row l T)<=dI T+l.length*row.m.natAbs
 | [],T,h,_=>⟨h,by show dI T<=dI T+0*_;omega⟩
 |x::l,T,h,hl=>by
  let h1:yC pq m (mX bt T x.1 ⟨row.m,row.b+x.2,[old]⟩):=Yi h (hl x (bh ..))
  let s1:=Rv (bt:=bt) (s:=x.1) (r:=⟨row.m,row.b+x.2,[old]⟩) h.nd
  let s1:dI (mX bt T x.1 ⟨row.m,row.b+x.2,[old]⟩)<=dI T+row.m.natAbs:=s1
  let⟨h2,s2⟩:=zB (bt:=bt) (old:=old) (row:=row) h1 (λy hy=>hl y (bM _ hy))
  show⟨h2,cF s2 ?_⟩
  rw[iH,Nat.succ_mul]
  omega
theorem Jh{pq:PQ κ}{jN:bZ}{B:ae}{m m':Nat}:∀{S T:cu},yC pq m' T->(∀x∈S,pq.Ok m x.1)->(∀s,pq.Ok m s->(V8 pq s jN B).length<=4/\∀x∈V8 pq s jN B,pq.Ok m' x.1)->yC pq m' (nH pq jN B S T)/\dI (nH pq jN B S T)<=dI T+4*dI S
 | [],T,h,_,_=>⟨h,by show dI T<=dI T+_;omega⟩
 |x::S,T,h,hS,hb=>by
  let⟨l4,ob⟩:=hb x.1 (hS x (bh ..))
  let⟨h1,s1⟩:=zB (bt:=pq.bt) (old:=x.1) (row:=x.2) h ob
  let⟨h2,s2⟩:=Jh h1 (λy hy=>hS y (bM _ hy)) hb
  show⟨h2,cF s2 ?_⟩
  let e:dI (x::S)=x.2.m.natAbs+dI S:=by unfold dI;grind
  rw[e]
  let:(V8 pq x.1 jN B).length*x.2.m.natAbs<=4*x.2.m.natAbs:=Nat.mul_le_mul_right _ l4
  omega
def ZM{pq:PQ κ}(pk:Jg pq){jN:bZ}{B:ae}{m m':Nat}(m4:m'<=4){S:cu}(hS:∀x∈S,pq.Ok m x.1)(hb:∀s,pq.Ok m s->(V8 pq s jN B).length<=4/\∀x∈V8 pq s jN B,pq.Ok m' x.1):a4i pq jN B S []:=by
 intro i hi x hx j hj;let h1:=(Jh (pq:=pq) (jN:=jN) (B:=B) (m:=m) (m':=m') (S:=S.take i) yC.nil (λy hy=>hS y (lQ hy)) hb).1;let⟨_,ob⟩:=hb x.1 (hS x (gZ hx));let h2:=(zB (bt:=pq.bt) (old:=x.1) (row:=x.2) (l:=(V8 pq x.1 jN B).take j) h1 λy hy=>ob y (lQ hy)).1;let:=h2.len pk m4;omega
theorem Ji{pq:PQ κ}{bt:Int->Int->Bool}{m:Nat}{gW cM:dU}{row more:gC}:∀{l:List dU}{T:cu},yC pq m T->(∀x∈l,pq.Ok m x)->yC pq m (yw bt gW cM row more l T)/\dI (yw bt gW cM row more l T)<=dI T+l.length*(row.m.natAbs*more.m.natAbs)
 | [],T,h,_=>⟨h,by show dI T<=dI T+0*_;omega⟩
 |x::l,T,h,hl=>by
  let h1:yC pq m (mX bt T x ⟨row.m*more.m,row.b+more.b,[gW,cM]⟩):=Yi h (hl x (bh ..))
  let s1:=Rv (bt:=bt) (s:=x) (r:=⟨row.m*more.m,row.b+more.b,[gW,cM]⟩) h.nd
  let s1:dI (mX bt T x ⟨row.m*more.m,row.b+more.b,[gW,cM]⟩)<=dI T+(row.m*more.m).natAbs:=s1
  rw[Int.natAbs_mul]at s1
  let⟨h2,s2⟩:=Ji (bt:=bt) (gW:=gW) (cM:=cM) (row:=row) (more:=more) h1 (λy hy=>hl y (bM _ hy))
  show⟨h2,cF s2 ?_⟩
  rw[iH,Nat.succ_mul]
  omega
theorem Jj{pq:PQ κ}(pk:Jg pq){m:Nat}{gW:dU}{row:gC}(oo:pq.Ok m gW):∀{A T:cu},yC pq m T->(∀x∈A,pq.Ok m x.1)->yC pq m (yx pq gW row A T)/\dI (yx pq gW row A T)<=dI T+4*(row.m.natAbs*dI A)
 | [],T,h,_=>⟨h,by show dI T<=dI T+_;omega⟩
 |x::A,T,h,hA=>by
  let⟨l4,oj⟩:=pk.jn oo (hA x (bh ..))
  let⟨h1,s1⟩:=Ji (bt:=pq.bt) (gW:=gW) (cM:=x.1) (row:=row) (more:=x.2) h oj
  let⟨h2,s2⟩:=Jj pk oo (row:=row) h1 (λy hy=>hA y (bM _ hy))
  show⟨h2,cF s2 ?_⟩
  let e:dI (x::A)=x.2.m.natAbs+dI A:=by unfold dI;grind
  rw[e,Nat.mul_add]
  let:=Nat.mul_le_mul_right (row.m.natAbs*x.2.m.natAbs) l4
  omega
theorem sum_filter(p:dU×gC->Bool):∀A:cu,dI (A.filter p)<=dI A
 | []=>aK _
 |x::A=>by
  let ih:=sum_filter p A
  let e:dI (x::A)=x.2.m.natAbs+dI A:=by unfold dI;grind
  by_cases c:p x=true
  ·rw[Mf c]
   let e':dI (x::A.filter p)=x.2.m.natAbs+dI (A.filter p):=by unfold dI;grind
   omega
  grind
theorem O3{pq:PQ κ}(pk:Jg pq){m:Nat}{A:cu}(hA:∀x∈A,pq.Ok m x.1):∀{S T:cu},yC pq m T->(∀x∈S,pq.Ok m x.1)->yC pq m (wj pq A S T)/\dI (wj pq A S T)<=dI T+4*(dI S*dI A)
 | [],T,h,_=>⟨h,by show dI T<=dI T+_;omega⟩
 |x::S,T,h,hS=>by
  let hA':∀y∈pB pq x.1 A,pq.Ok m y.1:=λy hy=>hA y (jQ.mp hy).1
  let⟨h1,s1⟩:=Jj pk (hS x (bh ..)) (row:=x.2) h hA'
  let⟨h2,s2⟩:=O3 pk hA h1 (λy hy=>hS y (bM _ hy))
  show⟨h2,cF s2 ?_⟩
  let e:dI (x::S)=x.2.m.natAbs+dI S:=by unfold dI;grind
  rw[e,Nat.add_mul]
  let f:dI (pB pq x.1 A)<=dI A:=sum_filter _ A
  let:=Nat.mul_le_mul_left x.2.m.natAbs f
  omega
def Ŗ{pq:PQ κ}(pk:Jg pq){m:Nat}(m4:m<=4){A S:cu}(hA:∀x∈A,pq.Ok m x.1)(hS:∀x∈S,pq.Ok m x.1):a4l pq A S []:=by
 intro i x hx j y hy l hl;let h1:=(O3 pk hA (S:=S.take i) yC.nil λz hz=>hS z (lQ hz)).1;let ox:=hS x (gZ hx);let h2:=(Jj pk ox (row:=x.2) (A:=(pB pq x.1 A).take j) h1 λz hz=>hA z (jQ.mp (lQ hz)).1).1;let oy:=hA y (jQ.mp (gZ hy)).1;let h3:=(Ji (bt:=pq.bt) (gW:=x.1) (cM:=y.1) (row:=x.2) (more:=y.2) (l:=(pq.jn x.1 y.1).take l) h2 λz hz=>(pk.jn ox oy).2 z (lQ hz)).1;let:=h3.len pk m4;omega
end
namespace Go
def getD_at{ss:ax}{i:Nat}{s:bZ}(h:ss[i]?=some s):ss.getD i .leaf=s:=by
 rw[fB,h];rfl
section
variable{n:Nat}{ts:ar}{ss:ax}
def Jk{i:Nat}{s:bZ}(h:ss[i]?=some s)(g1:(aU n ts ss i).2=true)(g2:(aU n ts ss (i+1)).2=true):∃b,oE n ts (ss.take i) s (qN s (aU n ts ss i).1)=some b/\s.need<=(aU n ts ss i).1.pile.length/\(aU n ts ss (i+1)).1=⟨(aU n ts ss i).1.aQ++[b],(aU n ts ss i).1.dH++[(aU n ts ss i).1.pile.drop (dW s (aU n ts ss i).1)],(aU n ts ss i).1.pile.take (dW s (aU n ts ss i).1)++[i]⟩:=by
 rw[Rt,aB g1]at g2 ⊢;cases d:oG n ts ss i (aU n ts ss i).1 with
 |none=>grind
 |some r =>
  unfold oG at d;rw[getD_at h]at d;by_cases c:s.need<=(aU n ts ss i).1.pile.length
  ·rw[aB c]at d;let⟨b,hb,er⟩:=lN.mp d;show⟨b,hb,c,er.symm⟩
  ·rw[aA c]at d;cases d
theorem Yk(go:∀i,i<=ss.length->(aU n ts ss i).2=true)(dB:n<=10){k:Nat}{s:bZ}(h:ss[k]?=some s):∀j,k+1<=j->j<=ss.length->(aU n ts ss j).1.dH.getD k []=(aU n ts ss k).1.pile.drop (dW s (aU n ts ss k).1)
 |0,h1,_=>absurd h1 ()
 |j+1,h1,h2=>by
  let kl:=(eG.mp h).1
  let⟨b,_,_,e⟩:=Jk (n:=n) (ts:=ts) (s:=ss[j]'()) (bC ()) (go j ()) (go (j+1) h2)
  let I:=jo dB (go j ())
  rw[e]
  show((aU n ts ss j).1.dH++[_]).getD k []=_
  by_cases c:j=k
  ·subst c
   rw[fB,wI (by rw[I.fl];omega),I.fl,yO]
   rw[bC kl]at h
   cases h
   rfl
  ·rw[fB,yE (by rw[I.fl];omega),<-fB]
   show Yk go dB h j () ()
abbrev fZ(n:Nat)(ts:ar)(ss:ax)(k:Nat):ae:=(cA n ts ss).aQ.getD k []
abbrev qy(n:Nat)(ts:ar)(ss:ax)(k:Nat):ay:=(cA n ts ss).dH.getD k []
theorem Wk(go:∀i,i<=ss.length->(aU n ts ss i).2=true)(dB:n<=10){k:Nat}:∀j,k+1<=j->j<=ss.length->(aU n ts ss j).1.aQ.getD k []=(aU n ts ss (k+1)).1.aQ.getD k []
 |0,h1,_=>absurd h1 ()
 |j+1,h1,h2=>by
  by_cases c:j=k
  ·rw[c]
  let⟨b,_,_,e⟩:=Jk (n:=n) (ts:=ts) (s:=ss[j]'()) (bC ()) (go j ()) (go (j+1) h2)
  let I:=jo dB (go j ())
  rw[e]
  show((aU n ts ss j).1.aQ++[_]).getD k []=_
  rw[fB,yE (by rw[I.tl];omega),<-fB]
  show Wk go dB j () ()
def O4(go:∀i,i<=ss.length->(aU n ts ss i).2=true)(dB:n<=10){k j:Nat}(h1:k+1<=j)(h2:j<=ss.length):(aU n ts ss j).1.aQ.getD k []=fZ n ts ss k:=by
 rw[Wk go dB j h1 h2];show(Wk go dB ss.length () (aK _)).symm
structure StE(n:Nat)(ts:ar)(ss:ax)(k:Nat)(s:bZ):Prop where
 bH:oE n ts (ss.take k) s ((qy n ts ss k).map (fZ n ts ss))=some (fZ n ts ss k)
 len:(qy n ts ss k).length=s.need
 lt:∀j∈qy n ts ss k,j<k
 pile:(aU n ts ss (k+1)).1.pile=(aU n ts ss k).1.pile.take (dW s (aU n ts ss k).1)++[k]
 feed:qy n ts ss k=(aU n ts ss k).1.pile.drop (dW s (aU n ts ss k).1)
def zE(go:∀i,i<=ss.length->(aU n ts ss i).2=true)(dB:n<=10){k:Nat}{s:bZ}(h:ss[k]?=some s):StE n ts ss k s:=by
 let kl:=(eG.mp h).1;let⟨b,hb,hn,e⟩:=Jk (n:=n) (ts:=ts) h (go k ()) (go (k+1) ());let I:=jo dB (go k ());let ef:qy n ts ss k=(aU n ts ss k).1.pile.drop (dW s (aU n ts ss k).1):=Yk go dB h ss.length () (aK _);let lt:∀j∈qy n ts ss k,j<k:=λj hj=>by
  rw[ef]at hj;show I.lt j (yI hj)
 let eu:qN s (aU n ts ss k).1=(qy n ts ss k).map (fZ n ts ss):=by
  unfold qN;rw[<-ef];show vq λj hj=>O4 go dB (lt j hj) ()
 let eb:fZ n ts ss k=b:=by
  rw[<-O4 go dB (Nat.le_refl (k+1)) (),e];show((aU n ts ss k).1.aQ++[b]).getD k []=b;rw[fB,wI (by rw[I.tl];omega),I.tl,yO];rfl
 show⟨by rw[eb,<-eu];show hb,?_,lt,by rw[e],ef⟩;rw[ef,iI];unfold dW;omega
def vW(p:Int->Bool):(PN p).Pairwise (· < ·):=by
 unfold PN;show GC _ ?_;rw[wL];show List.pairwise_lt_range.imp λh=>by omega
def Wl{l:List α}(h:l.length=1):∃i,l=[i]:=by
 rcases l with _|⟨i,_|⟨j,l⟩⟩
 ·cases h
 ·grind
 ·cases h
def two_of{l:List α}(h:l.length=2):∃i j,l=[i,j]:=by
 rcases l with _|⟨i,_|⟨j,_|⟨x,l⟩⟩⟩
 ·cases h
 ·cases h
 ·grind
 ·cases h
inductive StB(n:Nat)(ts:ar)(ss:ax)(k:Nat):bZ->Prop
 |leaf:qy n ts ss k=[]->fZ n ts ss k=[]->StB n ts ss k .leaf
 |inn {i v}:qy n ts ss k=[i]->i<k->0<=v->v<(n:Int)->v∉fZ n ts ss i->fZ n ts ss k=fV (fZ n ts ss i) [v]->bZ.out v∉ss.take k->StB n ts ss k (.inn v)
 |tie {i a b}:qy n ts ss k=[i]->i<k->(a,b)∈ts->a∈fZ n ts ss i->b∈fZ n ts ss i->fZ n ts ss k=fZ n ts ss i->StB n ts ss k (.tie a b)
 |out {i v}:qy n ts ss k=[i]->i<k->v∈fZ n ts ss i->fZ n ts ss k=mZ (fZ n ts ss i) [v]->bZ.out v∉ss.take k->StB n ts ss k (.out v)
 |join {i j}:qy n ts ss k=[i,j]->i<k->j<k->fZ n ts ss i=fZ n ts ss j->fZ n ts ss k=fZ n ts ss i->StB n ts ss k .join
set_option tactic.hygienic true in
def a1y{k:Nat}{s:bZ}(S:StE n ts ss k s):StB n ts ss k s:=by
 let hb:=S.bH;cases s with
 |leaf=>show .leaf (Ma.mp S.len) (dD hb).symm
 |inn v =>
  let⟨i,ei⟩:=Wl S.len;let lt:=S.lt i ();rw[ei]at hb;unfold oE at hb;dsimp only at hb;split at hb
  ·rename_i c;show .inn ei lt c.1.1 c.1.2 c.2.1 (dD hb).symm c.2.2
  ·cases hb
 |tie a b =>
  let⟨i,ei⟩:=Wl S.len;let lt:=S.lt i ();rw[ei]at hb;unfold oE at hb;dsimp only at hb;split at hb
  ·rename_i c;let c2:mZ [a,b] (fZ n ts ss i)=[]:=c.2.1;let mm:∀x∈[a,b],x∈fZ n ts ss i:=λx hx=>by
    cases d:decide (x∈fZ n ts ss i)with
    |true=>grind
    |false =>
     let:x∈mZ [a,b] (fZ n ts ss i):=jQ.mpr ⟨hx,by rw[d];rfl⟩;grind
   show .tie ei lt c.1 (mm a (by simp)) (mm b (by simp)) (dD hb).symm
  ·cases hb
 |out v =>
  let⟨i,ei⟩:=Wl S.len;let lt:=S.lt i ();rw[ei]at hb;unfold oE at hb;dsimp only at hb;split at hb
  ·rename_i c;show .out ei lt c.1 (dD hb).symm c.2
  ·cases hb
 |join =>
  let⟨i,j,ei⟩:=two_of S.len;let lt:=S.lt i (by rw[ei];simp);let lt':=S.lt j (by rw[ei];simp);rw[ei]at hb;unfold oE at hb;dsimp only at hb;split at hb
  ·rename_i c;show .join ei lt lt' c (dD hb).symm
  ·cases hb
def Rx(dB:n<=10)(all:∀(k:Nat) (s:bZ),ss[k]?=some s->StB n ts ss k s):∀k,k<ss.length->(fZ n ts ss k).Pairwise (· < ·)/\∀v∈fZ n ts ss k,0<=v/\v<(n:Int):=by
 intro k
 induction k using Nat.strongRecOn with
 |_ k ih =>
  intro kl;let S:=all k _ (bC kl);generalize ss[k]=s at S;cases S with
  |leaf _ e=>rw[e];show⟨.nil,λv h=>absurd h eO⟩
  | @inn i v _ lt v0 vn _ e _ =>
   rw[e];show⟨vW _,λx hx=>?_⟩;let:=(xV.mp hx).2.2;rcases dw this with h|h
   ·show(ih i lt ()).2 x h
   ·rw[bG.mp h];show⟨v0,vn⟩
  | @tie i a b _ lt _ _ _ e=>rw[e];show ih i lt ()
  | @out i v _ lt _ e _ =>
   rw[e];let:=ih i lt ();show⟨this.1.filter _,λx hx=>this.2 x (jQ.mp hx).1⟩
  | @join i j _ lt _ _ e=>rw[e];show ih i lt ()
def rE(dB:n<=10){p q:ae}(hp:∀v∈p,0<=v/\v<(n:Int))(hq:∀v∈q,0<=v/\v<(n:Int)){v:Int}:v∈fV p q↔v∈p\/v∈q:=by
 show⟨λh=>dw (xV.mp h).2.2,λh=>xV.mpr ?_⟩;grind
def xY(dB:n<=10){p q:ae}(ap:p.Pairwise (· < ·))(hp:∀v∈p,0<=v/\v<(n:Int))(h:∀v∈q,v∈p):fV p q=p/\fV q p=p:=by
 let hq:=λv hv=>hp v (h v hv);show⟨vV (vW _) ap λv=>?_,vV (vW _) ap λv=>?_⟩
 ·rw[rE dB hp hq];show⟨λz=>z.elim id (h v),.inl⟩
 ·rw[rE dB hq hp];show⟨λz=>z.elim (h v) id,.inr⟩
def BR{b:ae}(h:b.Pairwise (· < ·)):b.Nodup:=h.imp λh=>by omega
def a1z(dB:n<=10){p:ae}{v:Int}(ap:p.Pairwise (· < ·))(hp:∀v∈p,0<=v/\v<(n:Int))(hv:0<=v/\v<(n:Int))(h:v∉p):(fV p [v]).length=p.length+1:=by
 let:(fV p [v]).Perm (v::p):=(Gr (BR (vW _)) (jb.mpr ⟨h,BR ap⟩)).mpr λx=>by
  show x∈fV p [v]↔_;rw[show x∈fV p [v]↔x∈p\/x∈[v]from rE dB hp (λy hy=>by rw[bG.mp hy];show hv)];simp[or_comm]
 rw[this.length_eq];rfl
def a1A{p:ae}{v:Int}(ap:p.Pairwise (· < ·))(h:v∈p):(mZ p [v]).length+1=p.length:=by
 let:(mZ p [v]).Perm (p.erase v):=(Gr ((BR ap).filter _) ((BR ap).erase v)).mpr λx=>by
  rw[(BR ap).mem_erase_iff,jQ];simp[and_comm]
 rw[this.length_eq,à h];grind
theorem Ry(go:∀i,i<=ss.length->(aU n ts ss i).2=true)(dB:n<=10):∀i,i<=ss.length->(aU n ts ss i).1.pile.Pairwise (· < ·)
 |0,_=>.nil
 |i+1,il=>by
  let S:=zE (n:=n) (ts:=ts) go dB (List.getElem?_eq_getElem (show i<ss.length by omega))
  let I:=jo dB (go i ())
  rw[S.pile]
  show Mj.mpr ⟨(Ry go dB i ()).sublist (Mu _ _),tR _ _,λa ha b hb=>?_⟩
  rw[bG.mp hb]
  show I.lt a (lQ ha)
end
end Go
namespace Go
section
variable{κ:Type} [DecidableEq κ]
variable{n:Nat}{ts:ar}{ss:ax}
abbrev Ez(pq:PQ κ)(n:Nat)(ts:ar)(ss:ax)(k:Nat):List cu:=JV pq ss (cA n ts ss).aQ (cA n ts ss).dH k
def O5(pq:PQ κ){k j:Nat}(h:j<k):(Ez pq n ts ss (k+1)).getD j []=(Ez pq n ts ss k).getD j []:=by
 show(Ez pq n ts ss k++[_]).getD j []=_;rw[fB,yE (by rw[mH];show h),<-fB]
def O6(pq:PQ κ)(k:Nat):(Ez pq n ts ss (k+1)).getD k []=JT pq (cA n ts ss).aQ (Ez pq n ts ss k) (ss.getD k .leaf) (fZ n ts ss k) (qy n ts ss k):=by
 show(Ez pq n ts ss k++[_]).getD k []=_;rw[fB,wI (by rw[mH];grind),mH,yO];rfl
theorem O7(pq:PQ κ){j:Nat}:∀{k:Nat},j<k->(Ez pq n ts ss k).getD j []=(Ez pq n ts ss (j+1)).getD j []
 |0,h=>absurd h (wQ _)
 |k+1,h=>by
  by_cases c:j=k
  ·rw[c]
  ·rw[O5 pq (show j<k by omega)]
   show O7 pq ()
structure GoI(pq:PQ κ)(n:Nat)(ts:ar)(ss:ax)(k:Nat):Prop where
 ok:∀j,j<k->yC pq (fZ n ts ss j).length ((Ez pq n ts ss k).getD j [])
 cost:∃c:Nat->Nat,(∀j,j<k->dI ((Ez pq n ts ss k).getD j [])<=16^c j)/\((aU n ts ss k).1.pile.map c).sum<=k
theorem ŗ{c:Nat->Nat}:∀{l:ay}{i:Nat},i∈l->c i<=(l.map c).sum
 |a::l,i,h=>by
  rw[b8,vD]
  rcases bQ.mp h with h|h
  ·rw[h];omega
  ·let:=ŗ (c:=c) h
   omega
theorem a6J:∀{T:cu}{x:dU×gC},x∈T->x.2.m.natAbs<=dI T
 |y::T,x,h=>by
  let e:dI (y::T)=y.2.m.natAbs+dI T:=by unfold dI;grind
  rw[e]
  rcases bQ.mp h with h|h
  ·rw[h];omega
  ·let:=a6J h
   omega
def Rz(h:dI T<=16^c)(l:c<=800):Ip T:=λx hx=>by
 let h1:=a6J hx;let e:(16:Nat)^c=2^(4*c):=by rw[Nat.pow_mul]
 let:(2:Nat)^(4*c)<2^4000:=Nat.pow_lt_pow_right () ();omega
def rW{B:ae}{v:Int}(h:v∈B):B.idxOf v<B.length:=Gq h
def Jl(Qn:JN P w K mg base κ)(pk:Jg Qn.pq){aQ:List (ae)}{cQ:List cu}{jN:bZ}{bH:ae}{i:Nat}(nj:jN≠.join)(il:i<cQ.length)(hT:yC Qn.pq (aQ.getD i []).length (cQ.getD i []))(m4:(aQ.getD i []).length<=4)(b4:bH.length<=4)(fit:Gh Qn jN (fV bH (aQ.getD i [])) (aQ.getD i []).length)
  (hb:∀s,Qn.pq.Ok (aQ.getD i []).length s->(V8 Qn.pq s jN (fV bH (aQ.getD i []))).length<=4/\∀x∈V8 Qn.pq s jN (fV bH (aQ.getD i [])),Qn.pq.Ok bH.length x.1):yZ Qn aQ cQ jN bH [i]/\yC Qn.pq bH.length (JT Qn.pq aQ cQ jN bH [i])/\dI (JT Qn.pq aQ cQ jN bH [i])<=4*dI (cQ.getD i []):=by
 let l9:=hT.len pk m4;let⟨h1,h2⟩:=Jh (pq:=Qn.pq) (jN:=jN) (B:=fV bH (aQ.getD i [])) (S:=cQ.getD i []) yC.nil hT.ok hb;show⟨⟨nj,il,hT.ok,fit,(),ZM pk b4 hT.ok hb⟩,h1,?_⟩;let e:dI []=0:=rfl;rw[e,Nat.zero_add]at h2;show h2
def two_step(Qn:JN P w K mg base κ)(pk:Jg Qn.pq){aQ:List (ae)}{cQ:List cu}{bH:ae}{i j m ci cj:Nat}(il:i<cQ.length)(jl:j<cQ.length)(nij:i≠j)(em:bH.length=m)(m4:m<=4)(hi:yC Qn.pq m (cQ.getD i []))(hj:yC Qn.pq m (cQ.getD j []))(si:dI (cQ.getD i [])<=16^ci)(sj:dI (cQ.getD j [])<=16^cj)(li:ci<=800)(lj:cj<=800):yZ Qn aQ cQ .join bH [i,j]/\yC Qn.pq bH.length (JT Qn.pq aQ cQ .join bH [i,j])/\dI (JT Qn.pq aQ cQ .join bH [i,j])<=4*(dI (cQ.getD i [])*dI (cQ.getD j [])):=by
 let l1:=hi.len pk m4;let l2:=hj.len pk m4;let⟨h1,h2⟩:=O3 pk (A:=cQ.getD j []) hj.ok (S:=cQ.getD i []) yC.nil hi.ok;show⟨⟨Z,il,jl,nij,m,(),hi.ok,hj.ok,hj.nd,(),l2,Rz si li,Rz sj lj,Ŗ pk m4 hj.ok hi.ok⟩,by rw[em];show h1,?_⟩;let e:dI []=0:=rfl;rw[e,Nat.zero_add]at h2;show h2
def pow_step{x:Nat}(h:x<=16^c):4*x<=16^(1+c):=by
 rw[Nat.pow_add];let:(16:Nat)^1=16:=rfl;rw[this];omega
def Yl(Qn:JN P w K mg base κ)(pk:Jg Qn.pq)(hPl:∀k:Nat,k<Qn.n->Qn.Pl k)(hTi:∀t∈Qn.ts,Qn.Ti t)(ne:∀t∈Qn.ts,t.1≠t.2)(dB:Qn.n<=10)(l8:ss.length<=800)(sO:Bq Qn.n Qn.ts ss (cA Qn.n Qn.ts ss)=.ok)(b4:∀b∈(cA Qn.n Qn.ts ss).aQ,b.length<=4){k:Nat}(kl:k<ss.length)(I:GoI Qn.pq Qn.n Qn.ts ss k):yZ Qn (cA Qn.n Qn.ts ss).aQ (Ez Qn.pq Qn.n Qn.ts ss k) (ss.getD k .leaf) (fZ Qn.n Qn.ts ss k) (qy Qn.n Qn.ts ss k)/\GoI Qn.pq Qn.n Qn.ts ss (k+1):=by
 let go:=Œ dB sO;let RI:=xX dB sO;let all:∀(k:Nat) (s:bZ),ss[k]?=some s->StB Qn.n Qn.ts ss k s:=λk s h=>a1y (zE go dB h);let tp:=Rx dB all;let t4:∀j,j<ss.length->(fZ Qn.n Qn.ts ss j).length<=4:=λj hj=>by
  let hl:j<(cA Qn.n Qn.ts ss).aQ.length:=by rw[RI.tl];show hj
  let e:fZ Qn.n Qn.ts ss j=(cA Qn.n Qn.ts ss).aQ[j]:=by
   show(cA Qn.n Qn.ts ss).aQ.getD j []=_;rw[fB,bC hl];rfl
  rw[e];show b4 _ (mO hl)
 let hs:=bC kl;let S:=zE (n:=Qn.n) (ts:=Qn.ts) go dB hs;let SB:=a1y S;let es:=getD_at hs;let⟨c,hc,hsum⟩:=I.cost;let c8:∀i∈qy Qn.n Qn.ts ss k,c i<=800:=λi hi=>by
  let:c i<=_:=ŗ (c:=c) (l:=(aU Qn.n Qn.ts ss k).1.pile) (by rw[S.feed]at hi;show yI hi);omega
 suffices h:yZ Qn (cA Qn.n Qn.ts ss).aQ (Ez Qn.pq Qn.n Qn.ts ss k) (ss.getD k .leaf) (fZ Qn.n Qn.ts ss k) (qy Qn.n Qn.ts ss k)/\yC Qn.pq (fZ Qn.n Qn.ts ss k).length (JT Qn.pq (cA Qn.n Qn.ts ss).aQ (Ez Qn.pq Qn.n Qn.ts ss k) (ss.getD k .leaf) (fZ Qn.n Qn.ts ss k) (qy Qn.n Qn.ts ss k))/\dI (JT Qn.pq (cA Qn.n Qn.ts ss).aQ (Ez Qn.pq Qn.n Qn.ts ss k) (ss.getD k .leaf) (fZ Qn.n Qn.ts ss k) (qy Qn.n Qn.ts ss k))<=16^(1+((qy Qn.n Qn.ts ss k).map c).sum) by
  let⟨h1,h2,h3⟩:=h;show⟨h1,⟨λj hj=>?_,λj=>if j=k then 1+((qy Qn.n Qn.ts ss k).map c).sum else c j,λj hj=>?_,?_⟩⟩
  ·by_cases e:j=k
   ·rw[e,O6];show h2
   ·rw[O5 _ ()];show I.ok j ()
  ·show dI _<=16^(if j=k then 1+((qy Qn.n Qn.ts ss k).map c).sum else c j);by_cases e:j=k
   ·rw[aB e,e,O6];show h3
   ·rw[aA e,O5 _ ()];show hc j ()
  ·let Z97:=jo dB (go k ());rw[S.pile,dz,List.sum_append];let e1:((aU Qn.n Qn.ts ss k).1.pile.take (dW ss[k] (aU Qn.n Qn.ts ss k).1)).map (λj=>if j=k then 1+((qy Qn.n Qn.ts ss k).map c).sum else c j)=((aU Qn.n Qn.ts ss k).1.pile.take (dW ss[k] (aU Qn.n Qn.ts ss k).1)).map c:=vq λj hj=>aA (by let:=Z97.lt j (lQ hj);omega);let e2:([k].map λj=>if j=k then 1+((qy Qn.n Qn.ts ss k).map c).sum else c j).sum=1+((qy Qn.n Qn.ts ss k).map c).sum:=by
    show(if k=k then 1+((qy Qn.n Qn.ts ss k).map c).sum else c k)+0=_;rw[aB Z,Nat.add_zero]
   rw[e1,e2,S.feed];let e3:((aU Qn.n Qn.ts ss k).1.pile.map c).sum=(((aU Qn.n Qn.ts ss k).1.pile.take (dW ss[k] (aU Qn.n Qn.ts ss k).1)).map c).sum+(((aU Qn.n Qn.ts ss k).1.pile.drop (dW ss[k] (aU Qn.n Qn.ts ss k).1)).map c).sum:=by
    rw[<-List.sum_append,<-dz,tW]
   omega
 rw[es];let lk:(Ez Qn.pq Qn.n Qn.ts ss k).length=k:=mH _ _ _ _ k;let pa:=Ry (n:=Qn.n) (ts:=Qn.ts) go dB k ();let fd:=S.feed;let⟨ak,bk⟩:=tp k kl;let k4:=t4 k kl;generalize ss[k]=s at SB fd ⊢;cases SB with
 |leaf ef et =>
  rw[ef,et];show⟨trivial,⟨tR _ _,λx hx=>?_⟩,by show 1<=16^1;decide⟩;rw[bG.mp hx];show pk.leaf
 | @inn i v ef lt v0 vn nv et _ =>
  let⟨ai,bi⟩:=tp i ();let ci:=hc i lt;let e1:fV (fZ Qn.n Qn.ts ss k) (fZ Qn.n Qn.ts ss i)=fZ Qn.n Qn.ts ss k:=(xY dB ak bk λx hx=>by rw[et];show(rE dB bi λy hy=>by rw[bG.mp hy];show⟨v0,vn⟩).mpr (.inl hx)).1;let e2:(fZ Qn.n Qn.ts ss k).length=(fZ Qn.n Qn.ts ss i).length+1:=by rw[et];show a1z dB ai bi ⟨v0,vn⟩ nv
  let vk:v∈fZ Qn.n Qn.ts ss k:=by rw[et];show(rE dB bi λy hy=>by rw[bG.mp hy];show⟨v0,vn⟩).mpr (.inr (vo v))
  rw[ef];let⟨h1,h2,h3⟩:=Jl Qn pk (aQ:=(cA Qn.n Qn.ts ss).aQ) (cQ:=Ez Qn.pq Qn.n Qn.ts ss k) (jN:=.inn v) (bH:=fZ Qn.n Qn.ts ss k) (i:=i) (λz=>by cases z) () (I.ok i lt) (t4 i ()) k4 (by
   rw[e1];show⟨⟨v.toNat,()⟩,vk,e2,t4 i ()⟩) (λs hs=>by
   rw[e1];let q:(fZ Qn.n Qn.ts ss k).idxOf v<(fZ Qn.n Qn.ts ss i).length+1:=by rw[<-e2];show rW vk
   let⟨g1,g2⟩:=pk.inn (p:=(fZ Qn.n Qn.ts ss k).idxOf v) (v:=v.toNat) hs (Nat.le_of_lt_succ q);show⟨g1,λx hx=>by rw[e2];show g2 x hx⟩)
  show⟨h1,h2,cF h3 (pow_step (by rw[Ub,Uc];show ci))⟩
 | @tie i a b ef lt ht ma mb et =>
  let⟨ai,bi⟩:=tp i ();let ci:=hc i lt;let e1:fV (fZ Qn.n Qn.ts ss k) (fZ Qn.n Qn.ts ss i)=fZ Qn.n Qn.ts ss i:=by rw[et];show(xY dB ai bi λ_ h=>h).1
  rw[ef];let⟨h1,h2,h3⟩:=Jl Qn pk (aQ:=(cA Qn.n Qn.ts ss).aQ) (cQ:=Ez Qn.pq Qn.n Qn.ts ss k) (jN:=.tie a b) (bH:=fZ Qn.n Qn.ts ss k) (i:=i) (λz=>by cases z) () (I.ok i lt) (t4 i ()) k4 (by
   rw[e1];show⟨ma,mb,ne _ ht,Z,t4 i (),hTi _ ht⟩) (λs hs=>by
   rw[e1,et];show pk.tie hs (rW ma) (rW mb))
  show⟨h1,h2,cF h3 (pow_step (by rw[Ub,Uc];show ci))⟩
 | @out i v ef lt mv et _ =>
  let⟨ai,bi⟩:=tp i ();let ci:=hc i lt;let e1:fV (fZ Qn.n Qn.ts ss k) (fZ Qn.n Qn.ts ss i)=fZ Qn.n Qn.ts ss i:=(xY dB ai bi λx hx=>by rw[et]at hx;show(jQ.mp hx).1).2;let e2:(fZ Qn.n Qn.ts ss k).length+1=(fZ Qn.n Qn.ts ss i).length:=by rw[et];show a1A ai mv
  let bv:=bi v mv;rw[ef];let⟨h1,h2,h3⟩:=Jl Qn pk (aQ:=(cA Qn.n Qn.ts ss).aQ) (cQ:=Ez Qn.pq Qn.n Qn.ts ss k) (jN:=.out v) (bH:=fZ Qn.n Qn.ts ss k) (i:=i) (λz=>by cases z) () (I.ok i lt) (t4 i ()) k4 (by
   rw[e1];show⟨⟨v.toNat,(),hPl _ ()⟩,mv,Z,t4 i ()⟩) (λs hs=>by
   rw[e1];let hs':Qn.pq.Ok ((fZ Qn.n Qn.ts ss k).length+1) s:=by rw[e2];show hs
   show pk.out hs' (by rw[e2];show rW mv) (by rw[e2];show t4 i ()))
  show⟨h1,h2,cF h3 (pow_step (by rw[Ub,Uc];show ci))⟩
 | @join i j ef lt lt' eij et =>
  let nij:i≠j:=λz=>by
   let pd:=pa.sublist (List.drop_sublist (dW .join (aU Qn.n Qn.ts ss k).1) _);rw[<-fd,ef]at pd;let:=(tY.mp pd).1 j (vo j);omega
  let ci:=hc i lt;let cj:=hc j lt';let c1:=c8 i (by rw[ef];simp);let c2:=c8 j (by rw[ef];simp);let oi:=I.ok i lt;let oj:=I.ok j lt';rw[<-et]at oi;rw[<-eij,<-et]at oj;rw[ef];let⟨h1,h2,h3⟩:=two_step Qn pk (aQ:=(cA Qn.n Qn.ts ss).aQ) (cQ:=Ez Qn.pq Qn.n Qn.ts ss k) (bH:=fZ Qn.n Qn.ts ss k) () () nij Z k4 oi oj ci cj c1 c2;show⟨h1,h2,cF h3 (pow_step ?_)⟩;let e4:([i,j].map c).sum=c i+c j:=by
   show c i+(c j+0)=_;omega
  rw[e4,Nat.pow_add];show Nat.mul_le_mul ci cj
theorem Wm(Qn:JN P w K mg base κ)(pk:Jg Qn.pq)(hPl:∀k:Nat,k<Qn.n->Qn.Pl k)(hTi:∀t∈Qn.ts,Qn.Ti t)(ne:∀t∈Qn.ts,t.1≠t.2)(dB:Qn.n<=10)(l8:ss.length<=800)(sO:Bq Qn.n Qn.ts ss (cA Qn.n Qn.ts ss)=.ok)(b4:∀b∈(cA Qn.n Qn.ts ss).aQ,b.length<=4):∀k,k<=ss.length->GoI Qn.pq Qn.n Qn.ts ss k
 |0,_=>⟨λj h=>absurd h (wQ _),λ_=>0,λj h=>absurd h (wQ _),aK _⟩
 |k+1,h=>(Yl Qn pk hPl hTi ne dB l8 sO b4 () (Wm Qn pk hPl hTi ne dB l8 sO b4 k ())).2
def Ď(Qn:JN P w K mg base κ)(pk:Jg Qn.pq)(hPl:∀k:Nat,k<Qn.n->Qn.Pl k)(hTi:∀t∈Qn.ts,Qn.Ti t)(ne:∀t∈Qn.ts,t.1≠t.2)(dB:Qn.n<=10)(l8:ss.length<=800)(sO:Bq Qn.n Qn.ts ss (cA Qn.n Qn.ts ss)=.ok)(b4:∀b∈(cA Qn.n Qn.ts ss).aQ,b.length<=4) :
  (∀k,k<ss.length->yZ Qn (cA Qn.n Qn.ts ss).aQ (JV Qn.pq ss (cA Qn.n Qn.ts ss).aQ (cA Qn.n Qn.ts ss).dH k) (ss.getD k .leaf) ((cA Qn.n Qn.ts ss).aQ.getD k []) ((cA Qn.n Qn.ts ss).dH.getD k []))/\
  (∀T∈JV Qn.pq ss (cA Qn.n Qn.ts ss).aQ (cA Qn.n Qn.ts ss).dH ss.length,T.length<=900/\(T.map (·.1)).Nodup):=by
 let A:=Wm Qn pk hPl hTi ne dB l8 sO b4;show⟨λk hk=>(Yl Qn pk hPl hTi ne dB l8 sO b4 hk (A k ())).1,λT hT=>?_⟩;let⟨j,hj,e⟩:=qC hT;rw[mH]at hj;let h:=(A ss.length (aK _)).ok j hj;let e2:(Ez Qn.pq Qn.n Qn.ts ss ss.length).getD j []=T:=by
  rw[fB,bC (by rw[mH];show hj),<-e];rfl
 rw[e2]at h;let RI:=xX dB sO;let hl:j<(cA Qn.n Qn.ts ss).aQ.length:=by rw[RI.tl];show hj
 show⟨h.len pk ?_,h.nd⟩;show((cA Qn.n Qn.ts ss).aQ.getD j []).length<=4;rw[fB,bC hl];show b4 _ (mO hl)
end
end Go
namespace Lk
def a6K:((List.range 4).all λm=>(Sts m).all λs=>(List.range (m+1)).all λp=>qY (m+1) (zA s (p+1) 0)&&(eE s 0 != 0||qY (m+1) (0::iC (zA s.tail p (s.length:Int)))))=true:=by decide
def a6L:((List.range 5).all λm=>(Sts m).all λs=>(List.range m).all λa=>(List.range m).all λb=>qY m (0::iC (JD s.tail a b)))=true:=by decide
def a6M:((List.range 5).all λm=>(Sts m).all λs=>(List.range m).all λp=>qY (m-1) (s.take 1++iC (qu s.tail p))&&((qu s.tail p).any (λx=>decide (x≠0))||qY (m-1) (1::qu s.tail p)))=true:=by decide
def a8m:((List.range 5).all λm=>(Sts m).all λs=>(Sts m).all λt=>(jnL s t).all λx=>qY m x)=true:=by decide
def a6N:((List.range 5).all λm=>decide ((Sts m).length<=900))=true:=by decide
def pig [DecidableEq α] {l U:List α} (nd:l.Nodup) (h:∀x∈l,x∈U):l.length<=U.length:=by
 induction l generalizing U with
 |nil=>grind
 |cons a r ih =>
  let⟨n1,n2⟩:=jb.mp nd;let am:=h a bh;let:=ih (U:=U.erase a) n2 λx hx=>(Tz λe=>n1 ()).mpr (h x (bM _ hx));grind
def a4x(s t:dU):(jnL s t).length<=1:=by
 unfold jnL jnO;grind
end Lk
def okL(cQ:ae)(cost:Int×Int->Int):Jg (Jf cQ cost) where
 leaf:=λ_=>by show Lk.qY 0 [0]=true;decide
 inn:=λ{m s p v} h hp=>by
  let g:m+1<=4->_:=λh4=>g8.mp (Lk.Je Lk.a6K (show m<4 by omega) (h ())) p (fX.mpr ())
  show((if(v:Int)∈cQ then []else [(zA s (p+1) 0,(0:Int))])++if eE s 0=0 then [(0::Lk.iC (zA s.tail p (s.length:Int)),0)]else []).length<=4/\∀x∈((if(v:Int)∈cQ then []else [(zA s (p+1) 0,(0:Int))])++if eE s 0=0 then [(0::Lk.iC (zA s.tail p (s.length:Int)),0)]else []),m+1<=4->Lk.qY (m+1) x.1=true
  grind
 tie:=λ{m s a b t} h ha hb=>by
  show((s,(0:Int))::if 0<eE s (a+1)/\0<eE s (b+1)/\eE s (a+1)≠eE s (b+1)then [(0::Lk.iC (Lk.JD s.tail a b),cost t)]else []).length<=4/\∀x∈((s,(0:Int))::if 0<eE s (a+1)/\0<eE s (b+1)/\eE s (a+1)≠eE s (b+1)then [(0::Lk.iC (Lk.JD s.tail a b),cost t)]else []),m<=4->Lk.qY m x.1=true
  show⟨(),λx hx m4=>?_⟩
  rcases bQ.mp hx with z|z
  ·rw[z];show h m4
  ·split at z
   ·rw[bG.mp z]
    show g8.mp (g8.mp (Lk.Je Lk.a6L (show m<5 by omega) (h m4)) a (fX.mpr ha)) b (fX.mpr hb)
   ·cases z
 out:=λ{m s p v} h hp m4=>by
  let g:=g8.mp (Lk.Je Lk.a6M (show m+1<5 by omega) (h m4)) p (fX.mpr hp)
  rw[fU,Nb,Nat.add_sub_cancel]at g
  show(if eE s (p+1)=0\/eE s (p+1)∈qu s.tail p then [(s.take 1++Lk.iC (qu s.tail p),(0:Int))]else if(qu s.tail p).any (λx=>decide (x≠0))=true then []else [(1::qu s.tail p,0)]).length<=4/\∀x∈(if eE s (p+1)=0\/eE s (p+1)∈qu s.tail p then [(s.take 1++Lk.iC (qu s.tail p),(0:Int))]else if(qu s.tail p).any (λx=>decide (x≠0))=true then []else [(1::qu s.tail p,0)]),m<=4->Lk.qY m x.1=true
  grind
 jn:=λ{m s t} h h'=>⟨cF (Lk.a4x s t) (),λx hx m4=>g8.mp (g8.mp (Lk.Je Lk.a8m (show m<5 by omega) (h m4)) t (Lk.O1 (h' m4))) x hx⟩
 fin:=λ{m l} m4 nd h=>by
  let g:=dw (g8.mp Lk.a6N m (fX.mpr ()))
  show cF (Lk.pig nd λs hs=>Lk.O1 (h s hs m4)) g
def getD_at{ss:ax}{i:Nat}{s:bZ}(h:ss[i]?=some s):ss.getD i .leaf=s:=by
 rw[fB,h];rfl
def O8{ss:ax}{i:Nat}{s:bZ}(h:ss[i]?=some s):ss.take (i+1)=ss.take i++[s]:=by
 let⟨il,e⟩:=eG.mp h;rw[yD il,e]
structure Kp where
 P:List (ae)
 G:ae
 B:ar
variable{κ:Kp}
def Kp.top(κ:Kp):ae:=κ.P.getLastD []
def Can(n:Nat)(ts:ar)(κ:Kp):bZ->Prop
 |.leaf=>True
 |.inn v=>κ.P≠[]/\(0<=v/\v<(n:Int))/\v∉κ.top/\v∉κ.G
 |.tie a b=>κ.P≠[]/\(a,b)∈ts/\(a,b)∉κ.B/\a∈κ.top/\b∈κ.top
 |.out v=>κ.P≠[]/\v∈κ.top/\v∉κ.G
 |.join=>1<κ.P.length/\κ.top.Perm (κ.P.getD (κ.P.length-2) [])
noncomputable def J6(κ:Kp):bZ->Kp
 |.leaf=>{ κ with P:=κ.P++[[]]}
 |.inn v=>{ κ with P:=κ.P.dropLast++[κ.top++[v]]}
 |.tie a b=>{ κ with B:=κ.B++[(a,b)]}
 |.out v=>{ κ with P:=κ.P.dropLast++[κ.top.erase v],G:=κ.G++[v]}
 |.join=>{ κ with P:=κ.P.dropLast}
structure KOk(n c:Nat)(κ:Kp):Prop where
 nd:∀b∈κ.P,b.Nodup/\∀v∈b,0<=v/\v<(n:Int)
 pl:κ.P.length<=c
 gl:κ.G.length<=c
 bl:κ.B.length<=c
def rF{P:List (ae)}(h:P≠[]):P=P.dropLast++[P.getLastD []]:=by
 let e:=(List.dropLast_concat_getLast h).symm;grind
def KOk.Wn{n:Nat}(h:KOk n c κ):κ.top.Nodup/\∀v∈κ.top,0<=v/\v<(n:Int):=by
 by_cases e:κ.P=[]
 ·unfold Kp.top;rw[e];show⟨.nil,λv hv=>absurd hv eO⟩
 ·show h.nd _ ?_;let:κ.P.getLastD []∈κ.P.dropLast++[κ.P.getLastD []]:=fQ _ bh
  rwa [<-rF e]at this
def KOk.do{n:Nat}{ts:ar}{s:bZ}(h:KOk n c κ)(hc:Can n ts κ s):KOk n (c+1) (J6 κ s):=by
 let dl:∀b∈κ.P.dropLast,b.Nodup/\∀v∈b,0<=v/\v<(n:Int):=λb hb=>h.nd b ((List.dropLast_sublist _).subset hb);let l1:κ.P.dropLast.length<=c:=by rw[Tw];let:=h.pl;omega
 let h1:=h.pl;let h2:=h.gl;let h3:=h.bl;let cat:∀b:ae,b.Nodup->(∀v∈b,0<=v/\v<(n:Int))->∀x∈κ.P.dropLast++[b],x.Nodup/\∀v∈x,0<=v/\v<(n:Int):=λb hb hv x hx=>by
  rcases cH.mp hx with hx|hx
  ·show dl x hx
  ·rw[bG.mp hx];show⟨hb,hv⟩
 cases s with
 |leaf =>
  show⟨λb hb=>?_,by show(κ.P++[[]]).length<=_;grind,by show κ.G.length<=_;omega,by show κ.B.length<=_;omega⟩;rcases cH.mp hb with hb|hb
  ·show h.nd b hb
  grind
 |inn v =>
  let⟨_,hv,hn,_⟩:=hc;show⟨cat _ ?_ ?_,by show(κ.P.dropLast++[_]).length<=_;grind,by show κ.G.length<=_;omega,by show κ.B.length<=_;omega⟩
  ·rw[uc];show⟨h.Wn.1,by simp,λa ha b hb e=>?_⟩;grind
  ·intro x hx;rcases cH.mp hx with hx|hx
   ·show h.Wn.2 x hx
   ·rw[bG.mp hx];show hv
 |tie a b=>show⟨h.nd,by show κ.P.length<=_;omega,by show κ.G.length<=_;omega,by show(κ.B++[_]).length<=_;rw[bO];show κ.B.length+1<=_;omega⟩
 |out v =>
  show⟨cat _ (h.Wn.1.erase v) (λx hx=>h.Wn.2 x (List.mem_of_mem_erase hx)),by show(κ.P.dropLast++[_]).length<=_;grind,by show(κ.G++[v]).length<=_;grind,by show κ.B.length<=_;omega⟩
 |join=>show⟨dl,by show κ.P.dropLast.length<=_;omega,by show κ.G.length<=_;omega,by show κ.B.length<=_;omega⟩
def a6O{n:Nat}{b:ae}(dB:n<=10)(nd:b.Nodup)(bd:∀v∈b,0<=v/\v<(n:Int)):b.length<=10:=by
 let h1:(b.map Int.toNat).Nodup:=by
  unfold List.Nodup;rw[wL];show(List.pairwise_iff_forall_sublist.mpr λ{x y} hs=>?_);grind
 let h2:=Ro (m:=n) h1 λx hx=>by
  grind
 grind
theorem pY{α β:Type}{R:α->β->Prop}:∀{xs:List α}{ys:List β}{y:β},Paired R xs (ys++[y])->∃xs' x,xs=xs'++[x]/\Paired R xs' ys/\R x y
 | [],ys,y,h=>by
  let:=aW h
  rw[bO]at this
  show absurd this (by show ¬0=ys.length+1;omega)
 |x::r,[],y,h=>by
  cases h with
  |cons h1 h2 =>
   cases h2
   show⟨[],x,Z,.nil,h1⟩
 |x::r,z::ys,y,h=>by
  cases h with
  |cons h1 h2 =>
   let⟨xs',x',e,p,q⟩:=pY h2
   show⟨x::xs',x',by rw[e];rfl,.cons h1 p,q⟩
structure O9(n:Nat)(ts:ar)(ss:ax)(i:Nat)(κ:Kp)(E:ae):Prop where
 go:(aU n ts ss i).2=true
 rel:Paired (λj b=>∀v,v∈(aU n ts ss i).1.aQ.getD j []↔v∈b) (aU n ts ss i).1.pile κ.P
 asc:∀b∈(aU n ts ss i).1.aQ,b.Pairwise (· < ·)
 outs:∀v,bZ.out v∈ss.take i↔v∈κ.G
 ties:∀a b,bZ.tie a b∈ss.take i↔(a,b)∈κ.B
 ins:∀v,bZ.inn v∈ss.take i↔v∈E
 ok:KOk n i κ
def a6P{n:Nat}{ts:ar}{ss:ax}:O9 n ts ss 0 ⟨[],[],[]⟩ [] :=
 ⟨Z,.nil,λb h=>absurd h eO,λv=>by simp,λa b=>by simp,λv=>by simp,⟨λb h=>absurd h eO,aK _,aK _,aK _⟩⟩
def vW(p:Int->Bool):(PN p).Pairwise (· < ·):=by
 unfold PN;show GC _ ?_;rw[wL];show List.pairwise_lt_range.imp λh=>by omega
theorem vV:∀{xs ys:ae},xs.Pairwise (· < ·)->ys.Pairwise (· < ·)->(∀v,v∈xs↔v∈ys)->xs=ys
 | [],[],_,_,_=>rfl
 | [],y::ys,_,_,h=>absurd ((h y).mpr bh) eO
 |x::xs,[],_,_,h=>absurd ((h x).mp bh) eO
 |x::xs,y::ys,hx,hy,h=>by
  rw[tY]at hx hy
  let e:x=y:=by
   rcases bQ.mp ((h x).mp bh)with h1|h1
   ·show h1
   ·rcases bQ.mp ((h y).mpr bh)with h2|h2
    ·show h2.symm
    ·let a:=hy.1 x h1
     let b:=hx.1 y h2
     omega
  subst e
  rw[vV hx.2 hy.2 λv=>⟨λhv=>?_,λhv=>?_⟩]
  ·grind
  grind
def BV{n:Nat}{ts:ar}{ss:ax}{i:Nat}{κ':Kp}{E':ae}{s:bZ}{b:ae}{tM:ay}(dB:n<=10)(D:O9 n ts ss i κ E)(h:ss[i]?=some s)(hn:s.need<=(aU n ts ss i).1.pile.length)(hl:(aU n ts ss i).1.pile.take (dW s (aU n ts ss i).1)=tM)
  (hb:oE n ts (ss.take i) s (qN s (aU n ts ss i).1)=some b) (as:b.Pairwise (· < ·))
  (rel:Paired (λj b=>∀v,v∈(aU n ts ss i).1.aQ.getD j []↔v∈b) tM κ'.P.dropLast) (ne:κ'.P≠[]) (mb:∀v,v∈b↔v∈κ'.top)
  (mo:∀v,bZ.out v∈ss.take (i+1)↔v∈κ'.G) (mt:∀x y,bZ.tie x y∈ss.take (i+1)↔(x,y)∈κ'.B) (mi:∀v,bZ.inn v∈ss.take (i+1)↔v∈E') (ok:KOk n (i+1) κ'):O9 n ts ss (i+1) κ' E':=by
 let d:oG n ts ss i (aU n ts ss i).1=some ⟨(aU n ts ss i).1.aQ++[b],(aU n ts ss i).1.dH++[(aU n ts ss i).1.pile.drop (dW s (aU n ts ss i).1)],tM++[i]⟩:=by
  unfold oG;rw[getD_at h,aB hn,hb,hl];rfl
 let e:=Ŏ D.go d;let I:=jo dB D.go;let tl:=I.tl;show⟨by rw[e],?_,?_,mo,mt,mi,ok⟩
 ·rw[e,rF ne];show d7 ?_ ?_
  ·let lt:∀j∈tM,j<i:=λj hj=>I.lt j (lQ (hl▸hj));let:∀{xs:ay}{ys:List (ae)},(∀j∈xs,j<i)->Paired (λj b=>∀v,v∈(aU n ts ss i).1.aQ.getD j []↔v∈b) xs ys->Paired (λj b'=>∀v,v∈((aU n ts ss i).1.aQ++[b]).getD j []↔v∈b') xs ys:=λ{xs}=>by
    induction xs with
    |nil=>intro ys _ h;cases h;show .nil
    |cons x r ih =>
     intro ys hx h;cases h with
     |cons h1 h2 =>
      show .cons (λv=>?_) (ih (λj hj=>hx j (bM _ hj)) h2);rw[fB,yE (by rw[tl];show hx x bh),<-fB];show h1 v
   show this lt rel
  ·intro v;show v∈((aU n ts ss i).1.aQ++[b]).getD i []↔_;rw[fB,wI (),tl,yO];show mb v
 ·rw[e];intro x hx;rcases cH.mp hx with hx|hx
  ·show D.asc x hx
  ·rw[bG.mp hx];show as
def Gj{n:Nat}{ts:ar}{ss:ax}{i:Nat}(dB:n<=10)(D:O9 n ts ss i κ E)(ne:κ.P≠[]):∃tM j,(aU n ts ss i).1.pile=tM++[j]/\Paired (λj b=>∀v,v∈(aU n ts ss i).1.aQ.getD j []↔v∈b) tM κ.P.dropLast/\(∀v,v∈(aU n ts ss i).1.aQ.getD j []↔v∈κ.top)/\((aU n ts ss i).1.aQ.getD j []).Pairwise (· < ·):=by
 let r:=D.rel;rw[rF ne]at r;let⟨tM,j,e,p,q⟩:=pY r;show⟨tM,j,e,p,q,?_⟩;let I:=jo dB D.go;let jl:j<(aU n ts ss i).1.aQ.length:=by rw[I.tl];show I.lt j (by rw[e];simp)
 rw[fB,bC jl];show D.asc _ (mO jl)
def Jm{s:bZ}{r:RS}{tM:ay}{j:Nat}(h1:s.need=1)(e:r.pile=tM++[j]):s.need<=r.pile.length/\r.pile.take (dW s r)=tM/\qN s r=[r.aQ.getD j []]:=by
 let el:dW s r=tM.length:=by unfold dW;rw[e,h1,bO];show tM.length+1-1=_;omega
 show⟨by rw[h1,e,bO];show 1<=tM.length+1;omega,by rw[el,e,List.take_left],?_⟩;unfold qN;grind
def Jo{P:List (ae)}(h:P≠[]):P.getLastD []∈P:=by
 let:P.getLastD []∈P.dropLast++[P.getLastD []]:=fQ _ bh
 rwa [<-rF h]at this
def RB{P:List (ae)}(l2:1<P.length):P.getD (P.length-2) []=P.dropLast.getLastD []:=by
 grind
def join_split{n:Nat}{ts:ar}{ss:ax}{i:Nat}(dB:n<=10)(D:O9 n ts ss i κ E)(l2:1<κ.P.length):∃tM j1 j2,(aU n ts ss i).1.pile=tM++[j1,j2]/\bZ.join.need<=(aU n ts ss i).1.pile.length/\(aU n ts ss i).1.pile.take (dW .join (aU n ts ss i).1)=tM/\qN .join (aU n ts ss i).1=[(aU n ts ss i).1.aQ.getD j1 [],(aU n ts ss i).1.aQ.getD j2 []]/\Paired (λj b=>∀v,v∈(aU n ts ss i).1.aQ.getD j []↔v∈b) tM κ.P.dropLast.dropLast/\(∀v,v∈(aU n ts ss i).1.aQ.getD j1 []↔v∈κ.P.dropLast.getLastD [])/\(∀v,v∈(aU n ts ss i).1.aQ.getD j2 []↔v∈κ.top)/\((aU n ts ss i).1.aQ.getD j1 []).Pairwise (· < ·)/\((aU n ts ss i).1.aQ.getD j2 []).Pairwise (· < ·)/\κ.P.dropLast≠[]/\κ.P.getD (κ.P.length-2) []=κ.P.dropLast.getLastD []:=by
 let ne:κ.P≠[]:=λz=>by grind
 let ne2:κ.P.dropLast≠[]:=λz=>by
  let:=Tw (xs:=κ.P);grind
 let⟨pl1,j2,e,p,q,as2⟩:=Gj dB D ne;let I:=jo dB D.go;rw[rF ne2]at p;let⟨tM,j1,rfl,p0,q0⟩:=pY p;let e':(aU n ts ss i).1.pile=tM++[j1,j2]:=by rw[e,oM];rfl
 let el:dW .join (aU n ts ss i).1=tM.length:=by unfold dW;rw[e',bO];show tM.length+2-2=_;omega
 let jl:j1<(aU n ts ss i).1.aQ.length:=by rw[I.tl];show I.lt j1 (by rw[e'];simp)
 show⟨tM,j1,j2,e',by rw[e',bO];show 2<=tM.length+2;omega,(),?_,p0,q0,q,?_,as2,ne2,?_⟩
 ·unfold qN;grind
 ·rw[fB,bC jl];show D.asc _ (mO jl)
 ·show RB l2
def a4y{n:Nat}{ts:ar}{ss:ax}{i:Nat}{s:bZ}(dB:n<=10)(D:O9 n ts ss i κ E)(h:ss[i]?=some s)(c:Can n ts κ s):∃E',(E'=match s with |.inn v=>E++[v]|_=>E)/\O9 n ts ss (i+1) (J6 κ s) E':=by
 let tk:=O8 h;let ok:=D.ok.do c
 let mo:∀v,bZ.out v∈ss.take (i+1)↔v∈κ.G\/s=.out v:=λv=>by rw[tk,cH,D.outs,bG,eq_comm]
 let mt:∀a b,bZ.tie a b∈ss.take (i+1)↔(a,b)∈κ.B\/s=.tie a b:=λa b=>by rw[tk,cH,D.ties,bG,eq_comm]
 let mi:∀v,bZ.inn v∈ss.take (i+1)↔v∈E\/s=.inn v:=λv=>by rw[tk,cH,D.ins,bG,eq_comm]
 let dl:∀b:ae,(κ.P.dropLast++[b]).dropLast=κ.P.dropLast:=λb=>Cr;let gl:∀(P:List (ae)) (b:ae),(P++[b]).getLastD []=b:=λP b=>by rw[Û,Ml];rfl
 let ne:∀(P:List (ae)) (b:ae),P++[b]≠[]:=λP b z=>by simp at z
 cases s with
 |leaf =>
  show⟨E,Z,BV dB D h (tM:=(aU n ts ss i).1.pile) (b:=[]) (cW _) ?_ Z .nil ?_ (ne _ _) ?_ ?_ ?_ ?_ ok⟩
  ·show List.take ((aU n ts ss i).1.pile.length-0) _=_;rw[vG,ig]
  ·show Paired _ _ (κ.P++[[]]).dropLast;rw[Cr];show D.rel
  ·intro v;show _↔v∈(κ.P++[[]]).getLastD [];rw[gl]
  ·intro v;rw[mo];simp[J6]
  ·intro a b;rw[mt];simp[J6]
  ·intro v;rw[mi];simp
 |inn v =>
  let⟨hP,hv,hn,hg⟩:=c;let⟨tM,j,e,p,q,as⟩:=Gj dB D hP;let⟨u1,u2,u3⟩:=Jm (s:=.inn v) Z e;show⟨E++[v],Z,BV dB D h (tM:=tM) (b:=fV ((aU n ts ss i).1.aQ.getD j []) [v]) u1 u2 ?_ (vW _) ?_ (ne _ _) ?_ ?_ ?_ ?_ ok⟩
  ·rw[u3];unfold oE;lk;rw[aB ⟨hv,λz=>hn ((q v).mp z),λz=>hg ((D.outs v).mp z)⟩];rfl
  ·show Paired _ _ (κ.P.dropLast++[_]).dropLast;rw[dl];show p
  ·intro x;show _↔x∈(κ.P.dropLast++[κ.top++[v]]).getLastD [];rw[gl];unfold fV;rw[xV,dJ,q,cH];constructor
   ·show λz=>z.2.2
   ·intro z;let bd:=D.ok.Wn.2;show⟨?_,?_,z⟩
    ·rcases z with z|z
     ·show(bd x z).1
     ·rw[bG.mp z];show hv.1
    ·rcases z with z|z
     ·let:=(bd x z).2;omega
     ·rw[bG.mp z];let:=hv.2;omega
  ·intro x;rw[mo];simp[J6]
  ·intro a b;rw[mt];simp[J6]
  ·intro x;rw[mi];simp[eq_comm]
 |tie x y =>
  let⟨hP,ht,hb,h1,h2⟩:=c;let⟨tM,j,e,p,q,as⟩:=Gj dB D hP;let⟨u1,u2,u3⟩:=Jm (s:=.tie x y) Z e;show⟨E,Z,BV dB D h (tM:=tM) (b:=(aU n ts ss i).1.aQ.getD j []) u1 u2 ?_ as p hP q ?_ ?_ ?_ ok⟩
  ·rw[u3];unfold oE;lk;rw[aB]
   ·rfl
   ·show⟨ht,?_,λz=>hb ((D.ties x y).mp z)⟩;unfold mZ;rw[List.filter_eq_nil_iff];intro v hv;let:v∈(aU n ts ss i).1.aQ.getD j []:=by
     rcases bQ.mp hv with rfl|hv
     ·show(q _).mpr h1
     ·rw[bG.mp hv];show(q _).mpr h2
    simpa using this
  ·intro v;rw[mo];simp[J6]
  ·intro a b;rw[mt];simp[J6,eq_comm]
  ·intro v;rw[mi];simp
 |out v =>
  let⟨hP,hv,hg⟩:=c;let⟨tM,j,e,p,q,as⟩:=Gj dB D hP;let⟨u1,u2,u3⟩:=Jm (s:=.out v) Z e;show⟨E,Z,BV dB D h (tM:=tM) (b:=mZ ((aU n ts ss i).1.aQ.getD j []) [v]) u1 u2 ?_ (GC _ as) ?_ (ne _ _) ?_ ?_ ?_ ?_ ok⟩
  ·rw[u3];unfold oE;lk;rw[aB ⟨(q v).mpr hv,λz=>hg ((D.outs v).mp z)⟩];rfl
  ·show Paired _ _ (κ.P.dropLast++[_]).dropLast;rw[dl];show p
  ·intro x;show _↔x∈(κ.P.dropLast++[κ.top.erase v]).getLastD [];rw[gl,D.ok.Wn.1.mem_erase_iff];unfold mZ;rw[jQ,q];simp[and_comm]
  ·intro x;rw[mo];simp[J6,eq_comm]
  ·intro a b;rw[mt];simp[J6]
  ·intro x;rw[mi];simp
 |join =>
  let⟨l2,pm⟩:=c;let⟨tM,j1,j2,e,u1,u2,u3,p,q1,q2,as1,as2,ne2,eg⟩:=join_split dB D l2;let eb:(aU n ts ss i).1.aQ.getD j1 []=(aU n ts ss i).1.aQ.getD j2 []:=vV as1 as2 λv=>by
   rw[q1,q2,<-eg];show(pm.mem_iff).symm
  show⟨E,Z,BV dB D h (tM:=tM) (b:=(aU n ts ss i).1.aQ.getD j1 []) u1 u2 ?_ as1 p ne2 q1 ?_ ?_ ?_ ok⟩
  ·rw[u3];unfold oE;lk;rw[aB]
   ·rfl
   ·show eb
  ·intro v;rw[mo];simp[J6]
  ·intro a b;rw[mt];simp[J6]
  ·intro v;rw[mi];simp
def a1B{n:Nat}{ts:ar}{ss:ax}(dB:n<=10)(D:O9 n ts ss ss.length κ E):(κ.P≠[[]]->Bq n ts ss (cA n ts ss)=.pile)/\(κ.P=[[]]->∀v:Nat,v<n->(∀j:Nat,j<v->(j:Int)∈E)->(v:Int)∉E->Bq n ts ss (cA n ts ss)=.place v)/\(κ.P=[[]]->(∀j:Nat,j<n->(j:Int)∈E)->Bq n ts ss (cA n ts ss)=match ts.find? λt=>!decide (t∈κ.B)with|some t=>.tie t.1 t.2|none=>.ok):=by
 let I:=jo dB D.go;let l1:¬(cA n ts ss).aQ.length<ss.length:=by unfold cA;rw[I.tl];omega
 let l2:K4 (cA n ts ss)=[[]]↔κ.P=[[]]:=by
  let r:=D.rel;unfold K4 cA;generalize (aU n ts ss ss.length).1.pile=pl at *
  generalize (aU n ts ss ss.length).1.aQ=tp at *
  generalize κ.P=P at *
  cases r with
  |nil=>simp
  | @cons x b xs bs h1 h2 =>
   let e:tp.getD x []=[]↔b=[]:=by
    rw[SM,SM];show⟨λh v hv=>h v ((h1 v).mpr hv),λh v hv=>h v ((h1 v).mp hv)⟩
   cases h2 with
   |nil =>
    grind
   |cons h3 h4 =>
    grind
 let ins:∀v,bZ.inn v∈ss↔v∈E:=λv=>by let:=D.ins v;grind
 let tis:∀a b,bZ.tie a b∈ss↔(a,b)∈κ.B:=λa b=>by let:=D.ties a b;grind
 show⟨λh=>?_,λh v hv ok no=>?_,λh ok=>?_⟩
 ·unfold Bq;grind
 ·let ef:(List.range n).find? (λ(v:Nat)=>!decide (bZ.inn (v:Int)∈ss))=some v:=ß.mpr ⟨(),fX.mpr hv,λj hj=>by grind⟩;unfold Bq;grind
 ·let ef:(List.range n).find? (λ(v:Nat)=>!decide (bZ.inn (v:Int)∈ss))=none:=Cw.mpr λj hj=>by grind
  let eg:(λt:Int×Int=>!decide (bZ.tie t.1 t.2∈ss))=λt=>!decide (t∈κ.B):=funext λt=>by grind
  unfold Bq;rw[aA l1,aB (l2.mpr h),ef,eg];try rfl
structure Tb(n m:Nat)(up:Nat->Nat)(bH:Nat->ae):Prop where
 pos:0<m
 ups:∀k,0<k->k<m->up k<k
 nd:∀k,(bH k).Nodup
 lt:∀k,∀v∈bH k,0<=v/\v<(n:Int)
 fr:∀k,0<k->k<m->∀v∈bH k,v∈bH (up k)\/∀j,j<k->v∉bH j
 no:∀k,m<=k->bH k=[]
inductive oH(m:Nat)(up:Nat->Nat)(k:Nat):Nat->Prop
 |self:k<m->oH m up k k
 |step {r:Nat}:0<r->r<m->oH m up k (up r)->oH m up k r
section
variable{n m:Nat}{up:Nat->Nat}{bH:Nat->ae}
def Tb.in_(T:Tb n m up bH){k:Nat}{v:Int}(h:v∈bH k):k<m:=by
 rcases wV k m with c|c
 ·show c
 ·rw[T.no k c]at h;show absurd h eO
def oH.le(T:Tb n m up bH){k r:Nat}(h:oH m up k r):k<=r:=by
 induction h with
 |self=>grind
 |step r0 rm _ ih=>have:=T.ups _ r0 rm;omega
def oH.trans{k j r:Nat}(h1:oH m up k j)(h2:oH m up j r):oH m up k r:=by
 induction h2 with
 |self=>show h1
 |step r0 rm _ ih=>show .step r0 rm ih
def oH.kid(T:Tb n m up bH){k r:Nat}(h:oH m up k r):r=k\/∃j,0<j/\j<m/\up j=k/\oH m up j r:=by
 induction h with
 |self=>show .inl rfl
 | @step r r0 rm _ ih =>
  rcases ih with e|⟨j,a,b,c,d⟩
  ·show .inr ⟨r,r0,rm,e,.self rm⟩
  ·show .inr ⟨j,a,b,c,.step r0 rm d⟩
def oH.cmp{j r:Nat}(h1:oH m up j r)(h2:oH m up j' r):oH m up j j'\/oH m up j' j:=by
 induction h1 with
 |self=>show .inr h2
 | @step r r0 rm h ih =>
  cases h2 with
  |self=>show .inl (.step r0 rm h)
  |step _ _ h'=>show ih h'
def Gk(T:Tb n m up bH){j r:Nat}(j0:0<j)(jm:j<m)(j0':0<j')(jm':j'<m)(e:up j=up j')(h1:oH m up j r)(h2:oH m up j' r):j=j':=by
 let gW:∀{a b:Nat},0<a->a<m->up a=up b->oH m up a b->a=b:=λ{a b} a0 am e h=>by
  cases h with
  |self=>rfl
  |step b0 bm h =>
   rw[<-e]at h;let l1:=h.le T;let l2:=T.ups a a0 am;omega
 rcases h1.cmp h2 with h|h
 ·show gW j0 jm e h
 ·show(gW j0' jm' e.symm h).symm
def vd(T:Tb n m up bH){j:Nat}{v:Int}(h:v∈bH j)(fr:j=0\/v∉bH (up j)):∀q,v∈bH q->oH m up j q:=by
 let jm:=T.in_ h;let no:∀i,i<j->v∉bH i:=λi hi=>by
  rcases fr with e|e
  ·omega
  ·rcases T.fr j () jm v h with z|z
   ·show absurd z e
   ·show z i hi
 intro q
 induction q using Nat.strongRecOn with
 |ind q ih =>
  intro hq;let qm:=T.in_ hq;by_cases c:q=j
  ·rw[c];show .self jm
  ·let lj:j<q:=by
    grind
   rcases T.fr q () qm v hq with z|z
   ·show .step () qm (ih _ (T.ups q () qm) z)
   ·show absurd h (z j lj)
def conn(T:Tb n m up bH){j r:Nat}{v:Int}(b:oH m up j r)(h:v∈bH r):(v∈bH j/\v∈bH (up j))\/∀q,v∈bH q->oH m up j q:=by
 induction b with
 |self jm =>
  by_cases c:v∈bH (up j)
  ·show .inl ⟨h,c⟩
  ·show .inr (vd T h (.inr c))
 | @step r r0 rm b ih =>
  by_cases c:v∈bH (up r)
  ·show ih c
  ·show .inr λq hq=>oH.trans (.step r0 rm b) (vd T h (.inr c) q hq)
def Jp(m:Nat)(up:Nat->Nat)(bH:Nat->ae)(k:Nat)(v:Int):Prop:=∃r,oH m up k r/\v∈bH r
def Ř(T:Tb n m up bH){j:Nat}{v:Int}(j0:0<j)(jm:j<m)(h:Jp m up bH j v)(hu:v∈bH (up j)):v∈bH j:=by
 let⟨r,b,hr⟩:=h;rcases conn T b hr with z|z
 ·show z.1
 ·let l1:=(z _ hu).le T;let l2:=T.ups j j0 jm;omega
def a1C(T:Tb n m up bH){j:Nat}{v:Int}(j0:0<j)(jm:j<m)(j0':0<j')(jm':j'<m)(e:up j=up j')(ne:j≠j')(h:Jp m up bH j v)(h':Jp m up bH j' v):v∈bH (up j):=by
 let⟨r,b,hr⟩:=h;let⟨r',b',hr'⟩:=h';rcases conn T b hr with z|z
 ·show z.2
 ·show absurd (Gk T j0 jm j0' jm' e (z _ hr') b') ne
def RD(T:Tb n m up bH):∀r,r<m->oH m up 0 r:=by
 intro r
 induction r using Nat.strongRecOn with
 |ind r ih =>
  intro rm;by_cases c:r=0
  ·rw[c];show .self T.pos
  ·let:=T.ups r () rm;show .step () rm (ih _ this ())
def jg(up:Nat->Nat)(bH:Nat->ae)(r:Nat)(t:Int×Int):Prop:=t.1∈bH r/\t.2∈bH r/\(r=0\/¬(t.1∈bH (up r)/\t.2∈bH (up r)))
instance (up:Nat->Nat) (bH:Nat->ae) (r:Nat) (t:Int×Int):Decidable (jg up bH r t):=by unfold jg;infer_instance
def RG(T:Tb n m up bH){r:Nat}{t:Int×Int}(h:jg up bH r t):∀q,t.1∈bH q->t.2∈bH q->oH m up r q:=by
 let⟨h1,h2,h3⟩:=h;intro q q1 q2;rcases h3 with e|e
 ·show vd T h1 (.inl e) q q1
 ·by_cases c:t.1∈bH (up r)
  ·show vd T h2 (.inr λz=>e ⟨c,z⟩) q q2
  ·show vd T h1 (.inr c) q q1
def vf(T:Tb n m up bH){r r':Nat}{t:Int×Int}(h:jg up bH r t)(h':jg up bH r' t):r=r':=by
 let l1:=(RG T h r' h'.1 h'.2.1).le T;let l2:=(RG T h' r h.1 h.2.1).le T;omega
def a1D(T:Tb n m up bH){t:Int×Int}:∀q,t.1∈bH q->t.2∈bH q->∃r,r<m/\jg up bH r t:=by
 intro q
 induction q using Nat.strongRecOn with
 |ind q ih =>
  intro q1 q2;let qm:=T.in_ q1;by_cases c:q=0
  ·show⟨q,qm,q1,q2,.inl c⟩
  ·by_cases d:t.1∈bH (up q)/\t.2∈bH (up q)
   ·show ih _ (T.ups q () qm) d.1 d.2
   ·show⟨q,qm,q1,q2,.inr d⟩
end
def Fp(κ:Kp)(ss:ax):Kp:=ss.foldl J6 κ
def rZ(n wd:Nat)(ts:ar):Kp->ax->Prop
 |_,[]=>True
 |κ,s::r=>(Can n ts κ s/\(J6 κ s).top.length<=wd)/\rZ n wd ts (J6 κ s) r
section
variable{n:Nat}{ts:ar}
def mK(κ:Kp)(a b:ax):Fp κ (a++b)=Fp (Fp κ a) b:=List.foldl_append
theorem nU:∀{κ:Kp}{a b:ax},rZ n wd ts κ a->rZ n wd ts (Fp κ a) b->rZ n wd ts κ (a++b)
 |_,[],_,_,h=>h
 |_,_::_,_,h,h'=>⟨h.1,nU h.2 h'⟩
theorem xZ:∀{κ:Kp}{a b:ax},rZ n wd ts κ (a++b)->rZ n wd ts κ a/\rZ n wd ts (Fp κ a) b
 |_,[],_,h=>⟨trivial,h⟩
 |_,_::_,_,h=>⟨⟨h.1,(xZ h.2).1⟩,(xZ h.2).2⟩
def qM(P:List (ae))(b:ae)(G:ae)(B:ar):(Kp.mk (P++[b]) G B).top=b:=by
 show(P++[b]).getLastD []=b;grind
def ř(P:List (ae))(b:ae)(G:ae)(B:ar):(Kp.mk (P++[b]) G B).P≠[]:=λz=>by
 let:P++[b]=[]:=z;simp at this
theorem Wo:∀(vs:ae) {P:List (ae)}{b G:ae}{B:ar},vs.Nodup->(∀v∈vs,0<=v/\v<(n:Int))->(∀v∈vs,v∉b)->(∀v∈vs,v∉G)->b.length+vs.length<=wd->rZ n wd ts ⟨P++[b],G,B⟩ (vs.map .inn)/\Fp ⟨P++[b],G,B⟩ (vs.map .inn)=⟨P++[b++vs],G,B⟩
 | [],P,b,G,B,_,_,_,_,_=>⟨trivial,by rw[jE];rfl⟩
 |v::vs,P,b,G,B,nd,lt,nb,ng,hw=>by
  rw[iH]at hw
  let⟨n1,n2⟩:=jb.mp nd
  let e:J6 ⟨P++[b],G,B⟩ (.inn v)=⟨P++[b++[v]],G,B⟩:=by
   show Kp.mk ((P++[b]).dropLast++[(Kp.mk (P++[b]) G B).top++[v]]) G B=_
   rw[qM,Cr]
  let⟨i1,i2⟩:=Wo vs (P:=P) (b:=b++[v]) (G:=G) (B:=B) n2 (λx hx=>lt x (bM _ hx)) (λx hx z=>by
   grind) (λx hx=>ng x (bM _ hx)) ()
  show⟨⟨⟨⟨ř _ _ _ _,lt v bh,?_,ng v bh⟩,?_⟩,?_⟩,?_⟩
  ·rw[qM];show nb v bh
  ·rw[e,qM,bO,Ck];omega
  ·grind
  ·show Fp (J6 ⟨P++[b],G,B⟩ (.inn v)) (vs.map .inn)=_
   rw[e,i2,oM];rfl
theorem Pa:∀(vs:ae) {P:List (ae)}{b G:ae}{B:ar},vs.Nodup->b.Nodup->(∀v∈vs,v∈b)->(∀v∈vs,v∉G)->b.length<=wd->rZ n wd ts ⟨P++[b],G,B⟩ (vs.map .out)/\∃b',b'.Nodup/\(∀v,v∈b'↔v∈b/\v∉vs)/\Fp ⟨P++[b],G,B⟩ (vs.map .out)=⟨P++[b'],G++vs,B⟩
 | [],P,b,G,B,_,nb,_,_,_=>⟨trivial,b,nb,λv=>by simp,by rw[jE];rfl⟩
 |v::vs,P,b,G,B,nd,nb,mb,ng,hw=>by
  let⟨n1,n2⟩:=jb.mp nd
  let e:J6 ⟨P++[b],G,B⟩ (.out v)=⟨P++[b.erase v],G++[v],B⟩:=by
   show Kp.mk ((P++[b]).dropLast++[(Kp.mk (P++[b]) G B).top.erase v]) (G++[v]) B=_
   rw[qM,Cr]
  let⟨i1,b',d1,d2,i2⟩:=Pa vs (P:=P) (b:=b.erase v) (G:=G++[v]) (B:=B) n2 (nb.erase v) (λx hx=>nb.mem_erase_iff.mpr ⟨λz=>n1 (z▸hx),mb x (bM _ hx)⟩) (λx hx z=>by
   grind) (cF List.length_erase_le hw)
  show⟨⟨⟨⟨ř _ _ _ _,?_,ng v bh⟩,?_⟩,?_⟩,b',d1,λx=>?_,?_⟩
  ·rw[qM];show mb v bh
  ·rw[e,qM];show cF List.length_erase_le hw
  ·rw[e];show i1
  ·rw[d2,nb.mem_erase_iff,bQ]
   constructor
   ·rintro⟨⟨h1,h2⟩,h3⟩
    show⟨h2,λz=>z.elim h1 h3⟩
   ·rintro⟨h1,h2⟩
    show⟨⟨λz=>h2 (.inl z),h1⟩,λz=>h2 (.inr z)⟩
  ·show Fp (J6 ⟨P++[b],G,B⟩ (.out v)) (vs.map .out)=_
   grind
theorem Pb:∀(tl:ar) {P:List (ae)}{b G:ae}{B:ar},tl.Nodup->(∀t∈tl,t∈ts/\t∉B/\t.1∈b/\t.2∈b)->b.length<=wd->rZ n wd ts ⟨P++[b],G,B⟩ (tl.map λt=>.tie t.1 t.2)/\Fp ⟨P++[b],G,B⟩ (tl.map λt=>.tie t.1 t.2)=⟨P++[b],G,B++tl⟩
 | [],P,b,G,B,_,_,_=>⟨trivial,by rw[jE];rfl⟩
 |t::tl,P,b,G,B,nd,ok,hw=>by
  let⟨n1,n2⟩:=jb.mp nd
  let⟨o1,o2,o3,o4⟩:=ok t bh
  let⟨i1,i2⟩:=Pb tl (P:=P) (b:=b) (G:=G) (B:=B++[t]) n2 (λs hs=>by
   grind) hw
  show⟨⟨⟨⟨ř _ _ _ _,o1,o2,?_,?_⟩,?_⟩,i1⟩,?_⟩
  ·rw[qM];show o3
  ·rw[qM];show o4
  ·show(Kp.mk (P++[b]) G (B++[t])).top.length<=wd
   rw[qM];show hw
  ·show Fp ⟨P++[b],G,B++[t]⟩ (tl.map _)=_
   rw[i2,oM];rfl
def a1E{n:Nat}{ts:ar}{P:List (ae)}{b b':ae}(pm:b'.Perm b):Can n ts ⟨P++[b]++[b'],G,B⟩ .join/\J6 ⟨P++[b]++[b'],G,B⟩ .join=⟨P++[b],G,B⟩:=by
 show⟨⟨?_,?_⟩,?_⟩
 ·show 1<(P++[b]++[b']).length;simp
 ·rw[qM];show b'.Perm ((P++[b]++[b']).getD ((P++[b]++[b']).length-2) []);let:(P++[b]++[b']).getD ((P++[b]++[b']).length-2) []=b:=by
   rw[RB (by simp),Cr,Û,Ml];rfl
  rw[this];show pm
 ·show Kp.mk (P++[b]++[b']).dropLast G B=_;grind
end
noncomputable def uI(x y:ae):ae:=x.filter λv=>!decide (v∈y)
def kh{x y:ae}{v:Int}:v∈uI x y↔v∈x/\v∉y:=by
 unfold uI;grind
def nY(bH:Nat->ae)(j k:Nat):ax:=(uI (bH j) (bH k)).map .out++(uI (bH k) (bH j)).map .inn
section
variable{n m:Nat}{up:Nat->Nat}{bH:Nat->ae}{ts:ar}
def Ś(T:Tb n m up bH)(hW:∀k,(bH k).length<=wd){j k:Nat}{P:List (ae)}{b:ae}(pm:b.Perm (bH j))(h1:∀v∈bH j,v∉bH k->v∉G)(h2:∀v∈bH k,v∉bH j->v∉G):rZ n wd ts ⟨P++[b],G,B⟩ (nY bH j k)/\∃b',b'.Perm (bH k)/\Fp ⟨P++[b],G,B⟩ (nY bH j k)=⟨P++[b'],G++uI (bH j) (bH k),B⟩:=by
 let nb:b.Nodup:=pm.nodup_iff.mpr (T.nd j);let⟨o1,b1,d1,d2,o2⟩:=Pa (n:=n) (ts:=ts) (uI (bH j) (bH k)) (P:=P) (b:=b) (G:=G) (B:=B) ((T.nd j).filter _) nb (λv hv=>pm.mem_iff.mpr (kh.mp hv).1) (λv hv=>h1 v (kh.mp hv).1 (kh.mp hv).2) (by rw[pm.length_eq];show hW j);let m1:∀v,v∈b1↔v∈bH j/\v∈bH k:=λv=>by
  rw[d2,pm.mem_iff,kh];grind
 let pk:(b1++uI (bH k) (bH j)).Perm (bH k):=by
  show(Gr (uc.mpr ⟨d1,(show(uI (bH k) (bH j)).Nodup from(T.nd k).filter _),λx hx y hy e=>?_⟩) (T.nd k)).mpr λv=>?_
  ·subst e;show(kh.mp hy).2 ((m1 x).mp hx).1
  ·rw[cH,m1];show _\/v∈uI (bH k) (bH j)↔_;rw[kh];grind
 let⟨i1,i2⟩:=Wo (n:=n) (ts:=ts) (uI (bH k) (bH j)) (P:=P) (b:=b1) (G:=G++uI (bH j) (bH k)) (B:=B) ((T.nd k).filter _) (λv hv=>T.lt k v (kh.mp hv).1) (λv hv z=>(kh.mp hv).2 ((m1 v).mp z).1) (λv hv z=>by
  let⟨a,c⟩:=kh.mp hv;rcases cH.mp z with z|z
  ·grind
  ·show(kh.mp z).2 a) (by let h1:=pk.length_eq;let h2:=hW k;rw[bO]at h1;rw[h1];show h2)
 show⟨nU o1 (),b1++uI (bH k) (bH j),pk,by unfold nY;rw[mK,o2,i2]⟩
def Wq(n wd m:Nat)(up:Nat->Nat)(bH:Nat->ae)(ts tb:ar)(j:Nat)(ss:ax):Prop :=
 ∀P G B,(∀v,Jp m up bH j v->v∉G)->(∀t∈B,∀r,oH m up j r->¬jg up bH r t)->∃b G' B',b.Perm (bH j)/\rZ n wd ts ⟨P,G,B⟩ ss/\Fp ⟨P,G,B⟩ ss=⟨P++[b],G',B'⟩/\(∀v,v∈G'↔v∈G\/(Jp m up bH j v/\v∉bH j))/\∀t,t∈B'↔t∈B\/(t∈tb/\∃r,oH m up j r/\jg up bH r t)
theorem Pg(T:Tb n m up bH)(hW:∀k,(bH k).length<=wd){tb:ar}{k:Nat}{L:Nat->ax}:∀(js:ay),js.Nodup->(∀j∈js,0<j/\j<m/\up j=k)->(∀j∈js,Wq n wd m up bH ts tb j (L j))->∀{P:List (ae)}{b G:ae}{B:ar},b.Perm (bH k)->(∀j∈js,∀v,Jp m up bH j v->v∉G)->(∀v∈bH k,v∉G)->(∀j∈js,∀t∈B,∀r,oH m up j r->¬jg up bH r t)->
  ∃G' B',rZ n wd ts ⟨P++[b],G,B⟩ (js.flatMap λj=>L j++(nY bH j k++[.join]))/\Fp ⟨P++[b],G,B⟩ (js.flatMap λj=>L j++(nY bH j k++[.join]))=⟨P++[b],G',B'⟩/\(∀v,v∈G'↔v∈G\/∃j∈js,Jp m up bH j v/\v∉bH k)/\∀t,t∈B'↔t∈B\/(t∈tb/\∃j∈js,∃r,oH m up j r/\jg up bH r t)
 | [],_,_,_,P,b,G,B,_,_,_,_=>⟨G,B,trivial,Z,λv=>by simp,λt=>by simp⟩
 |j::js,nd,kd,ly,P,b,G,B,pm,hG,hK,hB=>by
  let⟨n1,n2⟩:=jb.mp nd
  let⟨j0,jm,ju⟩:=kd j bh
  let⟨bj,G1,B1,pj,a1,e1,mG1,mB1⟩:=ly j bh (P++[b]) G B (hG j bh) (hB j bh)
  let a8F:∀v∈bH j,Jp m up bH j v:=λv hv=>⟨j,.self jm,hv⟩
  let⟨a2,b2,p2,e2⟩:=Ś (ts:=ts) T hW (k:=k) (P:=P++[b]) (G:=G1) (B:=B1) pj (λv hv _ z=>by
   grind) (λv hv nv z=>by
   rcases(mG1 v).mp z with z|z
   ·grind
   ·show nv (Ř T j0 jm z.1 (ju▸hv)))
  let⟨c3,e3⟩:=a1E (n:=n) (ts:=ts) (P:=P) (b:=b) (b':=b2) (G:=G1++uI (bH j) (bH k)) (B:=B1) (p2.trans pm.symm)
  let mG2:∀v,v∈G1++uI (bH j) (bH k)↔v∈G\/(Jp m up bH j v/\v∉bH k):=λv=>by
   rw[cH,mG1,kh]
   constructor
   ·rintro((z|⟨z1,z2⟩)|⟨z1,z2⟩)
    ·show .inl z
    ·show .inr ⟨z1,λz=>z2 (Ř T j0 jm z1 (ju▸z))⟩
    grind
   grind
  let⟨G',B',a4,e4,mG,mB⟩:=Pg T hW js n2 (λi hi=>kd i (bM _ hi)) (λi hi=>ly i (bM _ hi)) (P:=P) (b:=b) (G:=G1++uI (bH j) (bH k)) (B:=B1) pm (λi hi v hv z=>by
   let⟨i0,im,iu⟩:=kd i (bM _ hi)
   rcases(mG2 v).mp z with z|⟨z1,z2⟩
   ·grind
   ·show z2 (ju▸a1C T j0 jm i0 im (ju.trans iu.symm) (λz=>n1 (z▸hi)) z1 hv)) (λv hv z=>by
   grind) (λi hi t ht r br hr=>by
   let⟨i0,im,iu⟩:=kd i (bM _ hi)
   rcases(mB1 t).mp ht with z|⟨_,r',br',hr'⟩
   ·grind
   ·let:=vf T hr hr'
    subst this
    show n1 (Gk T j0 jm i0 im (ju.trans iu.symm) br' br▸hi))
  let es:(j::js).flatMap (λj=>L j++(nY bH j k++[.join]))=L j++(nY bH j k++([.join]++js.flatMap λj=>L j++(nY bH j k++[.join]))):=by
   grind
  rw[es]
  show⟨G',B',nU a1 ?_,?_,λv=>?_,λt=>?_⟩
  ·rw[e1]
   show nU a2 ?_
   rw[e2]
   show⟨⟨c3,by rw[e3,qM,pm.length_eq];show hW k⟩,by rw[e3];show a4⟩
  ·rw[mK,e1,mK,e2]
   show Fp (J6 _ .join) (js.flatMap λj=>L j++(nY bH j k++[.join]))=_
   rw[e3,e4]
  ·grind
  grind
def vg(up:Nat->Nat)(bH:Nat->ae)(tb:ar)(k:Nat):ar:=tb.filter λt=>decide (jg up bH k t)
noncomputable def gH(m:Nat)(up:Nat->Nat)(k:Nat):ay:=(List.range m).filter λj=>decide (k<j)&&decide (up j=k)
def mD(T:Tb n m up bH){k j:Nat}:j∈gH m up k↔0<j/\j<m/\up j=k:=by
 unfold gH;rw[jQ,fX,fU,dJ,dJ];constructor
 ·rintro⟨a,b,c⟩;show⟨(),a,c⟩
 ·rintro⟨a,b,c⟩;let:=T.ups j a b;show⟨b,(),c⟩
def Gm(m:Nat)(up:Nat->Nat)(k:Nat):(gH m up k).Nodup:=List.nodup_range.sublist TV
def a4z(T:Tb n m up bH)(hW:∀k,(bH k).length<=wd){tb:ar}{k:Nat}(km:k<m)(tn:tb.Nodup)(sub:∀t∈tb,t∈ts){P:List (ae)}{b G':ae}{B':ar}(pm:b.Perm (bH k))(hB:∀t∈B,∀r,oH m up k r->¬jg up bH r t)(mG:∀v,v∈G'↔v∈G\/∃j∈gH m up k,Jp m up bH j v/\v∉bH k)(mB:∀t,t∈B'↔t∈B\/(t∈tb/\∃j∈gH m up k,∃r,oH m up j r/\jg up bH r t)) :
  ∃B2,rZ n wd ts ⟨P++[b],G',B'⟩ ((vg up bH tb k).map λt=>.tie t.1 t.2)/\Fp ⟨P++[b],G',B'⟩ ((vg up bH tb k).map λt=>.tie t.1 t.2)=⟨P++[b],G',B2⟩/\(∀v,v∈G'↔v∈G\/(Jp m up bH k v/\v∉bH k))/\∀t,t∈B2↔t∈B\/(t∈tb/\∃r,oH m up k r/\jg up bH r t):=by
 let mo:∀t,t∈vg up bH tb k↔t∈tb/\jg up bH k t:=λt=>by
  unfold vg;rw[jQ,dJ]
 let kb:∀{j r:Nat},j∈gH m up k->oH m up j r->oH m up k r:=λ{j r} hj b=>by
  let⟨j0,jm,ju⟩:=(mD T).mp hj;show oH.trans (.step j0 jm (by rw[ju];show .self km)) b
 let⟨a,e⟩:=Pb (n:=n) (ts:=ts) (vg up bH tb k) (P:=P) (b:=b) (G:=G') (B:=B') (tn.sublist TV) (λt ht=>by
  let⟨t1,h⟩:=(mo t).mp ht;show⟨sub t t1,λz=>?_,pm.mem_iff.mpr h.1,pm.mem_iff.mpr h.2.1⟩;rcases(mB t).mp z with z|⟨_,j,hj,r,br,hr⟩
  ·show hB t z k (.self km) h
  ·let:=vf T hr h;subst this;let⟨j0,jm,ju⟩:=(mD T).mp hj;let l1:=br.le T;let l2:=T.ups j j0 jm;omega) (by rw[pm.length_eq];show hW k)
 show⟨B'++vg up bH tb k,a,e,λv=>?_,λt=>?_⟩
 ·rw[mG];constructor
  ·rintro(z|⟨j,hj,⟨r,br,hr⟩,z⟩)
   ·show .inl z
   ·show .inr ⟨⟨r,kb hj br,hr⟩,z⟩
  ·rintro(z|⟨⟨r,br,hr⟩,z⟩)
   ·show .inl z
   ·rcases br.kid T with c|⟨j,j0,jm,ju,bj⟩
    ·show absurd (c▸hr) z
    ·show .inr ⟨j,(mD T).mpr ⟨j0,jm,ju⟩,⟨r,bj,hr⟩,z⟩
 ·rw[cH,mB,mo];constructor
  ·rintro((z|⟨z0,j,hj,r,br,hr⟩)|⟨z0,z⟩)
   ·show .inl z
   ·show .inr ⟨z0,r,kb hj br,hr⟩
   ·show .inr ⟨z0,k,.self km,z⟩
  ·rintro(z|⟨z0,r,br,hr⟩)
   ·show .inl (.inl z)
   ·rcases br.kid T with c|⟨j,j0,jm,ju,bj⟩
    ·show .inr ⟨z0,c▸hr⟩
    ·show .inl (.inr ⟨z0,j,(mD T).mpr ⟨j0,jm,ju⟩,r,bj,hr⟩)
end
section
variable{n:Nat}{ts:ar}{ss:ax}
theorem Jq(dB:n<=10)(c:rZ n wd ts ⟨[],[],[]⟩ ss):∀i,i<=ss.length->∃E,O9 n ts ss i (Fp ⟨[],[],[]⟩ (ss.take i)) E
 |0,_=>⟨[],a6P⟩
 |i+1,il=>by
  let⟨E,D⟩:=Jq dB c i ()
  let hs:ss[i]?=some (ss[i]'()):=bC ()
  let c1:rZ n wd ts ⟨[],[],[]⟩ (ss.take i++ss.drop i):=by rw[tW];show c
  let c2:=(xZ c1).2
  rw[yF (show i<ss.length by omega)]at c2
  let⟨E',_,D'⟩:=a4y dB D hs c2.1.1
  show⟨E',?_⟩
  rw[O8 hs,mK]
  show D'
def a1F(c:rZ n wd ts ⟨[],[],[]⟩ ss){i:Nat}(il:i<ss.length):(Fp ⟨[],[],[]⟩ (ss.take (i+1))).top.length<=wd:=by
 let c1:rZ n wd ts ⟨[],[],[]⟩ (ss.take i++ss.drop i):=by rw[tW];show c
 let c2:=(xZ c1).2;rw[yF il]at c2;let hs:ss[i]?=some (ss[i]'il):=bC il;rw[O8 hs,mK];show c2.1.2
end
section
variable{n:Nat}{ts:ar}
theorem ś:∀(a:ax) {κ:Kp}{pre:ax},rZ n wd ts κ a->(∀v,(v∈κ.G\/∃b∈κ.P,v∈b)->bZ.inn v∈pre)->∀v,(v∈(Fp κ a).G\/∃b∈(Fp κ a).P,v∈b)->bZ.inn v∈pre++a
 | [],κ,pre,_,h,v,hv=>by rw[jE];show h v hv
 |s::r,κ,pre,c,h,v,hv=>by
  let e:pre++s::r=(pre++[s])++r:=by rw[oM];rfl
  rw[e]
  show ś r c.2 (λu hu=>?_) v hv
  let old:∀{u},(u∈κ.G\/∃b∈κ.P,u∈b)->bZ.inn u∈pre++[s]:=λhu=>oK _ (h _ hu)
  let dl:∀{b:ae},b∈κ.P.dropLast->b∈κ.P:=λhb=>lQ (by rw[List.dropLast_eq_take]at hb;show hb)
  let can:=c.1.1
  cases s with
  |leaf =>
   rcases hu with hu|⟨b,hb,hu⟩
   ·show old (.inl hu)
   ·rcases cH.mp (show b∈κ.P++[[]]from hb)with hb|hb
    ·grind
    grind
  |inn x =>
   rcases hu with hu|⟨b,hb,hu⟩
   ·show old (.inl hu)
   ·rcases cH.mp (show b∈κ.P.dropLast++[κ.top++[x]]from hb)with hb|hb
    ·grind
    ·rw[bG.mp hb]at hu
     rcases cH.mp hu with hu|hu
     ·show old (.inr ⟨_,Jo can.1,hu⟩)
     grind
  |tie x y=>show old hu
  |out x =>
   rcases hu with hu|⟨b,hb,hu⟩
   ·rcases cH.mp (show u∈κ.G++[x]from hu)with hu|hu
    ·show old (.inl hu)
    ·rw[bG.mp hu]
     show old (.inr ⟨_,Jo can.1,can.2.1⟩)
   ·rcases cH.mp (show b∈κ.P.dropLast++[κ.top.erase x]from hb)with hb|hb
    ·grind
    ·rw[bG.mp hb]at hu
     show old (.inr ⟨_,Jo can.1,List.mem_of_mem_erase hu⟩)
  |join =>
   rcases hu with hu|⟨b,hb,hu⟩
   ·show old (.inl hu)
   ·show old (.inr ⟨b,dl hb,hu⟩)
end
section
variable{n:Nat}{ts:ar}{ss:ax}
def a6Q(dB:n<=10)(c:rZ n wd ts ⟨[],[],[]⟩ ss)(h:Fp ⟨[],[],[]⟩ ss=⟨[[]],G,B⟩)(cov:∀v:Int,0<=v->v<(n:Int)->v∈G)(mB:∀t,t∈B↔t∈ts):Bq n ts ss (cA n ts ss)=.ok:=by
 let⟨E,D⟩:=Jq dB c ss.length (aK _);rw[ig,h]at D;let hE:∀j:Nat,j<n->(j:Int)∈E:=λj hj=>by
  let h1:=ś ss c (pre:=[]) (λv hv=>by
   grind) (j:Int) (.inl ())
  let h2:=(D.ins (j:Int)).mp ();show h2
 let:=(a1B dB D).2.2 Z hE;grind
def ZP(dB:n<=10)(c:rZ n wd ts ⟨[],[],[]⟩ ss)(sO:Bq n ts ss (cA n ts ss)=.ok):∀b∈(cA n ts ss).aQ,b.length<=wd:=by
 let go:=Œ dB sO;let I:=xX dB sO;intro b hb;let⟨k,kl,e⟩:=qC hb;rw[I.tl]at kl;let eb:Go.fZ n ts ss k=b:=by
  show(cA n ts ss).aQ.getD k []=b;rw[fB,bC (by rw[I.tl];show kl),<-e];rfl
 let⟨E',D'⟩:=Jq dB c (k+1) ();let S:=Go.zE (n:=n) (ts:=ts) go dB (List.getElem?_eq_getElem kl);let r:=D'.rel;let wd':=a1F c kl;let ok':=D'.ok;generalize Fp ⟨[],[],[]⟩ (ss.take (k+1))=κ at r wd' ok';rw[S.pile]at r;let ne:κ.P≠[]:=λz=>by
  rw[z]at r;let:=aW r;simp at this
 rw[rF ne]at r;let⟨xs',x,ex,_,hx⟩:=pY r;let ex':=(List.append_inj' ex Z).2;cases ex';rw[Go.O4 go dB (Nat.le_refl _) ()]at hx;let hx':∀v,v∈Go.fZ n ts ss k↔v∈κ.top:=hx;let nd:=(Go.Rx dB (λk s h=>Go.a1y (Go.zE go dB h)) k kl).1;rw[eb]at hx' nd;let pm:b.Perm κ.top:=(Gr (Go.BR nd) ok'.Wn.1).mpr hx';rw[pm.length_eq];show wd'
end
theorem K6{α:Type}(p q:α->Bool)(h:∀x,p x=true->q x=true):∀l:List α,l.countP p+l.countP (λx=>q x && !p x)=l.countP q
 | []=>rfl
 |x::l=>by
  let ih:=K6 p q h l
  grind
theorem DK{α:Type}(l:List α)(p:Nat->α->Bool):∀(js:ay) (q:α->Bool),js.Nodup->(∀j∈js,∀x,p j x=true->q x=true)->(∀j∈js,∀j'∈js,∀x,p j x=true->p j' x=true->j=j')->(js.map λj=>l.countP (p j)).sum<=l.countP q
 | [],_,_,_,_=>cW _
 |j::js,q,nd,hq,gW=>by
  let⟨n1,n2⟩:=jb.mp nd
  let ih:=DK l p js (λx=>q x && !p j x) n2 (λi hi x hx=>by
   grind) (λa ha b hb x h1 h2=>gW a (bM _ ha) b (bM _ hb) x h1 h2)
  let:=K6 (p j) q (hq j bh) l
  grind
section
open Classical
variable{n m:Nat}{up:Nat->Nat}{bH:Nat->ae}
noncomputable def cR (m:Nat) (up:Nat->Nat) (k:Nat):Nat:=(List.range m).countP λr=>decide (oH m up k r)
noncomputable def cT (m:Nat) (up:Nat->Nat) (bH:Nat->ae) (tb:ar) (k:Nat):Nat:=tb.countP λt=>decide (∃r,oH m up k r/\jg up bH r t)
def Ym(T:Tb n m up bH){k:Nat}(km:k<m):1+((gH m up k).map λj=>cR m up j).sum<=cR m up k:=by
 let kid:∀j∈gH m up k,0<j/\j<m/\up j=k:=λj hj=>(mD T).mp hj;let ne:∀j∈gH m up k,j≠k:=λj hj e=>by
  let⟨j0,jm,ju⟩:=kid j hj;let:=T.ups j j0 jm;omega
 let h:=DK (List.range m) (λj r=>if j=k then decide (r=k)else decide (oH m up j r)) (k::gH m up k) (λr=>decide (oH m up k r)) (jb.mpr ⟨λz=>ne k z Z,Gm _ _ _⟩) (λj hj x hx=>by
  by_cases c:j=k
  ·rw[aB c,dJ]at hx;rw[hx];show aR (.self km)
  ·rw[aA c,dJ]at hx;rcases bQ.mp hj with e|hj
   ·grind
   ·let⟨j0,jm,ju⟩:=kid j hj;show aR (oH.trans (.step j0 jm (by rw[ju];show .self km)) hx)) (λa ha b hb x h1 h2=>by
  let nk:∀{j:Nat},j∈gH m up k->¬oH m up j k:=λ{j} hj z=>by
   let⟨j0,jm,ju⟩:=kid j hj;let:=T.ups j j0 jm;let:=z.le T;omega
  rcases bQ.mp ha with ea|ha<;>rcases bQ.mp hb with eb|hb
  ·rw[ea,eb]
  ·grind
  ·grind
  ·rw[aA (ne a ha),dJ]at h1;rw[aA (ne b hb),dJ]at h2;let⟨a0,am,au⟩:=kid a ha;let⟨b0,bm,bu⟩:=kid b hb;show Gk T a0 am b0 bm (au.trans bu.symm) h1 h2)
 rw[b8,vD]at h;let e1:(List.range m).countP (λr=>if k=k then decide (r=k)else decide (oH m up k r))=1:=by
  let:(λr=>if k=k then decide (r=k)else decide (oH m up k r))=λr=>decide (r=k):=funext λr=>aB rfl;rw[this];let h1:=Uj (n:=m);let h2:List.count k (List.range m)=1:=()
  rw[<-h2];unfold List.count;grind
 let e2:(gH m up k).map (λj=>(List.range m).countP λr=>if j=k then decide (r=k)else decide (oH m up j r))=(gH m up k).map λj=>cR m up j:=vq λj hj=>by
  unfold cR;congr 1;funext r;rw[aA (ne j hj)]
 rw[e1,e2]at h;show h
def a1G(T:Tb n m up bH){k:Nat}(km:k<m)(tb:ar):(vg up bH tb k).length+((gH m up k).map λj=>cT m up bH tb j).sum<=cT m up bH tb k:=by
 let kid:∀j∈gH m up k,0<j/\j<m/\up j=k:=λj hj=>(mD T).mp hj;let ne:∀j∈gH m up k,j≠k:=λj hj e=>by
  let⟨j0,jm,ju⟩:=kid j hj;let:=T.ups j j0 jm;omega
 let h:=DK tb (λj t=>if j=k then decide (jg up bH k t)else decide (∃r,oH m up j r/\jg up bH r t)) (k::gH m up k) (λt=>decide (∃r,oH m up k r/\jg up bH r t)) (jb.mpr ⟨λz=>ne k z Z,Gm _ _ _⟩) (λj hj x hx=>by
  by_cases c:j=k
  ·rw[aB c,dJ]at hx;show aR ⟨k,.self km,hx⟩
  ·rw[aA c,dJ]at hx;let⟨r,br,hr⟩:=hx;rcases bQ.mp hj with e|hj
   ·grind
   ·let⟨j0,jm,ju⟩:=kid j hj;show aR ⟨r,oH.trans (.step j0 jm (by rw[ju];show .self km)) br,hr⟩) (λa ha b hb x h1 h2=>by
  let nk:∀{j:Nat},j∈gH m up k->¬oH m up j k:=λ{j} hj z=>by
   let⟨j0,jm,ju⟩:=kid j hj;let:=T.ups j j0 jm;let:=z.le T;omega
  rcases bQ.mp ha with ea|ha<;>rcases bQ.mp hb with eb|hb
  ·rw[ea,eb]
  ·rw[aB ea,dJ]at h1;rw[aA (ne b hb),dJ]at h2;let⟨r,br,hr⟩:=h2;show absurd (vf T hr h1▸br) (nk hb)
  ·rw[aB eb,dJ]at h2;rw[aA (ne a ha),dJ]at h1;let⟨r,br,hr⟩:=h1;show absurd (vf T hr h2▸br) (nk ha)
  ·rw[aA (ne a ha),dJ]at h1;rw[aA (ne b hb),dJ]at h2;let⟨r,br,hr⟩:=h1;let⟨r',br',hr'⟩:=h2;let:=vf T hr hr';subst this;let⟨a0,am,au⟩:=kid a ha;let⟨b0,bm,bu⟩:=kid b hb;show Gk T a0 am b0 bm (au.trans bu.symm) br br')
 rw[b8,vD]at h;let e1:tb.countP (λt=>if k=k then decide (jg up bH k t)else decide (∃r,oH m up k r/\jg up bH r t))=(vg up bH tb k).length:=by
  unfold vg;grind
 let e2:(gH m up k).map (λj=>tb.countP λt=>if j=k then decide (jg up bH k t)else decide (∃r,oH m up j r/\jg up bH r t))=(gH m up k).map λj=>cT m up bH tb j:=vq λj hj=>by
  unfold cT;congr 1;funext t;rw[aA (ne j hj)]
 rw[e1,e2]at h;show h
theorem Yn{α:Type}(L:Nat->List α)(c d:Nat->Nat):∀js:ay,(∀j∈js,(L j).length<=14*c j+d j)->(js.flatMap L).length<=14*(js.map c).sum+(js.map d).sum
 | [],_=>cW _
 |j::js,h=>by
  let ih:=Yn L c d js λi hi=>h i (bM _ hi)
  grind
def ZQ(hW:∀k,(bH k).length<=4)(j k:Nat):(nY bH j k).length<=8:=by
 let f1:(uI (bH j) (bH k)).length<=4:=cF (Cq _ _) (hW j);let f2:(uI (bH k) (bH j)).length<=4:=cF (Cq _ _) (hW k);unfold nY;grind
end
def oJ(early:Bool)(tb:ar)(m:Nat)(up:Nat->Nat)(bH:Nat->ae):Nat->Nat->ax
 |0,_=>[]
 |f+1,k=>(((.leaf::(bH k).map .inn)++if early=true then(vg up bH tb k).map λt=>.tie t.1 t.2 else [])++(gH m up k).flatMap λj=>oJ early tb m up bH f j++(nY bH j k++[.join]))++if early=true then []else(vg up bH tb k).map λt=>.tie t.1 t.2
section
variable{n m:Nat}{up:Nat->Nat}{bH:Nat->ae}{ts:ar}
theorem RJ(T:Tb n m up bH)(hW:∀k,(bH k).length<=wd){tb:ar}(tn:tb.Nodup)(sub:∀t∈tb,t∈ts)(early:Bool):∀f k,k<m->m<=k+f->Wq n wd m up bH ts tb k (oJ early tb m up bH f k)
 |0,k,km,mk=>absurd km ()
 |f+1,k,km,mk=>by
  intro P G B hG hB
  let Ŝ:∀v∈bH k,v∉G:=λv hv=>hG v ⟨k,.self km,hv⟩
  let⟨i1,i2⟩:=Wo (n:=n) (wd:=wd) (ts:=ts) (bH k) (P:=P) (b:=[]) (G:=G) (B:=B) (T.nd k) (T.lt k) (λv _ z=>absurd z eO) Ŝ (by let:=hW k;show 0+_<=_;omega)
  let kid:∀j∈gH m up k,0<j/\j<m/\up j=k:=λj hj=>(mD T).mp hj
  let kb:∀j∈gH m up k,∀r,oH m up j r->oH m up k r:=λj hj r b=>by
   let⟨j0,jm,ju⟩:=kid j hj
   show oH.trans (.step j0 jm (by rw[ju];show .self km)) b
  let jk:∀j∈gH m up k,¬oH m up j k:=λj hj z=>by
   let⟨j0,jm,ju⟩:=kid j hj
   let l1:=z.le T
   let l2:=T.ups j j0 jm
   omega
  let ih:∀j∈gH m up k,Wq n wd m up bH ts tb j (oJ early tb m up bH f j):=λj hj=>by
   let⟨j0,jm,ju⟩:=kid j hj
   let:=T.ups j j0 jm
   show RJ T hW tn sub early f j jm ()
  let a1:rZ n wd ts ⟨P,G,B⟩ (.leaf::(bH k).map .inn):=by
   show⟨⟨trivial,?_⟩,i1⟩
   show(Kp.mk (P++[[]]) G B).top.length<=wd
   rw[qM]
   show cW _
  let e1:Fp ⟨P,G,B⟩ (.leaf::(bH k).map .inn)=⟨P++[bH k],G,B⟩:=by
   show Fp ⟨P++[[]],G,B⟩ ((bH k).map .inn)=_
   rw[i2,List.nil_append]
  cases early with
  |false =>
   let⟨G',B',a,e,mG,mB⟩:=Pg (ts:=ts) T hW (L:=oJ false tb m up bH f) (gH m up k) (Gm _ _ _) kid ih (P:=P) (b:=bH k) (G:=G) (B:=B) (yM _) (λj hj v ⟨r,b,hr⟩=>hG v ⟨r,kb j hj r b,hr⟩) Ŝ (λj hj t ht r b=>hB t ht r (kb j hj r b))
   let⟨B2,a2,e2,mG2,mB2⟩:=a4z (ts:=ts) T hW km tn sub (P:=P) (yM _) hB mG mB
   show⟨bH k,G',B2,yM _,?_,?_,mG2,mB2⟩
   ·unfold oJ
    rw[aA cL,aA cL,jE]
    show nU (nU a1 (by rw[e1];show a)) ?_
    rw[mK,e1,e]
    show a2
   ·unfold oJ
    rw[aA cL,aA cL,jE,mK,mK,e1,e,e2]
  |true =>
   let mo:∀t,t∈vg up bH tb k↔t∈tb/\jg up bH k t:=λt=>by
    unfold vg
    rw[jQ,dJ]
   let⟨t1,t2⟩:=Pb (n:=n) (wd:=wd) (ts:=ts) (vg up bH tb k) (P:=P) (b:=bH k) (G:=G) (B:=B) (tn.sublist TV) (λt ht=>by
    let⟨h0,h⟩:=(mo t).mp ht
    show⟨sub t h0,λz=>hB t z k (.self km) h,h.1,h.2.1⟩) (hW k)
   let⟨G',B',a,e,mG,mB⟩:=Pg (ts:=ts) T hW (L:=oJ true tb m up bH f) (gH m up k) (Gm _ _ _) kid ih (P:=P) (b:=bH k) (G:=G) (B:=B++vg up bH tb k) (yM _) (λj hj v ⟨r,b,hr⟩=>hG v ⟨r,kb j hj r b,hr⟩) Ŝ (λj hj t ht r b hr=>by
    rcases cH.mp ht with z|z
    ·show hB t z r (kb j hj r b) hr
    ·show jk j hj (vf T hr ((mo t).mp z).2▸b))
   show⟨bH k,G',B',yM _,?_,?_,λv=>?_,λt=>?_⟩
   ·unfold oJ
    rw[aB Z,aB Z,jE]
    show nU (nU a1 (by rw[e1];show t1)) ?_
    rw[mK,e1,t2]
    show a
   ·unfold oJ
    rw[aB Z,aB Z,jE,mK,mK,e1,t2,e]
   ·rw[mG]
    constructor
    ·rintro(z|⟨j,hj,⟨r,br,hr⟩,z⟩)
     ·show .inl z
     ·show .inr ⟨⟨r,kb j hj r br,hr⟩,z⟩
    ·rintro(z|⟨⟨r,br,hr⟩,z⟩)
     ·show .inl z
     ·rcases br.kid T with c|⟨j,j0,jm,ju,bj⟩
      ·show absurd (c▸hr) z
      ·show .inr ⟨j,(mD T).mpr ⟨j0,jm,ju⟩,⟨r,bj,hr⟩,z⟩
   ·rw[mB,cH,mo]
    constructor
    ·rintro((z|⟨z0,z⟩)|⟨z0,j,hj,r,br,hr⟩)
     ·show .inl z
     ·show .inr ⟨z0,k,.self km,z⟩
     ·show .inr ⟨z0,r,kb j hj r br,hr⟩
    ·rintro(z|⟨z0,r,br,hr⟩)
     ·show .inl (.inl z)
     ·rcases br.kid T with c|⟨j,j0,jm,ju,bj⟩
      ·show .inl (.inr ⟨z0,c▸hr⟩)
      ·show .inr ⟨z0,j,(mD T).mpr ⟨j0,jm,ju⟩,r,bj,hr⟩
theorem K7(T:Tb n m up bH)(hW:∀k,(bH k).length<=4)(early:Bool)(tb:ar):∀f k,k<m->(oJ early tb m up bH f k).length+9<=14*cR m up k+cT m up bH tb k
 |0,k,km=>by
  let h:=Ym T km
  show 0+9<=_
  omega
 |f+1,k,km=>by
  let h1:=Ym T km
  let h2:=a1G T km tb
  let hb:=hW k
  let h3:=Yn (λj=>oJ early tb m up bH f j++(nY bH j k++[bZ.join])) (λj=>cR m up j) (λj=>cT m up bH tb j) (gH m up k) λj hj=>by
   let⟨j0,jm,ju⟩:=(mD T).mp hj
   let ih:=K7 T hW early tb f j jm
   let:=ZQ hW j k
   grind
  unfold oJ
  grind
def K8(T:Tb n m up bH)(hW:∀k,(bH k).length<=4)(m20:m<=20)(early:Bool){tb:ar}(a1H:tb.length<=100){f k:Nat}(km:k<m):(oJ early tb m up bH f k).length<=400:=by
 let h:=K7 T hW early tb f k km;let h1:cR m up k<=m:=by
  unfold cR;show cF List.countP_le_length ()
 let h2:cT m up bH tb k<=tb.length:=List.countP_le_length;omega
def zF(early:Bool)(tb:ar)(m:Nat)(up:Nat->Nat)(bH:Nat->ae)(d:Nat):ax:=oJ early tb m up bH d 0++(bH 0).map .out
def ZR{d:Nat}(T:Tb n m up bH)(dB:n<=10)(hW:∀k,(bH k).length<=wd)(tn:ts.Nodup)(inb:∀t∈ts,∃k,t.1∈bH k/\t.2∈bH k)(cov:∀v:Int,0<=v->v<(n:Int)->∃k,v∈bH k)(md:m<=d)(early:Bool):Bq n ts (zF early ts m up bH d) (cA n ts (zF early ts m up bH d))=.ok/\∀b∈(cA n ts (zF early ts m up bH d)).aQ,b.length<=wd:=by
 let⟨b,G',B',pm,a,e,mG,mB⟩:=RJ (ts:=ts) T hW tn (λ_ h=>h) early d 0 T.pos () [] [] [] (λv _ z=>absurd z eO) (λt ht=>absurd ht eO);let⟨o1,b',d1,d2,o2⟩:=Pa (n:=n) (wd:=wd) (ts:=ts) (bH 0) (P:=[]) (b:=b) (G:=G') (B:=B') (T.nd 0) (pm.nodup_iff.mpr (T.nd 0)) (λv hv=>pm.mem_iff.mpr hv) (λv hv z=>by
  grind) (by rw[pm.length_eq];show hW 0)
 let eb:b'=[]:=SM.mpr λv hv=>((d2 v).mp hv).2 (pm.mem_iff.mp ((d2 v).mp hv).1);let A:rZ n wd ts ⟨[],[],[]⟩ (zF early ts m up bH d):=nU a ();let E:Fp ⟨[],[],[]⟩ (zF early ts m up bH d)=⟨[[]],G'++bH 0,B'⟩:=by
  unfold zF;rw[mK,e,o2,eb];rfl
 let sO:=a6Q dB A E (λv v0 vn=>by
  let⟨k,hk⟩:=cov v v0 vn;by_cases c:v∈bH 0
  ·grind
  ·show oK _ ((mG v).mpr (.inr ⟨⟨k,RD T k (T.in_ hk),hk⟩,c⟩))) (λt=>by
  rw[mB];constructor
  ·grind
  ·intro z;let⟨k,k1,k2⟩:=inb t z;let⟨r,rm,hr⟩:=a1D T k k1 k2;show .inr ⟨z,r,RD T r rm,hr⟩)
 show⟨sO,ZP dB A sO⟩
end
abbrev rng(n:Nat):ae:=(List.range n).map λi=>((i:Nat):Int)
def Yo{n:Nat}{v:Int}:v∈rng n↔0<=v/\v<(n:Int):=by
 rw[dM];constructor
 ·grind
 ·rintro⟨h0,h1⟩;show⟨v.toNat,fX.mpr (),()⟩
def ZS(n:Nat):(rng n).Nodup:=by
 unfold List.Nodup;rw[wL];show List.pairwise_lt_range.imp λh=>by omega
def pZ{rs:List zP}{r:zP}{k:Nat}(h:k<rs.length):rowAt (rs++[r]) k=rowAt rs k:=by
 unfold rowAt;grind
def uJ{rs:List zP}{r:zP}:rowAt (rs++[r]) rs.length=r:=by
 unfold rowAt;rw[fB,wI (aK _),yO];rfl
def zR(rs:List zP)(k:Nat):Nat:=((rowAt rs k).1.getD 0).toNat
def fG(rs:List zP)(k:Nat):ae:=(rowAt rs k).2
def BW{rs:List zP}{k:Nat}(h:rs.length<=k):rowAt rs k=(none,[]):=by
 unfold rowAt;grind
def gY(rs:List zP)(r:zP)(k:Nat):fG (rs++[r]) k=if k=rs.length then r.2 else fG rs k:=by
 unfold fG;by_cases c:k=rs.length
 ·rw[aB c,c,uJ]
 ·rw[aA c];by_cases d:k<rs.length
  ·rw[pZ d]
  ·rw[BW (),BW ()]
def BX(rs:List zP)(r:zP)(k:Nat):zR (rs++[r]) k=if k=rs.length then(r.1.getD 0).toNat else zR rs k:=by
 unfold zR;by_cases c:k=rs.length
 ·rw[aB c,c,uJ]
 ·rw[aA c];by_cases d:k<rs.length
  ·rw[pZ d]
  ·rw[BW (),BW ()]
structure Rw(n most:Nat)(rs:List zP)(us:ae):Prop where
 T:Tb n rs.length (zR rs) (fG rs)
 r0:(rowAt rs 0).1=none
 ru:∀k,0<k->k<rs.length->(rowAt rs k).1=some ((zR rs k:Nat):Int)
 nd:us.Nodup
 lt:∀v∈us,0<=v/\v<(n:Int)
 dis:∀v∈us,∀k,v∉fG rs k
 cov:∀v:Int,0<=v->v<(n:Int)->v∈us\/∃k,v∈fG rs k
 few:∀k,(fG rs k).length<=most
def BZ(us:ae)(c:Nat):us.take (us.length-c)++us.drop (us.length-c)=us:=tW _ _
def a8n{n most:Nat}(pm:us.Perm (rng n))(cm:c<=most)(hz:zs.Perm (us.drop (us.length-c)).reverse):Rw n most [(none,zs)] (us.take (us.length-c)):=by
 let ndu:us.Nodup:=pm.nodup_iff.mpr (ZS n);let inn:∀v∈us,0<=v/\v<(n:Int):=λv hv=>Yo.mp (pm.mem_iff.mp hv);let Y9:=ndu;rw[<-BZ us c]at Y9;let⟨n1,n2,dj⟩:=uc.mp Y9;let mz:∀v,v∈zs↔v∈us.drop (us.length-c):=λv=>by grind
 let bg:∀k,fG [(none,zs)] k=if k=0 then zs else []:=λk=>by
  cases k with
  |zero=>rfl
  |succ k=>rfl
 let lz:zs.length<=most:=by
  rw[hz.length_eq,Cv,iI];omega
 show⟨⟨Nat.zero_lt_one,λk h0 h1=>?_,λk=>?_,λk v hv=>?_,λk h0 h1=>?_,λk hk=>?_⟩,Z,λk h0 h1=>?_,n1,λv hv=>inn v (lQ hv),λv hv k hk=>?_,λv v0 v1=>?_,λk=>?_⟩
 ·grind
 ·grind
 ·grind
 ·grind
 ·grind
 ·grind
 ·grind
 ·let:v∈us:=pm.mem_iff.mpr (Yo.mpr ⟨v0,v1⟩);rw[<-BZ us c]at this;rcases cH.mp this with h|h
  ·show .inl h
  ·show .inr ⟨0,(mz v).mpr h⟩
 ·rw[bg];split
  ·show lz
  ·show cW _
def a4A{n most f:Nat}{rs:List zP}{ks:ae}(W:Rw n most rs us)(fl:f<rs.length)(sb:List.Sublist ks (fG rs f))(lc:ks.length+c<=most)(hz:zs.Perm (ks++(us.drop (us.length-c)).reverse)):Rw n most (rs++[(some (f:Int),zs)]) (us.take (us.length-c)):=by
 let Y9:=W.nd;rw[<-BZ us c]at Y9;let⟨n1,n2,dj⟩:=uc.mp Y9;let mz:∀v,v∈zs↔v∈ks\/v∈us.drop (us.length-c):=λv=>by rw[hz.mem_iff,cH,List.mem_reverse]
 let lz:zs.length<=most:=by
  rw[hz.length_eq,bO,Cv,iI];omega
 let ll:(rs++[((some (f:Int),zs):zP)]).length=rs.length+1:=by rw[bO,Ck]
 let ndz:zs.Nodup:=hz.nodup_iff.mpr (uc.mpr ⟨(W.T.nd f).sublist sb,(List.reverse_perm _).nodup_iff.mpr n2,λx hx y hy e=>by
  subst e;show W.dis x (yI (List.mem_reverse.mp hy)) f (sb.subset hx)⟩)
 let un:zR (rs++[((some (f:Int),zs):zP)]) rs.length=f:=by
  rw[BX,aB rfl];rfl
 show⟨⟨(),λk h0 h1=>?_,λk=>?_,λk v hv=>?_,λk h0 h1 v hv=>?_,λk hk=>?_⟩,?_,λk h0 h1=>?_,n1,λv hv=>W.lt v (lQ hv),λv hv k hk=>?_,λv v0 v1=>?_,λk=>?_⟩
 ·rw[ll]at h1;by_cases e:k=rs.length
  ·subst e;rw[un];show fl
  ·rw[BX,aA e];show W.T.ups k h0 ()
 ·rw[gY];split
  ·show ndz
  ·show W.T.nd k
 ·rw[gY]at hv;split at hv
  ·rcases(mz v).mp hv with h|h
   ·show W.T.lt f v (sb.subset h)
   ·show W.lt v (yI h)
  ·show W.T.lt k v hv
 ·rw[ll]at h1;by_cases e:k=rs.length
  ·subst e;rw[un];rw[gY,aB rfl]at hv;rcases(mz v).mp hv with h|h
   ·show .inl ?_;rw[gY,aA ()];show sb.subset h
   ·show .inr λj hj=>?_;rw[gY,aA ()];show W.dis v (yI h) j
  ·let kl:k<rs.length:=()
   rw[gY,aA e]at hv;rw[BX,aA e];let ul:=W.T.ups k h0 kl;rcases W.T.fr k h0 kl v hv with h|h
   ·show .inl ?_;rw[gY,aA ()];show h
   ·show .inr λj hj=>?_;rw[gY,aA ()];show h j hj
 ·rw[ll]at hk;rw[gY,aA ()];show W.T.no k ()
 ·rw[pZ W.T.pos];show W.r0
 ·rw[ll]at h1;by_cases e:k=rs.length
  ·subst e;rw[un,uJ]
  ·rw[BX,aA e,pZ ()];show W.ru k h0 ()
 ·rw[gY]at hk;split at hk
  ·rcases(mz v).mp hk with h|h
   ·show W.dis v (lQ hv) f (sb.subset h)
   ·show dj v hv v h rfl
  ·show W.dis v (lQ hv) k hk
 ·rcases W.cov v v0 v1 with h|⟨k,h⟩
  ·rw[<-BZ us c]at h;rcases cH.mp h with h|h
   ·show .inl h
   ·show .inr ⟨rs.length,?_⟩;rw[gY,aB rfl];show(mz v).mpr (.inr h)
  ·show .inr ⟨k,?_⟩;let kl:=W.T.in_ h;rw[gY,aA ()];show h
 ·rw[gY];split
  ·show lz
  ·show W.few k
def RwX(ex:aI)(H:Hp)(v:V)(r:zP):Prop:=∃p b,v=.ref p/\H p= ~~~[upV r.1,.ref b]/\H b=↥(r.2.map V.int)/\b∉ex/\r.2.length<=1000
def RwX.same{ex:aI}{H H':Hp}{v:V}{r:zP}(s:aL H H')(h:RwX ex H v r):RwX ex H' v r:=by
 let⟨p,b,e,h1,h2,h3⟩:=h;show⟨p,b,e,s _ _ h1,s _ _ h2,h3⟩
def RwX.chg{ex:aI}{H H':Hp}{l:Addr}{xs:af}{o:HO}{v:V}{r:zP}(hl:H l=↥xs)(c:uP H l o H')(m:l∈ex)(h:RwX ex H v r):RwX ex H' v r:=by
 let⟨p,b,e,h1,h2,h3,h4⟩:=h;show⟨p,b,e,(c.rest p λz=>by grind).trans h1,(c.rest b λz=>h3 (z▸m)).trans h2,h3,h4⟩
def RwX.l{ex:aI}{l:Addr}{H:Hp}{v:V}{r:zP}(m:l∈ex)(h:RwX ex H v r):JG l H v r:=by
 let⟨p,b,e,h1,h2,h3,h4⟩:=h;show⟨p,b,e,h1,h2,λz=>h3 (z▸m),h4⟩
def Yp{tt:TT}{H:Hp}{pl:Addr}{lo:Int}(h:H pl=↥(us.map V.int))(hc:c<=us.length)(lu:us.length<=900)
  (hs:∀(i:Nat) (H':Hp) (xs:af) (y:V) (N:VK) (Z98:Hp->Prop),H' pl=↥(xs++[y])->(∀H2,uP H' pl (.lst xs) H2->N y H2)->g (.int (lo+i)) (qj ix σ) H' λσ2 H2=>tt σ2 H2 λb H3=>if b=true then te σ2 H3 N else Z98 H3)
  (hd:∀H1 p H2,uP H pl (.lst ((us.take (us.length-c)).map V.int)) H1->iD H1 p (.lst ((us.drop (us.length-c)).reverse.map V.int)) H2->Q (.ref p) H2):lV ix g tt te σ H Q (U0 lo c):=by
 show Aj (λi ys H'=>ys=(us.drop (us.length-i)).reverse.map V.int/\uP H pl (.lst ((us.take (us.length-i)).map V.int)) H') ⟨?_,?_,λ_ _=>rfl⟩ (λi ys H' hi ⟨e,_⟩=>?_) (λi ys H' hi ⟨e,c1⟩=>?_) (λys H' ⟨e,c1⟩ p hp=>?_)
 ·rw[vG,List.drop_length];rfl
 ·rw[vG,ig];show h
 ·rw[e,aH,Cv,iI];show fD (cZ ())
 ·let jl:us.length-(i+1)<us.length:=()
  let e1:us.length-i=us.length-(i+1)+1:=()
  let et:us.take (us.length-i)=us.take (us.length-(i+1))++[us[us.length-(i+1)]]:=by rw[e1,yD jl]
  let ed:us.drop (us.length-(i+1))=us[us.length-(i+1)]::us.drop (us.length-i):=by rw[yF jl,e1]
  let h1:=c1.here;rw[et,dz]at h1;show hs i H' _ _ (λv H4=>ys++[v]=(us.drop (us.length-(i+1))).reverse.map V.int/\uP H pl (.lst ((us.take (us.length-(i+1))).map V.int)) H4) _ h1 λH2 c2=>⟨?_,c2.here,λb hb=>(c2.rest b hb).trans (c1.rest b hb)⟩;rw[e,ed,List.reverse_cons,dz];rfl
 ·subst e;show hd H' p _ c1 (iD.oh hp)
abbrev rG:Stmt:=top 42
def zG:bN ["_law_script","_law_k","_law_base"] KC (aG rG):={}
inductive a8o(K:aJ)(vs:af)(H:Hp)(Q:VK)(u_3:XK):Prop
 |mk (a:Addr) (ns:ae) (k:Int) (_:vs=[.ref a,.int k]) (_:Ç K H a ns) (_:ns.length<=63) (_:0<=k) (_:k<=1000) (_:∀z,Q (.int z) H)
inductive sW(H:Hp)(v:V)(s:bZ):Prop
 |mk (p:_) (_:v=.ref p) (_:H p= ~~~(s.vs))
def sW.same{H H':Hp}{v:V}{s:bZ}(e:aL H H')(h:sW H v s):sW H' v s:=by
 let⟨p,rfl,h⟩:=h;show⟨p,Z,e _ _ h⟩
def sW.v{K:aJ}{H:Hp}{v:V}{s:bZ}(h:sW H v s):uz K H v s:=by
 let⟨p,rfl,h⟩:=h;show⟨p,Z,cN.of h⟩
def zH(B:Bl mg)(mL:Dn K mg "_law_at" rG KC):⋯ 1 mL.f mL.fd KC (a8o K):=by
 show mL.F.ok zG λdX A outer s H vs Q E hr h=>?_;let⟨a,ns,k,rfl,hS,h63,k0,k1,q⟩:=h;let hA:=hS.seq;show⟨_,(aD (cO (aM zZ (pv 1) (aV (bV (K:=K) Z) Z B.len () (O (pv 0) aj)))
   (aF (bJ (aP (bx (K:=K) Z) (pv 0) (pv 1))))
   bA)
   (aD (aX 2 zG.nd aq)
   (iW (cO (aM sY (aV (bV (K:=K) Z) Z B.len () (O (pv 0) aj)) aq)
   (aF (aX 2 zG.nd (bw jy (aP (bx (K:=K) Z) (pv 0) (bw jy (bw dF (bw wY (pv 1) aq) aq) (aV (bV (K:=K) Z) Z B.len () (O (pv 0) aj)))) aq)))
   bA)
   (aF (bJ (bw jy (bw wY (bw dF (bw dF (pv 2) (bw wY aq (pv 1))) aq) (bw dF (bw dF (bw wY (pv 2) aq) (bw wY (pv 1) (pv 1))) aq)) aq)))))),?_⟩
 let hl:(ns.map V.int).length=ns.length:=aH _;show⟨_,Z,_,Z,a,_,Z,.inl hA,_,_,Z,Z,_,Z,qi (λc=>?_) λc=>?_⟩
 ·let c':k<(((ns.map V.int).length:Nat):Int):=dw c;rw[hl]at c';show⟨_,Z,_,Z,a,_,_,_,Z,Z,hA,FP k0 c',q _⟩
 show⟨λσ' H'=>∃b:Int,-(2^32)<b/\b<2^32/\σ'=[⇑a,some (.int k),some (.int b)]/\H'=H,?_,?_⟩
 ·show⟨_,Z,a,_,Z,.inl hA,_,_,Z,Z,_,Z,?_⟩;show qi (λc2=>?_) (λc2=>⟨163,(),(),Z,Z⟩);let c2':(0:Int)<(((ns.map V.int).length:Nat):Int):=dw c2;rw[hl]at c2';let m0:=ud (k*31+4) (show(ns.length:Int)≠0 by omega);let m1:=tZ (k*31+4) c2';show⟨_,Z,_,Z,_,_,Z,Z,.inr ⟨(),()⟩,_,_,Z,Z,_,Z,a,_,Z,.inl hA,_,_,Z,Z,(by rw[hl];show c2'),a,_,_,_,Z,Z,hA,(by rw[hl];show FP m0 m1),_,_,Z,Z,(show(0:Int)<_ by decide),?_⟩;let e0:=ud (ns.getD ((k*31+4)%(ns.length:Int)).toNat 0) (show(999631:Int)≠0 by decide);let e1:=tZ (ns.getD ((k*31+4)%(ns.length:Int)).toNat 0) (show(0:Int)<999631 by decide);show⟨_,(),(),Z,Z⟩
 rintro σ' H' ⟨b,b0,b1,rfl,rfl⟩;show⟨_,Z,_,Z,_,_,Z,Z,.inl ⟨(),()⟩,_,_,Z,Z,_,_,Z,Z,_,Z,_,_,Z,Z,.inr ⟨(),()⟩,_,Z,_,Z,_,_,Z,Z,.inl ⟨(),()⟩,_,_,Z,Z,_,_,Z,Z,_,_,Z,Z,.inl ⟨(),()⟩,_,_,Z,Z,(show(0:Int)<_ by decide),q _⟩
abbrev tO:Stmt:=top 43
def gR:bN ["_law_script","_law_n","_law_most","_law_keys","_law_left","_law_many","_law_rows_here","_law_k","_law_up","_law_bag","_law_fresh"] XM (aG tO):={}
inductive ŝ(K:aJ)(vs:af)(H:Hp)(Q:VK)(u_3:XK):Prop
 |mk (a:Addr) (ns:ae) (n most:Nat) (_:vs=[.ref a,.int n,.int most]) (_:Ç K H a ns) (_:ns.length<=63) (_:n<=10) (_:1<=most) (_:most<=10) (_:∀l xs rs H',aL H H'->H l=none->H' l=↥xs->Paired (JG l H') xs rs->Rw n most rs []->rs.length<=20->Q (.ref l) H')
inductive RowW(K:aJ)(a l pl:Addr)(v3:Option V)(n most many:Nat)(H:Hp)(m:Nat)(σ:St)(H':Hp):Prop
 |mk (xs:af) (rs:List zP) (us:ae) (v7 v8 v9 v10:Option V) (_:σ=[⇑a,some (.int n),some (.int most),v3,⇑pl,some (.int many),⇑l,v7,v8,v9,v10]) (_:aL H H') (_:H' l=↥xs) (_:H' pl=↥(us.map V.int)) (_:Paired (RwX [l,pl] H') xs rs) (_:Rw n most rs us) (_:m=(many-rs.length)+us.length) (_:rs.length<=many+(n-us.length)) (_:us.length<=n)
def ZV(xs:af)(k:Nat):uo xs none (some (k:Int))=xs.take k:=by
 unfold uo;let e1:HT.jZ xs.length xs.length (some (k:Int))=min k xs.length:=HT.FJ _ _ k;let e2:HT.jZ xs.length 0 none=0:=rfl;rw[e1,e2,Ni,vG];rcases Nat.le_total k xs.length with c|c
 ·rw[Uv c]
 ·rw[Nat.min_eq_right c,wJ (aK _),wJ c]
def a1I{l:ay}{n:Nat}(h:l.Perm (List.range n)):(l.map λi=>((i:Nat):Int)).Perm (rng n):=h.map _
def a6R{B0 H1:Hp}{n:Nat}{j:Nat}(dB:n<=10)(s0:aL B0 H1)
  (hs:∀(i:Nat) (G:Hp) (R:VK),i<n->aL B0 G->(∀z p G',iD G p (.tup [.int z,.int (0+(i:Int))]) G'->R (.ref p) G')->te ((qj ix σ).set j (some (.int (0+(i:Int))))) G R)
  (hd:∀(ps:aI) (zs:ae) (G:Hp),ps.length=n->aL B0 G->(∀k p,ps[k]?=some p->G p= ~~~[.int (zs.getD k 0),.int (k:Int)])->∀pk,G pk=none->Q (.ref pk) (cY G pk (.lst (ps.map V.ref)))):lV ix (zY j) ÿ te σ H1 Q (U0 0 n):=by
 show Aj (λi ys G=>∃(ps:aI) (zs:ae),ys=ps.map V.ref/\ps.length=i/\zs.length=i/\aL B0 G/\∀k p,ps[k]?=some p->G p= ~~~[.int (zs.getD k 0),.int (k:Int)]) ⟨[],[],Z,Z,Z,s0,λk p h=>by cases h⟩ (λi ys G hi ⟨ps,zs,e,l,_⟩=>?_) (λi ys G hi ⟨ps,zs,e,l,lz,s1,hp⟩=>?_) ?_
 ·rw[e,aH,l];show fD (cZ ())
 ·show hs i G _ hi s1 λz p2 H2 nz=>⟨ps++[p2],zs++[z],by rw[e,dz];rfl,by rw[bO,l];rfl,by rw[bO,lz];rfl,s1.trans nz.same,λk p hk=>?_⟩;by_cases c:k<ps.length
  ·rw[yE c]at hk;rw[fB,yE (),<-fB];show nz.same _ _ (hp k p hk)
  ·let k1:=(eG.mp hk).1;rw[bO]at k1;let ek:k=i:=by
    let:k<ps.length+1:=k1;omega
   subst ek;rw[wI (),l,yO]at hk;cases hk;rw[fB,wI (),lz,yO];let:=nz.here;rw[show(0+(k:Int))=(k:Int) by omega]at this;show this
 rintro ys G ⟨ps,zs,rfl,l,lz,s1,hp⟩ pk hpk;show hd ps zs G l s1 hp pk hpk
def a6S{H2:Hp}{pk:Addr}{ps:aI}{n:Nat}{R:VK}(dB:n<=10)(l:ps.length=n)(h2:H2 pk=↥(ps.map V.ref))(hp:∀k p,ps[k]?=some p->H2 p= ~~~[.int (zs.getD k 0),.int (k:Int)])
  (hd:∀(qq:ay) p3 H3,qq.Perm (List.range n)->iD H2 p3 (.lst (qq.map λi=>(ps.map V.ref).getD i V.non)) H3->R (.ref p3) H3):č K [.ref pk] H2 R:=by
 show⟨pk,ps.map V.ref,(List.range n).map λk=>[zs.getD k 0,(k:Int)],Z,bB.of h2,?_,λns h=>?_,by rw[aH];omega,λqq p3 H3 pq _ n3=>hd qq p3 H3 (by rw[aH,l]at pq;show pq) n3⟩
 ·let all:∀(m:Nat),m<=n->Paired (a3C K H2) ((ps.take m).map V.ref) ((List.range m).map λk=>[zs.getD k 0,(k:Int)]):=λm=>by
   induction m with
   |zero=>intro _;show .nil
   |succ m ih =>
    intro hm;let hml:m<ps.length:=()
    rw[yD hml,dz,wO,dz];show d7 (ih ()) ⟨ps[m],Z,cN.of (hp m _ (bC hml))⟩
  let:=all n (aK _);rw[wJ ()]at this;show this
 ·let⟨k,_,rfl⟩:=dM.mp h;show λz=>by cases z
def a6T{H3:Hp}{p3:Addr}{ps:aI}{n:Nat}{qq:ay}(dB:n<=10)(l:ps.length=n)(pq:qq.Perm (List.range n))(h3:H3 p3=↥(qq.map λi=>(ps.map V.ref).getD i V.non))(hp:∀k p,ps[k]?=some p->H3 p= ~~~[.int (zs.getD k 0),.int (k:Int)])
  (hd:∀p5 H5,iD H3 p5 (.lst ((qq.map λi=>((i:Nat):Int)).map V.int)) H5->Q (.ref p5) H5):lV [none,none] (a2X K 2 (ç (zY 0) (ç (zY 1) a5n))) ÿ (UW 1) σ H3 Q (Æ K p3):=by
 let lq:qq.length=n:=by rw[pq.length_eq,vA]
 show qP (K:=K) (a:=p3) (xs:=qq.map λi=>(ps.map V.ref).getD i V.non) (λi ys G=>ys=((qq.take i).map λi=>((i:Nat):Int)).map V.int/\G=H3) ⟨Z,Z⟩ (λi ys G hi ⟨e,s⟩=>⟨by rw[s];show bB.of h3,?_⟩) (λi x ys G hx ⟨e,s⟩=>?_) (λys G ⟨e,s⟩ p5 hp5=>?_)
 ·rw[e,aH,aH,eN];show fD (cZ ())
 ·subst s;rw[cI]at hx;let⟨k,hk,rfl⟩:=lN.mp hx;let kn:k<n:=fX.mp (pq.mem_iff.mp (gZ hk));let kl:k<ps.length:=()
  let ex:(ps.map V.ref).getD k V.non=V.ref ps[k]:=by rw[fB,cI,bC kl];rfl
  rw[ex];show⟨ps[k],_,Z,cN.of (hp k _ (bC kl)),Z,_,_,Z,_,_,Z,Z,_,Z,?_,Z⟩;let⟨hil,hik⟩:=eG.mp hk;rw[e,yD hil,hik,dz,dz];rfl
 ·subst s;rw[aH,ig]at e;rw[e];show hd p5 _ (iD.oh hp5)
def a4B{many r u:Nat}(h:r<many\/(many<=r/\0<u))(c3:0<u->1<=c):(many-(r+1))+(u-c)<(many-r)+u:=by
 rcases h with h|h
 ·show Nat.add_lt_add_of_lt_of_le (Nat.sub_lt_sub_left h (wM r)) (Nat.sub_le u c)
 ·show Nat.add_lt_add_of_le_of_lt (Nat.sub_le_sub_left (vH r) many) (Nat.sub_lt h.2 (c3 h.2))
def a4C{many r u n:Nat}(h:r<many\/(many<=r/\0<u))(c3:0<u->1<=c)(b1:r<=many+(n-u))(b2:u<=n):r+1<=many+(n-(u-c)):=by
 rcases h with h|h
 ·show cF h (GJ _ _)
 ·let s:=Nat.sub_lt h.2 (c3 h.2);show cF (Nat.succ_le_succ b1) (Nat.add_lt_add_left (Nat.sub_lt_sub_left (iZ s b2) s) many)
def orQ{a b:TT}{H:Hp}{Q:Bool->Hp->Prop}{c1 c2:Bool}(h1:∀Q:Bool->Hp->Prop,Q c1 H->a σ H Q)(h2:∀Q:Bool->Hp->Prop,Q c2 H->b σ H Q)(h:Q (c1||c2) H):tOr a b σ H Q:=by
 show h1 _ ?_;cases c1 with
 |false=>show cV (h2 _ h)
 |true=>show gP h
def Ph(B:Bl mg)(mL:Dn K mg "_law_at" rG KC)(dZ7:Dn K mg "_law_rows" tO XM):⋯ 2 dZ7.f dZ7.fd XM (ŝ K):=by
 let Pj:⋯ 1 _ _ _ _:=zH B mL;show dZ7.F.ok gR λdX A outer s H vs Q E hr h=>?_;let⟨a,ns,n,most,rfl,hS,h63,dB,m1,m10,q⟩:=h;show⟨_,(aD (aX 3 gR.nd (aV (Ao (K:=K) Z) Z B.sorted () (O (j4 XQ [none,some 0]  (by kernel_rfl) Z (jw Z B.range (O (pv 1) aj)) (λ_ _ _ _ _=>(aN 0 (show(XQ:ag).Nodup by decide))) (λ_ _ _ _ _=>gQ) λ_ _ _ _ _=>(bK (O (bw jy (aY Pj hr Z mL.m mL.F.kp mL.b .nil bW (O (pv 1) (O (bw dF aq (pv 0)) aj))) aq) (O (pv 0) aj)))) aj)))
   (aD (aX 4 gR.nd (j4 ["_law_key","_law_v"] [none,none]  (by kernel_rfl) Z (eY (K:=K) Z (pv 3)) (λ_ _ _ _ _=>(jG (K:=K) (n:=2) Z Z (bT (aN 0 (show(["_law_key","_law_v"]:ag).Nodup by decide)) (bT (aN 1 (show(["_law_key","_law_v"]:ag).Nodup by decide)) iU)))) (λ_ _ _ _ _=>gQ) λ_ _ _ _ _=>(pv 1)))
   (aD (aX 5 gR.nd (bw dF aq (bw jy (aY Pj hr Z mL.m mL.F.kp mL.b .nil bW (O (pv 0) (O aq aj))) aq)))
   (aD (aX 6 gR.nd (cG (O (bK (O oU (O (j4 ["_law_k","_law_left"] [none,some 4]  (by kernel_rfl) Z (jw Z B.range (O (aV (Ke Z) Z B.min () (O (aV (bV (K:=K) Z) Z B.len () (O (pv 4) aj)) (O (bw dF aq (bw jy (aY Pj hr Z mL.m mL.F.kp mL.b .nil bW (O (pv 0) (O aq aj))) (pv 2))) aj))) aj)) (λ_ _ _ _ _=>(aN 0 (show(["_law_k","_law_left"]:ag).Nodup by decide))) (λ_ _ _ _ _=>gQ) λ_ _ _ _ _=>(qQ (K:=K) Z gJ Tt Tv Ga (pv 1))) aj))) aj)))
   (aD (è gK (PW.pt (zW (aM zZ (aV (bV (K:=K) Z) Z B.len () (O (pv 6) aj)) (pv 5)) (yR (aM sY (aV (bV (K:=K) Z) Z B.len () (O (pv 4) aj)) aq))))
   (aD (aX 7 gR.nd (aV (bV (K:=K) Z) Z B.len () (O (pv 6) aj)))
   (aD (aX 8 gR.nd (bw jy (aY Pj hr Z mL.m mL.F.kp mL.b .nil bW (O (pv 0) (O (bw dF aq (pv 7)) aj))) (pv 7)))
   (aD (aX 9 gR.nd (eX (wZ (K:=K) Z) (j4 ["_law_v","_law_script","_law_k"] [none,some 0,some 7]  (by kernel_rfl) Z (eY (K:=K) Z (aP (aO (K:=K) Z) (aP (bx (K:=K) Z) (pv 6) (pv 8)) aq)) (λ_ _ _ _ _=>(aN 0 (show(["_law_v","_law_script","_law_k"]:ag).Nodup by decide))) (λ_ _ _ _ _=>(sZ (aM sY (bw jy (aY Pj hr Z mL.m mL.F.kp mL.b .nil bW (O (pv 1) (O (bw dF (bw dF aq (bw wY aq (pv 2))) (pv 0)) aj))) aq) aq))) λ_ _ _ _ _=>(pv 0)) gb (gh (bw NT (pv 2) aq))))
   (aD (aX 10 gR.nd (bw dF aq (bw jy (aY Pj hr Z mL.m mL.F.kp mL.b .nil bW (O (pv 0) (O (bw dF aq (pv 7)) aj))) (bw NT (pv 2) (aV (bV (K:=K) Z) Z B.len () (O (pv 9) aj))))))
   (aF (dZ (gA (K:=K) Z gJ PySem.F.slot_list_append PySem.F.type_list_append fu (pv 6) (O (bK (O (pv 8) (O (bw nD (pv 9) (j4 ["_law_j","_law_left"] [none,some 4]  (by kernel_rfl) Z (jw Z B.range (O (aV (Ke Z) Z B.min () (O (pv 10) (O (aV (bV (K:=K) Z) Z B.len () (O (pv 4) aj)) aj))) aj)) (λ_ _ _ _ _=>(aN 0 (show(["_law_j","_law_left"]:ag).Nodup by decide))) (λ_ _ _ _ _=>gQ) λ_ _ _ _ _=>(qQ (K:=K) Z PySem.F.plainAttrs_list PySem.F.slot_list_pop PySem.F.type_list_pop Ga (pv 1)))) aj))) aj)))))))))
   (aF (bJ (pv 6)))))))),?_⟩
 show⟨_,Z,_,Z,(),(),?_⟩;rw[iG];show a6R dB (aL.refl H) (λi G R hi s1 hR=>⟨_,Z,_,Z,_,_,Z,Z,a,ns,_,Z,hS.same s1,h63,(),(),λz=>⟨_,_,Z,Z,(show(0:Int)<_ by decide),_,Z,(),λp2 H2 n2=>hR _ p2 H2 n2⟩⟩) λps zs H1 l s1 hp pk hpk=>?_;let n2:=iD.oh (H:=H1) (p:=pk) (o:=.lst (ps.map V.ref)) hpk;generalize cY H1 pk (.lst (ps.map V.ref))=H2 at n2 ⊢;show a6S (zs:=zs) dB l n2.here (λk p h=>n2.same _ _ (hp k p h)) λqq p3 H3 pq' n3=>?_;let s3:aL H H3:=s1.trans (n2.same.trans n3.same);show⟨_,Z,p3,Z,⟨_,bB.of n3.here⟩,a6T (zs:=zs) dB l pq' n3.here (λk p h=>(n2.same.trans n3.same) _ _ (hp k p h)) λp5 H5 n5=>?_⟩;let s5:=s3.trans n5.same;let pu:(qq.map λi=>((i:Nat):Int)).Perm (rng n):=a1I pq';generalize (qq.map λi=>((i:Nat):Int))=us at n5 pu;let lu:us.length=n:=by rw[pu.length_eq,aH,vA]
 let h5:=n5.here;let f5:H p5=none:=s3.free n5.fresh;show⟨_,Z,a,ns,2,Z,hS.same s5,h63,(),(),λzm=>⟨_,_,Z,Z,(show(0:Int)<_ by decide),_,_,Z,Z,?_⟩⟩;let y0:=ud zm (show(4:Int)≠0 by decide);let y1:=tZ zm (show(0:Int)<4 by decide);obtain⟨many,em⟩:∃k:Nat,1+zm%4=(k:Int):=⟨(1+zm%4).toNat,()⟩;lk;rw[em];show⟨_,Z,p5,_,Z,.inl (bB.of h5),_,Z,a,ns,3,Z,hS.same s5,h63,(),(),λz3=>?_⟩;let w0:=ud z3 (show(most:Int)≠0 by omega);let w1:=tZ z3 (show(0:Int)<(most:Int) by omega);show⟨_,Z,_,_,Z,Z,(show(0:Int)<(most:Int) by omega),_,_,Z,Z,_,_,Z,?_⟩;obtain⟨c,ec,c1,c2⟩:∃c:Nat,(if 1+z3%(most:Int)<(((us.map V.int).length:Nat):Int)then 1+z3%(most:Int)else(((us.map V.int).length:Nat):Int))=(c:Int)/\c<=most/\c<=us.length:=by
  rw[aH];split
  ·show⟨(1+z3%(most:Int)).toNat,(),(),()⟩
  ·show⟨us.length,Z,(),aK _⟩
 rw[ec];show⟨_,Z,(),(),?_⟩;rw[iG];show Yp h5 c2 () (λi H' xs y N Z98 h q=>⟨_,Z,.inl ⟨Z,_,bB.of h⟩,p5,xs,y,Z,Z,h,q⟩) (λH9 p9 Yg c9 dB=>?_);show⟨(),λp11 H11 Bp=>⟨(),λpr ς n12=>?_⟩⟩;let a8p:ς p5=↥((us.take (us.length-c)).map V.int):=n12.same _ _ (Bp.same _ _ (dB.same _ _ c9.here));let a6U:p5≠pr:=λz=>by let:=n12.fresh;rw[<-z,Bp.same _ _ (dB.same _ _ c9.here)]at this;cases this
 let s12:aL H ς:=(s5.chg f5 c9).trans (dB.same.trans (Bp.same.trans n12.same));let f8:H pr=none:=(s5.chg f5 c9).free (dB.same.free (Bp.same.free n12.fresh));let ne9:p9∉[pr,p5]:=λhm=>by
  rcases bQ.mp hm with hm|hm
  ·let:=n12.fresh;rw[<-hm,Bp.same _ _ dB.here]at this;cases this
  ·let:=dB.fresh;rw[bG.mp hm,c9.here]at this;cases this
 let W0:=a8n (most:=most) (c:=c) pu c1 (yM _);let lt:(us.take (us.length-c)).length=us.length-c:=by rw[eN];omega
 show⟨RowW K a pr p5 ⇑p3 n most many H,⟨_,[.ref p11],[(none,(us.drop (us.length-c)).reverse)],_,none,none,none,none,Z,s12,n12.here,a8p,.cons ⟨p11,p9,Z,n12.same _ _ Bp.here,n12.same _ _ (Bp.same _ _ dB.here),ne9,?_⟩ .nil,W0,Z,?_,?_⟩,?_⟩
 ·show((us.drop (us.length-c)).reverse).length<=1000;rw[Cv,iI];omega
 ·show 1<=_;omega
 ·rw[lt];omega
 rintro m σ H1 ⟨xs,rs,us,v7,v8,v9,v10,rfl,s1,hl,hpl,hpr,W,em',b1,b2⟩;let lx:xs.length=rs.length:=aW hpr;let hS1:=hS.same s1;let r1:=W.T.pos;show orQ (c1:=decide (((xs.length:Nat):Int)<(many:Int))) (c2:=decide ((((us.map V.int).length:Nat):Int)>0)) (λQ h=>⟨_,Z,pr,_,Z,.inl (bB.of hl),_,Z,_,_,Z,Z,_,Z,h⟩) (λQ h=>⟨_,Z,p5,_,Z,.inl (bB.of hpl),_,_,Z,Z,_,Z,h⟩) (qi (λc=>?_) λc=>?_)
 rotate_left
 ·let cd:¬((xs.length:Nat):Int)<(many:Int)/\¬(((us.map V.int).length:Nat):Int)>0:=by simpa using c
  rw[aH]at cd;let e0:us=[]:=List.eq_nil_of_length_eq_zero ();rw[e0]at W;show⟨_,Z,q pr xs rs H1 s1 f8 hl (Paired.cD hpr λ_ _ h=>h.l bh) W ()⟩
 all_goals
  let hc:rs.length<many\/(many<=rs.length/\0<us.length):=by
   let cd:((xs.length:Nat):Int)<(many:Int)\/(((us.map V.int).length:Nat):Int)>0:=by
    rcases Bool.or_eq_true_iff.mp c with z|z
    ·show .inl (dw z)
    ·show .inr (dw z)
   rw[aH]at cd;omega
  let r14:rs.length<=14:=by clear hc;omega
  show⟨λσ' H'=>∃m',m'<m/\RowW K a pr p5 ⇑p3 n most many H m' σ' H',λ_ _ h=>h,⟨_,Z,pr,_,Z,.inl (bB.of hl),?_⟩⟩;rw[lx];show⟨_,Z,_,Z,_,_,Z,Z,a,ns,_,Z,hS1,h63,(),(),λz=>?_⟩;let u0:=ud z (show((rs.length:Nat):Int)≠0 by omega);let u1:=tZ z (show(0:Int)<((rs.length:Nat):Int) by omega);show⟨_,Z,_,_,Z,Z,(show(0:Int)<((rs.length:Nat):Int) by omega),?_⟩;obtain⟨f,ef⟩:∃f:Nat,z%((rs.length:Nat):Int)=(f:Int):=⟨(z%((rs.length:Nat):Int)).toNat,()⟩;lk;rw[ef];let fl:f<rs.length:=()
  let⟨v,hx,⟨pt,bb,rfl,hT,hbb,hbl,_⟩⟩:=cP hpr (uQ fl);let lf:(rowAt rs f).2.length<=most:=W.few f;show⟨_,Z,_,Z,pr,_,_,_,Z,Z,bB.of hl,cB hx,pt,_,_,_,Z,Z,cN.of hT,Z,bb,Z,⟨_,bB.of hbb⟩,qP (K:=K) (a:=bb) (xs:=(rowAt rs f).2.map V.int) (λi ys H'=>∃ks:ae,ys=ks.map V.int/\List.Sublist ks ((rowAt rs f).2.take i)/\aL H1 H') ⟨[],Z,List.nil_sublist _,aL.refl _⟩ (λi ys H' hi ⟨ks,e,sb,s⟩=>⟨bB.of (s _ _ hbb),?_⟩) (λi x ys H2 hx ⟨ks,e,sb,s2⟩=>?_) λys H2 ⟨ks,e,sb,s2⟩ p3' hp3=>?_⟩
  ·let:=sb.length_le;rw[eN]at this;rw[e,aH];show fD (cZ ())
  ·rw[cI]at hx;let⟨u,hu,rfl⟩:=lN.mp hx;let et:(rowAt rs f).2.take (i+1)=(rowAt rs f).2.take i++[u]:=by rw[jr,hu];rfl
   let ub:=W.T.lt f u (gZ hu);show⟨_,Z,_,Z,_,_,Z,Z,.inl ⟨(),()⟩,_,_,Z,Z,_,Z,_,_,Z,Z,a,ns,_,Z,hS1.same s2,h63,(),(),λz4=>⟨_,_,Z,Z,(show(0:Int)<_ by decide),_,_,Z,Z,_,Z,qi (λc4=>⟨_,Z,ks++[u],by rw[e,dz];rfl,by rw[et];show sb.append (List.Sublist.refl _),s2⟩) λc4=>⟨ks,e,by rw[et];show sb.trans (List.sublist_append_left _ _),s2⟩⟩⟩
  subst e;rw[aH,ig]at sb;let n3:iD H2 p3' (.lst (ks.map V.int)) (cY H2 p3' (.lst (ks.map V.int))):=iD.oh hp3;generalize cY H2 p3' (.lst (ks.map V.int))=H3 at n3 ⊢;let sJ:=s2.trans n3.same;let lk:=sb.length_le;let hl3:=sJ _ _ hl;show⟨_,Z,_,_,Z,Z,_,Z,p3',_,Z,bB.of n3.here,λpb H4 n4=>?_⟩;let e1:(most:Int)-1=((most-1:Nat):Int):=()
  rw[e1,ZV,<-UJ]at n4;let ZF:=sJ.trans n4.same;let hpb:=n4.here;let fpb:H1 pb=none:=sJ.free n4.fresh;replace sb:=(Mu (most-1) ks).trans sb;let km:(ks.take (most-1)).length+1<=most:=by rw[eN];omega
  generalize ks.take (most-1)=ks at hpb sb km;show⟨_,Z,_,Z,_,_,Z,Z,a,ns,_,Z,hS1.same ZF,h63,(),(),λz5=>?_⟩;let t0:=ud z5 (show(most:Int)-((ks.length:Nat):Int)≠0 by omega);let t1:=tZ z5 (show(0:Int)<(most:Int)-((ks.length:Nat):Int) by omega);show⟨_,Z,_,Z,pb,_,Z,.inl (bB.of hpb),_,_,Z,Z,_,_,Z,Z,(by rw[aH];show(0:Int)<(most:Int)-((ks.length:Nat):Int);omega),_,_,Z,Z,?_⟩;rw[aH];lk;obtain⟨fr,efr⟩:∃fr:Nat,1+z5%((most:Int)-((ks.length:Nat):Int))=(fr:Int):=⟨(1+z5%((most:Int)-((ks.length:Nat):Int))).toNat,()⟩;rw[efr];let frm:ks.length+fr<=most:=()
  let fr1:1<=fr:=()
  clear efr t0;let a4D:=ZF _ _ hpl;let hl4:=ZF _ _ hl;show⟨_,Z,.inl ⟨Z,_,bB.of hl4⟩,_,Z,_,Z,_,Z,_,Z,p5,_,Z,.inl (bB.of a4D),_,_,Z,?_⟩;obtain⟨c,ec,c1,c2,c3⟩:∃c:Nat,(if(((us.map V.int).length:Nat):Int)<(fr:Int)then(((us.map V.int).length:Nat):Int)else(fr:Int))=(c:Int)/\c<=fr/\c<=us.length/\(1<=fr->0<us.length->1<=c):=by
   rw[aH];split
   ·show⟨us.length,Z,(),aK _,λ_ h=>h⟩
   ·show⟨fr,Z,aK _,(),λh _=>h⟩
  rw[ec];clear ec;show⟨_,Z,(),(),?_⟩;rw[iG];show Yp a4D c2 () (λi H' xs y N Z98 h q=>⟨_,Z,.inl ⟨Z,_,bB.of h⟩,p5,xs,y,Z,Z,h,q⟩) (λH6 p7 H7 c6 n7=>?_);let nb5:pb≠p5:=λz=>by rw[z,hpl]at fpb;cases fpb
  let nl5:pr≠p5:=a6U.symm;let hb7:=n7.same _ _ ((c6.rest pb nb5).trans hpb);show⟨pb,p7,_,_,Z,Z,hb7,n7.here,(by rw[aH,aH,Cv,iI];omega),λp8 H8 n8'=>?_⟩;rw[<-dz]at n8';let hl8:=n8'.same _ _ (n7.same _ _ ((c6.rest pr nl5).trans hl4));let hp8:=n8'.same _ _ (n7.same _ _ c6.here);show⟨(),λο Yg sV=>?_⟩;let a4E:=sV.same _ _ hl8;let a8q:=sV.same _ _ hp8;show⟨pr,_,_,Z,Z,a4E,(by rw[lx];show Mt r14 ()),λH11 c11=>?_⟩;let lks:=sb.length_le;let W2:=a4A (c:=c) W fl sb () (yM _);let lt2:(us.take (us.length-c)).length=us.length-c:=by rw[eN];omega
  let s8':aL H6 Yg:=n7.same.trans (n8'.same.trans sV.same);let x8:p8∉[pr,p5]:=λhm=>by
   let f:=n8'.fresh;rcases bQ.mp hm with hm|hm
   ·rw[hm,n7.same _ _ ((c6.rest pr nl5).trans hl4)]at f;cases f
   ·rw[bG.mp hm,n7.same _ _ c6.here]at f;cases f
  show⟨_,?_,xs++[.ref ο],rs++[(some (f:Int),ks++(us.drop (us.length-c)).reverse)],us.take (us.length-c),_,_,_,_,Z,(((s1.trans ZF).chg f5 c6).trans s8').chg f8 c11,c11.here,(c11.rest p5 a6U).trans a8q,?_,W2,Z,?_,?_⟩
  ·rw[em',bO,Ck,lt2];show a4B hc (c3 fr1)
  ·show d7 (Paired.cD hpr λv t q=>(((q.same ZF).chg a4D c6 (bM _ bh)).same s8').chg a4E c11 bh) (RwX.chg a4E c11 bh ⟨ο,p8,Z,sV.here,sV.same _ _ n8'.here,x8,?_⟩);show(ks++(us.drop (us.length-c)).reverse).length<=1000;rw[bO,Cv,iI];omega
  ·rw[bO,Ck,lt2];show a4C hc (c3 fr1) b1 b2
  ·rw[lt2];omega
def Ş(s t:Int×Int):Prop:=s.1<t.1\/(s.1=t.1/\s.2<t.2)
structure Web(n:Int)(ts:ar):Prop where
 ok:∀t∈ts,0<=t.1/\t.1<t.2/\t.2<n
 up:ts.Pairwise Ş
def a6V [DecidableEq α] {l U:List α} (nd:l.Nodup) (h:∀x∈l,x∈U):l.length<=U.length:=by
 induction l generalizing U with
 |nil=>show cW _
 |cons a r ih =>
  let⟨n1,n2⟩:=jb.mp nd;let am:=h a bh;let:=ih (U:=U.erase a) n2 λx hx=>(Tz λe=>n1 (by rw[<-e];show hx)).mpr (h x (bM _ hx));rw[à am]at this;let:=List.length_pos_of_mem am;rw[iH];omega
noncomputable def a4F:ar:=(List.range 10).flatMap λ(a:Nat)=>((List.range 10).filter λ(b:Nat)=>decide (a<b)).map λ(b:Nat)=>(((a:Nat):Int),((b:Nat):Int))
def Ş.asymm{s t:Int×Int}(h:Ş s t)(h':Ş t s):False:=by
 unfold Ş at h h';omega
def Web.nd{n:Int}{ts:ar}(h:Web n ts):ts.Nodup:=h.up.imp λl e=>by
 subst e;show l.asymm l
def Web.few{n:Nat}{ts:ar}(h:Web n ts)(dB:n<=10):ts.length<=45:=by
 let:=a6V (U:=a4F) h.nd λt ht=>by
  let o:=h.ok t ht;unfold a4F;show List.mem_flatMap.mpr ⟨t.1.toNat,fX.mpr (),dM.mpr ⟨t.2.toNat,jQ.mpr ⟨fX.mpr (),aR ()⟩,?_⟩⟩;grind
 let e:a4F.length=45:=()
 omega
abbrev qw:Stmt:=top 44
def lK:bN ["_law_script","_law_rows_here","_law_n","_law_share","_law_found","_law_a","_law_b","_law_together"] XR (aG qw):={}
def Pk(rs:List zP)(t:Int×Int):Prop:=∃k,t.1∈fG rs k/\t.2∈fG rs k
inductive ş(K:aJ)(vs:af)(H:Hp)(Q:VK)(u_3:XK):Prop
 |mk (a l:Addr) (ns:ae) (ys:af) (rs:List zP) (n:Nat) (_:vs=[.ref a,.ref l,.int n]) (_:Ç K H a ns) (_:ns.length<=63) (_:H l=↥ys) (_:Paired (JG l H) ys rs) (_:rs.length<=40) (_:n<=10) (_:∀r xs ts H',aL H H'->H r=none->H' r=↥xs->Paired (kZ H') xs ts->(∀t∈ts,0<=t.1/\t.1<t.2/\t.2<(n:Int))->ts.Nodup->(∀t∈ts,Pk rs t)->ts.length<=45->Q (.ref r) H')
def zJ{lo:Int}{n:Nat}{tb:TS}{D:Ends}{H:Hp}(Pv:Nat->St->Hp->Prop)(h0:Pv 0 σ H)
  (hs:∀(D':Ends) i σ H,i<n->Pv i σ H->(∀σ2 H2,Pv (i+1) σ2 H2->D'.nx σ2 H2)->D'.rt=D.rt->g (.int (lo+i)) σ H λσ2 H2=>tb D' σ2 H2) (hd:∀σ H,Pv n σ H->D.nx σ H) :
  ∃W:Nat->Nat->St->Hp->Prop,(∃m,W 0 m σ H)/\∀i m σ H,W i m σ H->
   ((U0 lo n).stop i H/\D.nx σ H)\/((U0 lo n).go i H/\∃N:St->Hp->Prop,(∀σ' H',N σ' H'->∃m',m'<m/\W (i+1) m' σ' H')/\∀x H',(U0 lo n).W6 i H x H'->g x σ H' λσ2 H2=>tb { D with nx:=N,ct:=N,bk:=D.nx} σ2 H2) :=
 rz Pv h0 (λi σ H hi p=>hs _ i σ H hi p (λ_ _ h=>h) Z) hd
def Pn(B:Bl mg)(mL:Dn K mg "_law_at" rG KC)(Š:Dn K mg "_law_ties" qw XR):⋯ 2 Š.f Š.fd XR (ş K):=by
 let Pj:⋯ 1 _ _ _ _:=zH B mL;show Š.F.ok lK λdX A outer s H vs Q E hr h=>?_;let⟨a,l,ns,ys,rs,n,rfl,hS,h63,hy,hpr,r40,hn,q⟩:=h;let hv:(A.deeper (PyProof.Rows.envOfC "_law_ties" (aG qw) s⁻¹ Š.f dX)).units+65<cLine:=by let:=hr.un;omega
 let ly:ys.length=rs.length:=aW hpr;show⟨_,(aD (aX 3 lK.nd (bw dF aq (bw jy (aY Pj hr Z mL.m mL.F.kp mL.b .nil bW (O (pv 0) (O aq aj))) aq)))
   (aD (aX 4 lK.nd (cG aj))
   (aD (iz gK Z (jw Z B.range (O (pv 2) aj)) (aN 5 lK.nd)
   (aF (iz gK Z (CT Z B.range (O (bw dF (pv 5) aq) (O (pv 2) aj))) (aN 6 lK.nd)
   (aD (Ai (i:=7) ["_law_row","_law_a","_law_b"] [none,some 5,some 6] lK.nd Z Z (by kernel_rfl) Z (eY (K:=K) Z (pv 1)) (λ_ _ _ _ _=>(aN 0 (show(["_law_row","_law_a","_law_b"]:ag).Nodup by decide))) (λ_ _ _ _ _=>(sZ (PW.pt (lU (aM (tB (K:=K) Z hv) (pv 1) (aP (aO (K:=K) Z) (pv 0) aq) (by with_unfolding_all rfl)) (nA (aM (tB (K:=K) Z hv) (pv 2) (aP (aO (K:=K) Z) (pv 0) aq) (by with_unfolding_all rfl))))))) (λ_ _ _ _ _=>(pv 0)) (by rfl))
   (aF (cO (PW.pt (lU (aM sY (aV (bV (K:=K) Z) Z B.len () (O (pv 7) aj)) aq) (nA (aM zZ (bw jy (aY Pj hr Z mL.m mL.F.kp mL.b .nil bW (O (pv 0) (O (bw dF (bw dF aq (bw wY aq (pv 5))) (pv 6)) aj))) aq) (pv 3)))))
   (aF (dZ (gA (K:=K) Z gJ PySem.F.slot_list_append PySem.F.type_list_append fu (pv 4) (O (bK (O (pv 5) (O (pv 6) aj))) aj))))
   bA))))))
   (aF (bJ (pv 4)))))),?_⟩
 show⟨_,Z,a,ns,4,Z,hS,h63,(),(),λz0=>⟨_,_,Z,Z,(show(0:Int)<_ by decide),_,_,Z,Z,?_⟩⟩;obtain⟨sh,esh⟩:∃sh:Int,sh=2+z0%3:=⟨_,Z⟩;lk;rw[<-esh];show⟨(),λr H0 nw=>?_⟩;show⟨_,Z,_,Z,(),(),?_⟩;rw[iG];show zJ (n:=n) (λi σ H2=>∃(aa bb bo:Option V) (xs:af) (ts:ar),σ=[⇑a,⇑l,some (.int n),some (.int sh),⇑r,aa,bb,bo]/\aL H H2/\H2 r=↥xs/\Paired (kZ H2) xs ts/\ts.length<=10*i/\Web n ts/\(∀t∈ts,t.1<(i:Int))/\∀t∈ts,Pk rs t)
  ⟨none,none,none,[],[],Z,nw.same,nw.here,.nil,cW _,⟨λt h=>absurd h eO,.nil⟩,λt h=>absurd h eO,λt h=>absurd h eO⟩ ?_ ?_
 ·rintro D1 i σ H2 hi ⟨aa,bb,bo,xs,ts,rfl,sm,hr2,hp,hz,hw,hlt,bi⟩ dn1 _;show⟨_,Z,_,_,Z,Z,_,Z,_,_,Z,⟨(),(),(),()⟩,?_⟩;show zJ (n:=_) (λj σ H3=>∃(bb bo:Option V) (xs:af) (ts:ar),σ=[⇑a,⇑l,some (.int n),some (.int sh),⇑r,some (.int (0+(i:Int))),bb,bo]/\aL H H3/\H3 r=↥xs/\Paired (kZ H3) xs ts/\ts.length<=10*i+j/\Web n ts/\(∀t∈ts,t.1<(i:Int)\/(t.1=(i:Int)/\t.2<(i:Int)+1+j))/\∀t∈ts,Pk rs t)
   ⟨bb,bo,xs,ts,Z,sm,hr2,hp,(),hw,λt h=>.inl (hlt t h),bi⟩ ?_ ?_
  ·rintro D2 j σ H3 hj ⟨bb,bo,xs,ts,rfl,sm,hr3,hp,hz,hw,hlt,bi⟩ dn _;let jn:(j:Int)+(0+(i:Int)+1)<n:=()
   let hy3:=sm _ _ hy;generalize eav:(0+(i:Int))=av;generalize ebv:(av+1+(j:Int))=bv;show⟨_,Z,l,Z,⟨_,bB.of hy3⟩,ć (λk=>if(decide (av∈fG rs k)&&decide (bv∈fG rs k))=true then ys[k]? else none) (bB.of hy3) () (λk x H4 N hk s4 hN=>?_) λH4 p4 H5 s4 n4=>?_⟩
   ·let kl:k<rs.length:=by rw[<-ly];show(eG.mp hk).1
    let⟨v,hx,⟨pp,b,rfl,hTk,hb,_⟩⟩:=cP hpr (uQ kl);rw[hk]at hx;cases hx;let s04:=sm.trans s4;let hN':=hN H4 s4;rw[hk]at hN';show⟨_,Z,_,Z,pp,_,_,_,Z,Z,cN.of (s04 _ _ hTk),Z,yU (bB.of (s04 _ _ hb)) ⟨_,Z,qi (λc=>?_) λc=>?_⟩⟩
    ·show⟨_,Z,_,Z,pp,_,_,_,Z,Z,cN.of (s04 _ _ hTk),Z,yU (bB.of (s04 _ _ hb)) ⟨_,Z,qi (λd=>?_) λd=>?_⟩⟩
     ·rw[aB (by unfold fG;rw[c,d];rfl)]at hN';show⟨_,Z,hN'⟩
     ·rw[aA (by unfold fG;rw[yK.mpr d];simp)]at hN';show hN'
    ·show cV ?_;rw[aA (by unfold fG;rw[yK.mpr c];simp)]at hN';show hN'
   let s05:=sm.trans (s4.trans n4.same);let hr5:H5 r=↥xs:=(s4.trans n4.same) _ _ hr3;let hp5:=Paired.cD hp λv t q=>kZ.same (s4.trans n4.same) q;let lxs:xs.length=ts.length:=aW hp;let no:=λbv=>dn [some (V.ref a),⇑l,some (.int n),some (.int sh),⇑r,some (.int av),bv,⇑p4] H5 ⟨bv,⇑p4,xs,ts,by rw[eav],s05,hr5,hp5,(),hw,λt ht=>by let:=hlt t ht;omega,bi⟩;show⟨_,Z,p4,_,Z,.inl (bB.of n4.here),_,_,Z,Z,_,Z,qi (λc=>?_) λc=>no _⟩;let c':=dw c;show⟨_,Z,_,Z,_,_,Z,Z,.inl ⟨(),()⟩,_,_,Z,Z,_,Z,_,_,Z,Z,a,ns,_,Z,hS.same s05,h63,(),(),λz5=>⟨_,_,Z,Z,(show(0:Int)<_ by decide),_,Z,_,_,Z,Z,_,Z,qi (λd=>?_) λd=>no _⟩⟩;let hrow:Pk rs (av,bv):=by
    let c3:0<((List.range ys.length).filterMap λk=>if(decide (av∈fG rs k)&&decide (bv∈fG rs k))=true then ys[k]? else none).length:=()
    let⟨x,hx⟩:=List.exists_mem_of_length_pos c3;let⟨k,_,e⟩:=T6.mp hx;by_cases d2:(decide (av∈fG rs k)&&decide (bv∈fG rs k))=true
    ·rw[fU]at d2;show⟨k,dw d2.1,dw d2.2⟩
    ·rw[aA d2]at e;cases e
   show⟨_,Z,.inl ⟨Z,_,bB.of hr5⟩,_,Z,_,Z,(),λp6 H6 n6=>?_⟩;let h6:=n6.same _ _ hr5;show⟨r,_,_,Z,Z,h6,(),λH7 c7=>?_⟩;show dn _ _ ⟨some (.int bv),⇑p4,xs++[.ref p6],ts++[(av,bv)],by rw[eav];rfl,(s05.trans n6.same).chg nw.fresh c7,c7.here,?_,?_,⟨λt ht=>?_,?_⟩,λt ht=>?_,λt ht=>?_⟩
   ·show d7 (Paired.cD hp5 λv t q=>(kZ.same n6.same q).chg h6 c7) (kZ.chg h6 c7 ⟨p6,Z,n6.here⟩)
   ·rw[bO];show ts.length+1<=_;omega
   ·rcases cH.mp ht with ht|ht
    ·show hw.ok t ht
    ·rw[bG.mp ht];show⟨by show 0<=av;omega,by show av<bv;omega,by show bv<n;omega⟩
   ·show Mj.mpr ⟨hw.up,tR _ _,λt ht u hu=>?_⟩;rw[bG.mp hu];show t.1<av\/(t.1=av/\t.2<bv);let:=hlt t ht;omega
   ·rcases cH.mp ht with ht|ht
    ·let:=hlt t ht;omega
    ·rw[bG.mp ht];show av<(i:Int)\/(av=(i:Int)/\bv<(i:Int)+1+((j+1:Nat):Int));omega
   ·rcases cH.mp ht with ht|ht
    ·show bi t ht
    ·rw[bG.mp ht];show hrow
  ·rintro σ H3 ⟨bb,bo,xs,ts,rfl,sm,hr3,hp,hz,hw,hlt,bi⟩;show dn1 _ _ ⟨_,bb,bo,xs,ts,Z,sm,hr3,hp,(),hw,λt ht=>by let:=hlt t ht;omega,bi⟩
 ·rintro σ H2 ⟨aa,bb,bo,xs,ts,rfl,sm,hr2,hp,hz,hw,hlt,bi⟩;let few:=hw.few hn;show⟨_,Z,q r xs ts H2 sm nw.fresh hr2 hp (λt ht=>hw.ok t ht) hw.nd bi ()⟩
abbrev kE:Stmt:=top 45
def fO:bN ["_law_ties_here","_law_rows_here","_law_k","_law_early","_law_above","_law_bag","_law_mine","_law_steps","_law_j"] Bf (aG kE):={}
inductive Ca(K:aJ)(d:Nat)(vs:af)(H:Hp)(Q:VK)(u_3:XK):Prop
 |mk (r l:Addr) (tx ys:af) (tb:ar) (rs:List zP) (n most k:Nat) (early:Bool) (_:vs=[.ref r,.ref l,.int (k:Int),.bl early]) (_:H r=↥tx) (_:Paired (kZ H) tx tb) (_:tb.length<=100) (_:H l=↥ys) (_:Paired (JG l H) ys rs) (_:Rw n most rs []) (_:most<=4) (_:rs.length<=20) (_:n<=10) (_:k<rs.length) (_:rs.length<=k+d) (_:∀p xs H',aL H H'->H p=none->H' p=↥xs->Paired (sW H') xs (oJ early tb rs.length (zR rs) (fG rs) d k)->Q (.ref p) H')
noncomputable def uK(m:Nat)(up:Nat->Nat)(k i:Nat):ay:=(List.range i).filter λj=>decide (k<j)&&decide (up j=k)
def a4G(m:Nat)(up:Nat->Nat)(k:Nat):uK m up k (k+1)=[]:=by
 unfold uK;rw[List.filter_eq_nil_iff];grind
def š{m:Nat}{up:Nat->Nat}{k i:Nat}(h:i<=m)(L:Nat->ax):((uK m up k i).flatMap L).length<=((gH m up k).flatMap L).length:=by
 unfold uK gH;let e:List.range m=List.range i++(List.range (m-i)).map (i + ·):=by
  rw[<-List.range_add];congr 1;omega
 rw[e,Cy,TX,bO];omega
def K9{m:Nat}{up:Nat->Nat}{k i:Nat}(h:k<i):uK m up k (i+1)=uK m up k i++if up i=k then [i]else []:=by
 unfold uK;rw[wO,Cy];grind
def jH{β:Type}{R:α->β->Prop}{xs xs':List α}{ys ys':List β}(h:Paired R xs ys)(q:Paired R xs' ys'):Paired R (xs++xs') (ys++ys'):=by
 induction h with
 |nil=>show q
 |cons a _ ih=>show .cons a ih
def Jr{ta tb:TT}{H:Hp}{b1 b2:Bool}{Q:Bool->Hp->Prop}(h1:∀Q:Bool->Hp->Prop,Q b1 H->ta σ H Q)(h2:∀Q:Bool->Hp->Prop,Q b2 H->tb σ H Q)(h:Q (b1&&b2) H):â ta tb σ H Q:=by
 show h1 _ ?_;grind
def Gn{a:Addr}{tt:TT}{H:Hp}(xs:ae)(c:Int->Bool)(S:Int->bZ)(hx:bB K H a (xs.map V.int))(l9:xs.length<=900)
  (hs:∀(v:Int) (H1:Hp) (N:VK) (Z98:Hp->Prop),v∈xs->aL H H1->(c v=true->∀p H2,iD H1 p (.tup (S v).vs) H2->N (.ref p) H2)->(c v=false->Z98 H1)->g (.int v) (qj ix σ) H1 λσ2 H2=>tt σ2 H2 λb H3=>if b=true then te σ2 H3 N else Z98 H3)
  (hd:∀H1 p ys H2,aL H H1->iD H1 p (.lst ys) H2->Paired (sW H2) ys ((xs.filter c).map S)->Q (.ref p) H2):lV ix g tt te σ H Q (Æ K a):=by
 show qP (K:=K) (a:=a) (xs:=xs.map V.int) (λi ys H'=>aL H H'/\Paired (sW H') ys (((xs.take i).filter c).map S)) ⟨aL.refl _,.nil⟩ (λi ys H' hi ⟨s,p⟩=>⟨s.seq hx,?_⟩) (λi x ys H' hi ⟨s,p⟩=>?_) (λys H' ⟨s,p⟩ q hq=>?_)
 ·rw[aW p,aH];let:=Cq c (xs.take i);rw[eN]at this;show fD (cZ ())
 ·rw[cI]at hi;let⟨v,hv,rfl⟩:=lN.mp hi;let et:xs.take (i+1)=xs.take i++[v]:=by rw[jr,hv];rfl
  show hs v H' _ _ (gZ hv) s (λcv p2 H2 n2=>⟨s.trans n2.same,?_⟩) (λcv=>⟨s,?_⟩)
  ·rw[et,Cy,dz,M4,cv];show d7 (Paired.cD p λ_ _ h=>h.same n2.same) ⟨p2,Z,n2.here⟩
  ·rw[et,Cy,dz,M4,cv];simp only[Bool.false_eq_true,if_false,List.filter_nil,List.map_nil,List.append_nil];show p
 ·let nq:iD H' q (.lst ys) (cY H' q (.lst ys)):=iD.oh hq;rw[aH,ig]at p;show hd H' q ys _ s nq (Paired.cD p λ_ _ h=>h.same nq.same)
def Ţ(EY:Dn K mg "_law_laid" kE Bf):⋯ 1 EY.f EY.fd Bf (Ca K 0):=by
 show EY.F.ok fO (len:=λvs H Q E h=>?_) (λdX A outer s H vs Q E hr h=>?_)
 ·let⟨r,l,tx,ys,tb,rs,n,most,k,early,_,_,_,_,_,_,_,_,_,_,h1,h2,_⟩:=h;omega
 ·let⟨r,l,tx,ys,tb,rs,n,most,k,early,_,_,_,_,_,_,_,_,_,_,h1,h2,_⟩:=h;omega
def ţ(B:Bl mg)(EY:Dn K mg "_law_laid" kE Bf)(d:Nat)(gZ5:⋯ (d+1) EY.f EY.fd Bf (Ca K d)):⋯ (d+2) EY.f EY.fd Bf (Ca K (d+1)):=by
 show EY.F.ok fO λdX A outer s H vs Q E hr h=>?_;let⟨r,l,tx,ys,tb,rs,n,most,k,early,rfl,hT,pT,a1H,hL,pL,W,m4,r20,dB,kl,dk,q⟩:=h;let hv:(A.deeper (PyProof.Rows.envOfC "_law_laid" (aG kE) s⁻¹ EY.f dX)).units+65<cLine:=by let:=hr.un;omega
 let ly:=aW pL;let ltx:=aW pT;let T:=W.T;let⟨vk,hxk,⟨pk,bk,rfl,hTk,hbk,nbk,lbk⟩⟩:=cP pL (uQ kl);let hW4:∀j,(fG rs j).length<=4:=λj=>cF (W.few j) m4;let b10:∀j,(fG rs j).length<=10:=λj=>cF (hW4 j) ();let full:=K8 T hW4 r20 early a1H (f:=d+1) kl;obtain⟨L,eL⟩:∃L:Nat->ax,L=λj=>oJ early tb rs.length (zR rs) (fG rs) d j++(nY (fG rs) j k++[.join]):=⟨_,Z⟩;obtain⟨M0,eM⟩:∃M0:ax,M0=(.leaf::(fG rs k).map .inn)++if early=true then(vg (zR rs) (fG rs) tb k).map λt=>.tie t.1 t.2 else []:=⟨_,Z⟩
 let eS:oJ early tb rs.length (zR rs) (fG rs) (d+1) k=(M0++(gH rs.length (zR rs) k).flatMap L)++if early=true then []else(vg (zR rs) (fG rs) tb k).map λt=>.tie t.1 t.2:=by rw[eL,eM];rfl
 rw[eS]at q full;rw[bO,bO]at full;let a8J:(vg (zR rs) (fG rs) tb k).length<=100:=cF (Cq _ _) a1H;let lM:M0.length<=120:=by
  rw[eM,bO,iH,aH];let:=b10 k;cases early with
  |true=>rw[aB Z,aH];omega
  |false=>rw[aA cL];show _+0<=_;omega
 show⟨_,(aD (aX 4 fO.nd (cG aj))
   (iW (cO (aM sY (pv 2) aq)
   (aF (aX 4 fO.nd (aP (aO (K:=K) Z) (aP (bx (K:=K) Z) (pv 1) (aP (aO (K:=K) Z) (aP (bx (K:=K) Z) (pv 1) (pv 2)) aq)) aq)))
   bA)
   (aD (aX 5 fO.nd (aP (aO (K:=K) Z) (aP (bx (K:=K) Z) (pv 1) (pv 2)) aq))
   (aD (Ai (i:=6) ĺ [none,none,some 5,some 4] fO.nd Z Z (by kernel_rfl) Z (eY (K:=K) Z (pv 0)) (λ_ _ _ _ _=>(jG (K:=K) (n:=2) Z Z (bT (aN 0 (show(ĺ:ag).Nodup by decide)) (bT (aN 1 (show(ĺ:ag).Nodup by decide)) iU)))) (λ_ _ _ _ _=>(sZ (PW.pt (lU (aM (tB (K:=K) Z hv) (pv 0) (pv 2) (by with_unfolding_all rfl)) (lU (aM (tB (K:=K) Z hv) (pv 1) (pv 2) (by with_unfolding_all rfl)) (nA (nC (PW.pt (lU (aM (tB (K:=K) Z hv) (pv 0) (pv 3) (by with_unfolding_all rfl)) (nA (aM (tB (K:=K) Z hv) (pv 1) (pv 3) (by with_unfolding_all rfl)))))))))))) (λ_ _ _ _ _=>(bK (O gw (O (pv 0) (O (pv 1) aj))))) (by rfl))
   (aD (aX 7 fO.nd (bw nD (cG (O (bK (O gw aj)) aj)) (j4 ["_law_v"] [none]  (by kernel_rfl) Z (eY (K:=K) Z (pv 5)) (λ_ _ _ _ _=>(aN 0 (show(["_law_v"]:ag).Nodup by decide))) (λ_ _ _ _ _=>gQ) λ_ _ _ _ _=>(bK (O gw (O (pv 0) aj))))))
   (iW (cO (dh (K:=K) Z (pv 3) λ_=>rfl)
   (aF (aX 7 fO.nd (bw nD (pv 7) (pv 6))))
   bA)
   (aD (iz gK Z (CT Z B.range (O (bw dF (pv 2) aq) (O (aV (bV (K:=K) Z) Z B.len () (O (pv 1) aj)) aj))) (aN 8 fO.nd)
   (aF (cO (aM lX (aP (aO (K:=K) Z) (aP (bx (K:=K) Z) (pv 1) (pv 8)) aq) (pv 2))
   (aD (aX 7 fO.nd (bw nD (bw nD (pv 7) (aY gZ5 hr Z EY.m EY.F.kp EY.b .nil bW (O (pv 0) (O (pv 1) (O (pv 8) (O (pv 3) aj)))))) (j4 ["_law_v","_law_bag"] [none,some 5]  (by kernel_rfl) Z (eY (K:=K) Z (aP (aO (K:=K) Z) (aP (bx (K:=K) Z) (pv 1) (pv 8)) aq)) (λ_ _ _ _ _=>(aN 0 (show(["_law_v","_law_bag"]:ag).Nodup by decide))) (λ_ _ _ _ _=>(sZ (aM (iB (K:=K) Z hv) (pv 0) (pv 1) (by with_unfolding_all rfl)))) λ_ _ _ _ _=>(bK (O gw (O (pv 0) aj))))))
   (aF (aX 7 fO.nd (bw nD (bw nD (pv 7) (j4 ["_law_v","_law_rows_here","_law_j"] [none,some 1,some 8]  (by kernel_rfl) Z (eY (K:=K) Z (pv 5)) (λ_ _ _ _ _=>(aN 0 (show(["_law_v","_law_rows_here","_law_j"]:ag).Nodup by decide))) (λ_ _ _ _ _=>(sZ (aM (iB (K:=K) Z hv) (pv 0) (aP (aO (K:=K) Z) (aP (bx (K:=K) Z) (pv 1) (pv 2)) aq) (by with_unfolding_all rfl)))) λ_ _ _ _ _=>(bK (O gw (O (pv 0) aj))))) (cG (O (bK (O gw aj)) aj))))))
   bA)))
   (aD (cO (dh (K:=K) Z (pv 3) λ_=>rfl)
   (aF (bJ (pv 7)))
   bA)
   (aF (bJ (bw nD (pv 7) (pv 6)))))))))))),?_⟩
 show⟨(),λpa H7 n7=>?_⟩;let s7:=n7.same;show⟨λσ' H'=>∃(pA:Addr) (ab:ae),σ'=[⇑r,⇑l,some (.int (k:Int)),some (.bl early),⇑pA,none,none,none,none]/\H'=H7/\H7 pA=↥(ab.map V.int)/\∀t:Int×Int,(¬(t.1∈ab/\t.2∈ab))↔(k=0\/¬(t.1∈fG rs (zR rs k)/\t.2∈fG rs (zR rs k))),?_,?_⟩
 ·show⟨_,Z,_,_,Z,Z,_,Z,?_⟩;by_cases k0:k=0
  ·rw[cC ()];show cV ⟨pa,[],Z,Z,n7.here,λt=>⟨λ_=>.inl k0,λ_ z=>absurd z.1 eO⟩⟩
  ·rw[aR ()];let ul:=T.ups k () kl;let a6W:=hTk;rw[W.ru k () kl]at a6W;let⟨vu,hxu,⟨pu,bu,rfl,hTu,hbu,nbu,lbu⟩⟩:=cP pL (uQ (show zR rs k<rs.length by omega));show gP ⟨_,Z,_,Z,_,Z,l,_,_,_,Z,Z,bB.of (s7 _ _ hL),cB hxk,pk,_,_,_,Z,Z,cN.of (s7 _ _ a6W),Z,l,_,_,_,Z,Z,bB.of (s7 _ _ hL),cB hxu,pu,_,_,_,Z,Z,cN.of (s7 _ _ hTu),Z,⟨bu,_,Z,Z,s7 _ _ hbu,λt=>⟨λh=>.inr h,λh=>h.elim (λz=>absurd z k0) id⟩⟩⟩
 rintro σ' H8 ⟨pA,ab,rfl,rfl,hA,mA⟩;show⟨_,Z,_,Z,l,_,_,_,Z,Z,bB.of (s7 _ _ hL),cB hxk,pk,_,_,_,Z,Z,cN.of (s7 _ _ hTk),Z,⟨_,Z,r,Z,⟨_,bB.of (s7 _ _ hT)⟩,qP (K:=K) (a:=r) (xs:=tx) (λi yo H'=>aL H8 H'/\Paired (sW H') yo (((tb.take i).filter λt=>decide (jg (zR rs) (fG rs) k t)).map λt=>.tie t.1 t.2)) ⟨aL.refl _,.nil⟩ (λi yo H' hi ⟨s,p⟩=>⟨bB.of (s _ _ (s7 _ _ hT)),?_⟩) (λi x yo H9 hx ⟨s9',p9⟩=>?_) λyo H9 ⟨s9',p9⟩ pM hpM=>?_⟩⟩
 ·rw[aW p,aH];let:=Cq (λt=>decide (jg (zR rs) (fG rs) k t)) (tb.take i);rw[eN]at this;show fD (cZ ())
 ·let⟨t,ht,⟨px,rfl,hpx⟩⟩:=bI pT hx;let et:tb.take (i+1)=tb.take i++[t]:=by rw[jr,ht];rfl
  let s9:=s7.trans s9';show⟨px,_,Z,cN.of (s9 _ _ hpx),Z,_,_,Z,_,_,Z,Z,?_⟩;let hb9:=s9 _ _ hbk;let hA9:=s9' _ _ hA;rw[et,Cy,dz,M4];show Jr (b1:=decide (t.1∈fG rs k)) (b2:=decide (t.2∈fG rs k) && !(decide (t.1∈ab)&&decide (t.2∈ab))) (λQ h=>⟨_,Z,_,Z,yU (bB.of hb9) ⟨_,Z,h⟩⟩) (λQ h=>Jr (b1:=decide (t.2∈fG rs k)) (b2:=!(decide (t.1∈ab)&&decide (t.2∈ab))) (λQ h=>⟨_,Z,_,Z,yU (bB.of hb9) ⟨_,Z,h⟩⟩) (λQ h=>Jr (b1:=decide (t.1∈ab)) (b2:=decide (t.2∈ab)) (Q:=λb H'=>Q (!b) H') (λQ h=>⟨_,Z,_,Z,yU (bB.of hA9) ⟨_,Z,h⟩⟩) (λQ h=>⟨_,Z,_,Z,yU (bB.of hA9) ⟨_,Z,h⟩⟩) h) h) ?_;let eh:(decide (t.1∈fG rs k)&&(decide (t.2∈fG rs k) && !(decide (t.1∈ab)&&decide (t.2∈ab))))=decide (jg (zR rs) (fG rs) k t):=by
   rw[rK,fU,fU,dJ,dJ,dJ];unfold jg;rw[<-mA t];by_cases c1:t.1∈ab<;>by_cases c2:t.2∈ab<;>simp[c1,c2]
  rw[eh];show qi (λc=>?_) (λc=>?_)
  ·rw[aB c];show⟨_,Z,_,Z,(),λο Yg sV=>⟨s9'.trans sV.same,?_⟩⟩;show d7 (Paired.cD p9 λ_ _ h=>h.same sV.same) ⟨ο,Z,sV.here⟩
  ·rw[aA c];show⟨s9',?_⟩;rw[List.filter_nil,List.map_nil,jE];show p9
 rw[ltx,ig]at p9;let nM:iD H9 pM (.lst yo) (cY H9 pM (.lst yo)):=iD.oh hpM;generalize cY H9 pM (.lst yo)=Yg at nM ⊢;let a4H:Paired (sW Yg) yo ((vg (zR rs) (fG rs) tb k).map λt=>.tie t.1 t.2):=Paired.cD p9 λ_ _ h=>h.same nM.same;let a8r:=aW a4H;rw[aH]at a8r;let a6X:=s7.trans (s9'.trans nM.same);let a8K:=(s9'.trans nM.same) _ _ hA;show⟨(),λp1 H1 n1=>⟨(),λp2 H2 n2=>?_⟩⟩;let s2:=a6X.trans (n1.same.trans n2.same);show⟨_,Z,bk,Z,⟨_,bB.of (s2 _ _ hbk)⟩,?_⟩;show Gn (fG rs k) (λ_=>true) bZ.inn (bB.of (s2 _ _ hbk)) (by let:=b10 k;omega) (λv H3 N Z98 _ s3 hN hM=>?_) (λH3 p3 ys3 H4 s3 n4 p4=>?_)
 ·show⟨_,Z,(),λp H5 n5=>hN Z p H5 n5⟩
 rw[List.filter_eq_self.mpr (λ_ _=>rfl)]at p4;let Ŋ:=s3.trans n4.same;let l4:=aW p4;rw[aH]at l4;show⟨p2,p3,_,_,Z,Z,Ŋ _ _ n2.here,n4.here,(by let:=b10 k;show 1+ys3.length<=1000;omega),λp5 H5 n5=>?_⟩;let a1J:aL Yg H5:=n1.same.trans (n2.same.trans (Ŋ.trans n5.same));let s5':=a6X.trans a1J;let f5':H p5=none:=(s2.trans Ŋ).free n5.fresh;let P5':Paired (sW H5) ([.ref p1]++ys3) (.leaf::(fG rs k).map bZ.inn):=.cons ⟨p1,Z,n5.same _ _ (Ŋ _ _ (n2.same _ _ n1.here))⟩ (Paired.cD p4 λ_ _ h=>h.same n5.same);let hM5:=a1J _ _ nM.here;show⟨λσ' H'=>∃(pS0:Addr) (xs:af),σ'=[⇑r,⇑l,some (.int (k:Int)),some (.bl early),⇑pA,⇑bk,⇑pM,⇑pS0,none]/\aL H5 H'/\H pS0=none/\H' pS0=↥xs/\Paired (sW H') xs M0,?_,?_⟩
 ·show⟨_,Z,early,Z,?_⟩;cases early with
  |false =>
   show cV ⟨p5,_,Z,aL.refl _,f5',n5.here,?_⟩;rw[eM,aA cL,jE];show P5'
  |true =>
   show gP ⟨_,Z,_,Z,p5,pM,_,_,Z,Z,n5.here,hM5,(by let:=b10 k;rw[bO];show 1+ys3.length+_<=1000;omega),λp6 H6 n6=>⟨p6,_,Z,n6.same,s5'.free n6.fresh,n6.here,?_⟩⟩;rw[eM,aB rfl];show jH (Paired.cD P5' λ_ _ h=>h.same n6.same) (Paired.cD a4H λ_ _ h=>h.same (a1J.trans n6.same))
 rintro σ' H6' ⟨pS0,xs0,rfl,s56,f5,hS0,P5⟩;let s5:=s5'.trans s56;let hL5:=s5 _ _ hL;let hMM:=s56 _ _ hM5;let a6Y:Paired (sW H6') yo ((vg (zR rs) (fG rs) tb k).map λt=>.tie t.1 t.2):=Paired.cD a4H λ_ _ h=>h.same (a1J.trans s56);show⟨_,Z,_,_,Z,Z,_,Z,l,_,Z,.inl (bB.of hL5),_,_,Z,⟨(),(),(),()⟩,?_⟩;show rz (n:=_) (λi σ H'=>∃(jj:Option V) (pS:Addr) (xs:af),σ=[⇑r,⇑l,some (.int (k:Int)),some (.bl early),⇑pA,⇑bk,⇑pM,⇑pS,jj]/\aL H H'/\aL H6' H'/\H pS=none/\H' pS=↥xs/\Paired (sW H') xs (M0++(uK rs.length (zR rs) k (k+1+i)).flatMap L))
  ⟨none,pS0,_,Z,s5,aL.refl _,f5,hS0,by rw[a4G,List.flatMap_nil,jE];show P5⟩ ?_ ?_
 ·rintro i σ H6 hi ⟨jj,pS,xs,rfl,s6,s6m,fS,hS,pS'⟩;let jl:k+1+i<rs.length:=by rw[ly]at hi;omega
  obtain⟨j,ej⟩:∃j,j=k+1+i:=⟨_,Z⟩;let ejI:(k:Int)+1+(i:Int)=(j:Int):=()
  rw[ejI];rw[<-ej]at jl pS';let ej2:k+1+(i+1)=j+1:=()
  rw[ej2,K9 (show k<j by omega)];let⟨vj,hxj,⟨pj,bj,rfl,ξ,hbj,nbj,lbj⟩⟩:=cP pL (uQ jl);rw[W.ru j () jl]at ξ;let pre:=š (up:=zR rs) (k:=k) (show j+1<=rs.length by omega) L;rw[K9 (show k<j by omega)]at pre;let lxs:=aW pS';rw[bO]at lxs;show⟨_,Z,_,Z,l,_,_,_,Z,Z,bB.of (s6 _ _ hL),cB hxj,pj,_,_,_,Z,Z,cN.of (s6 _ _ ξ),Z,_,Z,Z,_,Z,?_⟩;by_cases c:zR rs j=k
  ·rw[aB c]at pre ⊢;rw[show decide (upV (some ((zR rs j:Nat):Int))=V.int (k:Int))=true from aR (by rw[c];rfl)];show gP ?_;let eLj:L j=oJ early tb rs.length (zR rs) (fG rs) d j++((uI (fG rs j) (fG rs k)).map .out++(uI (fG rs k) (fG rs j)).map .inn++[.join]):=by rw[eL];rfl
   rw[TX,bO,List.flatMap_singleton]at pre;let lLj:=congrArg List.length eLj;rw[bO,bO,bO,aH,aH]at lLj;let lJ1:[bZ.join].length=1:=rfl;show⟨_,Z,_,Z,_,Z,_,Z,_,Z,r,l,tx,ys,tb,rs,n,most,j,early,Z,s6 _ _ hT,Paired.cD pT λ_ _ h=>kZ.same s6 h,a1H,s6 _ _ hL,Paired.cD pL λ_ _ h=>JG.same s6 h,W,m4,r20,dB,jl,(),λpJ xJ H7 s7 fJ hJ pJ'=>?_⟩;let lJ:=aW pJ';show⟨pS,pJ,_,_,Z,Z,s7 _ _ hS,hJ,(),λp8 H8 n8=>?_⟩;let s68:=s7.trans n8.same;let s8:=s6.trans s68;show⟨_,Z,_,Z,l,_,_,_,Z,Z,bB.of (s8 _ _ hL),cB hxj,pj,_,_,_,Z,Z,cN.of (s8 _ _ ξ),Z,bj,Z,⟨_,bB.of (s8 _ _ hbj)⟩,?_⟩;show Gn (fG rs j) (λv=>!decide (v∈fG rs k)) bZ.out (bB.of (s8 _ _ hbj)) (by let:=b10 j;omega) (λv H9 N Z98 _ s9 hN hM=>?_) (λH9 p9 y9 Yg s9 sV ο=>?_)
   ·show⟨_,Z,_,Z,rB (bB.of ((s8.trans s9) _ _ hbk)) ⟨_,Z,qi (λe=>?_) λe=>hM (yK.mpr e)⟩⟩;show⟨_,Z,(),λp H5 n5=>hN e p H5 n5⟩
   let l10:=aW ο;rw[aH]at l10;let a8L:y9.length=(uI (fG rs j) (fG rs k)).length:=l10;let a4I:=s9.trans sV.same;show⟨p8,p9,_,_,Z,Z,a4I _ _ n8.here,sV.here,by rw[bO];omega,λp11 H11 Bp=>?_⟩;let υ:=s8.trans (a4I.trans Bp.same);show⟨_,Z,_,Z,bk,Z,⟨_,bB.of (υ _ _ hbk)⟩,?_⟩;show Gn (fG rs k) (λv=>!decide (v∈fG rs j)) bZ.inn (bB.of (υ _ _ hbk)) (by let:=b10 k;omega) (λv ς N Z98 _ s12 hN hM=>?_) (λς p12 y12 H13 s12 n13 p13=>?_)
   ·show⟨_,Z,_,Z,_,Z,l,_,_,_,Z,Z,bB.of ((υ.trans s12) _ _ hL),cB hxj,pj,_,_,_,Z,Z,cN.of ((υ.trans s12) _ _ ξ),Z,rB (bB.of ((υ.trans s12) _ _ hbj)) ⟨_,Z,qi (λe=>?_) λe=>hM (yK.mpr e)⟩⟩;show⟨_,Z,(),λp H5 n5=>hN e p H5 n5⟩
   let l13:=aW p13;rw[aH]at l13;let a8M:y12.length=(uI (fG rs k) (fG rs j)).length:=l13;let Ť:=s12.trans n13.same;show⟨p11,p12,_,_,Z,Z,Ť _ _ Bp.here,n13.here,by rw[bO,bO];omega,λp14 H14 n14=>?_⟩;show⟨(),λp15 H15 n15=>⟨(),λp16 H16 n16=>?_⟩⟩;let ť:=n15.same.trans n16.same;show⟨p14,p16,_,_,Z,Z,ť _ _ n14.here,n16.here,(by rw[bO,bO,bO];show _+1<=1000;omega),λp17 H17 n17=>?_⟩;let a2F:=n14.same.trans (ť.trans n17.same);let a2G:=Bp.same.trans (Ť.trans a2F);let a4J:=a4I.trans a2G;let s17:=s8.trans a4J;let a6Z:=n8.same.trans a4J;show⟨_,p17,_,Z,s17,s6m.trans (s68.trans a4J),?_,n17.here,?_⟩
   ·show(υ.trans (Ť.trans (n14.same.trans ť))).free n17.fresh
   ·rw[TX,List.flatMap_singleton,eLj,<-oM,<-oM,<-oM,<-oM];show jH (jH (jH (jH (Paired.cD pS' λ_ _ h=>h.same (s7.trans a6Z)) (Paired.cD pJ' λ_ _ h=>h.same a6Z)) (Paired.cD ο λ_ _ h=>h.same a2G)) (Paired.cD p13 λ_ _ h=>h.same a2F)) (.cons ⟨p15,Z,n17.same _ _ (n16.same _ _ n15.here)⟩ .nil)
  ·rw[aA c,jE];rw[show decide (upV (some ((zR rs j:Nat):Int))=V.int (k:Int))=false from cC (λz=>c (by let:=V.int.inj z;omega))];show cV ⟨_,pS,xs,Z,s6,s6m,fS,hS,pS'⟩
 rintro σ H6 ⟨jj,pS,xs,rfl,s6,s6m,fS,hS,pS'⟩;let eK:uK rs.length (zR rs) k (k+1+((ys.length:Int)-((k:Int)+1)).toNat)=gH rs.length (zR rs) k:=by
  unfold uK gH;congr 2;omega
 rw[eK]at pS';show⟨_,Z,early,Z,?_⟩;cases early with
 |true =>
  rw[aB Z,jE]at q;show gP ⟨_,Z,q pS xs H6 s6 fS hS pS'⟩
 |false =>
  rw[aA cL]at q;let lxs:=aW pS';rw[bO]at lxs;show cV ⟨_,Z,_,Z,pS,pM,_,_,Z,Z,hS,s6m _ _ hMM,(),λp9 H9 n9=>q p9 _ H9 (s6.trans n9.same) (s6.free n9.fresh) n9.here (jH (Paired.cD pS' λ_ _ h=>h.same n9.same) (Paired.cD a6Y λ_ _ h=>h.same (s6m.trans n9.same)))⟩
theorem Cd(B:Bl mg)(EY:Dn K mg "_law_laid" kE Bf):∀d:Nat,⋯ (d+1) EY.f EY.fd Bf (Ca K d)
 |0=>Ţ EY
 |d+1=>ţ B EY d (Cd B EY d)
end K
namespace Qu
open PySem.W PySem.Calls PyProof.Rows PySem.MeetsSeq
abbrev lsO(z:Array Value)(n:Nat):Obj:={ cls:=.type "list",dict:=none,data:=.seq z n,slots:=#[]}
def Yq(z:Array Value)(x:Value)(eq:Nat->Bool)(A:Around)(h:Heap):Prop:=∀s':Shared,s'.heap=h->∀m (hm:m<z.size),SeqAt.EqAt A s' z[m] x (eq m)
def a4K{l:Addr}{z:Array Value}{n:Nat}{x:Value}{eq:Nat->Bool}{j:Nat}(hj:j<z.size)(hit:eq j=true)(hz:z.size<=sizeLine)(k:Nat) :
  ∀i:Nat,j-i=k->i<=j->(∀m (hm:m<z.size),i<=m->m<j->eq m=false)->Meets (Builtin.«list.remove.loop» ⟨[.ref l,x,rawInt i],[]⟩)
   (λA R s=>s^^^l=some (lsO z n)/\Yq z x eq A.in1 s.heap/\R (.ok (.ret .none)) (s•s.heap.update l (Obj.mapSeq λxs=>xs.eraseIdxIfInBounds j))):=by
 induction k with
 |zero =>
  intro i hk ij hn prog w A R s h;let⟨hp,g,d,tq,os⟩:=s;let⟨ol,he,h⟩:=h;obtain rfl:i=j:=()
  wp_walk using uf ol
  let hi:z[((i:Nat):Int).toNat]?=some z[i]:=by simp[hj]
  rw[hi];show M (he _ Z i hj prog w _ _ ?_);rw[hit];let hz':(z.eraseIdxIfInBounds i).size<=sizeLine+1:=by
   let:=size_erased z i;omega
  wp_walk using (M9 ol Z (hz:=hz) (_hz':=hz')),uf ol
  simpa using h
 |succ k ih =>
  intro i hk ij hn prog w A R s h;let⟨hp,g,d,tq,os⟩:=s;let⟨ol,he,h⟩:=h;let lb:i<z.size:=()
  wp_walk using uf ol
  let hi:z[((i:Nat):Int).toNat]?=some z[i]:=by simp[lb]
  let ic:((i:Int)+1)=((i+1:Nat):Int):=by push_cast;rfl
  rw[hi];show M (he _ Z i lb prog w _ _ ?_);rw[hn i lb (aK _) ()]
  wp_walk
  rw[ic];show⟨jR plain_remove_loop _,jq entry_remove_loop ?_⟩;rw[jD plain_remove_loop _];show ih (i+1) () () (λm hm h1 h2=>hn m hm () h2) prog w A R _ ⟨ol,he,h⟩
def a4L{l:Addr}{z:Array Value}{n:Nat}{x:Value}{eq:Nat->Bool}{j:Nat}(hj:j<z.size)(hit:eq j=true)(hn:∀m (hm:m<z.size),m<j->eq m=false)(hz:z.size<=sizeLine) :
  Meets (Builtin.«list.remove» ⟨[.ref l,x],[]⟩) (λA R s=>s^^^l=some (lsO z n)/\Yq z x eq A.in1 s.heap/\R (.ok (.ret .none)) (s•s.heap.update l (Obj.mapSeq λxs=>xs.eraseIdxIfInBounds j))):=by
 intro prog w A R s h;let⟨hp,g,d,tq,os⟩:=s;let⟨ol,he,h⟩:=h
 wp_walk using uf ol
 show⟨jR plain_remove_loop _,jq entry_remove_loop ?_⟩;rw[jD plain_remove_loop _];show a4K hj hit hz _ 0 Z (cW _) (λm hm _ h2=>hn m hm h2) prog w A R _ ⟨ol,he,h⟩
end Qu
namespace L2
open PyProof.Rows Qu
section
variable{X:Cx}{K:aJ}
def Pq(K:aJ):V->af->Hp->VK->Prop:=λx vs H Q=>∃l xs y d ds j,x=.ref l/\vs=[y]/\H l=↥xs/\Hw K H y d/\uO K H xs ds/\SeqAt.shaped d=true/\(∀e∈ds,SeqAt.shaped e=true)/\
 j<xs.length/\PyData.eqv (ds.getD j .none) d=true/\(∀m<j,PyData.eqv (ds.getD m .none) d=false)/\∀H',uP H l (.lst (xs.eraseIdx j)) H'->Q .non H'
def Js{Y:aE}{σ:St}{H:Hp}{s:Shared}(I:bD X Y σ H s):∀{xs:af}{us:aw}{ds:List PyData},cJ xs us->uO X.K H xs ds->ds.length=us.length/\∀i,i<us.length->∃as,Reads s.heap (us.getD i .none) (ds.getD i .none) as
 |_,_,_,.nil,.nil=>⟨Z,λi h=>absurd h (wQ _)⟩
 |_,_,_,.cons r t,.cons a b=>by
  let⟨e,q⟩:=Js I t b
  show⟨by rw[iH,iH,e],λi h=>?_⟩
  cases i with
  |zero=>show a.reads I r
  |succ i =>
   let:=q i (by simpa using h)
   simpa using this
theorem Jt:∀{xs:af}{us:aw} (j:Nat),cJ xs us->cJ (xs.eraseIdx j) (us.eraseIdx j)
 |_,_,_,.nil=>.nil
 |_,_,0,.cons r t=>t
 |_,_,j+1,.cons r t=>.cons r (Jt j t)
def ZW(hv:X.A.units+65<cLine):PL X "list.remove" (Pq X.K):=by
 intro Y s σ H x vs v us Q I rx rv h;let⟨l,xs,y,d,ds,j,rfl,rfl,hH,hd,hds,sd,sds,hj,hit,hn,q⟩:=h;cases rx;let⟨u,rfl,ru⟩:=vals1 rv;let⟨z,bR,n,r,ol,e⟩:=I.Vn hH;let hlen:=r.length;let⟨as,ra⟩:=hd.reads I ru;let⟨el,rs⟩:=Js I r hds;let hjz:j<bR.toArray.size:=by rw[fW];omega
 show yQ F.slot_list_remove ⟨_,e,Z⟩ F.entry_list_remove (F.args_list_remove_2 _ _) (Qu.a4L (z:=bR.toArray) (eq:=λm=>PyData.eqv (ds.getD m .none) d) hjz hit (λm _ hm=>hn m hm) (by rw[fW];omega)) ⟨e,λs' es m hm=>?_,?_⟩
 ·let hm':m<bR.length:=by simpa using hm
  let⟨bs,rb⟩:=rs m hm';let eg:bR.getD m .none=bR.toArray[m]:=by simp[hm']
  rw[eg]at rb;let sm:SeqAt.shaped (ds.getD m .none)=true:=sds _ (by rw[fB,bC ()];show mO _);rw[<-es]at rb ra;show SeqAt.eqAt_reads _ _ _ _ _ _ _ _ rb ra (vp sm) (vp sd) (SeqAt.room_of_shaped sm hv)
 ·show⟨.non,_,I.a3q (its':=bR.eraseIdx j) hH e ?_ (Jt j r) ?_,Z,q _ uP.oh⟩
  ·simp[Array.eraseIdxIfInBounds];omega
  ·let:=List.length_eraseIdx_le xs j;omega
def Wr(e:X.K=K)(hv:X.A.units+65<cLine):PL X "list.remove" (Pq K):=by subst e;show ZW hv
end
end L2
namespace K
open L2 Lw Bg
variable{b:ae}{L:aI}
namespace Go
section
variable{n:Nat}{ts:ar}{ss:ax}
structure a1K(n:Nat)(ts:ar)(ss:ax):Prop where
 dB:n<=10
 go:∀i,i<=ss.length->(aU n ts ss i).2=true
 sb:∀(k:Nat) (s:bZ),ss[k]?=some s->StB n ts ss k s
 se:∀(k:Nat) (s:bZ),ss[k]?=some s->StE n ts ss k s
 last:∀j∈(aU n ts ss ss.length).1.pile,fZ n ts ss j=[]
 ties:∀t∈ts,bZ.tie t.1 t.2∈ss
set_option tactic.hygienic true in
def a2H(dB:n<=10)(sO:Bq n ts ss (cA n ts ss)=.ok):a1K n ts ss:=by
 let go:=Œ dB sO;show⟨dB,go,λk s h=>a1y (zE go dB h),λk s h=>zE go dB h,λj hj=>?_,λt ht=>?_⟩
 ·unfold Bq at sO;split at sO
  ·cases sO
  ·split at sO
   ·rename_i e;let:fZ n ts ss j∈K4 (cA n ts ss):=dM.mpr ⟨j,hj,Z⟩;rw[e]at this;show bG.mp this
   ·cases sO
 ·unfold Bq at sO;split at sO
  ·cases sO
  ·split at sO
   ·split at sO
    ·cases sO
    ·split at sO
     ·cases sO
     ·rename_i e;let:=Cw.mp e t ht;simpa using this
   ·cases sO
end
end Go
namespace Up
def Ce(s:bZ){i:Nat}(hi:i<5):decide (V.str s.word=V.str (Er i))=decide (s.tag=i):=by
 let h:=Ii s.tag (V7 s) i hi;rw[Ij];grind
def a4M(s:bZ):decide (V.str s.word=V.str "leaf")=decide (s.tag=0):=Ce s (i:=0) ()
def a8s(s:bZ):decide (V.str s.word=V.str "in")=decide (s.tag=1):=Ce s (i:=1) ()
def a65(s:bZ):decide (V.str s.word=V.str "tie")=decide (s.tag=2):=Ce s (i:=2) ()
def a66(s:bZ):decide (V.str s.word=V.str "out")=decide (s.tag=3):=Ce s (i:=3) ()
def a4N(s:bZ):decide (V.str s.word=V.str "join")=decide (s.tag=4):=Ce s (i:=4) ()
end Up
def Ws{n:Nat}(dB:n<=10){zs:ae}{v:Int}(ab:b.Pairwise (· < ·))(hb:∀v∈b,0<=v/\v<(n:Int))(v0:0<=v)(vn:v<(n:Int))(nv:v∉b)(pz:zs.Perm (b++[v]))(sz:zs.Pairwise (· <= ·)):zs=fV b [v]:=by
 let nd:zs.Nodup:=pz.nodup_iff.mpr (uc.mpr ⟨Go.BR ab,tR _ _,λx hx y hy e=>nv ()⟩);let az:zs.Pairwise (· < ·):=(List.pairwise_and_iff.mpr ⟨sz,nd⟩).imp λh=>by omega
 show Go.vV az (Go.vW _) λx=>?_;rw[pz.mem_iff,cH];show(Go.rE dB hb λy hy=>by rw[bG.mp hy];show⟨v0,vn⟩).symm
def Wt(F:ae)(k:Nat):(F.map V.int).eraseIdx k=(F.eraseIdx k).map V.int:=by
 induction F generalizing k with
 |nil=>rfl
 |cons x r ih =>
  cases k with
  |zero=>rfl
  |succ k =>
   show V.int x::(r.map V.int).eraseIdx k=V.int x::(r.eraseIdx k).map V.int;rw[ih]
def a1L{K:aJ}{H:Hp}{l:Addr}{T:ae}{v:Int}{Q:VK}(hl:H l=↥(T.map V.int))(c:v∈T)(q:∀H',uP H l (.lst ((T.erase v).map V.int)) H'->Q .non H'):Pq K (.ref l) [.int v] H Q:=by
 let jl:=Gq c;let e1:=List.erase_eq_eraseIdx_of_idxOf (l:=T) (a:=v) (i:=T.idxOf v) rfl;let eg:∀m,m<T.length->(T.map PyData.int).getD m .none=.int (T.getD m 0):=λm hm=>by
  rw[fB,cI,bC hm,fB,bC hm];rfl
 show⟨l,_,_,.int v,T.map PyData.int,T.idxOf v,Z,Z,hl,.int v,uO.ints T,Z,λe he=>?_,by rw[aH];show jl,?_,λm hm=>?_,λH' ch=>q H' ?_⟩
 ·let⟨z,_,rfl⟩:=dM.mp he;rfl
 ·rw[eg _ jl,fB,bC jl,Uo,T8 jl,PyData.eqv];simpa using this
 ·let ml:m<T.length:=()
  let:=List.not_of_lt_findIdx (p:=λx=>x==v) (xs:=T) (i:=m) hm;rw[eg _ ml,fB,bC ml,Uo,PyData.eqv];simpa using this
 ·rw[Wt,<-e1]at ch;show ch
abbrev tQ:Stmt:=top 46
def gn:bN ["_law_steps","_law_pile","_law_tops_here","_law_aheads","_law_k","_law_ahead","_law_bag"] ["_law_steps"] (aG tQ):={}
def Wu{B:ae}{v:Int}(nd:B.Nodup):B.erase v=mZ B [v]:=by
 rw[nd.erase_eq_filter];show List.filter_congr λx _=>?_;grind
noncomputable def NI(j:Nat):V:=.int (j:Int)
noncomputable def ahF(fd:ay):V:=match fd.getLast? with
 |some j=>.int (j:Int)
 |none=>.non
noncomputable def ubF(n:Nat)(ts:ar)(ss:ax)(fd:ay):ae:=match fd.getLast? with
 |some j=>Go.fZ n ts ss j
 |none=>[]
inductive P0(L:aI)(H:Hp)(v:V)(b:ae):Prop
 |mk (p:_) (_:v=.ref p) (_:H p=↥(b.map V.int)) (_:p∉L)
def P0.same{H H':Hp}{v:V}(s:aL H H')(h:P0 L H v b):P0 L H' v b:=by
 let⟨p,e,h1,h2⟩:=h;show⟨p,e,s _ _ h1,h2⟩
def P0.chg{H H':Hp}{v:V}{a:Addr}{o:HO}(m:a∈L)(c:uP H a o H')(h:P0 L H v b):P0 L H' v b:=by
 let⟨p,e,h1,h2⟩:=h;show⟨p,e,(c.rest p λz=>h2 ()).trans h1,h2⟩
def P0.mono{Z98:aI}{H:Hp}{v:V}(i:∀x∈Z98,x∈L)(h:P0 L H v b):P0 Z98 H v b:=by
 let⟨p,e,h1,h2⟩:=h;show⟨p,e,h1,λz=>h2 (i _ z)⟩
def P0.new{H H':Hp}{v:V}{q:Addr}{o:HO}(m:iD H q o H')(h:P0 L H v b):P0 (L++[q]) H' v b:=by
 let⟨p,e,h1,h2⟩:=h;show⟨p,e,m.same _ _ h1,λz=>?_⟩;rcases cH.mp z with z|z
 ·show h2 z
 ·let:=m.fresh;grind
inductive a1M(H:Hp)(pS pp pt pa:Addr)(n:Nat)(ts:ar)(ss:ax)(i:Nat)(pl:ay)(b:ae)(ah:V)(σ:St)(G:Hp):Prop
 |mk (pb:Addr) (tx:af) (_:σ=[⇑pS,⇑pp,⇑pt,⇑pa,some (.int (i:Int)),some ah,⇑pb]) (_:aL H G) (_:G pp=↥(pl.map NI)) (_:G pt=↥tx) (_:Paired (P0 [pp,pt,pa,pb] G) tx ((List.range i).map (Go.fZ n ts ss))) (_:G pa=↥((List.range i).map λk=>ahF (Go.qy n ts ss k))) (_:G pb=↥(b.map V.int)) (_:H pb=none) (_:pb≠pp) (_:pb≠pt) (_:pb≠pa)
inductive a67(H:Hp)(pS pp pt pa:Addr)(n:Nat)(ts:ar)(ss:ax)(i:Nat)(σ:St)(G:Hp):Prop
 |mk (tx:af) (o4 o5 o6:Option V) (_:σ=[⇑pS,⇑pp,⇑pt,⇑pa,o4,o5,o6]) (_:aL H G) (_:G pp=↥((aU n ts ss i).1.pile.map NI)) (_:G pt=↥tx) (_:Paired (P0 [pp,pt,pa] G) tx ((List.range i).map (Go.fZ n ts ss))) (_:G pa=↥((List.range i).map λk=>ahF (Go.qy n ts ss k)))
inductive Ŧ(vs:af)(H:Hp)(Q:VK)(u_3:XK):Prop
 |mk (pS:Addr) (xs:af) (ss:ax) (n:Nat) (ts:ar) (_:vs=[.ref pS]) (_:H pS=↥xs) (_:Paired (sW H) xs ss) (_:ss.length<=800) (_:Go.a1K n ts ss) (_:∀r pt pa tx H',aL H H'->H' r=↥[.ref pt,.ref pa]->H' pt=↥tx->Paired (P0 [] H') tx ((List.range ss.length).map (Go.fZ n ts ss))->H' pa=↥((List.range ss.length).map λk=>ahF (Go.qy n ts ss k))->Q (.ref r) H')
section
variable{P:Program}{w:World}{K:aJ}{mg:Str->Option Value}{base:Heap}
abbrev DZ9(K:PySem.W.Frag)(mg:Str->Option Value):=Dn K mg "_law_tops" tQ ["_law_steps"]
def Pr(B:Bl mg)(ZX:DZ9 K mg):⋯ 1 ZX.f ZX.fd ["_law_steps"] Ŧ:=by
 show ZX.F.ok gn λdX A outer s H vs Q E hr h=>?_;let⟨pS,xs,ss,n,ts,rfl,hS,qS,l8,R,q⟩:=h;let hv:(A.deeper (PyProof.Rows.envOfC "_law_tops" (aG tQ) s⁻¹ ZX.f dX)).units+65<cLine:=by let:=hr.un;omega
 show⟨_,(aD (aX 1 gn.nd (cG aj))
   (aD (aX 2 gn.nd (cG aj))
   (aD (aX 3 gn.nd (cG aj))
   (aD (iz gK Z (jw Z B.range (O (aV (bV (K:=K) Z) Z B.len () (O (pv 0) aj)) aj)) (aN 4 gn.nd)
   (aD (aX 5 gn.nd oU)
   (aD (aX 6 gn.nd (cG aj))
   (iW (cO (aM Hj (aP (aO (K:=K) Z) (aP (bx (K:=K) Z) (pv 0) (pv 4)) aq) gw)
   (aD (aX 5 gn.nd (qQ (K:=K) Z gJ Tt Tv Ga (pv 1)))
   (aF (aX 6 gn.nd (gV (oW (K:=K) Z) Z B.list () (O (aP (bx (K:=K) Z) (pv 2) (pv 5)) aj)))))
   bA)
   (iW (cO (aM lX (aP (aO (K:=K) Z) (aP (bx (K:=K) Z) (pv 0) (pv 4)) aq) gw)
   (aF (dZ (qQ (K:=K) Z gJ Tt Tv Ga (pv 1))))
   bA)
   (iW (cO (aM lX (aP (aO (K:=K) Z) (aP (bx (K:=K) Z) (pv 0) (pv 4)) aq) gw)
   (aF (aX 6 gn.nd (aV (Az (K:=K) Z) Z B.sorted () (O (bw nD (pv 6) (cG (O (aP (aO (K:=K) Z) (aP (bx (K:=K) Z) (pv 0) (pv 4)) aq) aj))) aj))))
   bA)
   (iW (cO (aM lX (aP (aO (K:=K) Z) (aP (bx (K:=K) Z) (pv 0) (pv 4)) aq) gw)
   (aF (dZ (gA (K:=K) Z gJ PySem.F.slot_list_remove PySem.F.type_list_remove (Wr (K:=K) Z hv) (pv 6) (O (aP (aO (K:=K) Z) (aP (bx (K:=K) Z) (pv 0) (pv 4)) aq) aj))))
   bA)
   (aD (dZ (gA (K:=K) Z gJ PySem.F.slot_list_append PySem.F.type_list_append fu (pv 2) (O (pv 6) aj)))
   (aD (dZ (gA (K:=K) Z gJ PySem.F.slot_list_append PySem.F.type_list_append fu (pv 3) (O (pv 5) aj)))
   (aF (dZ (gA (K:=K) Z gJ PySem.F.slot_list_append PySem.F.type_list_append fu (pv 1) (O (pv 4) aj)))))))))))))
   (aF (bJ (cG (O (pv 2) (O (pv 3) aj))))))))),?_⟩
 show⟨(),λpp H1 n1=>⟨(),λpt H2 n2=>⟨(),λpa H3 n3=>?_⟩⟩⟩;let s3:=n1.same.trans (n2.same.trans n3.same);let fpp:H pp=none:=n1.fresh;let fpt:H pt=none:=n1.same.free n2.fresh;let fpa:H pa=none:=(n1.same.trans n2.same).free n3.fresh;let lx:=aW qS;let tp:=Go.Rx R.dB R.sb;let tpp:pt≠pp:=λz=>by let:=n2.fresh;rw[z,n1.here]at this;cases this
 let app:pa≠pp:=λz=>by let:=n3.fresh;rw[z,n2.same _ _ n1.here]at this;cases this
 let apt:pa≠pt:=λz=>by let:=n3.fresh;rw[z,n2.here]at this;cases this
 show⟨_,Z,pS,_,Z,.inl (bB.of (s3 _ _ hS)),_,Z,(),(),?_⟩;rw[iG];show zJ (n:=xs.length) (λi σ G=>a67 H pS pp pt pa n ts ss i σ G) ⟨[],_,_,_,Z,s3,n3.same _ _ (n2.same _ _ n1.here),n3.same _ _ n2.here,.nil,n3.here⟩ ?_ ?_
 ·rintro D i σ G0 hi ⟨tx,o4,o5,o6,rfl,sG0,Z0,a4O,pT0,a1N⟩ dn _;rw[show(0:Int)+(i:Int)=(i:Int) by omega];let kl:i<ss.length:=()
  let hs:=bC kl;let SB:=R.sb i _ hs;let SE:=R.se i _ hs;let⟨vx,hvx,Wf,rfl,hst⟩:=cP qS hs;let split:=tW (dW ss[i] (aU n ts ss i).1) (aU n ts ss i).1.pile;rw[<-SE.feed]at split;let pil:=SE.pile;let lpl:=(jo R.dB (R.go (i+1) ())).pl;let lp0:=(jo R.dB (R.go i ())).pl;rw[pil,bO,Ck]at lpl;generalize (aU n ts ss i).1.pile.take (dW ss[i] (aU n ts ss i).1)=tM at split pil lpl;generalize ss[i]=st at hs SB hst;rw[<-split]at Z0;show⟨(),λpb G1 m1=>?_⟩;let Sy:pb≠pp:=λz=>by let:=m1.fresh;grind
  let Wv:pb≠pt:=λz=>by let:=m1.fresh;grind
  let Ww:pb≠pa:=λz=>by let:=m1.fresh;grind
  let Wg:=sG0.trans m1.same;let small:∀{b:ae},(∃j,j<ss.length/\b=Go.fZ n ts ss j)->b.length<=10:=λ⟨j,hj,e⟩=>by rw[e];show a6O R.dB (Go.BR (tp j hj).1) (tp j hj).2
  show zc (P:=λσ' G'=>a1M H pS pp pt pa n ts ss i (tM++(Go.qy n ts ss i).dropLast) (ubF n ts ss (Go.qy n ts ss i)) (ahF (Go.qy n ts ss i)) σ' G') λJ1 ji ij=>⟨J1,?_,?_⟩
  ·show⟨_,Z,_,Z,pS,_,_,_,Z,Z,bB.of (Wg _ _ hS),cB hvx,Wf,st.vs,0,.str st.word,Z,Z,cN.of (Wg _ _ hst),xW st,Z,_,Z,?_⟩;rw[Up.a4M];by_cases c0:st.tag=0
   ·rw[aR c0];let ef:Go.qy n ts ss i=[]:=by cases SB<;>first|assumption|cases c0
    rw[ef]at Z0;show cV (ji _ _ ?_);rw[ef];show⟨pb,tx,Z,Wg,m1.same _ _ Z0,m1.same _ _ a4O,Paired.cD pT0 λ_ _ z=>z.new m1,m1.same _ _ a1N,m1.here,sG0.free m1.fresh,Sy,Wv,Ww⟩
   ·rw[cC c0];obtain⟨f0,j,ef,lt⟩:∃f0 j,Go.qy n ts ss i=f0++[j]/\j<i:=by
     cases SB with
     |leaf=>show absurd Z c0
     | @inn i' v ef lt=>show⟨[],i',ef,lt⟩
     | @tie i' a b ef lt=>show⟨[],i',ef,lt⟩
     | @out i' v ef lt=>show⟨[],i',ef,lt⟩
     | @join i' j' ef lt lt'=>show⟨[i'],j',ef,lt'⟩
    let e1:(Go.qy n ts ss i).dropLast=f0:=by rw[ef,Cr]
    let e2:ubF n ts ss (Go.qy n ts ss i)=Go.fZ n ts ss j:=by unfold ubF;rw[ef,Ml]
    let e3:ahF (Go.qy n ts ss i)=NI j:=by unfold ahF;rw[ef,Ml];rfl
    rw[ef,<-oM,dz]at Z0;let a68:G1 pp=↥((tM++f0).map NI++[NI j]):=m1.same _ _ Z0;let htj:((List.range i).map (Go.fZ n ts ss))[j]?=some (Go.fZ n ts ss j):=by rw[cI,TY lt];rfl
    let⟨vj,hvj,pj,rfl,hpj,npj⟩:=cP pT0 htj;show gP ⟨_,Z,.inl ⟨Z,_,bB.of a68⟩,pp,_,NI j,Z,Z,a68,λG2 c2=>?_⟩;let a69:G2 pt=↥tx:=(c2.rest pt tpp).trans (m1.same _ _ a4O);let a8t:G2 pj=↥((Go.fZ n ts ss j).map V.int):=(c2.rest pj λz=>npj (by rw[z];show bh)).trans (m1.same _ _ hpj);show⟨_,Z,_,Z,pt,_,_,_,Z,Z,bB.of a69,cB hvj,pj,_,Z,.inl (bB.of a8t),λp3 G3 m3=>?_⟩;let s2:=Wg.chg fpp c2;let fp3:=s2.free m3.fresh;show ji _ _ ?_;rw[e1,e2,e3];show⟨p3,tx,Z,s2.trans m3.same,m3.same _ _ c2.here,m3.same _ _ a69,Paired.cD pT0 λ_ _ z=>((z.same m1.same).chg bh c2).new m3,m3.same _ _ ((c2.rest pa app).trans (m1.same _ _ a1N)),m3.here,fp3,?_,?_,?_⟩
    ·intro z;let:=m3.fresh;rw[z,c2.here]at this;cases this
    ·intro z;let:=m3.fresh;grind
    ·intro z;let:=m3.fresh;rw[z,(c2.rest pa app).trans (m1.same _ _ a1N)]at this;cases this
  clear Z0 a4O pT0 a1N m1 Wg Sy Wv Ww;intro σ1 G mj;let⟨pb,tx,rfl,sG,zQ,hpt,pT,hpa,hb,fb,Sy,Wv,Ww⟩:=ij _ _ mj;clear ji ij mj;show zc (P:=λσ' G'=>a1M H pS pp pt pa n ts ss i tM (ubF n ts ss (Go.qy n ts ss i)) (ahF (Go.qy n ts ss i)) σ' G') λJ2 ji ij=>⟨J2,?_,?_⟩
  ·show⟨_,Z,_,Z,pS,_,_,_,Z,Z,bB.of (sG _ _ hS),cB hvx,Wf,st.vs,0,.str st.word,Z,Z,cN.of (sG _ _ hst),xW st,Z,_,Z,?_⟩;rw[Up.a4N];by_cases c0:st.tag=4
   ·rw[aR c0];obtain⟨i',ed⟩:∃i',(Go.qy n ts ss i).dropLast=[i']:=by
     cases SB with
     | @join i' j' ef=>grind
     |_=>cases c0
    rw[ed,dz]at zQ;show gP ⟨_,Z,.inl ⟨Z,_,bB.of zQ⟩,pp,_,NI i',Z,Z,zQ,λG2 c2=>ji _ _ ⟨pb,tx,Z,sG.chg fpp c2,c2.here,(c2.rest pt tpp).trans hpt,Paired.cD pT λ_ _ z=>z.chg bh c2,(c2.rest pa app).trans hpa,(c2.rest pb Sy).trans hb,fb,Sy,Wv,Ww⟩⟩
   ·rw[cC c0];let ed:(Go.qy n ts ss i).dropLast=[]:=by
     cases SB with
     |join=>show absurd Z c0
     |leaf ef=>rw[ef];rfl
     |inn ef=>rw[ef];rfl
     |tie ef=>rw[ef];rfl
     |out ef=>rw[ef];rfl
    rw[ed,jE]at zQ;show cV (ji _ _ ⟨pb,tx,Z,sG,zQ,hpt,pT,hpa,hb,fb,Sy,Wv,Ww⟩)
  clear zQ hpt pT hpa hb sG Sy Wv Ww fb;intro σ1 G mj;let⟨pb,tx,rfl,sG,zQ,hpt,pT,hpa,hb,fb,Sy,Wv,Ww⟩:=ij _ _ mj;clear ji ij mj;let lub:(ubF n ts ss (Go.qy n ts ss i)).length<=10:=by
   unfold ubF;cases eg:(Go.qy n ts ss i).getLast? with
   |none=>grind
   |some j=>show small ⟨j,uh (SE.lt j (List.mem_of_getLast? eg)) kl,Z⟩
  show zc (P:=λσ' G'=>a1M H pS pp pt pa n ts ss i tM (if st.tag=1 then Go.fZ n ts ss i else ubF n ts ss (Go.qy n ts ss i)) (ahF (Go.qy n ts ss i)) σ' G') λJ3 ji ij=>⟨J3,?_,?_⟩
  ·show⟨_,Z,_,Z,pS,_,_,_,Z,Z,bB.of (sG _ _ hS),cB hvx,Wf,st.vs,0,.str st.word,Z,Z,cN.of (sG _ _ hst),xW st,Z,_,Z,?_⟩;rw[Up.a8s];by_cases c0:st.tag=1
   ·rw[aR c0];obtain⟨v,i',rfl,eu,lt,v0,vn,nv,et⟩:∃v i',st=.inn v/\ubF n ts ss (Go.qy n ts ss i)=Go.fZ n ts ss i'/\i'<i/\0<=v/\v<(n:Int)/\v∉Go.fZ n ts ss i'/\Go.fZ n ts ss i=fV (Go.fZ n ts ss i') [v]:=by
     cases SB with
     | @inn i' v ef lt v0 vn nv et=>show⟨v,i',Z,by rw[ef];rfl,lt,v0,vn,nv,et⟩
     |_=>cases c0
    rw[eu]at hb lub;show gP ⟨_,Z,_,Z,_,Z,pS,_,_,_,Z,Z,bB.of (sG _ _ hS),cB hvx,Wf,_,1,.int v,Z,Z,cN.of (sG _ _ hst),Z,(),λp1 G1 m1=>?_⟩;show⟨pb,p1,_,_,Z,Z,m1.same _ _ hb,m1.here,(by rw[aH];show _+1<=1000;omega),λp2 G2 m2=>?_⟩;show⟨p2,(Go.fZ n ts ss i')++[v],Z,bB.of (by rw[m2.here,dz];rfl),(by rw[bO];show _+1<64;omega),λp3 G3 zs m3 pz sz=>?_⟩;let ez:=Ws R.dB (tp i' ()).1 (tp i' ()).2 v0 vn nv pz sz;rw[ez,<-et]at m3;let s3:=m1.same.trans (m2.same.trans m3.same);let s2:=m1.same.trans m2.same;let ne:∀{p:Addr}{o:HO},G p=some o->p3≠p:=λh z=>by let:=m3.fresh;rw[z,s2 _ _ h]at this;cases this
    rw[aB c0]at ji;show ji _ _ ⟨p3,tx,Z,sG.trans s3,s3 _ _ zQ,s3 _ _ hpt,Paired.cD pT λ_ _ z=>(P0.mono (Z98:=[pp,pt,pa]) (λ_ h=>oK [pb] h) (z.same s2)).new m3,s3 _ _ hpa,m3.here,(sG.trans s2).free m3.fresh,ne zQ,ne hpt,ne hpa⟩
   ·rw[cC c0];rw[aA c0]at ji;show cV (ji _ _ ⟨pb,tx,Z,sG,zQ,hpt,pT,hpa,hb,fb,Sy,Wv,Ww⟩)
  clear zQ hpt pT hpa hb sG Sy Wv Ww fb;intro σ1 G mj;let⟨pb,tx,rfl,sG,zQ,hpt,pT,hpa,hb,fb,Sy,Wv,Ww⟩:=ij _ _ mj;clear ji ij mj;show zc (P:=λσ' G'=>a1M H pS pp pt pa n ts ss i tM (Go.fZ n ts ss i) (ahF (Go.qy n ts ss i)) σ' G') λJ4 ji ij=>⟨J4,?_,?_⟩
  ·show⟨_,Z,_,Z,pS,_,_,_,Z,Z,bB.of (sG _ _ hS),cB hvx,Wf,st.vs,0,.str st.word,Z,Z,cN.of (sG _ _ hst),xW st,Z,_,Z,?_⟩;rw[Up.a66];by_cases c0:st.tag=3
   ·rw[aR c0];obtain⟨v,i',rfl,eu,lt,mv,et⟩:∃v i',st=.out v/\ubF n ts ss (Go.qy n ts ss i)=Go.fZ n ts ss i'/\i'<i/\v∈Go.fZ n ts ss i'/\Go.fZ n ts ss i=mZ (Go.fZ n ts ss i') [v]:=by
     cases SB with
     | @out i' v ef lt mv et=>show⟨v,i',Z,by rw[ef];rfl,lt,mv,et⟩
     |_=>cases c0
    rw[aA (),eu]at hb;show gP ⟨_,Z,.inl ⟨Z,_,bB.of hb⟩,_,Z,_,Z,pS,_,_,_,Z,Z,bB.of (sG _ _ hS),cB hvx,Wf,_,1,.int v,Z,Z,cN.of (sG _ _ hst),Z,?_⟩;dsimp only[a3i];show a1L hb mv λG2 c2=>?_;rw[Wu (Go.BR (tp i' ()).1),<-et]at c2;show ji _ _ ⟨pb,tx,Z,sG.chg fb c2,(c2.rest pp Sy.symm).trans zQ,(c2.rest pt Wv.symm).trans hpt,Paired.cD pT λ_ _ z=>z.chg (bM _ (bM _ (bM _ bh))) c2,(c2.rest pa Ww.symm).trans hpa,c2.here,fb,Sy,Wv,Ww⟩
   ·rw[cC c0];let eb:(if st.tag=1 then Go.fZ n ts ss i else ubF n ts ss (Go.qy n ts ss i))=Go.fZ n ts ss i:=by
     cases SB with
     |leaf ef et=>rw[ef,et];rfl
     |inn=>rfl
     |tie ef lt _ _ _ et=>rw[ef,et];rfl
     |out=>show absurd Z c0
     |join ef lt lt' e1 et=>rw[ef,et,e1];rfl
    rw[eb]at hb;show cV (ji _ _ ⟨pb,tx,Z,sG,zQ,hpt,pT,hpa,hb,fb,Sy,Wv,Ww⟩)
  clear zQ hpt pT hpa hb sG Sy Wv Ww fb;intro σ1 G mj;let⟨pb,tx,rfl,sG,zQ,hpt,pT,hpa,hb,fb,Sy,Wv,Ww⟩:=ij _ _ mj;clear ji ij mj;let lt0:tx.length=i:=by rw[aW pT,aH,vA]
  show⟨_,Z,.inl ⟨Z,_,bB.of hpt⟩,_,Z,pt,_,_,Z,Z,hpt,(),λG1 c1=>?_⟩;show⟨_,Z,.inl ⟨Z,_,bB.of ((c1.rest pa apt).trans hpa)⟩,_,Z,pa,_,_,Z,Z,(c1.rest pa apt).trans hpa,(by rw[aH,vA];omega),λG2 c2=>?_⟩;show⟨_,Z,.inl ⟨Z,_,bB.of ((c2.rest pp app.symm).trans ((c1.rest pp tpp.symm).trans zQ))⟩,_,Z,pp,_,_,Z,Z,(c2.rest pp app.symm).trans ((c1.rest pp tpp.symm).trans zQ),(by rw[aH];omega),λG3 c3=>?_⟩;show dn _ _ ⟨tx++[.ref pb],_,_,_,Z,((sG.chg fpt c1).chg fpa c2).chg fpp c3,?_,(c3.rest pt tpp).trans ((c2.rest pt apt.symm).trans c1.here),?_,?_⟩
  ·rw[c3.here,pil,dz];rfl
  ·rw[wO,dz];let go:∀{v b},P0 [pp,pt,pa] G v b->P0 [pp,pt,pa] G3 v b:=λz=>((z.chg (bM _ bh) c1).chg (bM _ (bM _ bh)) c2).chg bh c3;show d7 (Paired.cD pT λ_ _ z=>go ?_) (go ⟨pb,Z,hb,?_⟩)
   ·let⟨p,e,h1,h2⟩:=z;show⟨p,e,h1,λz=>h2 (oK [pb] z)⟩
   grind
  ·rw[(c3.rest pa app).trans c2.here,wO,dz];rfl
 ·rintro σ G ⟨tx,o4,o5,o6,rfl,sG,zQ,hpt,pT,hpa⟩;rw[show xs.length=ss.length from lx]at pT hpa;show⟨_,Z,_,Z,(),λr G2 m2=>?_⟩;show q r pt pa tx G2 (sG.trans m2.same) m2.here (m2.same _ _ hpt) (Paired.cD pT λ_ _ z=>by
   let⟨p,e,h1,_⟩:=z;show⟨p,e,m2.same _ _ h1,eO⟩) (m2.same _ _ hpa)
end
end K
namespace L2
open PyProof.Rows
section
variable{X:Cx}
def a7a:af->Hp->VK->Prop:=λxs H Q=>∃a J,xs=[.ref a]/\H a=some (.dK J)/\Q (.int ((J.length:Nat):Int)) H
def Z1:jx X (.builtin "len") a7a:=by
 intro Y s σ H xs us Q I r h;let⟨a,J,rfl,e,q⟩:=h;let⟨u,rfl,rx⟩:=vals1 r;cases rx;show a5X I (.inl e) λt s' I'=>⟨.int _,H,I',⟨t,Z⟩,q⟩
end
section
variable{X:Cx}{K:aJ}
inductive a4P(K:aJ)(x:V)(y:V)(H:Hp)(Q:VK):Prop
 |mk (a b xs ys:_) (_:x=.ref a) (_:y=.ref b) (_:cN K H a xs) (_:cN K H b ys) (_:ys≠[]) (_:xs.length+ys.length<=1000) (_:∀p H',aL H H'->cN K H' p (xs++ys)->Q (.ref p) H')
def ŧ(e:X.K=K):rA X (binaryOp .Add) (a4P K):=by
 subst e;intro Y s σ H x y v u Q I rx ry h;let⟨a,b,xs,ys,rfl,rfl,ha,hb,ny,hz,q⟩:=h;by_cases c:xs=[]
 ·cases rx;cases ry;let⟨bR,r1,p1,_⟩:=I.tuple ha;let⟨its2,r2,p2,_⟩:=I.tuple hb;let⟨⟨cls,dd,data,sl⟩,ho,hc,n,hd⟩:=id p1;let⟨⟨cls2,dd2,data2,sl2⟩,ho2,hc2,n2,hd2⟩:=id p2;simp only at hc hd hc2 hd2;subst hc hd hc2 hd2;show Nu ⟨_,ho,Z⟩ ⟨_,ho2,Z⟩ MJ Nk Mg LR (LK _ _)
   (tuple_addW0 a b bR.toArray its2.toArray n n2 dd dd2 sl sl2 (by simp[r1.Ab.mpr c])) ⟨ho,ho2,⟨.ref b,H,I,Z,q b H (aL.refl _) (by rw[c];show hb)⟩⟩
 ·show ŕ Z Y s σ H _ _ v u Q I rx ry ⟨a,b,xs,ys,Z,Z,ha,hb,c,ny,hz,λp H' n=>q p H' n.same (cN.of n.here)⟩
end
end L2
namespace K
open L2 Lw Bg
variable{K:aJ}{P:Program}{w:World}{mg:Str->Option Value}{base:Heap}{kd:Int}
abbrev jO:Stmt:=top 47
def nZ:bN ["_law_found","_law_size","_law_state","_law_row","_law_one"] Q6 (aG jO):={}
def a2I:kitOne K (.type "tuple") (.type "tuple")=some true:=by rfl
def a7b:kitOne K (.type "dict") (.type "dict")=some true:=by rfl
inductive Wx(vs:af)(H:Hp)(Q:VK)(u_3:XK):Prop
 |mk (t:Addr) (m:Nat) (J:List (aS×V)) (T:cu) (_:vs=[.ref t,.int m]) (_:H t=some (.dT J)) (_:yh H J T) (_:(∀x∈T,x.1.length=m)) (_:m<=10) (_:T.length<=900) (_:∀H',aL H H'->Q (.bl true) H')
def Ju(B:Bl mg)(Z2:Dn K mg "_law_formed" jO Q6):⋯ 1 Z2.f Z2.fd Q6 Wx:=by
 show Z2.F.ok nZ λdX A outer s H vs Q E hr h=>?_;let⟨t,m,J,T,rfl,ht,hT,hm,m10,lT,q⟩:=h;let hw1:(A.deeper (PyProof.Rows.envOfC "_law_formed" (aG jO) s⁻¹ Z2.f dX)).units+1<cLine:=by let:=hr.un;omega
 show⟨_,(aD (cO (nC (dh (K:=K) Z (aV (iV (K:=K) Z) Z B.isinstance () (O (pv 0) (O (sX (v:=.ty "dict") (u:=.type "dict") Z B.dict () Z) aj))) λ_=>rfl))
   (aF (bJ yq))
   bA)
   (aD (xj (iz gK Z (uU (qQ (K:=K) Z tU Gw Gx uT (pv 0))) (jG (K:=K) (n:=2) Z Z (bT (aN 2 nZ.nd) (bT (aN 3 nZ.nd) iU)))
   (aD (cO (PW.pt (zW (nC (dh (K:=K) Z (aV (iV (K:=K) Z) Z B.isinstance () (O (pv 2) (O (sX (v:=.ty "tuple") (u:=.type "tuple") Z B.tuple () Z) aj))) λ_=>rfl)) (zW (aM Hj (aV (bV (K:=K) Z) Z B.len () (O (pv 2) aj)) (pv 1)) (zW (nC (dh (K:=K) Z (aV (iV (K:=K) Z) Z B.isinstance () (O (pv 3) (O (sX (v:=.ty "tuple") (u:=.type "tuple") Z B.tuple () Z) aj))) λ_=>rfl)) (yR (aM Hj (aV (bV (K:=K) Z) Z B.len () (O (pv 3) aj)) aq))))))
   (aF (bJ yq))
   bA)
   (aF (iz gK Z (Al (K:=K) Z (bw (ŧ (K:=K) Z) (pv 2) (pv 3))) (aN 4 nZ.nd)
   (aF (cO (PW.pt (zW (nC (dh (K:=K) Z (aV (iV (K:=K) Z) Z B.isinstance () (O (pv 4) (O (sX (v:=.ty "int") (u:=.type "int") Z B.int () Z) aj))) λ_=>rfl)) (yR (dh (K:=K) Z (aV (iV (K:=K) Z) Z B.isinstance () (O (pv 4) (O (sX (v:=.ty "bool") (u:=.type "bool") Z B.bool () Z) aj))) λ_=>rfl))))
   (aF (bJ yq))
   bA)))))))
   (aF (bJ yq)))),?_⟩
 show⟨_,Z,_,_,_,_,_,Z,Z,rR.dT ht,a7b,_,Z,cV ⟨_,Z,.inr (.inr (.inl ⟨Z,.inr ⟨_,ht⟩⟩)),t,J,Z,Z,ht,λpv H1 n1=>⟨pv,t,J,Z,n1.here,n1.same _ _ ht,λo as pk=>?_⟩⟩⟩;let h1t:=n1.same _ _ ht;let Wa:Nd H (cY H1 t (.iK o (.dT J))):=(Nd.of n1.same).trans (Nd.iK h1t);let Sw:cY H1 t (.iK o (.dT J)) t=some (.iK o (.dT J)):=dN;let Yb:∀c,c≠t->cY H1 t (.iK o (.dT J)) c=H1 c:=λc hc=>aZ hc;generalize cY H1 t (.iK o (.dT J))=G0 at pk Wa Sw Yb ⊢;let lk:=aW hT;let la:=aW pk;show vQ (λi σ G=>(T3 (λo2 o3 o4=>[⇑t,some (.int m),o2,o3,o4]) σ)/\aL G0 G) ⟨⟨_,_,_,Z⟩,aL.refl _⟩ (λi σ G _ h=>h.2 _ _ Sw) ?_ ?_
 ·rintro i a0 v0 σ G p G1 ha0 hv0 ⟨⟨o2,o3,o4,rfl⟩,sG⟩ nw;let⟨kv,hkv,hak⟩:=bI pk ha0;let⟨⟨st,row⟩,hsx,ek,p2,ep2,hrow⟩:=bI hT hkv;let ek:kv.1=sI st:=ek;let hv0':v0=kv.2:=by
   rw[cI,hkv]at hv0;show(dD hv0).symm
  let ep2:kv.2=.ref p2:=ep2;rw[ep2]at hv0';subst hv0';rw[ek]at hak;let s1:=sG.trans nw.same;let hold:G1 a0= ~~~(st.map V.int):=s1 _ _ (pI.KN hak);let wg:G1 p2= ~~~[.int row.m,.int row.b]:=s1 _ _ (Wa.tups _ _ hrow);let ls:st.length=m:=hm _ (gZ hsx);show⟨p,_,Z,cN.of nw.here,Z,_,_,Z,_,_,Z,Z,⟨_,Z,_,_,_,_,_,Z,Z,rR.tup hold,a2I,_,Z,cV ⟨_,Z,a0,_,Z,.inr (cN.of hold),_,Z,Z,_,Z,?_⟩⟩⟩;rw[show(!decide (V.int (((st.map V.int).length:Nat):Int)=V.int (m:Int)))=false by grind];show cV ⟨_,Z,_,_,_,_,_,Z,Z,rR.tup wg,a2I,_,Z,cV ⟨_,Z,p2,_,Z,.inr (cN.of wg),Z,_,Z,cV ?_⟩⟩;let lst:([.int row.m,.int row.b]:af)=[row.m,row.b].map V.int:=rfl;rw[lst]at wg;show⟨_,Z,_,Z,a0,p2,_,_,Z,Z,cN.of hold,cN.of wg,(λz=>by cases z),(by rw[aH];show _+2<=1000;omega),λp3 G2 s2 h3=>?_⟩;rw[<-dz]at h3;show⟨p3,Z,⟨_,h3⟩,?_⟩;show NQ (xs:=(st++[row.m,row.b]).map V.int) (λi σ H'=>(T1 (λo4=>[⇑t,some (.int m),⇑a0,⇑p2,o4]) σ)/\H'=G2) ⟨⟨_,Z⟩,Z⟩ (λi σ H' _ ⟨_,e⟩=>by rw[e];show h3) ?_ ?_
  ·rintro i x σ H' hx ⟨⟨o3,rfl⟩,rfl⟩;rw[cI]at hx;let⟨z,_,rfl⟩:=lN.mp hx;show⟨_,Z,_,_,_,_,_,Z,Z,rR.int _,Ec,_,Z,cV ⟨_,Z,_,_,_,_,_,Z,Z,rR.int _,Ak,_,Z,cV ⟨⟨_,Z⟩,Z⟩⟩⟩
  ·rintro σ H' ⟨⟨o4,rfl⟩,rfl⟩;show⟨⟨_,_,_,Z⟩,s1.trans s2⟩
 ·rintro σ G ⟨⟨o2,o3,o4,rfl⟩,sG⟩;show⟨t,o,J,J,ht,sG _ _ Sw,q _ λc u e=>?_⟩;by_cases z:c=t
  ·rw[z]at e ⊢;rw[dN,<-e,ht]
  ·rw[aZ z];show sG c u ?_;rw[Yb c z];show n1.same _ _ e
namespace D1
noncomputable def iM:ae->ae->ae
 |N,[]=>N
 |N,x::r=>iM (if x∈N then N else N++[x]) r
def nmd(c:Int)(ls:ae):dU:=c::ls.map λx=>(((iM [0] ls).idxOf x:Nat):Int)
theorem Jv{x:Int}:∀{ls N:ae},iM N (ls++[x])=if x∈iM N ls then iM N ls else iM N ls++[x]
 | [],_=>rfl
 |_::ls,_=>Jv (ls:=ls)
theorem DN:∀{ls N:ae},∃Z98,iM N ls=N++Z98
 | [],N=>⟨[],(jE N).symm⟩
 |x::ls,N=>by
  let⟨Z98,e⟩:=DN (ls:=ls) (N:=if x∈N then N else N++[x])
  show ∃Z98,iM (if x∈N then N else N++[x]) ls=_
  rw[e]
  by_cases c:x∈N
  ·show⟨Z98,by rw[aB c]⟩
  ·show⟨[x]++Z98,by rw[aA c,oM]⟩
def Z4{ls N:ae}{x:Int}(h:x∈N):(iM N ls).idxOf x=N.idxOf x:=by
 let⟨Z98,e⟩:=DN (ls:=ls) (N:=N);rw[e,Mx,aB h]
theorem La{b:ae}:∀{a N:ae},iM N (a++b)=iM (iM N a) b
 | [],_=>rfl
 |_::a,_=>La (a:=a)
theorem Lb{x:Int}:∀{ls N:ae},x∈ls->x∈iM N ls
 |y::ls,N,h=>by
  show x∈iM (if y∈N then N else N++[y]) ls
  let⟨Z98,e⟩:=DN (ls:=ls) (N:=if y∈N then N else N++[y])
  rcases bQ.mp h with rfl|h
  ·rw[e]
   show oK _ ?_
   by_cases c:x∈N
   ·rw[aB c];show c
   ·rw[aA c];show fQ _ (vo x)
  ·show Lb h
theorem DP:∀(ls N:ae),(iM N ls).length<=N.length+ls.length
 | [],N=>aK _
 |x::ls,N=>by
  show cF (DP ls _) ?_
  grind
noncomputable def rw0(r:gC):gC:=⟨r.m,r.b,[]⟩
def strip(T:cu):cu:=T.map λx=>(x.1,rw0 x.2)
noncomputable def Fb(kd b o:Int):Int:=if decide (o>b)=decide (kd=1)then o else b
def putD(kd:Int)(T:cu)(s:dU)(m b:Int):cu:=match yX T s with
 |none=>qt T s ⟨m+0,b,[]⟩
 |some o=>qt T s ⟨m+o.m,Fb kd b o.b,[]⟩
def RK{T:cu}{s:dU}{m b:Int}:(putD kd T s m b).length<=T.length+1:=by
 unfold putD;split<;>show Ļ _ _ _
def Ld(T:cu)(s:dU):yX (strip T) s=(yX T s).map rw0:=by
 unfold yX strip
 induction T with
 |nil=>rfl
 |cons x T ih =>
  grind
def Le(T:cu)(s:dU)(r:gC):strip (qt T s r)=qt (strip T) s (rw0 r):=by
 unfold strip qt;rw[Hf];show List.map _ (if(T.any λx=>decide (x.1=s))=true then _ else _)=if(T.any λx=>decide (x.1=s))=true then _ else _
 by_cases c:(T.any λx=>decide (x.1=s))=true
 ·rw[aB c,aB c,lR,lR];show vq λx _=>?_;grind
 grind
def a7c(kd:Int)(bt:Int->Int->Bool):Prop:=∀a b,(if bt a b=true then a else b)=Fb kd a b
def a7d(h:kd≠1):a7c kd λa b=>decide (a<b):=λa b=>by
 unfold Fb;rw[cC h];by_cases c:a<b
 ·rw[aB (aR c),aR (show b>a from c),aA ()]
 ·rw[aA (by simpa using c),cC (show ¬b>a from c),aB rfl]
def Ũ{bt:Int->Int->Bool}(hb:a7c kd bt){T:cu}{s:dU}{m b:Int}{src:List dU}:strip (mX bt T s ⟨m,b,src⟩)=putD kd (strip T) s m b:=by
 unfold mX putD;rw[Ld];cases e:yX T s with
 |none=>rw[Le];show qt _ _ ⟨m,b,[]⟩=qt _ _ ⟨m+0,b,[]⟩;grind
 |some o =>
  rw[Le];show qt _ _ ⟨o.m+m,(v5 bt ⟨m,b,src⟩ o).b,[]⟩=qt _ _ ⟨m+o.m,Fb kd b o.b,[]⟩;let:(v5 bt ⟨m,b,src⟩ o).b=Fb kd b o.b:=by
   rw[<-hb];unfold v5;split<;>rfl
  grind
end D1
namespace D1
def J7(s:dU)(a b:Nat)(wv:Int):List (dU×Int):=(s,0)::if 0<eE s (a+1)/\0<eE s (b+1)/\eE s (a+1)≠eE s (b+1)then [(nmd 0 (Lk.JD s.tail a b),wv)]else []
def qd(m b:Int):List (dU×Int)->cu->cu
 | [],T=>T
 |y::ys,T=>qd m b ys (putD 0 T y.1 m (b+y.2))
def vX(a b:Nat)(wv:Int):cu->cu->cu
 | [],T=>T
 |x::S,T=>vX a b wv S (qd x.2.m x.2.b (J7 x.1 a b wv) T)
theorem Lf{a b:Nat}{wv:Int}{x:dU×gC}:∀{S T:cu},vX a b wv (S++[x]) T=qd x.2.m x.2.b (J7 x.1 a b wv) (vX a b wv S T)
 | [],_=>rfl
 |_::S,_=>Lf (S:=S)
theorem RL{m b:Int}:∀(ys:List (dU×Int)) (T:cu),(qd m b ys T).length<=T.length+ys.length
 | [],T=>aK _
 |y::ys,T=>by
  let:=RL (m:=m) (b:=b) ys (putD 0 T y.1 m (b+y.2))
  let:=RK (kd:=0) (T:=T) (s:=y.1) (m:=m) (b:=b+y.2)
  rw[iH]
  show(qd m b ys _).length<=_
  omega
def ũ{s:dU}{a b:Nat}{wv:Int}:(J7 s a b wv).length<=2:=by
 unfold J7;rw[iH];split<;>show Nat.le_of_ble_eq_true rfl
theorem RM{a b:Nat}{wv:Int}:∀(S T:cu),(vX a b wv S T).length<=T.length+S.length*2
 | [],T=>by show T.length<=_;omega
 |x::S,T=>by
  let h1:=RM (a:=a) (b:=b) (wv:=wv) S (qd x.2.m x.2.b (J7 x.1 a b wv) T)
  let h2:=RL (m:=x.2.m) (b:=x.2.b) (J7 x.1 a b wv) T
  let h3:=ũ (s:=x.1) (a:=a) (b:=b) (wv:=wv)
  rw[iH,Nat.add_mul,Nat.one_mul]
  show(vX a b wv S _).length<=_
  omega
set_option maxRecDepth 100000 in
def a1O:((List.range 5).all λm=>(Lk.Sts m).all λs=>(List.range m).all λa=>(List.range m).all λb=>decide (nmd 0 (Lk.JD s.tail a b)=0::Lk.iC (Lk.JD s.tail a b)))=true:=by decide
def a4Q{cQ:ae}{cost:Int×Int->Int}{m:Nat}{s:dU}{a b:Nat}{t:Int×Int}(m4:m<=4)(h:Lk.qY m s=true)(ha:a<m)(hb:b<m):(Jf cQ cost).tie s a b t=J7 s a b (cost t):=by
 let:=Lk.Je a1O (show m<5 by omega) h;rw[g8]at this;let:=this a (fX.mpr ha);rw[g8]at this;let e:=dw (this b (fX.mpr hb));unfold J7;rw[e];rfl
theorem Lg{cQ:ae}{cost:Int×Int->Int}{x:dU×gC}:∀{ys:List (dU×Int)}{T:cu},strip (lE (Jf cQ cost).bt x.1 x.2 ys T)=qd x.2.m x.2.b ys (strip T)
 | [],_=>rfl
 |y::ys,T=>by
  show strip (lE (Jf cQ cost).bt x.1 x.2 ys (mX (Jf cQ cost).bt T y.1 ⟨x.2.m,x.2.b+y.2,[x.1]⟩))=qd x.2.m x.2.b ys (putD 0 (strip T) y.1 x.2.m (x.2.b+y.2))
  rw[Lg]
  show congrArg (qd x.2.m x.2.b ys) (Ũ (kd:=0) (a7d ()))
theorem Lh{cQ:ae}{cost:Int×Int->Int}{u v:Int}{B:ae}{m:Nat}(m4:m<=4)(ha:B.idxOf u<m)(hb:B.idxOf v<m) :
  ∀{S T:cu},(∀x∈S,Lk.qY m x.1=true)->strip (nH (Jf cQ cost) (.tie u v) B S T)=vX (B.idxOf u) (B.idxOf v) (cost (u,v)) (strip S) (strip T)
 | [],T,_=>rfl
 |x::S,T,ht=>by
  show strip (nH (Jf cQ cost) (.tie u v) B S (lE (Jf cQ cost).bt x.1 x.2 ((Jf cQ cost).tie x.1 (B.idxOf u) (B.idxOf v) (u,v)) T))=vX _ _ _ (strip S) (qd x.2.m x.2.b (J7 x.1 _ _ _) (strip T))
  rw[a4Q m4 (ht x bh) ha hb,Lh m4 ha hb λy hy=>ht y (bM _ hy),Lg]
end D1
abbrev je:Stmt:=top 48
def kI:bN ["_law_state","_law_at_here","_law_to","_law_names","_law_new","_law_label"] KD (aG je):={}
inductive Wy(vs:af)(H:Hp)(Q:VK)(u_3:XK):Prop
 |mk (a:Addr) (s:dU) (m i j:Nat) (_:vs=[.ref a,.int i,.int j]) (_:pI H a s) (_:s.length=m+1) (_:m<=10) (_:i<m) (_:j<m) (_:∀p H',aL H H'->pI H' p (D1.nmd 0 (Lk.JD s.tail i j))->Q (.ref p) H')
def Jw(B:Bl mg)(Wz:Dn K mg "_law_joined" je KD):⋯ 1 Wz.f Wz.fd KD Wy:=by
 show Wz.F.ok kI λdX A outer s H vs Q E hr h=>?_;let⟨a,st,m,i1,j1,rfl,ha,ls,m10,hi1,hj1,q⟩:=h;let hv:(A.deeper (PyProof.Rows.envOfC "_law_joined" (aG je) s⁻¹ Wz.f dX)).units+65<cLine:=by let:=hr.un;omega
 show⟨_,(aD (aX 3 kI.nd (cG (O aq aj)))
   (aD (aX 4 kI.nd (cG (O aq aj)))
   (aD (iz gK Z (Al (K:=K) Z (eX (Ba (K:=K) Z) (pv 0) (gh aq) gb)) (aN 5 kI.nd)
   (iW (cO (aM lX (pv 5) (aP (aO (K:=K) Z) (pv 0) (bw dF (pv 2) aq)))
   (aF (aX 5 kI.nd (aP (aO (K:=K) Z) (pv 0) (bw dF (pv 1) aq))))
   bA)
   (iW (cO (aM (iB (K:=K) Z hv) (pv 5) (pv 3) (by with_unfolding_all rfl))
   (aF (dZ (gA (K:=K) Z gJ PySem.F.slot_list_append PySem.F.type_list_append fu (pv 3) (O (pv 5) aj))))
   bA)
   (aF (dZ (gA (K:=K) Z gJ PySem.F.slot_list_append PySem.F.type_list_append fu (pv 4) (O (gA (K:=K) Z PySem.F.plainAttrs_list PySem.F.slot_list_index PySem.F.type_list_index uW (pv 3) (O (pv 5) aj)) aj)))))))
   (aF (bJ (gV uq Z B.tuple () (O (pv 4) aj))))))),?_⟩
 obtain⟨c0,r,rfl⟩:∃c r,st=c::r:=by
  cases st with
  |nil=>cases ls
  |cons c r=>show⟨c,r,Z⟩
 let lr:r.length=m:=Nat.succ.inj ls;show⟨(),λpn H1 n1=>⟨(),λps H2 n2=>?_⟩⟩;let zT:=n1.same.trans n2.same;show⟨_,Z,_,Z,a,_,Z,cN.of (zT _ _ ha),(λz=>by
  let e:=z.1;rw[show(1:Int)=((1:Nat):Int)from Z,HT.FJ,aH]at e;omega),λb1 K1 nk=>?_⟩
 let h1:=nk.here;rw[show(1:Int)=((1:Nat):Int)from Z,qX (c0::r) 1 ()]at h1;let sk:=nk.same;let s0K:=zT.trans sk;let fpn:H pn=none:=n1.fresh;let fps:H ps=none:=n1.same.free n2.fresh;let ne:ps≠pn:=λz=>by let:=n2.fresh;rw[z,n1.here]at this;cases this
 let nan:a≠pn:=λz=>by rw[<-z,ha]at fpn;cases fpn
 let nas:a≠ps:=λz=>by rw[<-z,ha]at fps;cases fps
 let nbn:b1≠pn:=λz=>by let:=nk.fresh;rw[z,n2.same _ _ n1.here]at this;cases this
 let nbs:b1≠ps:=λz=>by let:=nk.fresh;rw[z,n2.here]at this;cases this
 let ha1:=s0K _ _ ha;let hn1:=sk _ _ (n2.same _ _ n1.here);let hs1:=sk _ _ n2.here;let up:∀{G:Hp},(∀b u,b≠pn->b≠ps->K1 b=some u->G b=some u)->aL H G:=λ{G} s b u e=>s b u (λz=>by rw[z,fpn]at e;cases e) (λz=>by rw[z,fps]at e;cases e) (s0K _ _ e);obtain⟨ls',els⟩:∃l,l=Lk.JD r i1 j1:=⟨_,Z⟩;let ll:ls'.length=r.length:=by rw[els];show aH _
 rw[show(c0::r).tail=r from Z,<-els]at q;show⟨b1,Z,⟨_,cN.of h1⟩,X8 (P:=λi σ G=>P4 (T1 (λo5=>[⇑a,some (.int i1),some (.int j1),⇑pn,⇑ps,o5]) σ) (∀b u,b≠pn->b≠ps->K1 b=some u->G b=some u) (λ_:Unit=>G pn=↥((D1.iM [0] (ls'.take i)).map V.int)) λ_=>G ps=↥(((D1.nmd 0 ls').take (i+1)).map V.int)) λZ97 ji ij=>NQ (K:=K) (a:=b1) (xs:=r.map V.int) Z97 (ji _ _ _ ⟨⟨_,Z⟩,λ_ _ _ _ e=>e,⟨⟩,hn1,hs1⟩) (λi σ G _ h=>cN.of ((ij _ _ _ h).s _ _ nbn nbs h1)) ?_ ?_⟩
 ·intro i x σ G hx h1;let⟨⟨o4,rfl⟩,sG,_,hN,hS⟩:=ij _ _ _ h1;rw[cI]at hx;let⟨z0,hz0,rfl⟩:=lN.mp hx;let il:i<r.length:=(eG.mp hz0).1;let haG:=sG _ _ nan nas ha1;show zc (P:=λσ' G'=>∃z,ls'[i]?=some z/\σ'=[⇑a,some (.int i1),some (.int j1),⇑pn,⇑ps,some (.int z)]/\G'=G) λJ0 jm mj=>⟨J0,?_,?_⟩
  ·show⟨_,Z,_,Z,_,Z,_,_,Z,Z,a,_,_,.int (eE (c0::r) (j1+1)),Z,Z,cN.of haG,Ê (i:=j1+1) (),Z,_,Z,qi (λc=>?_) λc=>?_⟩
   ·let c':z0=eE (c0::r) (j1+1):=V.int.inj (dw c);show⟨_,Z,_,Z,_,_,Z,Z,a,_,_,.int (eE (c0::r) (i1+1)),Z,Z,cN.of haG,Ê (i:=i1+1) (),jm _ _ ⟨_,?_,Z,Z⟩⟩;rw[els];show(r.map _)[i]?=_;rw[cI,hz0];show congrArg some (aB c')
   ·show jm _ _ ⟨z0,?_,Z,Z⟩;rw[els];show(r.map _)[i]?=_;rw[cI,hz0];show congrArg some (aA λe:z0=eE (c0::r) (j1+1)=>c (aR (congrArg V.int e)))
  intro σ0 G0 h0;let⟨z,hz,rfl,rfl⟩:=mj _ _ h0;clear jm mj h0;let et:ls'.take (i+1)=ls'.take i++[z]:=by rw[jr,hz];rfl
  let ln:=D1.DP (ls'.take i) [0];rw[eN]at ln;let l1:([0]:ae).length=1:=rfl;show zc (P:=λσ' G'=>σ'=[⇑a,some (.int i1),some (.int j1),⇑pn,⇑ps,some (.int z)]/\(∀b u,b≠pn->b≠ps->K1 b=some u->G' b=some u)/\G' pn=↥((D1.iM [0] (ls'.take (i+1))).map V.int)/\G' ps=↥(((D1.nmd 0 ls').take (i+1)).map V.int)) λJ1 jm mj=>⟨J1,?_,?_⟩
  ·rw[et,D1.Jv]at jm;show⟨_,Z,_,Z,rB (bB.of hN) ⟨_,Z,?_⟩⟩;by_cases c0:z∈D1.iM [0] (ls'.take i)
   ·rw[aR c0];rw[aB c0]at jm;show cV (jm _ _ ⟨Z,sG,hN,hS⟩)
   ·rw[cC c0];rw[aA c0]at jm;show gP ⟨_,Z,.inl ⟨Z,_,bB.of hN⟩,_,Z,pn,_,_,Z,Z,hN,(by rw[aH];omega),λG1 cg=>jm _ _ ⟨Z,λb u h1 h2 e=>(cg.rest b h1).trans (sG b u h1 h2 e),by rw[cg.here,dz];rfl,(cg.rest ps ne).trans hS⟩⟩
  intro σ1 G1 h2;let⟨rfl,Wg,hN1,hS1⟩:=mj _ _ h2;clear jm mj h2;let zm:z∈D1.iM [0] (ls'.take (i+1)):=D1.Lb (by rw[et];show fQ _ (vo z));let iv:=vR zm;let ln2:=D1.DP (ls'.take (i+1)) [0];rw[eN]at ln2;let ei:(D1.iM [0] (ls'.take (i+1))).idxOf z=(D1.iM [0] ls').idxOf z:=by
   conv=>rhs;rw[<-tW (i+1) ls']
   rw[D1.La,D1.Z4 zm]
  let en:(D1.nmd 0 ls').take (i+1+1)=(D1.nmd 0 ls').take (i+1)++[(((D1.iM [0] ls').idxOf z:Nat):Int)]:=by
   rw[jr];congr 1;show(ls'.map _)[i]?.toList=_;rw[cI,hz];rfl
  show⟨_,Z,.inl ⟨Z,_,bB.of hS1⟩,_,Z,.inl ⟨Z,_,bB.of hN1⟩,_,Z,pn,_,z,_,Z,Z,hN1,iv.1,iv.2,(),ps,_,_,Z,Z,hS1,(by rw[aH,eN];omega),λG2 cg=>ji _ _ _ ⟨⟨_,Z⟩,λb u h1 h2 e=>(cg.rest b h2).trans (Wg b u h1 h2 e),⟨⟩,(cg.rest pn ne.symm).trans hN1,?_⟩⟩;rw[cg.here,en,dz,<-ei];rfl
 ·intro σ G h1;let⟨⟨o4,rfl⟩,sG,_,hN,hS⟩:=ij _ _ _ h1;rw[aH,<-ll,wJ (by show(ls'.map _).length+1<=_;rw[aH];show aK _)]at hS;show⟨_,Z,ps,_,Z,.inl ⟨bB.of hS,λl hl=>?_⟩⟩;let n9:=iD.oh (H:=G) (p:=l) (o:=.tup ((D1.nmd 0 ls').map V.int)) hl;show q l _ ((up sG).trans n9.same) n9.here
abbrev kJ:Stmt:=top 49
def Cg:bN Ih Ih (aG kJ):={}
inductive Ū(vs:af)(H:Hp)(Q:VK)(u_3:XK):Prop
 |mk (d a:Addr) (s:dU) (mm b:Int) (kt:List (aS×V)) (T:cu) (_:vs=[.ref d,.ref a,.int mm,.int b]) (_:pI H a s) (_:H d=some (.dT kt)) (_:yh H kt T) (_:T.length<=900) (_:∀H' PX,Sd d H H'->H' d=some (.dT PX)->yh H' PX (D1.putD 0 T s mm b)->Q .non H')
def Pu(B:Bl mg)(Qa:Dn K mg "_law_more" kJ Ih):⋯ 1 Qa.f Qa.fd Ih Ū:=by
 show Qa.F.ok Cg λdX A outer s H vs Q E hr h=>?_;let⟨d,a,s',mm,b,kt,T0,rfl,ha,a1P,hT2,lt9,q⟩:=h;let hw1:(A.deeper (PyProof.Rows.envOfC "_law_more" (aG kJ) s⁻¹ Qa.f dX)).units+1<cLine:=by let:=hr.un;omega
 show⟨_,(iW (cO (PW.pt (lU (aM (Ĩ hw1) (pv 1) (pv 0) (by with_unfolding_all rfl)) (nA (aM zZ (aP (aO (K:=K) Z) (Bb hw1 (pv 0) (pv 1) λ_ _=>rfl) aq) (pv 3)))))
   (aF (aX 3 Cg.nd (aP (aO (K:=K) Z) (Bb hw1 (pv 0) (pv 1) λ_ _=>rfl) aq)))
   bA)
   (aF (vI (bK (O (bw dF (pv 2) (aP (aO (K:=K) Z) (gA (K:=K) Z tU Cp Tr (a0Y hw1) (pv 0) (O (pv 1) (O (bK (O aq (O aq aj))) aj))) aq)) (O (pv 3) aj))) (NP (pv 0) (pv 1) (Dp hw1))))),?_⟩
 let lkt:=aW hT2;let get:∀{G':Hp},aL H G'->pI G' a s'/\G' d=some (.dT kt):=λ{G'} s=>⟨ha.keep (.of s),s _ _ a1P⟩;obtain⟨m0,bs,en,hv2⟩:∃m0 bs,D1.putD 0 T0 s' mm b=qt T0 s' ⟨mm+m0,bs,[]⟩/\((dG kt (sI s')=none/\m0=0/\bs=b)\/∃pr b0,dG kt (sI s')=⇑pr/\H pr= ~~~[.int m0,.int b0]/\bs=D1.Fb 0 b b0):=by
  rcases Gf s' hT2 with⟨e1,e2⟩|⟨v0,r0,e1,e2,pr,rfl,hr0⟩
  ·show⟨0,b,by unfold D1.putD;rw[e2],.inl ⟨e1,Z,Z⟩⟩
  ·show⟨r0.m,_,by unfold D1.putD;rw[e2],.inr ⟨pr,r0.b,e1,hr0,Z⟩⟩
 show zc (P:=λσ' G'=>σ'=[⇑d,⇑a,some (.int mm),some (.int bs)]/\G'=H) λJ3 jm mj=>⟨J3,?_,?_⟩
 ·show⟨_,Z,_,Z,a,d,sI s',kt,Z,Z,ha.key,a1P,_,Z,?_⟩;rcases hv2 with⟨e1,_,e3⟩|⟨pr,b0',e1,hr0,e3⟩
  ·rw[e1];show cV (cV (jm _ _ ⟨by rw[e3];rfl,Z⟩))
  ·rw[e1];let dg:Fg H d (.ref a) ⇑pr:=by rw[<-e1];show Fg.t a1P ha.key
   show gP ⟨_,Z,_,Z,d,.ref pr,Z,dg,pr,_,_,.int b0',Z,Z,cN.of hr0,Z,_,Z,_,_,Z,Z,_,Z,qi (λc=>?_) λc=>?_⟩
   ·let c:b0'<b:=dw c;show⟨_,Z,_,Z,d,.ref pr,Z,dg,pr,_,_,.int b0',Z,Z,cN.of hr0,Z,jm _ _ ⟨by rw[e3];unfold D1.Fb;rw[cC (show ¬b0'>b by omega),aB ()];rfl,Z⟩⟩
   ·let c:¬b0'<b:=λz=>c (aR z);show jm _ _ ⟨?_,Z⟩;rw[e3];unfold D1.Fb;by_cases c3:b0'>b
    ·rw[aR c3,aA ()];rfl
    ·rw[cC c3,aB (),show b0'=b by omega];rfl
 intro σ' G' h3;let⟨rfl,rfl⟩:=mj _ _ h3;clear jm mj h3;show⟨_,Z,_,Z,.inr (.inr (.inl ⟨Z,.inr ⟨_,a1P⟩⟩)),_,Z,(),λp3 G3 n3=>?_⟩;let⟨g5,g6⟩:=get n3.same;show⟨d,a,sI s',kt,.ref p3,Z,Z,g5.key,g6,?_⟩;obtain⟨pq,bz,eq1,hq⟩:∃pq bz,(dG kt (sI s')).getD (.ref p3)=.ref pq/\G3 pq= ~~~[.int m0,.int bz]:=by
  rcases hv2 with⟨e1,e2,_⟩|⟨pr,b0',e1,hr0,_⟩
  ·show⟨p3,0,by rw[e1];rfl,by rw[e2];show n3.here⟩
  ·show⟨pr,b0',by rw[e1];rfl,n3.same _ _ hr0⟩
 rw[eq1];show⟨pq,_,_,.int m0,Z,Z,cN.of hq,Z,_,_,Z,Z,_,Z,(),λp4 G4 n4=>?_⟩;let s4:=n3.same.trans n4.same;let⟨g5,g6⟩:=get s4;show⟨_,Z,_,Z,d,a,sI s',kt,Z,Z,g5.key,g6,(by let:=lkt;omega),λG5 c5=>?_⟩;let ts:lZ G4 G5:=λc' ys hc=>by
  rw[c5.rest c' (λz=>by rw[z,g6]at hc;cases hc)];show hc
 show q G5 _ ((Sd.of s4).trans (.X3 c5)) c5.here ?_;rw[en];show X4 (Paired.cD hT2 λ_ _ z=>⟨z.1,z.2.keep ((lZ.of s4).trans ts)⟩) ⟨p4,Z,ts _ _ n4.here⟩
abbrev mF:Stmt:=top 50
def jB:bN ["_law_table","_law_at_here","_law_to","_law_cost","_law_due","_law_state","_law_row","_law_one","_law_other"] Q7 (aG mF):={}
def a7e{a b:TT}{σ:St}{H:Hp}{Q:Bool->Hp->Prop}{c1 c2:Bool}(h1:∀Q:Bool->Hp->Prop,Q c1 H->a σ H Q)(h2:∀Q:Bool->Hp->Prop,Q c2 H->b σ H Q)(h:Q (c1&&c2) H):â a b σ H Q:=by
 show h1 _ ?_;cases c1 with
 |false=>show cV h
 |true=>show gP (h2 _ h)
inductive WD(vs:af)(H:Hp)(Q:VK)(u_3:XK):Prop
 |mk (t:Addr) (i j m:Nat) (cv:Int) (J:List (aS×V)) (T:cu) (_:vs=[.ref t,.int i,.int j,.int cv]) (_:H t=some (.dT J)) (_:yh H J T) (_:∀x∈T,x.1.length=m+1) (_:i<m) (_:j<m) (_:m<=10) (_:T.length<=400) (_:∀d kd2 H',aL H H'->H' d=some (.dT kd2)->yh H' kd2 (D1.vX i j cv T [])->Q (.ref d) H')
def Jx(B:Bl mg)(Wz:Dn K mg "_law_joined" je KD)(Qa:Dn K mg "_law_more" kJ Ih)(Ë:Dn K mg "_law_behind" mF Q7):⋯ 2 Ë.f Ë.fd Q7 WD:=by
 let gZ4:⋯ 1 _ _ _ _:=Jw B Wz;let gZ6:⋯ 1 _ _ _ _:=Pu B Qa;show Ë.F.ok jB λdX A outer s H vs Q E hr h=>?_;let⟨t,i1,j1,m,cv,J,T,rfl,ht,hT,hm,hi,hj,m10,lT,q⟩:=h;show⟨_,(aD (aX 4 jB.nd HS)
   (aD (xj (iz gK Z (uU (qQ (K:=K) Z tU Gw Gx uT (pv 0))) (jG (K:=K) (n:=2) Z Z (bT (aN 5 jB.nd) (bT (aN 6 jB.nd) iU)))
   (aD (dZ (aY gZ6 hr Z Qa.m Qa.F.kp Qa.b .nil bW (O (pv 4) (O (pv 5) (O (aP (aO (K:=K) Z) (pv 6) aq) (O (aP (aO (K:=K) Z) (pv 6) aq) aj))))))
   (aD (aX 7 jB.nd (aP (aO (K:=K) Z) (pv 5) (bw dF (pv 1) aq)))
   (aD (aX 8 jB.nd (aP (aO (K:=K) Z) (pv 5) (bw dF (pv 2) aq)))
   (aF (cO (PW.pt (lU (aM sY (pv 7) aq) (lU (aM sY (pv 8) aq) (nA (aM Hj (pv 7) (pv 8))))))
   (aF (dZ (aY gZ6 hr Z Qa.m Qa.F.kp Qa.b .nil bW (O (pv 4) (O (aY gZ4 hr Z Wz.m Wz.F.kp Wz.b .nil bW (O (pv 5) (O (pv 1) (O (pv 2) aj)))) (O (aP (aO (K:=K) Z) (pv 6) aq) (O (bw dF (aP (aO (K:=K) Z) (pv 6) aq) (pv 3)) aj)))))))
   bA)))))))
   (aF (bJ (pv 4))))),?_⟩
 intro d hd;let n0:=iD.oh (H:=H) (p:=d) (o:=.dT []) hd;generalize cY H d (.dT [])=H0 at n0 ⊢;let ht0:=n0.same _ _ ht;show⟨_,Z,.inr (.inr (.inl ⟨Z,.inr ⟨_,ht0⟩⟩)),t,J,Z,Z,ht0,λpv H1 n1=>⟨pv,t,J,Z,n1.here,n1.same _ _ ht0,λo as pk=>?_⟩⟩;let h1t:=n1.same _ _ ht0;let hd1:H1 d=some (.dT []):=n1.same _ _ n0.here;let td:t≠d:=λz=>by rw[z,hd]at ht;cases ht
 let Wa:Nd H (cY H1 t (.iK o (.dT J))):=(Nd.of (n0.same.trans n1.same)).trans (Nd.iK h1t);let Sw:cY H1 t (.iK o (.dT J)) t=some (.iK o (.dT J)):=dN;let g0d:cY H1 t (.iK o (.dT J)) d=some (.dT []):=by rw[aZ (Ne.symm td)];show hd1
 let Yb:∀c,c≠t->cY H1 t (.iK o (.dT J)) c=H1 c:=λc hc=>aZ hc;generalize cY H1 t (.iK o (.dT J))=G0 at pk Wa Sw g0d Yb ⊢;let lk:=aW hT;let la:=aW pk;show X8 (P:=λi σ G=>P4 (T4 (λo5 o6 o7 o8=>[⇑t,some (.int i1),some (.int j1),some (.int cv),⇑d,o5,o6,o7,o8]) σ) (Sd d G0 G) (λkt=>G d=some (.dT kt)) λkt=>yh G kt (D1.vX i1 j1 cv (T.take i) [])) λZ97 ji ij=>vQ Z97 (ji _ _ _ ⟨⟨_,_,_,_,Z⟩,.refl,[],g0d,.nil⟩) (λi σ G _ h=>(ij _ _ _ h).s _ _ td Sw) ?_ ?_
 ·intro i a0 v0 σ G pq G1 ha0 hv0 h1 nw;let⟨⟨o5,o6,o7,o8,rfl⟩,sG,kt,hkt,Yc⟩:=ij _ _ _ h1;let⟨kv,hkv,hak⟩:=bI pk ha0;let⟨⟨st,row⟩,hsx,ek,p2,ep2,hrow⟩:=bI hT hkv;let ek:kv.1=sI st:=ek;let hv0':v0=kv.2:=by
   rw[cI,hkv]at hv0;show(dD hv0).symm
  let ep2:kv.2=.ref p2:=ep2;rw[ep2]at hv0';subst hv0';rw[ek]at hak;let n1':aL G G1:=nw.same;let η:Nd G0 G1:=(Nd.sd sG g0d).trans (.of n1');let hold:pI G1 a0 st:=pI.KN (η.tups _ _ hak);let wg:G1 p2= ~~~[.int row.m,.int row.b]:=η.tups _ _ (Wa.tups _ _ hrow);let ls:st.length=m+1:=hm _ (gZ hsx);let hTi:T.take (i+1)=T.take i++[(st,row)]:=by rw[jr,hsx];rfl
  let a7f:=n1' _ _ hkt;let hT1:yh G1 kt (D1.vX i1 j1 cv (T.take i) []):=Paired.cD Yc λ_ _ z=>⟨z.1,z.2.keep (.of n1')⟩;let lt9:(D1.vX i1 j1 cv (T.take i) []).length<=800:=cF (D1.RM _ _) (by rw[eN];show 0+_<=_;omega);let eD:D1.vX i1 j1 cv (T.take (i+1)) []=if 0<eE st (i1+1)/\0<eE st (j1+1)/\eE st (i1+1)≠eE st (j1+1)then D1.putD 0 (D1.putD 0 (D1.vX i1 j1 cv (T.take i) []) st row.m row.b) (D1.nmd 0 (Lk.JD st.tail i1 j1)) row.m (row.b+cv)else D1.putD 0 (D1.vX i1 j1 cv (T.take i) []) st row.m row.b:=by
   rw[hTi,D1.Lf];unfold D1.J7;split
   ·show D1.putD 0 (D1.putD 0 _ st row.m (row.b+0)) _ _ _=_;rw[Int.add_zero]
   ·show D1.putD 0 _ st row.m (row.b+0)=_;rw[Int.add_zero]
  generalize D1.vX i1 j1 cv (T.take i) []=T0 at hT1 lt9 eD;show⟨pq,_,Z,cN.of nw.here,Z,_,_,Z,_,_,Z,Z,⟨_,Z,_,Z,_,Z,p2,_,_,.int row.m,Z,Z,cN.of wg,Z,_,Z,p2,_,_,.int row.b,Z,Z,cN.of wg,Z,?_⟩⟩;show⟨d,a0,st,row.m,row.b,kt,T0,Z,hold,a7f,hT1,(),λG2 kt2 s2 hk2 hT2=>?_⟩;let n2:Nd G1 G2:=Nd.sd s2 a7f;let ū:pI G2 a0 st:=hold.keep n2.tups;let a7g:=n2.tups _ _ wg;let Sx:Sd d G0 G2:=(sG.trans (.of n1')).trans s2;show⟨_,Z,_,Z,_,_,Z,Z,a0,_,_,.int (eE st (i1+1)),Z,Z,cN.of ū,Ê (i:=i1+1) (),⟨_,Z,_,Z,_,_,Z,Z,a0,_,_,.int (eE st (j1+1)),Z,Z,cN.of ū,Ê (i:=j1+1) (),?_⟩⟩;dsimp only[zY];show a6I (c1:=decide (0<eE st (i1+1))) (c2:=decide (0<eE st (j1+1)) && !decide (V.int (eE st (i1+1))=V.int (eE st (j1+1)))) (λQ h=>⟨_,Z,_,_,Z,Z,_,Z,h⟩) (λQ h=>a7e (c1:=decide (0<eE st (j1+1))) (c2:=!decide (V.int (eE st (i1+1))=V.int (eE st (j1+1)))) (λQ h=>⟨_,Z,_,_,Z,Z,_,Z,h⟩) (λQ h=>⟨_,Z,_,Z,Z,_,Z,h⟩) h) (λc=>?_) (λc=>?_)
  ·let c':0<eE st (i1+1)/\0<eE st (j1+1)/\eE st (i1+1)≠eE st (j1+1):=by simpa using c
   rw[aB c']at eD;show⟨_,Z,_,Z,_,Z,_,Z,a0,st,m,i1,j1,Z,ū,ls,m10,hi,hj,λp' G3 s3 hp'=>?_⟩;let a2J:=s3 _ _ a7g;show⟨_,Z,p2,_,_,.int row.m,Z,Z,cN.of a2J,Z,_,Z,p2,_,_,.int row.b,Z,Z,cN.of a2J,Z,_,Z,_,_,Z,Z,?_⟩;let lp:=D1.RK (kd:=0) (T:=T0) (s:=st) (m:=row.m) (b:=row.b);show⟨d,p',_,row.m,_,kt2,_,Z,hp',s3 _ _ hk2,Paired.cD hT2 λ_ _ z=>⟨z.1,z.2.keep (.of s3)⟩,(),λG4 kt4 s4 hk4 hT4=>ji _ _ _ ⟨⟨_,_,_,_,Z⟩,(Sx.trans (.of s3)).trans s4,kt4,hk4,by rw[eD];show hT4⟩⟩
  ·let c':¬(0<eE st (i1+1)/\0<eE st (j1+1)/\eE st (i1+1)≠eE st (j1+1)):=λh=>c (by simpa using h);rw[aA c']at eD;show ji _ _ _ ⟨⟨_,_,_,_,Z⟩,Sx,kt2,hk2,by rw[eD];show hT2⟩
 ·intro σ G h;let⟨⟨o5,o6,o7,o8,rfl⟩,sG,kt,hkt,Yc⟩:=ij _ _ _ h;show⟨t,o,J,J,ht0,sG _ _ td Sw,?_⟩;rw[la.trans lk,ig]at Yc;let tu:lZ G (cY G t (.dT J)):=λc ys hc=>by
   rw[aZ (λz=>by rw[z,sG _ _ td Sw]at hc;cases hc)];show hc
  show⟨_,Z,q d kt _ (λc u e=>?_) (by rw[aZ (Ne.symm td)];show hkt) (Paired.cD Yc λ_ _ z=>⟨z.1,z.2.keep tu⟩)⟩;by_cases z:c=t
  ·rw[z]at e ⊢;rw[dN,<-e,ht]
  ·rw[aZ z];show sG c u (λw=>by rw[w,hd]at e;cases e) ?_;rw[Yb c z];show(n0.same.trans n1.same) _ _ e
end K
namespace Qu
open PySem.W PySem.Calls PyProof.Rows PySem.MeetsSeq
def a1Q{l:Addr}{z:Array Value}{n:Nat}{x:Value}{eq:Nat->Bool}{j:Nat}{tp:Int}(hj:j<z.size)(hit:eq j=true)(ju:(j:Int)<tp)(k:Nat) :
  ∀i:Nat,j-i=k->i<=j->(∀m (hm:m<z.size),i<=m->m<j->eq m=false)->Meets (Builtin.«list.index.loop» ⟨[.ref l,x,rawInt i,rawInt tp],[]⟩)
   (λA R s=>s^^^l=some (lsO z n)/\Yq z x eq A.in1 s.heap/\R (.ok (.ret (.int j s.toks))) { s with toks:=s.toks+1}):=by
 induction k with
 |zero =>
  intro i hk ij hn prog w A R s h;let⟨hp,g,d,tq,os⟩:=s;let⟨ol,he,h⟩:=h;obtain rfl:i=j:=()
  wp_walk using uf ol
  rw[show(if(i:Int)<tp then z[((i:Nat):Int).toNat]? else none)=some z[i] by simp[ju,hj]];show M (he _ Z i hj prog w _ _ ?_);rw[hit]
  wp_walk
  show h
 |succ k ih =>
  intro i hk ij hn prog w A R s h;let⟨hp,g,d,tq,os⟩:=s;let⟨ol,he,h⟩:=h;let lb:i<z.size:=()
  let lt:(i:Int)<tp:=()
  wp_walk using uf ol
  rw[show(if(i:Int)<tp then z[((i:Nat):Int).toNat]? else none)=some z[i] by simp[lt,lb]];show M (he _ Z i lb prog w _ _ ?_);rw[hn i lb (aK _) ()]
  wp_walk
  rw[show((i:Int)+1)=((i+1:Nat):Int) by push_cast;rfl];show⟨jR plain_index_loop _,jq entry_index_loop ?_⟩;rw[jD plain_index_loop _];show ih (i+1) () () (λm hm h1 h2=>hn m hm () h2) prog w A R _ ⟨ol,he,h⟩
def a1R{l:Addr}{z:Array Value}{n:Nat}{x:Value}{eq:Nat->Bool}{j:Nat}(hj:j<z.size)(hit:eq j=true)(small:(j:Int)<2^63-1)(hn:∀m (hm:m<z.size),m<j->eq m=false) :
  Meets (Builtin.«list.index» ⟨[.ref l,x],[]⟩) (λA R s=>s^^^l=some (lsO z n)/\Yq z x eq A.in1 s.heap/\R (.ok (.ret (.int j s.toks))) { s with toks:=s.toks+1}):=by
 intro prog w A R s h;let⟨hp,g,d,tq,os⟩:=s;let⟨ol,he,h⟩:=h
 wp_walk using uf ol
 rw[show((λi:Int=>if i<0 then max 0 (i+(z.size:Int))else i) ((none:Option Int).getD 0))=((0:Nat):Int) by simp,show((λi:Int=>if i<0 then max 0 (i+(z.size:Int))else i) ((none:Option Int).getD (2^63-1)))=2^63-1 by simp];show⟨jR plain_index_loop _,jq entry_index_loop ?_⟩;rw[jD plain_index_loop _];show a1Q (tp:=2^63-1) hj hit small _ 0 Z (cW _) (λm hm _ h2=>hn m hm h2) prog w A R _ ⟨ol,he,h⟩
end Qu
namespace L2
open PyProof.Rows Qu
section
variable{X:Cx}{K:aJ}
def a7h(K:aJ):V->af->Hp->VK->Prop:=λx vs H Q=>∃l xs y d ds j,x=.ref l/\vs=[y]/\H l=↥xs/\Hw K H y d/\uO K H xs ds/\SeqAt.shaped d=true/\(∀e∈ds,SeqAt.shaped e=true)/\xs.length<=1000/\
 j<xs.length/\PyData.eqv (ds.getD j .none) d=true/\(∀m<j,PyData.eqv (ds.getD m .none) d=false)/\Q (.int (j:Int)) H
def a1S(e:X.K=K)(hv:X.A.units+65<cLine):PL X "list.index" (a7h K):=by
 subst e;intro Y s σ H x vs v us Q I rx rv h;let⟨l,xs,y,d,ds,j,rfl,rfl,hH,hd,hds,sd,sds,a8G,hj,hit,hn,q⟩:=h;cases rx;let⟨u,rfl,ru⟩:=vals1 rv;let⟨z,bR,n,r,ol,e⟩:=I.Vn hH;let hlen:=r.length;let⟨as,ra⟩:=hd.reads I ru;let⟨el,rs⟩:=Js I r hds;let hjz:j<bR.toArray.size:=by rw[fW];omega
 show yQ F.slot_list_index ⟨_,e,Z⟩ F.entry_list_index (F.args_list_index_2 _ _) (a1R (z:=bR.toArray) (eq:=λm=>PyData.eqv (ds.getD m .none) d) hjz hit () λm _ hm=>hn m hm) ⟨e,λs' es m hm=>?_,?_⟩
 ·let hm':m<bR.length:=by simpa using hm
  let⟨bs,rb⟩:=rs m hm';let eg:bR.getD m .none=bR.toArray[m]:=by simp[hm']
  rw[eg]at rb;let sm:SeqAt.shaped (ds.getD m .none)=true:=sds _ (by rw[fB,bC ()];show mO _);rw[<-es]at rb ra;show SeqAt.eqAt_reads _ _ _ _ _ _ _ _ rb ra (vp sm) (vp sd) (SeqAt.room_of_shaped sm hv)
 ·show⟨.int j,H,I.tok _,⟨_,Z⟩,q⟩
end
end L2
namespace De
open PyProof.Rows
section
variable{prog:Program}{w:World}{A:Around}{E:∅}{s:Shared}{κ:Type} [DecidableEq κ] {knd:HeapKind prog w κ}
def WK{nm:String}{a b:Addr}{xa xb:List (κ×Addr×Value)}{Q:Bool->Shared->Prop}(ha:(a==sysModules)=false)(hb:(b==sysModules)=false)(hu:knd.room A)
  (da:s.heap.DictOfH knd a xa) (db:s.heap.DictOfH knd b xb) (len:xa.length=xb.length) (hits:∀x∈xa,∃q,atKey xb x.1=some q/\SeqAt.EqAt A s x.2.2 q.2 true) (h:Q true s) :
  ∎ (Builtin.Dict.samePairs nm a b) Q E s:=by
 let⟨oa,es,ep,hoa,_,hda,hea,hia,hna⟩:=da;let⟨ob,fs,ep',hob,_,hdb,heb,hib,hnb⟩:=db;let la:=Ut hea;let lb:=Ut heb;unfold Builtin.Dict.samePairs Builtin.Dict.showsAll;rw[aA (by simp[ha]),aA (by simp[hb])];show M (ao (M (ao (M (rJ hoa hda ?_)))));lk;show M (rJ hob hdb ?_);rw[aA (by simp;omega)];show M (wR hoa hda (M ?_));rw[Std.Legacy.Range.forIn_eq_forIn_range'];simp only[Std.Legacy.Range.size,Nat.sub_zero,Nat.add_sub_cancel,Nat.div_one];show wpAny_forIn_list _ (λrest q s'=>s'=s/\q=(none,⟨⟩)/\∃i,rest=List.range' i (es.size-i)/\i<=es.size) _ ?_ ?_ _ _ ⟨Z,Z,0,by simp,cW _⟩
 ·rintro x rest q s' ⟨rfl,rfl,i,hr,hi⟩;let lt:i<es.size:=by
   by_cases c:i<es.size
   ·show c
   ·rw[show es.size-i=0 by omega]at hr;simp at hr
  obtain⟨rfl,hrest⟩:x=i/\rest=List.range' (i+1) (es.size-(i+1)):=by
   rw[show es.size-i=(es.size-(i+1))+1 by omega,List.range'_succ]at hr;show⟨(Nr hr).1,(Nr hr).2⟩
  let lx:x<xa.length:=()
  let ex:xa[x]?=some xa[x]:=bC lx;let ee:es[x]?=some (entryOfKey knd xa[x]):=by rw[entry_at hea x,ex];rfl
  let⟨q,hq,he⟩:=hits xa[x] (mO lx);show M (rJ hoa hda ?_);rw[ee];show wpAny _ _ (holding [Value.ref xa[x].2.1,xa[x].2.2] _ >>= _) _ _ _;show M (dY (M (wpAny_dictFind_heap hu (hia _ (mO lx)) hob hdb heb hib hnb ?_ ?_)))
  ·intro no;rw[atKey_none_of_get no]at hq;cases hq
  ·intro j p hj;let ep2:p=q:=dD ((atKey_of_get hnb hj).symm.trans hq);subst ep2;show M (rJ hob hdb ?_);let ef:fs[j]?=some (entryOfKey knd (xa[x].1,p)):=by rw[entry_at heb j,hj];rfl
   rw[ef];show dY (he prog w _ _ ?_);show wpAny _ _ (if(!true)=true then _ else _) _ _ _;rw[aA ()];show M (wR hoa hda ?_);rw[aA (by simp)];show ao ⟨Z,Z,x+1,hrest,lt⟩
 ·rintro q s' ⟨rfl,rfl,i,hr,hi⟩;show ao h
def Ŭ{a b:Addr}{xa xb:List (κ×Addr×Value)}{Q:∅}(ha:(a==sysModules)=false)(hb:(b==sysModules)=false)(hr:knd.room A.in1)
  (da:s.heap.DictOfH knd a xa) (db:s.heap.DictOfH knd b xb) (hu:A.units<cLine) (len:xa.length=xb.length) (hits:∀x∈xa,∃q,atKey xb x.1=some q/\SeqAt.EqAt A.in1 s x.2.2 q.2 true) (h:Q (.bool false) s) :
  ∎ (compareOp .NotEq (.ref a) (.ref b)) Q E s:=by
 show wpAny_richCompare_same_room (op:=.NotEq) da.typeIs db.typeIs PySem.F.slot_dict_ne (gD PySem.F.slot_dict_ne da.typeIs PySem.F.entry_dict_ne (M ?_) (PySem.F.args_dict_ne_2 _ _)) hu;unfold Builtin.Dict.dictSlotArgs;show M (Cm da.typeIs (ao (M (vB (T:="dict") db.typeIs PySem.F.sub_dict_dict ?_))));simp only[if_false,Bool.not_true,Bool.false_eq_true];show M (ao (M (ao (M (WK ha hb hr da db len hits ?_)))));show ao ⟨_,Z,(λz=>by cases z),h⟩
end
end De
namespace L2
open PyProof.Rows Bg
section
variable{X:Cx}{K:aJ}
structure ŭ(K:aJ)(H:Hp)(ka kb:List (aS×V)):Prop where
 len:ka.length=kb.length
 hit:∀p∈ka,∃v d,dG kb p.1=some v/\Hw K H p.2 d/\Hw K H v d/\SeqAt.shaped d=true
noncomputable def a7i(K:aJ)(neg:Bool):R2:=λx y H Q=>∃a b ka kb,x=.ref a/\y=.ref b/\H a=some (.dT ka)/\H b=some (.dT kb)/\ŭ K H ka kb/\Q (.bl (!neg)) H
def WL{Y:aE}{σ:St}{H:Hp}{s:Shared}{ka kb:List (aS×V)}{xa xb:List (aS×Addr×Value)}(I:bD X Y σ H s)(hu:X.A.units+66<cLine)(ra:KT H ka xa)(rb:KT H kb xb)(S:ŭ X.K H ka kb) :
  ∀x∈xa,∃q,atKey xb x.1=some q/\SeqAt.EqAt X.A.in1 s x.2.2 q.2 true:=by
 intro x hx;let⟨j,hj,rfl⟩:=qC hx;let⟨p,hp,ep,_,rp⟩:=cP ra (bC hj);let⟨v,d,hv,d1,d2,sd⟩:=S.hit p (gZ hp);let rv:=rb.val p.1;rw[hv]at rv;let⟨u,hu2,ru⟩:=oR.some_of rv;rw[<-ep];cases c:atKey xb p.1 with
 |none=>rw[c]at hu2;cases hu2
 |some q =>
  rw[c]at hu2;cases hu2;let⟨as,r1⟩:=d1.reads I rp;let⟨bs,r2⟩:=d2.reads I ru;let:=PySem.W.keq_at (A:=X.A) r1 r2 sd sd ();rw[Qt sd]at this;show⟨q,Z,this⟩
def a4R(hu:X.A.units+66<cLine):rA X (compareOp .NotEq) (a7i X.K true):=by
 intro Y s σ H x y v u Q I rx ry h;let⟨a,b,ka,kb,rfl,rfl,ea,eb,S,q⟩:=h;obtain rfl:v=Value.ref a:=rx;obtain rfl:u=Value.ref b:=ry;let⟨za,sa,xa,ra,da⟩:=Ek I.hok ea;let⟨zb,sb,xb,rb,db⟩:=Ek I.hok eb;let l1:=aW ra;let l2:=aW rb;let l3:=S.len;show De.Ŭ sa sb (yJ ()) da db () () (WL I hu ra rb S) ⟨.bl false,H,I,Z,q⟩
def a1T(e:X.K=K)(hu:X.A.units+66<cLine):rA X (compareOp .NotEq) (a7i K true):=by subst e;show a4R hu
end
end L2
namespace K
open L2 Lw Bg
variable{K:aJ}
abbrev kW:Stmt:=top 51
def jK:bN ["_law_found","_law_steps","_law_ties_here","_law_prices","_law_tops_here","_law_aheads","_law_k","_law_a","_law_b","_law_cost"] XS (aG kW):={}
namespace D1
def a1U{T:cu}(nd:(T.map (·.1)).Nodup){x:dU×gC}(h:x∈T):yX T x.1=some x.2:=by
 unfold yX
 induction T with
 |nil=>cases h
 |cons y T ih =>
  rw[b8,jb]at nd;rcases bQ.mp h with e|h
  ·rw[e,rH (by show aR Z)];rfl
  ·rw[tV (by show λz=>nd.1 (dM.mpr ⟨x,h,(dw z).symm⟩))];show ih nd.2 h
end D1
def Ů{H:Hp}{ka kb:List (aS×V)}{A B:cu}(ha:yh H ka A)(hb:yh H kb B)(e:D1.strip A=B)(nd:(A.map (·.1)).Nodup):ŭ K H ka kb where
 len:=by
  rw[aW ha,aW hb,<-e]
  unfold D1.strip
  rw[aH]
 hit:=λp hp=>by
  let⟨j,hj,rfl⟩:=qC hp
  let⟨x,hx,ek,q,eq,hq⟩:=bI ha (bC hj)
  let g:=D1.Ld A x.1
  rw[D1.a1U nd (gZ hx),e]at g
  let ek:ka[j].1=sI x.1:=ek
  let eq:ka[j].2=.ref q:=eq
  rcases Gf x.1 hb with⟨_,e2⟩|⟨v,r,e1,e2,q',rfl,hq'⟩
  ·rw[e2]at g;cases g
  ·rw[e2]at g
   let g:r=D1.rw0 x.2:=dD g
   rw[g]at hq'
   show⟨_,.tuple [.int x.2.m,.int x.2.b],by rw[ek];show e1,by rw[eq];show .tup (cN.of hq) (.cons (.int _) (.cons (.int _) .nil)),.tup (cN.of hq') (.cons (.int _) (.cons (.int _) .nil)),Z⟩
def WM{H:Hp}{J:List (aS×V)}{T:cu}(h:yh H J T):yh H J (D1.strip T):=by
 induction h with
 |nil=>show .nil
 |cons a _ ih=>show .cons a ih
def a7j:kitOne K (.type "list") (.type "list")=some true:=by rfl
def a1V{ts:ar}{t:Int×Int}(h:t∈ts):ts.idxOf t<ts.length/\PyData.eqv ((ts.map qG).getD (ts.idxOf t) .none) (qG t)=true/\∀m<ts.idxOf t,PyData.eqv ((ts.map qG).getD m .none) (qG t)=false:=by
 let lt:=Gq h;let at_:∀m (hm:m<ts.length),(ts.map qG).getD m .none=qG ts[m]:=λm hm=>by rw[fB,cI,bC hm];rfl
 show⟨lt,?_,λm hm=>?_⟩
 ·rw[at_ _ lt,T8 lt,Gi];show aR rfl
 ·rw[at_ m (),Gi];show cC ?_;let:=List.not_of_lt_findIdx (xs:=ts) (p:=λx=>x==t) (i:=m) hm;simpa using this
inductive ů(vs:af)(H:Hp)(Q:VK)(u_3:XK):Prop
 |mk (pT pS pi pp:Addr) (xs yt tx:af) (ss:ax) (Ts:List cu) (n:Nat) (ts:ar) (ws:ae) (_:vs=[.ref pT,.ref pS,.ref pi,.ref pp]) (_:H pS=↥xs) (_:Paired (sW H) xs ss) (_:ss.length<=800) (_:H pT=↥yt) (_:Paired (Wh H) yt Ts) (_:Ts.length=ss.length) (_:Go.a1K n ts ss) (_:H pi=↥tx) (_:Paired (kZ H) tx ts) (_:ts.length<=100) (_:H pp=↥(ws.map V.int)) (_:ws.length=ts.length) (_:(∀k,k<ss.length->(∀x∈Ts.getD k [],x.1.length=(Go.fZ n ts ss k).length+1)/\(Go.fZ n ts ss k).length<=4/\(Ts.getD k []).length<=400/\((Ts.getD k []).map (·.1)).Nodup)) (_:(∀(k i:Nat) (u v:Int),ss[k]?=some (.tie u v)->Go.qy n ts ss k=[i]->D1.strip (Ts.getD k [])=D1.vX ((Go.fZ n ts ss i).idxOf u) ((Go.fZ n ts ss i).idxOf v) (ws.getD (ts.idxOf (u,v)) 0) (D1.strip (Ts.getD i [])) [])) (_:∀H',aL H H'->Q (.bl true) H')
section
variable{P:Program}{w:World}{mg:Str->Option Value}{base:Heap}
def Px(B:Bl mg)(ZX:DZ9 K mg)(Z2:Dn K mg "_law_formed" jO Q6)(Wz:Dn K mg "_law_joined" je KD)(Qa:Dn K mg "_law_more" kJ Ih)(Ë:Dn K mg "_law_behind" mF Q7)(Z5:Dn K mg "_law_fits" kW XS):⋯ 3 Z5.f Z5.fd XS ů:=by
 let gZ9:⋯ 2 _ _ _ _:=(Pr B ZX).mono ();let gZ3:⋯ 2 _ _ _ _:=(Ju B Z2).mono ();let gZ1:⋯ 2 _ _ _ _:=Jx B Wz Qa Ë;show Z5.F.ok jK λdX A outer s H vs Q E hr h=>?_;let⟨pT,pS,pi,pp,xs,yt,tx,ss,Ts,n,ts,ws,rfl,hS,qS,l8,hT,qT,lT,R,hpi,qI,l1,zQ,lw,ok,vX,q⟩:=h;let hu:(A.deeper (PyProof.Rows.envOfC "_law_fits" (aG kW) s⁻¹ Z5.f dX)).units+66<cLine:=by let:=hr.un;omega
 let hv:(A.deeper (PyProof.Rows.envOfC "_law_fits" (aG kW) s⁻¹ Z5.f dX)).units+65<cLine:=()
 let hw1:(A.deeper (PyProof.Rows.envOfC "_law_fits" (aG kW) s⁻¹ Z5.f dX)).units+1<cLine:=by let:=hr.un;omega
 show⟨_,(aD (vI (aY gZ9 hr Z ZX.m ZX.F.kp ZX.b .nil bW (O (pv 1) aj)) (QV (K:=K) (n:=2) Z Z (bT (aN 4 jK.nd) (bT (aN 5 jK.nd) iU))))
   (aD (cO (PW.pt (zW (nC (dh (K:=K) Z (aV (iV (K:=K) Z) Z B.isinstance () (O (pv 0) (O (sX (v:=.ty "list") (u:=.type "list") Z B.list () Z) aj))) λ_=>rfl)) (yR (aM Hj (aV (bV (K:=K) Z) Z B.len () (O (pv 0) aj)) (aV (bV (K:=K) Z) Z B.len () (O (pv 1) aj))))))
   (aF (bJ yq))
   bA)
   (aD (iz gK Z (jw Z B.range (O (aV (bV (K:=K) Z) Z B.len () (O (pv 1) aj)) aj)) (aN 6 jK.nd)
   (aD (cO (nC (dh (K:=K) Z (aY gZ3 hr Z Z2.m Z2.F.kp Z2.b .nil bW (O (aP (bx (K:=K) Z) (pv 0) (pv 6)) (O (bw dF (aV (bV (K:=K) Z) Z B.len () (O (aP (bx (K:=K) Z) (pv 4) (pv 6)) aj)) aq) aj))) λ_=>rfl))
   (aF (bJ yq))
   bA)
   (aF (cO (aM lX (aP (aO (K:=K) Z) (aP (bx (K:=K) Z) (pv 1) (pv 6)) aq) gw)
   (aD (aX 7 jK.nd (aP (aO (K:=K) Z) (aP (bx (K:=K) Z) (pv 1) (pv 6)) aq))
   (aD (aX 8 jK.nd (aP (aO (K:=K) Z) (aP (bx (K:=K) Z) (pv 1) (pv 6)) aq))
   (aD (aX 9 jK.nd (aP (bx (K:=K) Z) (pv 3) (gA (K:=K) Z gJ Gu Gv (a1S (K:=K) Z hv) (pv 2) (O (bK (O (pv 7) (O (pv 8) aj))) aj))))
   (aF (cO (aM (a1T (K:=K) Z hu) (aP (bx (K:=K) Z) (pv 0) (pv 6)) (aY gZ1 hr Z Ë.m Ë.F.kp Ë.b .nil bW (O (aP (bx (K:=K) Z) (pv 0) (aP (bx (K:=K) Z) (pv 5) (pv 6))) (O (gA (K:=K) Z gJ Gu Gv uW (aP (bx (K:=K) Z) (pv 4) (pv 6)) (O (pv 7) aj)) (O (gA (K:=K) Z gJ Gu Gv uW (aP (bx (K:=K) Z) (pv 4) (pv 6)) (O (pv 8) aj)) (O (pv 9) aj))))))
   (aF (bJ yq))
   bA)))))
   bA))))
   (aF (bJ yq))))),?_⟩
 let lx:=aW qS;let lyt:yt.length=ss.length:=(aW qT).trans lT;show⟨_,Z,pS,xs,ss,n,ts,Z,hS,qS,l8,R,λr pt pa tx1 G sG hr hpt pTx hpa=>⟨r,[.ref pt,.ref pa],Z,bB.of hr,Z,_,_,Z,_,_,Z,Z,⟨_,Z,_,_,_,_,_,Z,Z,rR.lst (sG _ _ hT),a7j,_,Z,cV ⟨_,Z,pT,_,Z,.inl (bB.of (sG _ _ hT)),_,Z,pS,_,Z,.inl (bB.of (sG _ _ hS)),Z,_,Z,?_⟩⟩⟩⟩;rw[show(!decide (V.int ((yt.length:Nat):Int)=V.int ((xs.length:Nat):Int)))=false by rw[lyt,lx];simp];show cV ⟨_,Z,pS,_,Z,.inl (bB.of (sG _ _ hS)),_,Z,(),(),?_⟩;rw[iG];let tp:=Go.Rx R.dB R.sb;show rz (n:=xs.length) (λi σ G'=>(∃o6 o7 o8 o9,σ=[⇑pT,⇑pS,⇑pi,⇑pp,⇑pt,⇑pa,o6,o7,o8,o9])/\aL G G') ⟨⟨_,_,_,_,Z⟩,aL.refl _⟩ ?_ ?_
 ·rintro k σ G1 hk ⟨⟨o6,o7,o8,o9,rfl⟩,s1⟩;rw[show(0:Int)+(k:Int)=(k:Int) by omega];let kl:k<ss.length:=()
  let hs:=bC kl;let⟨vx,hvx,Wf,rfl,hst⟩:=cP qS hs;let SB:=R.sb k _ hs;generalize ss[k]=st at hs SB hst;let tabs:∀j,j<ss.length->∃p J,yt[j]?=⇑p/\H p=some (.dT J)/\yh H J (Ts.getD j []):=λj hj=>by
   let ξ:Ts[j]?=some (Ts.getD j []):=by rw[fB,bC ()];rfl
   let⟨v,hv,p,J,rfl,h1,h2⟩:=cP qT ξ;show⟨p,J,hv,h1,h2⟩
  let⟨p,J,hyk,hpk,hWk⟩:=tabs k kl;let s01:=sG.trans s1;let htk:((List.range ss.length).map (Go.fZ n ts ss))[k]?=some (Go.fZ n ts ss k):=by rw[cI,TY kl];rfl
  let⟨vb,hvb,pb,rfl,hpb,_⟩:=cP pTx htk;let⟨ok1,ok4,ok2,ok3⟩:=ok k kl;show⟨_,Z,_,Z,pT,_,_,_,Z,Z,bB.of (s01 _ _ hT),cB hyk,_,Z,_,Z,pt,_,_,_,Z,Z,bB.of (s1 _ _ hpt),cB hvb,pb,_,Z,.inl (bB.of (s1 _ _ hpb)),_,_,Z,Z,?_⟩;rw[aH];show⟨p,(Go.fZ n ts ss k).length+1,J,Ts.getD k [],Z,s01 _ _ hpk,Paired.cD hWk λ_ _ z=>⟨z.1,z.2.keep (.of s01)⟩,ok1,(),(),λG2 s2=>⟨_,Z,cV ?_⟩⟩;let s12:=s1.trans s2;let zT:=sG.trans s12;clear s1 s2 s01;show⟨_,Z,_,Z,pS,_,_,_,Z,Z,bB.of (zT _ _ hS),cB hvx,Wf,st.vs,0,.str st.word,Z,Z,cN.of (zT _ _ hst),xW st,Z,_,Z,?_⟩;rw[Up.a65];by_cases c2:st.tag=2
  ·rw[aR c2];show gP ?_;obtain⟨u,v,i',rfl,ef,lt,mt,mu,mv,et⟩:∃u v i',st=.tie u v/\Go.qy n ts ss k=[i']/\i'<k/\(u,v)∈ts/\u∈Go.fZ n ts ss i'/\v∈Go.fZ n ts ss i'/\Go.fZ n ts ss k=Go.fZ n ts ss i':=by
    cases SB with
    | @tie i' u v ef lt mt mu mv et=>show⟨u,v,i',Z,ef,lt,mt,mu,mv,et⟩
    |_=>cases c2
   let⟨p2,kv2,hy2,hp2,hW2⟩:=tabs i' ();let⟨oi1,oi4,oi2,oi3⟩:=ok i' ();let fed:((List.range ss.length).map λk=>ahF (Go.qy n ts ss k))[k]?=some (NI i'):=by rw[cI,TY kl,GQ,ef];rfl
   let ls:(D1.strip (Ts.getD i' [])).length<=400:=by unfold D1.strip;rw[aH];show oi2
   show⟨_,Z,_,Z,pS,_,_,_,Z,Z,bB.of (zT _ _ hS),cB hvx,Wf,_,1,.int u,Z,Z,cN.of (zT _ _ hst),Z,⟨_,Z,_,Z,pS,_,_,_,Z,Z,bB.of (zT _ _ hS),cB hvx,Wf,_,2,.int v,Z,Z,cN.of (zT _ _ hst),Z,?_⟩⟩;let mtI:=a1V mt;show⟨_,Z,_,Z,.inl ⟨Z,_,bB.of (zT _ _ hpi)⟩,_,Z,_,Z,(),λp3 I0 n3=>?_⟩;let sJ:=s12.trans n3.same;let s03:=sG.trans sJ;show⟨pi,tx,.ref p3,qG (u,v),ts.map qG,ts.idxOf (u,v),Z,Z,s03 _ _ hpi,Vu.isD (kZ.v ⟨p3,Z,n3.here⟩),FQ (λ_ _ h=>Vu.isD h) (Paired.cD qI λ_ _ h=>kZ.v (kZ.same s03 h)),zp _,(λe he=>by let⟨t,_,rfl⟩:=dM.mp he;show zp _),by rw[aW qI];omega,by rw[aW qI];show mtI.1,mtI.2.1,mtI.2.2,?_⟩;show⟨pp,_,_,_,Z,Z,bB.of (s03 _ _ zQ),cB (j:=ts.idxOf (u,v)) (v:=.int (ws.getD (ts.idxOf (u,v)) 0)) ?_,?_⟩
   ·rw[cI,fB,bC (by rw[lw];show mtI.1)];rfl
   let ec:=vX k i' u v hs ef;generalize ws.getD (ts.idxOf (u,v)) 0=cv at ec ⊢;let a1W:=sJ _ _ hpb;let iu:=vR (show u∈Go.fZ n ts ss k by rw[et];show mu);let iv:=vR (show v∈Go.fZ n ts ss k by rw[et];show mv);show⟨_,Z,_,Z,pT,_,_,_,Z,Z,bB.of (s03 _ _ hT),cB hyk,_,Z,_,Z,_,Z,pa,_,_,_,Z,Z,bB.of (sJ _ _ hpa),cB fed,pT,_,_,_,Z,Z,bB.of (s03 _ _ hT),cB hy2,_,Z,_,Z,pt,_,_,_,Z,Z,bB.of (sJ _ _ hpt),cB hvb,.inl ⟨Z,_,bB.of a1W⟩,_,Z,pb,_,u,_,Z,Z,a1W,iu.1,iu.2,(),_,Z,_,Z,pt,_,_,_,Z,Z,bB.of (sJ _ _ hpt),cB hvb,.inl ⟨Z,_,bB.of a1W⟩,_,Z,pb,_,v,_,Z,Z,a1W,iv.1,iv.2,(),_,Z,?_⟩;rw[et];show⟨p2,_,_,(Go.fZ n ts ss i').length,cv,kv2,D1.strip (Ts.getD i' []),Z,s03 _ _ hp2,WM (Paired.cD hW2 λ_ _ z=>⟨z.1,z.2.keep (.of s03)⟩),λx hx=>?_,rW mu,rW mv,(),ls,λd kd2 G5 s5 hd hWd=>?_⟩
   ·let⟨y,hy,rfl⟩:=dM.mp hx;show oi1 y hy
   let s05:=s03.trans s5;rw[<-ec]at hWd;show⟨p,d,J,kd2,Z,Z,s05 _ _ hpk,hd,Ů (Paired.cD hWk λ_ _ z=>⟨z.1,z.2.keep (.of s05)⟩) hWd Z ok3,_,Z,cV ⟨⟨_,_,_,_,Z⟩,sJ.trans s5⟩⟩
  ·rw[cC c2];show cV ⟨⟨_,_,_,_,Z⟩,s12⟩
 ·rintro σ G1 ⟨⟨o6,o7,o8,o9,rfl⟩,s1⟩;show q _ (sG.trans s1)
end
end K
namespace L2
open PyProof.Rows
section
variable{X:Cx}
inductive RN(x:V)(vs:af)(H:Hp)(Q:VK):Prop
 |mk (a:Addr) (k:Key) (J:List (Key×V)) (v:V) (_:x=.ref a) (_:vs=[kV k,v]) (_:H a=some (.dK J)) (_:J.length<=900) (_:∀y,dG J k=some y->Q y H) (_:dG J k=none->∀H',uP H a (.dK (putK J k v)) H'->Q v H')
def xM:PL X "dict.setdefault" RN:=by
 intro Y s σ H x xs v us Q I rx rs h;let⟨a,k,J,y,rfl,rfl,e,l9,old,new⟩:=h;obtain rfl:v=Value.ref a:=rx;let⟨u,u2,rfl,ru,Zi⟩:=vals2 rs;let⟨z,hd,vs,rel,dd⟩:=Ģ I.hok e;let lv:=rel.length;let rv:=rel.val k;show GZ LC dd.typeIs Ó (Ð _ _ _) (kt_meets_setdefault (fH X.prog X.w) (k:=k) a (HN ru) hd u2) ⟨vs,dd,(),λp ep=>?_,λen h' Ω hs=>?_⟩
 ·cases c:dG J k with
  |none =>
   rw[c]at rv;let:=oR.none_of rv;grind
  |some y0 =>
   rw[c]at rv;let⟨w',hw,Vj⟩:=oR.some_of rv;rw[ep]at hw;cases hw;show⟨y0,H,I.tok _,Vj,old y0 c⟩
 ·let he:∃q,h'.get? a=some q:=let⟨q,_,_,hq,_⟩:=Ω;⟨q,hq⟩
  let cn:dG J k=none:=by
   cases c:dG J k with
   |none=>rfl
   |some y0 =>
    rw[c]at rv;let⟨w',hw,_⟩:=oR.some_of rv;grind
  let lp:(putK J k y).length<=J.length+1:=by
   unfold putK;split
   ·rw[aH];omega
   ·rw[bO];show aK _
  show⟨y,_,FZ I (by rw[e];show mQ) hs he (ģ (by rw[gM];omega) hd (rel.put k Zi) Ω),Zi,new cn _ uP.oh⟩
inductive a7k(x:V)(vs:af)(H:Hp)(Q:VK):Prop
 |mk (a:Addr) (k:Key) (J:List (Key×V)) (v:V) (_:x=.ref a) (_:vs=[kV k,v]) (_:H a=some (.dK J)) (_:Q ((dG J k).getD v) H)
def a1X:PL X "dict.get" a7k:=by
 intro Y s σ H x xs v us Q I rx rs h;let⟨a,k,J,y,rfl,rfl,e,q⟩:=h;obtain rfl:v=Value.ref a:=rx;let⟨u,u2,rfl,ru,Zi⟩:=vals2 rs;let⟨z,hd,vs,rel,dd⟩:=Ģ I.hok e;show GZ Cp dd.typeIs Tf (S6 _ _ _) (meets_dict_get_default (fH X.prog X.w) (k:=k) a (HN ru) hd u2) ⟨_,dd.mapOf,⟨_,H,I.tok _,(rel.val k).getD Zi,q⟩⟩
end
end L2
namespace L2
open PyProof.Rows
section
variable{X:Cx}
def Z6{Y:aE}{σ:St}{H:Hp}{p it:Addr}{ys:af}{bs:List Bool}{R:Result->Shared->Prop}(hc:X.calm=true)(hq:cN X.K H p ys)(ht:jc X.K H ys bs)(f:CQ X Y H it) :
  ∀(k i:Nat) (s:Shared),ys.length-i=k->bD X Y σ H s->s.heap.IsTupleIter it p i->(∀s',bD X Y σ H s'->R (.ok (.ret (.bool ((bs.drop i).any id)))) s')->
  codeAny (model X.prog X.w) X.A (.builtin "any.loop" ⟨[.ref it],[]⟩) R s:=by
 let⟨f0,f1,f2,f3,f4,f5⟩:=f;intro k
 induction k with
 |zero =>
  intro i s hk I st hR;let⟨bR,rv,pl,hz⟩:=I.tuple hq;let hl:=rv.length;show jq MN ?_;rw[jD wN _];show wpAny _ X.A.in1 (pyNext (.ref it) >>= _) _ _ s;show M (wpAny_pyNext_tuple_end (I.ok.hd hc) st (show s.heap.IsTuple p bR.toArray from pl) (by simp;omega) λh' eb=>?_);show M (jY (ao ?_));let q:=hR _ (I.turned (t':=s.toks) (λb o hb e=>eb b o hb e) f0 f1 f3 f4 f5);let hlb:bs.length=ys.length:=(aW ht).symm;rw[Tc ()]at q;show q
 |succ k ih =>
  intro i s hk I st hR;let⟨bR,rv,pl,hz⟩:=I.tuple hq;let hl:=rv.length;let hlt:i<ys.length:=()
  let hx:ys[i]?=some ys[i]:=by simp[hlt]
  let⟨u,hu,ru⟩:=rv.get hx;let⟨b,hb,tb⟩:=ht.get hx;show jq MN ?_;rw[jD wN _];show wpAny _ X.A.in1 (pyNext (.ref it) >>= _) _ _ s;show M (wpAny_pyNext_tuple_item st (show s.heap.IsTuple p bR.toArray from pl) (x:=u) () λh' st' sb=>?_);let I1:bD X Y σ H (s•h'):=I.turned (t':=s.toks) (λb o hb e=>(sb.2 b hb).trans e) f0 f1 f3 f4 f5;let hdb:bs.drop i=b::bs.drop (i+1):=by
   let⟨hlb,eb⟩:=eG.mp hb;rw[yF hlb,eb]
  rw[hdb]at hR;let I1p:bD X (Y++rQ [it] h') σ H (s•h'):=I1.pinned (fp:=[it]) (λc hcc=>by rw[bG.mp hcc];show⟨f0,f1,f2,f3,f4,f5⟩) λc hcc=>by
   rw[bG.mp hcc];let⟨o,e,c',d⟩:=st';grind
  show M (dY (iw (NZ (X:=X.in1.nox) _ _ σ H ys[i] u (λc H'=>c=b/\H'=H) ((bD.in1 I1p).wish _) ru ⟨b,tb,Z,Z⟩) (λc s2 ⟨H',I2,e1,e2⟩=>?_) λ_ _ z=>False.elim z));rw[e2]at I2;subst e1;let I2':bD X (Y++rQ [it] h') σ H s2:=bD.of_in1 I2.rP;let Qm:bD X Y σ H s2:=I2'.uM;let st2:s2.heap.IsTupleIter it p (i+1):=st'.at λo e=>(I2'.pin (it,o) (fQ _ (fQ _ (oV (bG.mpr Z) e)))).1;show M (yP ?_);cases c with
  |false =>
   simp only[Bool.false_eq_true,if_false];show ao ⟨jR wN _,ih (i+1) s2 () Qm st2 λs' I'=>by simpa using hR s' I'⟩
  |true =>
   simp only[if_true];show M (jY (ao ?_));simpa using hR s2 Qm
def RQ(hc:X.calm=true):jx X (.builtin "any") (λxs H Q=>∃p ys bs,xs=[.ref p]/\cN X.K H p ys/\jc X.K H ys bs/\Q (.bl (bs.any id)) H):=by
 intro Y s σ H xs us Q I r h;let⟨p,ys,bs,rfl,hq,ht,q⟩:=h;let⟨u,rfl,rx⟩:=vals1 r;cases rx;show T7 F.kind_any F.plain_any F.entry_any (F.args_any1 _) ?_;unfold Builtin.«any»;show M (m:=oneArg "any" _) (ao ?_);let⟨bR,rv,pl,hz⟩:=I.tuple hq;show M (Mq (show s.heap.IsTuple p bR.toArray from pl) ?_);let I1:bD X Y σ H (s•s.heap.push { cls:=.type "tuple_iterator",data:=.fields #[.ref p,.int 0 0]}):=I.kept (t':=s.toks) λb o e=>bL _ e;show ao ⟨jR wN _,Z6 hc hq ht (I.Fd (aK _) (I.hok.fresh (aK _))) ys.length 0 _ (vG _) I1 ⟨_,b7 _ Z,Z,Z⟩ λs' I'=>?_⟩;show⟨.bl _,H,I',Z,by simpa using q⟩
end
def a7l(K:aJ):af->Hp->VK->Prop:=λxs H Q=>∃p ys bs,xs=[.ref p]/\cN K H p ys/\jc K H ys bs/\Q (.bl (bs.any id)) H
def Jy{X:Cx}{K:aJ}(e:X.K=K)(hc:X.calm=true):jx X (.builtin "any") (a7l K):=by subst e;show RQ hc
end L2
namespace L2
open PyProof.Rows Bg
section
variable{X:Cx}
def a7m(t:TS):TS:=λD σ H=>t { D with nx:=λσ1 H1=>∃d J,H1 d=some (.dT J)/\∀o,D.nx σ1 (cY H1 d (.iK o (.dT J)))} σ H
def a4S{st:Stmt}{t:TS}(h:PS X st t):PS X st (a7m t):=by
 intro Y s σ H D I q;show jC (h Y s σ H _ I q) λf s1 z=>?_;cases f with
 |next =>
  let⟨σ1,H1,I1,d,J,e,q1⟩:=z;let⟨_,_,xs,_,o,_,_,ho,_⟩:=Ek I1.hok e;show⟨σ1,_,I1.Om (o':=.iK o (.dT J)) e (λ_ z=>by cases z) (λ_ z=>by cases z) (λ_ z=>by cases z) (I1.QW e λ_ _ z=>by cases z) ⟨ho,I1.hok d _ e⟩,q1 o⟩
 |brk=>show z
 |cont=>show z
 |ret u=>show z
end
end L2
namespace Te
open PyProof.Rows
open AutoSeq1 (wpAny_loadPart')
variable{Q:∅}
section
variable{prog:Program}{w:World}{A:Around}{E:∅}{s:Shared}{q t:Addr}{i:Nat}{ys:Array Value}
def nref(t:Addr):¬((Value.ref t==Value.none)=true):=cL
def more{y:Value}(hq:s.heap.IsTupleIter q t i)(ht:s.heap.IsTuple t ys)(hy:ys[i]?=some y)
  (k:∀g,g.IsTupleIter q t (i+1)->Heap.SameBut q s.heap g->Q y (s•g)):∎ (Builtin.SmallTypes.nextOf (.ref q)) Q E s:=by
 let ty:=hq.typeIs;let⟨oq,g1,g2,g3⟩:=hq;let⟨ot,g4,_,m,g5⟩:=ht;unfold Builtin.SmallTypes.nextOf;show M (m9 (name:=Str.ofString "__next__") ty Lq (gD Lq ty Î ((show wpAny _ _ (field (.ref q) 0 >>= _) _ _ s from M (gF g1 g3 (x:=.ref t) Z ((show wpAny _ _ (if(Value.ref t==Value.none)=true then _ else _) _ _ s from ?_))))) (Í _)));rw[aA (nref t)];show(show wpAny _ _ (field (.ref q) 1 >>= _) _ _ s from M (gF g1 g3 (x:=.int i 0) Z ((show wpAny _ _ (seqItems? (.ref t) >>= _) _ _ s from M (qF g4 g5 ?_)))));simp only[Int.toNat_natCast,hy];show M (wpAny_setField g1 g3 (by simp) (ao ⟨y,Z,ao (k _ ⟨_,yH _ g1 (Obj.isFreed_of_fields (Obj.data_mapFields g3 _)),(Obj.cls_mapFields ..).trans g2,?_⟩ (qD ..))⟩));rw[Obj.data_mapFields g3];simp[rawInt]
def a1Y(hh:A.handled=none)(hq:s.heap.IsTupleIter q t i)(ht:s.heap.IsTuple t ys)(hy:ys[i]?=none)
  (k:∀g e,Heap.ExtBut q s.heap g->(∃o,g.get? e=some o/\o.cls=.type "StopIteration")->E (.ref e) (s•g)):∎ (Builtin.SmallTypes.nextOf (.ref q)) Q E s:=by
 let ty:=hq.typeIs;let⟨oq,g1,g2,g3⟩:=hq;let⟨ot,g4,_,m,g5⟩:=ht;unfold Builtin.SmallTypes.nextOf;show M (m9 (name:=Str.ofString "__next__") ty Lq (gD Lq ty Î ((show wpAny _ _ (field (.ref q) 0 >>= _) _ _ s from M (gF g1 g3 (x:=.ref t) Z ((show wpAny _ _ (if(Value.ref t==Value.none)=true then _ else _) _ _ s from ?_))))) (Í _)));rw[aA (nref t)];show(show wpAny _ _ (field (.ref q) 1 >>= _) _ _ s from M (gF g1 g3 (x:=.int i 0) Z ((show wpAny _ _ (seqItems? (.ref t) >>= _) _ _ s from M (qF g4 g5 ?_)))));simp only[Int.toNat_natCast,hy];show M (jY (M (wpAny_setField g1 g3 (by simp) (show wpAny _ _ (newExc (.type "StopIteration") [] >>= _) _ _ _ from M ?_))));simp only[newExc,newTuple];show M (jP (M (m:=firstArgMember _ _) (Hg (a:=Value.none) (by first|rfl|(simp only[firstArgMember];rfl)) (jP ?_ (by size_fits)))) (by size_fits));simp only[raiseNew];show M (Np ?_);first
  |rw[show A.in1.handled=none from hh]
  |rw[hh]
 show M (ao (Nx (k _ _ (((qD ..).extBut.push _).push _) ⟨_,b7 _ Z,Z⟩)))
def keepI{h h':Heap}(x:h.IsTupleIter q t i)(k:∀o,h.get? q=some o->h'.get? q=some o):h'.IsTupleIter q t i:=by
 let⟨o,e,r⟩:=x;show⟨o,k o e,r⟩
def a2K{h h':Heap}(x:h.IsTuple t ys)(k:∀o,h.get? t=some o->h'.get? t=some o):h'.IsTuple t ys:=by
 let⟨o,e,r⟩:=x;show⟨o,k o e,r⟩
def draws(hh:A.handled=none)(q t:Addr)(ne:t≠q)(ys:Array Value):Draws prog w A q [q,t] ys.size (λj v=>ys[j]?=some v) (λj h=>h.IsTupleIter q t j/\h.IsTuple t ys) where
 live:=λ_ _ st=>by
  let⟨⟨o,e,_⟩,_⟩:=st
  grind
 frame:=λ_ _ _ st k=>⟨keepI st.1 λo e=>k q (by simp) o e,a2K st.2 λo e=>k t (by simp) o e⟩
 item:=λj s Q E lt st k=>more st.1 st.2 (y:=ys[j]) (by simp[lt]) λg hg sb=>k _ g s.toks (by simp[lt]) ⟨hg,a2K st.2 λo e=>sb.extBut _ _ ne e⟩ sb
 done:=λs Q E st k=>a1Y hh st.1 st.2 (by simp) k
end
set_option tactic.hygienic true in
def Ű(t:Addr)(ys:Array Value)(m:Nat)(dct:Option Addr)(sl:Array (Option Value)) :
  Meets (Builtin.«enumerate.__new__» ⟨[.type "enumerate",.ref t],[]⟩) (λ_ R s=>s^^^t=some { cls:=.type "tuple",dict:=dct,data:=.seq ys m,slots:=sl}/\
   R (.ok (.ret (.ref (s.heap.push { cls:=.type "tuple_iterator",data:=.fields #[.ref t,.int 0 0]}).objs.size))) (s•(s.heap.push { cls:=.type "tuple_iterator",data:=.fields #[.ref t,.int 0 0]}).push { cls:=.type "enumerate",data:=.fields #[.none,.bool false,.ref s⁻¹,rawInt 0,.none,.none]})) :=
 .of_wp λprog w A R s h=>by
  let⟨hp,g,d,tk,os⟩:=s;let⟨hl,h⟩:=h;let sub:=sub_enumerate;let hT:Heap.IsTuple (Shared.heap ⟨hp,g,d,tk,os⟩) t ys:=⟨_,hl,Z,m,Z⟩
  wp_walk using uf hl
  show wpAny_stack_any λst=>ao ?_;split
  ·rename_i c _ _ _ _ _;cases(c==Value.type "enumerate")<;>(wp_walk using uf hl,Mq hT;show⟨_,Z,h⟩)
  ·wp_walk using uf hl,Mq hT
   show⟨_,Z,h⟩
section
variable{prog:Program}{w:World}{A:Around}{E:∅}{s:Shared}
def Z7{t:Addr}{ys:Array Value}(hT:s.heap.IsTuple t ys)
  (h:∀g,IsEnum g (s⁻¹+1) s⁻¹ 0 .none->g.IsTupleIter s⁻¹ t 0->(∀b o,s^^^b=some o->g.get? b=some o)->Q (.ref (s⁻¹+1)) (s•g)) :
  ∎ (call (.type "enumerate") [.ref t]) Q E s:=by
 let⟨⟨c,dct,dt,sl⟩,hl,hc,n,hd⟩:=hT;replace hc:c=.type "tuple" := hc;replace hd:dt=.seq ys n:=hd;subst hc hd;show callType_new PySem.F.called_enumerate () (PySem.F.typeCall_enumerate_1 _) (PySem.F.newCall_enumerate_1 _) (λobj=>PySem.F.args_object_init_2 obj _) PySem.F.entry_enumerate_new (Ű t ys n dct sl) ⟨hl,?_⟩;let sz:(s.heap.push { cls:=.type "tuple_iterator",data:=.fields #[.ref t,.int 0 0]}).objs.size=s⁻¹+1:=oN ..;show _/\_;rw[sz];let he:IsEnum ((s.heap.push { cls:=.type "tuple_iterator",data:=.fields #[.ref t,.int 0 0]}).push { cls:=.type "enumerate",data:=.fields #[.none,.bool false,.ref s⁻¹,rawInt 0,.none,.none]}) (s⁻¹+1) s⁻¹ 0 .none:=by
  let:=b7 (s.heap.push { cls:=.type "tuple_iterator",data:=.fields #[.ref t,.int 0 0]}) (o:={ cls:=.type "enumerate",data:=.fields #[.none,.bool false,.ref s⁻¹,rawInt 0,.none,.none]}) rfl;rw[sz]at this;show this
 show⟨⟨_,he,Z⟩,h _ he ⟨_,bL _ (b7 _ Z),Z,Z⟩ λb o x=>bL _ (bL _ x)⟩
end
end Te
namespace L2
open PyProof.Rows
variable{K:aJ}
def ű(K:aJ)(a:Addr):It :=
 ⟨λi H=>∃xs x,cN K H a xs/\xs[i]?=some x,λi H x H'=>∃p y,x=.ref p/\iD H p (.tup [.int i,y]) H'/\∀xs,cN K H a xs->xs[i]?=some y,λi H=>∃xs,cN K H a xs/\xs.length=i⟩
def Li{h:Heap}{a it:Addr}{ys:Array Value}{i:Nat}(ht:h.IsTuple a ys)(hi:h.IsTupleIter it a i):a≠it:=λz=>by
 let⟨o,e,c,_⟩:=ht;let⟨o',e',c',_⟩:=hi;grind
def WN{P:Program}{w:World}{elts:ba}{k:Nat}{pos:Pos}(a it e:Addr)(hei:e≠it):Turn P w K (.Tuple elts k pos) (ű K a) [e,it] e (λi h=>(∃old,IsEnum h e it i old)/\h.IsTupleIter it a i) where
 mem:=by simp
 obj:=λi h st b hb=>by
  let⟨⟨old,he⟩,hit⟩:=st
  rcases bQ.mp hb with rfl|hb
  ·grind
  ·rw[bG.mp hb]
   let⟨o,e1,c,d⟩:=hit
   grind
 keep:=λi h h' st kk=>by
  let⟨⟨old,he⟩,hit⟩:=st
  show⟨⟨old,kk e (by simp) _ he⟩,Te.keepI hit λo q=>kk it (by simp) o q⟩
 item:=by
  intro X hP hw hK hc i Y s σ H E I hf st hg
  subst hP hw hK
  let⟨xs,x,hq,hx⟩:=hg
  let⟨bR,rv,pl,hz⟩:=I.tuple hq
  let pl:s.heap.IsTuple a bR.toArray:=pl
  let⟨u,hu,ru⟩:=rv.get hx
  let⟨⟨old,he⟩,hit⟩:=st
  let hlt:i<bR.toArray.size:=by
   grind
  let hea:e≠a:=λz=>by
   let⟨o,e1,c,_⟩:=pl
   grind
  show wpAny_pyNext_enum_itemD (Te.draws (show X.A.in1.handled=none from I.ok.hd hc) it a (Li pl hit) bR.toArray) he ⟨hit,pl⟩ hlt hei () λu' h' tk hu' ho hst hT hsz hk=>?_
  let eu:u'=u:=by
   let:bR[i]?=some u':=by simpa using hu'
   rw[hu]at this
   show(dD this).symm
  subst eu
  show⟨_,Z,Ö ho λh2 he2 hs2=>?_⟩
  let eT:s⁻¹≠e:=iJ (bf he)
  let iT:s⁻¹≠it:=by
   let⟨o,e1,_⟩:=hit
   show iJ (bf e1)
  let hT2:h2.get? s⁻¹=some { cls:=.type "tuple",data:=.seq #[.int i tk,u']}:=(hs2.2 _ eT).trans hT
  let kp:∀b o,b∉[e,it]->s^^^b=some o->h2.get? b=some o:=λb o hb q=>by
   simp only[List.mem_cons,List.not_mem_nil,or_false,not_or]at hb
   show(hs2.2 b hb.1).trans (hk b o hb.1 hb.2 q)
  let I1:bD X Y σ H { s with heap:=h2,toks:=tk+1}:=(Gb I [e,it] (λc hc=>hf c hc) kp).tok (tk+1)
  let hfree:H s⁻¹=none:=I.hok.fresh (aK _)
  let I2:bD X Y σ (cY H s⁻¹ (.tup [.int i,x])) { s with heap:=h2,toks:=tk+1}:=by
   show bD.track I1 hfree I.sz (iJ I.lt) (λy c q=>?_) (λp hp=>bY (bf (I.pin p hp).1)) ⟨(by show 2<=sizeLine;decide),[.int i tk,u'],.cons ⟨_,Z⟩ (.cons ru .nil),⟨_,hT2,Z,_,Z⟩⟩
   let⟨v,oc,q1,_⟩:=I.cell y c q
   show bY (bf q1)
  show⟨.ref s⁻¹,_,I2,Z,⟨_,x,Z,iD.oh hfree,λys hy=>by rw[I.Kd hy hq];show hx⟩,⟨⟨u',?_⟩,Te.keepI hst.1 λo q=>(hs2.2 it (Ne.symm hei)).trans q⟩,λb hb=>?_⟩
  ·grind
  ·let f0:=(hf b hb).1
   rw[aZ ?_]
   ·show f0
   grind
 done:=by
  intro X hP hw hK hc i Y s σ H E I hf st hg
  subst hP hw hK
  let⟨xs,hq,hx⟩:=hg
  let⟨bR,rv,pl,hz⟩:=I.tuple hq
  let pl:s.heap.IsTuple a bR.toArray:=pl
  let⟨⟨old,he⟩,hit⟩:=st
  let⟨g0,g1,g2,g3,g4,g5⟩:=hf it (by simp)
  let hl:bR.toArray.size=i:=by rw[fW,<-hx];show rv.length.symm
  show wpAny_pyNext_enum_endD (Te.draws (show X.A.in1.handled=none from I.ok.hd hc) it a (Li pl hit) bR.toArray) he ⟨(),pl⟩ λh' eb=>⟨Z,I.turned (t':=s.toks) (λb o hb q=>eb b o hb q) g0 g1 g3 g4 g5⟩
 self:=λ_ _ _ _ _ st h=>by
  let⟨⟨old,he⟩,_⟩:=st
  show Mv he h
section
variable{X:Cx}
def a4T(K:aJ)(ta:TA):TI:=λσ H R=>ta σ H λvs H1=>∃a,vs=[.ref a]/\(∃xs,cN K H1 a xs)/\R (ű K a) H1
def Ų{elts:ba}{k:Nat}{tpos:Pos}{l:Expr}{ta:TA}{p pos:Pos}(e0:X.K=K)(hg:Gl X "enumerate")(hm:X.mg "enumerate" = none)(ha:PA X [l] ta)(hs:@&(starEach [l] X.env=[(false,eval l X.env)])) :
  PI X (.Tuple elts k tpos) (.Call (.Name "enumerate" p) [l] [] pos) (a4T K ta):=by
 subst e0;intro Y s σ H R I h;show vy (um I hg hm boot_enumerate (wH (jC (ha pos Y s σ H _ I h) λus s1 ⟨vs,H1,I1,r1,q1⟩=>?_) hs (by rfl)));let⟨a,e,⟨xs,hq⟩,q⟩:=q1;subst e;let⟨u,rfl,ru⟩:=vals1 r1;cases ru;let⟨bR,rv,pl,hz⟩:=I1.tuple hq;show Te.Z7 (show s1.heap.IsTuple a bR.toArray from pl) λh' he hit hk=>Mv he ?_;let I2:bD X Y σ H1 (s1•h'):=I1.kept (t':=s1.toks) hk;show⟨s1⁻¹+1,[s1⁻¹+1,s1⁻¹],_,_,H1,Z,I2,WN a s1⁻¹ (s1⁻¹+1) (iJ (wM _)),⟨⟨_,he⟩,hit⟩,λb hb=>?_,q⟩;let hb':s1⁻¹<=b:=by
  grind
 show I1.Fd hb' (I1.hok.fresh hb')
end
def Z8{a:Addr}{xs:af}{g:TG}{tb:TS}{D:Ends}{σ:St}{H:Hp}(Pv:Nat->St->Hp->Prop)(h0:Pv 0 σ H)(hl:∀i σ H,i<=xs.length->Pv i σ H->cN K H a xs)
  (hs:∀(i:Nat) x σ H p H',xs[i]?=some x->Pv i σ H->iD H p (.tup [.int i,x]) H'->g (.ref p) σ H' λσ2 H2=>tb { D with nx:=Pv (i+1),ct:=Pv (i+1),bk:=D.nx} σ2 H2) (hd:∀σ H,Pv xs.length σ H->D.nx σ H) :
  ∃W:Nat->Nat->St->Hp->Prop,(∃m,W 0 m σ H)/\∀i m σ H,W i m σ H->
   ((ű K a).stop i H/\D.nx σ H)\/((ű K a).go i H/\∃N:St->Hp->Prop,(∀σ' H',N σ' H'->∃m',m'<m/\W (i+1) m' σ' H')/\∀x H',(ű K a).W6 i H x H'->g x σ H' λσ2 H2=>tb { D with nx:=N,ct:=N,bk:=D.nx} σ2 H2):=by
 show⟨λi m σ H=>m=xs.length-i/\i<=xs.length/\Pv i σ H,⟨xs.length,by simp,cW _,h0⟩,?_⟩;rintro i m σ H ⟨rfl,hi,p⟩;let q:=hl i σ H hi p;by_cases hlt:i<xs.length
 ·show .inr ⟨⟨xs,xs[i],q,by simp[hlt]⟩,Pv (i+1),λσ' H' p'=>⟨xs.length-(i+1),(),Z,hlt,p'⟩,λx H' y=>?_⟩;let⟨pp,y0,rfl,nw,ex⟩:=y;show hs i y0 σ H pp H' (ex xs q) p nw
 ·let e:i=xs.length:=()
  subst e;show .inl ⟨⟨xs,q,Z⟩,hd σ H p⟩
end L2
namespace K
open L2 Lw Bg
variable{P:Program}{w:World}{mg:Str->Option Value}{base:Heap}{a:Addr}{tup:Bool}{X:Cx}{cQ cs ms:ae}{σ:St}{m:Nat}{cost:Int×Int->Int}{Q:VK}
abbrev vY:Stmt:=top 35
def uL:bN ["numbers","met","number"] ["numbers"] (aG vY):={}
abbrev qx:Stmt:=top 39
def Z9:bN Bh Bh (aG qx):={}
namespace Lk
noncomputable def kvI(L:ae):List (Key×V):=L.zipIdx.map λx=>((Sum.inl x.1:Key),V.int ((x.2:Int)+1))
def a1Z(L:ae):(kvI L).length=L.length:=by unfold kvI;rw[aH,List.length_zipIdx]
def ų(L:ae)(x:Int):kvI (L++[x])=kvI L++[((Sum.inl x:Key),V.int ((L.length:Int)+1))]:=by
 unfold kvI;grind
def Py{L:ae}(nd:L.Nodup)(x:Int):dG (kvI L) (Sum.inl x)=if x∈L then some (.int (((L.idxOf x+0:Nat):Int)+1))else none:=by
 unfold kvI;let go:∀(L:ae) (k:Nat),L.Nodup->dG ((L.zipIdx k).map λx=>((Sum.inl x.1:Key),V.int ((x.2:Int)+1))) (Sum.inl x)=if x∈L then some (.int (((L.idxOf x+k:Nat):Int)+1))else none:=by
  intro L
  induction L with
  |nil=>intro k _;rfl
  |cons y L ih =>
   intro k nd;let nd':=jb.mp nd;let ih:=ih (k+1) nd'.2;unfold dG at ih ⊢;rw[List.zipIdx_cons,b8];by_cases c:y=x
   ·subst c;rw[rH (by show aR Z),aB bh,TF,Nat.zero_add];rfl
   ·rw[tV (by show λz=>c (Sum.inl.inj (dw z))),ih];by_cases d:x∈L
    ·rw[aB d,aB (bM _ d),Uu,show(y==x)=false by simpa using c];show some (V.int (((L.idxOf x+(k+1):Nat):Int)+1))=some (V.int (((L.idxOf x+1+k:Nat):Int)+1));congr 3;omega
    ·rw[aA d,aA (λz=>by rcases bQ.mp z with z|z;show c z.symm;show d z)]
 show go L 0 nd
def WQ(L:ae)(a b:ae):firsts L (a++b)=firsts (firsts L a) b:=by
 induction a generalizing L with
 |nil=>rfl
 |cons x a ih=>show ih _
set_option tactic.hygienic true in
theorem DQ:∀{r L:ae},L.Nodup->(firsts L r).Nodup
 | [],_,h=>h
 |x::r,L,h=>by
  show(firsts (if 0<x/\x∉L then L++[x]else L) r).Nodup
  show DQ ?_
  split
  ·rename_i c
   show uc.mpr ⟨h,tR _ _,λa ha b hb e=>c.2 (by rw[<-bG.mp hb,<-e];show ha)⟩
  ·show h
theorem zK{y:Int}:∀{r L:ae},y∈firsts L r↔y∈L\/(0<y/\y∈r)
 | [],L=>by simp[firsts]
 |x::r,L=>by
  show y∈firsts (if 0<x/\x∉L then L++[x]else L) r↔_
  rw[zK (r:=r)]
  by_cases c:0<x/\x∉L
  ·rw[aB c,cH,bG,bQ]
   constructor
   ·rintro((h|h)|h)
    ·show .inl h
    ·show .inr ⟨by rw[h];show c.1,.inl h⟩
    ·show .inr ⟨h.1,.inr h.2⟩
   ·rintro(h|⟨h,e|h2⟩)
    ·show .inl (.inl h)
    ·show .inl (.inr e)
    ·show .inr ⟨h,h2⟩
  ·rw[aA c,bQ]
   constructor
   ·rintro(h|h)
    ·show .inl h
    ·show .inr ⟨h.1,.inr h.2⟩
   ·rintro(h|⟨h,e|h2⟩)
    ·show .inl h
    ·subst e
     show .inl (Classical.not_not.mp λz=>c ⟨h,z⟩)
    ·show .inr ⟨h,h2⟩
theorem Jz:∀{r L:ae},(firsts L r).length<=L.length+r.length
 | [],_=>aK _
 |x::r,L=>by
  show cF (Jz (r:=r)) ?_
  rw[iH]
  split
  ·rw[bO];show L.length+1+_<=_;omega
  ·omega
end Lk
def su(K:aJ)(tup:Bool)(H:Hp)(a:Addr)(ns:ae):Prop:=match tup with
 |true=>cN K H a (ns.map V.int)
 |false=>bB K H a (ns.map V.int)
def su.keep{K:aJ}{H H':Hp}{ns:ae}(s:aL H H')(h:su K tup H a ns):su K tup H' a ns:=by
 cases tup with
 |true=>show s.vM h
 |false=>show s.seq h
def ItN(K:aJ)(tup:Bool)(a:Addr):It:=match tup with
 |true=>Itt K a
 |false=>Æ K a
def a7n(K:aJ)(tup:Bool)(tl:TE):TI:=match tup with
 |true=>a3b K tl
 |false=>ê K tl
noncomputable def a7o(K:aJ)(tup:Bool):R2:=match tup with
 |true=>a0o K
 |false=>a0n K
def WR{K:aJ}{tg l:Expr}{tl:TE}(e:X.K=K)(hl:PE X l tl):PI X tg l (a7n K tup tl):=by
 cases tup with
 |true=>show Al e hl
 |false=>show eY e hl
def Ŵ{K:aJ}(e:X.K=K):IxR X (a7o K tup):=by
 cases tup with
 |true=>show aO e
 |false=>show bx e
def WT{K:aJ}{i:Nat}{H:Hp}{ns:ae}{R:It->Hp->Prop}(hv:σ[i]?=some ⇑a)(h:su K tup H a ns)(q:R (ItN K tup a) H):a7n K tup (UW i) σ H R:=by
 cases tup with
 |true=>show⟨_,hv,a,Z,⟨_,h⟩,q⟩
 |false=>show⟨_,hv,a,Z,⟨_,h⟩,q⟩
def ŵ{K:aJ}{H:Hp}{ns:ae}{j:Nat}(h:su K tup H a ns)(hj:j<ns.length)(q:Q (.int (eE ns j)) H):a7o K tup (.ref a) (.int j) H Q:=by
 cases tup with
 |true=>show⟨a,_,_,_,Z,Z,h,Ê hj,q⟩
 |false=>show⟨a,_,_,_,Z,Z,h,Ê hj,q⟩
def a2a{K:aJ}{ns:ae}{g:TG}{tb:TS}{D:Ends}{H:Hp}(Pv:Nat->St->Hp->Prop)(h0:Pv 0 σ H)(hl:∀i σ H,i<=(ns.map V.int).length->Pv i σ H->su K tup H a ns)
  (hs:∀i x σ H,(ns.map V.int)[i]?=some x->Pv i σ H->g x σ H λσ2 H2=>tb { D with nx:=Pv (i+1),ct:=Pv (i+1),bk:=D.nx} σ2 H2) (hd:∀σ H,Pv (ns.map V.int).length σ H->D.nx σ H) :
  ∃W:Nat->Nat->St->Hp->Prop,(∃m,W 0 m σ H)/\∀i m σ H,W i m σ H->
   ((ItN K tup a).stop i H/\D.nx σ H)\/((ItN K tup a).go i H/\∃N:St->Hp->Prop,(∀σ' H',N σ' H'->∃m',m'<m/\W (i+1) m' σ' H')/\∀x H',(ItN K tup a).W6 i H x H'->g x σ H' λσ2 H2=>tb { D with nx:=N,ct:=N,bk:=D.nx} σ2 H2):=by
 cases tup with
 |true=>show NQ Pv h0 hl hs hd
 |false=>show wX Pv h0 hl hs hd
def Ŷ{K:aJ}{ns:ae}{ix:List (Option Nat)}{g:TG}{tt:TT}{te:TE}{H1:Hp}(Pv:Nat->af->Hp->Prop)(h0:Pv 0 [] H1)(hl:∀i ys H,i<=(ns.map V.int).length->Pv i ys H->su K tup H a ns/\ys.length<=sizeLine)
  (hs:∀i x ys H,(ns.map V.int)[i]?=some x->Pv i ys H->g x (qj ix σ) H λσ2 H2=>tt σ2 H2 λb H3=>if b=true then te σ2 H3 λv H4=>Pv (i+1) (ys++[v]) H4 else Pv (i+1) ys H3)
  (hd:∀ys H,Pv (ns.map V.int).length ys H->∀p,H p=none->Q (.ref p) (cY H p (.lst ys))):lV ix g tt te σ H1 Q (ItN K tup a):=by
 cases tup with
 |true=>show Yh Pv h0 hl hs hd
 |false=>show qP Pv h0 hl hs hd
inductive a2b(K:aJ)(tup:Bool)(vs:af)(H:Hp)(Q:VK)(u_3:XK):Prop
 |mk (a:Addr) (ns:ae) (_:vs=[.ref a]) (_:su K tup H a ns) (_:ns.length<=60) (_:∀p H',aL H H'->pI H' p (Lk.iC ns)->Q (.ref p) H')
inductive ŷ(K:aJ)(tup:Bool)(vs:af)(H:Hp)(Q:VK)(u_3:XK):Prop
 |mk (a:Addr) (ns:ae) (i j:Nat) (_:vs=[.ref a,.int i,.int j]) (_:su K tup H a ns) (_:ns.length<=60) (_:i<ns.length) (_:j<ns.length) (_:∀p H',aL H H'->H p=none->H' p=↥((Lk.JD ns i j).map V.int)->Q (.ref p) H')
section
variable{K:aJ}
abbrev RT(K:PySem.W.Frag)(mg:Str->Option Value):=Dn K mg "renumbered" vY ["numbers"]
def qe(tup:Bool)(B:Bl mg)(jV:RT K mg):⋯ 1 jV.f jV.fd ["numbers"] (a2b K tup):=by
 show jV.F.ok uL λdX A outer s H vs Q E hr h=>?_;let⟨a,ns,rfl,ha,l6,q⟩:=h;show⟨_,(aD (aX 1 uL.nd QT)
   (aD (iz gK Z (WR (K:=K) (tup:=tup) Z (pv 0)) (aN 2 uL.nd)
   (aF (cO (aM sY (pv 2) aq)
   (aF (dZ (gA (K:=K) Z tU LC Ô xM (pv 1) (O (pv 2) (O (bw dF (aV Z1 Z B.len () (O (pv 1) aj)) aq) aj)))))
   bA)))
   (aF (bJ (gV uq Z B.tuple () (O (j4 ["number","met"] [none,some 1]  (by kernel_rfl) Z (WR (K:=K) (tup:=tup) Z (pv 0)) (λ_ _ _ _ _=>(aN 0 (show(["number","met"]:ag).Nodup by decide))) (λ_ _ _ _ _=>gQ) λ_ _ _ _ _=>(gA (K:=K) Z tU Cp Tr a1X (pv 1) (O (pv 0) (O (pv 0) aj)))) aj)))))),?_⟩
 intro m hm;let n0:=iD.oh (H:=H) (p:=m) (o:=.dK []) hm;generalize cY H m (.dK [])=H0 at n0 ⊢;let nd:=Lk.DQ (r:=ns) (L:=[]) vC;let up:∀{G:Hp},(∀c o,c≠m->H0 c=some o->G c=some o)->aL H G:=λ{G} s c o e=>s c o (λz=>by grind) (n0.same _ _ e);show WT Z (ha.keep n0.same) (X8 (P:=λi σ G=>P3 (T1 (λo2=>[⇑a,⇑m,o2]) σ) (∀c o,c≠m->H0 c=some o->G c=some o) λ_:Unit=>G m=some (.dK (Lk.kvI (Lk.firsts [] (ns.take i))))) λZ97 ji ij=>a2a (ns:=ns) Z97 (ji _ _ _ ⟨⟨_,Z⟩,λ_ _ _ h=>h,⟨⟩,n0.here⟩) (λi σ G _ h=>ha.keep (up (ij _ _ _ h).s)) ?_ ?_)
 ·intro i x σ G hx h1;let⟨⟨o2,rfl⟩,sG,_,hG⟩:=ij _ _ _ h1;rw[cI]at hx;let⟨z,hz,rfl⟩:=lN.mp hx;let et:ns.take (i+1)=ns.take i++[z]:=by rw[jr,hz];rfl
  let nd':=Lk.DQ (r:=ns.take i) (L:=[]) vC;let lf:=Lk.Jz (r:=ns.take i) (L:=[]);rw[eN]at lf;let lk:=Lk.a1Z (Lk.firsts [] (ns.take i));let e2:Lk.firsts [] (ns.take (i+1))=if 0<z/\z∉Lk.firsts [] (ns.take i)then Lk.firsts [] (ns.take i)++[z]else Lk.firsts [] (ns.take i):=by rw[et,Lk.WQ];rfl
  show⟨_,Z,_,_,Z,Z,_,Z,qi (λc=>?_) λc=>?_⟩
  ·let c:0<z:=dw c;show⟨_,Z,.inr (.inr (.inl ⟨Z,.inl ⟨_,hG⟩⟩)),_,Z,_,Z,m,_,Z,hG,_,_,Z,Z,m,.inl z,_,_,Z,Z,hG,?_,λy hy=>?_,λhn G1 cg=>?_⟩
   ·grind
   ·show ji _ _ _ ⟨⟨_,Z⟩,sG,⟨⟩,?_⟩;rw[e2,aA]
    ·show hG
    ·rintro⟨_,nz⟩;rw[Lk.Py nd',aA nz]at hy;cases hy
   ·let nz:z∉Lk.firsts [] (ns.take i):=λmz=>by
     rw[Lk.Py nd',aB mz]at hn;cases hn
    show ji _ _ _ ⟨⟨_,Z⟩,λc o hc e=>by rw[cg.rest c hc];show sG c o hc e,⟨⟩,?_⟩;rw[e2,aB ⟨c,nz⟩,cg.here,Lk.ų,ġ _ hn,lk]
  ·let c:¬0<z:=λh=>c (aR h);show ji _ _ _ ⟨⟨_,Z⟩,sG,⟨⟩,?_⟩;rw[e2,aA (λh=>c h.1)];show hG
 ·intro σ G h1;let⟨⟨o2,rfl⟩,sG,_,hG⟩:=ij _ _ _ h1;clear ji ij h1;rw[aH,ig]at hG;let sH:=up sG;show WT Z (ha.keep sH) ?_;show Ŷ (ns:=ns) (λi ys G'=>G'=G/\ys=((Lk.iC ns).take i).map V.int) ⟨Z,Z⟩ (λi ys G' hi ⟨e,ey⟩=>⟨by rw[e];show ha.keep sH,?_⟩) (λi x ys G' hx ⟨e,ey⟩=>?_) (λys G' ⟨e,ey⟩ pr hpr=>?_)
  ·let:(Lk.iC ns).length=ns.length:=by unfold Lk.iC;grind
   rw[ey,aH,eN];show fD (cZ ())
  ·subst e;rw[cI]at hx;let⟨z,hz,rfl⟩:=lN.mp hx;let er:(Lk.iC ns)[i]?=some (if 0<z then(((Lk.firsts [] ns).idxOf z:Nat):Int)+1 else z):=by unfold Lk.iC;rw[cI,hz];rfl
   show⟨_,Z,.inr (.inr (.inl ⟨Z,.inl ⟨_,hG⟩⟩)),_,Z,_,Z,m,.inl z,_,_,Z,Z,hG,Z,?_⟩;rw[ey,jr,er,dz];congr 1;show [(dG (Lk.kvI (Lk.firsts [] ns)) (.inl z)).getD (V.int z)]=[V.int (if 0<z then(((Lk.firsts [] ns).idxOf z:Nat):Int)+1 else z)];rw[Lk.Py nd];by_cases c:0<z
   ·rw[aB c,aB (Lk.zK.mpr (.inr ⟨c,gZ hz⟩))];rfl
   ·rw[aA c,aA (λmz=>by rcases Lk.zK.mp mz with z'|z';cases z';show c z'.1)];rfl
  ·subst e;rw[aH,show ns.length=(Lk.iC ns).length by unfold Lk.iC;grind,ig]at ey;let n1:=iD.oh (o:=.lst ys) hpr;generalize cY G' pr (.lst ys)=G1 at n1 ⊢;show⟨pr,ys,Z,.inl ⟨bB.of n1.here,λl hl=>?_⟩⟩;let n2:=iD.oh (o:=.tup ys) hl;show q l _ (sH.trans (n1.same.trans n2.same)) ?_;show _=some (HO.tup ((Lk.iC ns).map V.int));rw[<-ey];show n2.here
end
section
variable{K:aJ}
def Lj(tup:Bool)(qZ:Dn K mg "merged" qx Bh):⋯ 1 qZ.f qZ.fd Bh (ŷ K tup):=by
 show qZ.F.ok Z9 λdX A outer s H vs Q E hr h=>?_;let⟨a,ns,i,j,rfl,ha,l6,li,lj,q⟩:=h;show⟨_,(aF (bJ (j4 ["number","numbers","one","other"] [none,some 0,some 1,some 2]  (by kernel_rfl) Z (WR (K:=K) (tup:=tup) Z (pv 0)) (λ_ _ _ _ _=>(aN 0 (show(["number","numbers","one","other"]:ag).Nodup by decide))) (λ_ _ _ _ _=>gQ) λ_ _ _ _ _=>(qg (aM lX (pv 0) (aP (Ŵ (K:=K) (tup:=tup) Z) (pv 1) (pv 3))) (aP (Ŵ (K:=K) (tup:=tup) Z) (pv 1) (pv 2)) (pv 0))))),WT Z ha ?_⟩;let lm:(Lk.JD ns i j).length=ns.length:=by unfold Lk.JD;rw[aH]
 show Ŷ (ns:=ns) (λk ys G=>G=H/\ys=((Lk.JD ns i j).take k).map V.int) ⟨Z,Z⟩ (λk ys G hk ⟨e,ey⟩=>⟨by rw[e];show ha,?_⟩) (λk x ys G hx ⟨e,ey⟩=>?_) (λys G ⟨e,ey⟩ pr hpr=>?_)
 ·rw[ey,aH,eN];show fD (cZ ())
 ·subst e;rw[cI]at hx;let⟨z,hz,rfl⟩:=lN.mp hx;let er:(Lk.JD ns i j)[k]?=some (if z=eE ns j then eE ns i else z):=by unfold Lk.JD;rw[cI,hz];rfl
  rw[ey,jr,er,dz];show⟨_,Z,_,Z,_,Z,ŵ ha lj ⟨Z,_,Z,qi (λc=>?_) λc=>?_⟩⟩
  ·let c:z=eE ns j:=V.int.inj (dw c);rw[aB c];show⟨_,Z,_,Z,ŵ ha li ⟨Z,Z⟩⟩
  ·let c:¬z=eE ns j:=λe=>c (aR (congrArg V.int e));rw[aA c];show⟨_,Z,Z,Z⟩
 ·subst e;rw[aH,<-lm,ig]at ey;let n1:=iD.oh (o:=.lst ys) hpr;show q pr _ n1.same n1.fresh (by rw[n1.here,ey])
end
namespace Lk
def xO{s:dU}(h:qY m s=true):s.length=m+1:=by
 unfold qY at h;rw[fU]at h;simpa using h.1
def RV{s:dU}(h:qY m s=true):(∃r,s=1::r/\r.length=m/\∀x∈r,x=0)\/∃r,s=0::r/\r.length=m/\(∀x∈r,0<=x/\x<=(m:Int))/\iC r=r:=by
 let l:=xO h;unfold qY at h;rw[fU,Nb]at h;cases s with
 |nil=>cases l
 |cons a r =>
  let lr:r.length=m:=by simpa using l
  rcases h.2 with h|h
  ·rw[fU,g8]at h;let e:a=1:=by simpa [eE]using h.1
   show .inl ⟨r,by rw[e],lr,λx hx=>by simpa using h.2 x hx⟩
  ·rw[fU,fU,g8]at h;let e:a=0:=by simpa [eE]using h.1.1
   show .inr ⟨r,by rw[e],lr,λx hx=>by simpa using h.1.2 x hx,by simpa using h.2⟩
end Lk
inductive SJ(C:Addr)(n:Nat)(ts:ar)(cQ cs:ae)(H:Hp)(d:Addr):Prop
 |mk (dx pg pt:Addr) (xs:af) (l u pw pc:Addr) (ob:Obj) (_:H d=some (.ins C dx (fsQ pg (.ref l) (.ref u)++[(("told" : Str),V.ref pw),(("costs" : Str),V.ref pc)]))) (_:H pg= ~~~[.int n,.ref pt]) (_:H pt=↥xs) (_:Paired (kZ H) xs ts) (_:ts.length<=1000) (_:pI H l [0]) (_:pI H u [1]) (_:H pw=↥(cQ.map V.int)) (_:H pc=some (.iK ob (.dT ((ts.map pK).zip (cs.map V.int)))))
def SJ.keep{C:Addr}{n:Nat}{ts:ar}{H H':Hp}{d:Addr}(a:Nd H H')(h:SJ C n ts cQ cs H d):SJ C n ts cQ cs H' d:=by
 let⟨dx,pg,pt,xs,l,u,pw,pc,ob,h1,h2,h3,h4,h5,h6,h7,h8,h9⟩:=h;show⟨dx,pg,pt,xs,l,u,pw,pc,ob,a _ _ (λ_ z=>by cases z) (λ_ z=>by cases z) h1,a.tups _ _ h2,a.lst h3,Paired.cD h4 λ_ _ z=>Wj a.tups z,h5,a.tups _ _ h6,a.tups _ _ h7,a.lst h8,a _ _ (λ_ z=>by cases z) (λ_ z=>by cases z) h9⟩
def SJ.ins{K:aJ}{C:Addr}{n:Nat}{ts:ar}{cQ cs:ae}{H:Hp}{d:Addr}(h:SJ C n ts cQ cs H d):∃dx fs,H d=some (.ins C dx fs)/\(∀m,m∈(XF:ag)->fs.lookup m=none)/\
  (∃a,fs.lookup ("leaf" : Str)=⇑a/\pI H a [0])/\(∃a,fs.lookup ("whole" : Str)=⇑a/\pI H a [1])/\∃g,fs.lookup ("graph" : Str)=some g/\ur K H g n ts:=by
 let⟨dx,pg,pt,xs,l,u,pw,pc,ob,h1,h2,h3,h4,h5,h6,h7,h8,h9⟩:=h;show⟨dx,_,h1,λm hm=>?_,⟨l,Z,h6⟩,⟨u,Z,h7⟩,.ref pg,Z,pg,pt,Z,cN.of h2,xs,bB.of h3,Paired.cD h4 λ_ _ ⟨p,e,h⟩=>⟨p,e,cN.of h⟩,h5⟩;let go:∀m∈(XF:ag),(m==("graph" : Str))=false/\(m==("leaf" : Str))=false/\(m==("whole" : Str))=false/\(m==("told" : Str))=false/\(m==("costs" : Str))=false:=()
 let⟨g1,g2,g3,g4,g5⟩:=go m hm;unfold fsQ;simp only[List.cons_append,List.nil_append,List.lookup_cons,g1,g2,g3,g4,g5,List.lookup_nil]
def a2c{ts:ar}(l:cs.length=ts.length){t:Int×Int}(h:t∈ts):dG ((ts.map pK).zip (cs.map V.int)) (pK t)=some (.int (cs.getD (ts.idxOf t) 0)):=by
 induction ts generalizing cs with
 |nil=>cases h
 |cons a ts ih =>
  cases cs with
  |nil=>cases l
  |cons c cs =>
   unfold dG at ih ⊢;rw[b8,b8,List.zip_cons_cons];by_cases e:a=t
   ·subst e;rw[rH (by show aR Z),TF];rfl
   ·rw[tV (by show λz=>e (Ħ (dw z))),ih (by simpa using l) ((bQ.mp h).resolve_left λz=>e z.symm),Uu,show(a==t)=false by simpa using e];rfl
noncomputable def vh(ts:ar)(cs:ae)(t:Int×Int):Int:=cs.getD (ts.idxOf t) 0
theorem Ln{P:Program}{w:World}:∀bs:List Bool,Paired (λv (x:Bool)=>∀u,cX v u->(Dk.HX P w).is x u=true) (bs.map V.bl) bs
 | []=>.nil
 |b::bs=>.cons (λu e=>by
   let e:u=Value.bool b:=e
   rw[e]
   show MT b) (Ln bs)
section
variable{K:aJ}{C:Addr}{n:Nat}{ts:ar}
def wG{κ:Type} [DecidableEq κ] (d_:Dm K C "is_better" "Question.is_better" iY xq) (pq:PQ κ) (hb:pq.bt=λa b=>decide (a<b)) (At:Hp->Addr->Prop):⋯ 1 d_.f d_.fd xq (Q8 pq At):=by
 show d_.F.ok wD λdX A outer s H vs Q E hr h=>?_;let⟨d,a,b,rfl,hD,q⟩:=h;show⟨_,(aF (bJ (xR zZ (pv 1) (pv 2)))),?_⟩;rw[hb]at q;show⟨_,Z,_,Z,_,_,Z,Z,q⟩
def Fq(B:Bl mg)(d_:Dm K C "shared" "Links.shared" nO Ky)(At:Hp->Addr->Prop):⋯ 1 d_.f d_.fd Ky (Q9 (Dk.HX P w) (Jf cQ cost) At):=by
 show d_.F.ok Fo λdX A outer s H vs Q E hr h=>?_;let⟨d,a,m,st,rfl,hD,ha,ok,m4,q⟩:=h;let l1:=Lk.xO (ok m4);show⟨_,(aF (bJ (gV uq Z B.tuple () (O (j4 ["number"] [none]  (by kernel_rfl) Z (Al (K:=K) Z (eX nR (pv 1) (gh aq) gb)) (λ_ _ _ _ _=>(aN 0 (show(["number"]:ag).Nodup by decide))) (λ_ _ _ _ _=>gQ) λ_ _ _ _ _=>(xR sY (pv 0) aq)) aj)))),⟨_,Z,_,Z,a,_,Z,ha,λb1 H1 s1 h1=>?_⟩⟩;try dsimp only at h1
 rw[show(1:Int)=((1:Nat):Int)from Z,qX st 1 ()]at h1;show⟨b1,Z,⟨_,cN.of h1⟩,?_⟩;show Yh (K:=K) (a:=b1) (xs:=(st.drop 1).map V.int) (λi ys G=>G=H1/\ys=(((st.drop 1).take i).map λx=>decide (0<x)).map V.bl) ⟨Z,Z⟩ (λi ys G hi ⟨e,ey⟩=>⟨by rw[e];show cN.of h1,?_⟩) (λi x ys G hx ⟨e,ey⟩=>?_) (λys G ⟨e,ey⟩ pr hpr=>?_)
 ·rw[ey,aH,aH,eN,iI];show fD (cZ ())
 ·subst e;rw[cI]at hx;let⟨y,hy,rfl⟩:=lN.mp hx;show⟨_,Z,_,_,Z,Z,Z,?_⟩;rw[ey,jr,hy,dz,dz];rfl
 ·subst e;rw[aH,ig]at ey;let n1:=iD.oh (o:=.lst ys) hpr;generalize cY G pr (.lst ys)=G1 at n1 ⊢;show⟨pr,ys,Z,.inl ⟨bB.of n1.here,λl hl=>?_⟩⟩;let n2:=iD.oh (o:=.tup ys) hl;show q l _ (s1.trans (n1.same.trans n2.same)) ⟨ys,n2.here,?_⟩;rw[ey];show Paired _ _ (st.tail.map λx=>decide (0<x));rw[<-CK];show Ln _
end
section
variable{K:aJ}{C:Addr}{n:Nat}{ts:ar}
def SJ.a7p{H:Hp}{d:Addr}(h:SJ C n ts cQ cs H d):∃dx fs pw,H d=some (.ins C dx fs)/\fs.lookup ("told" : Str)=⇑pw/\H pw=↥(cQ.map V.int):=by
 let⟨dx,pg,pt,xs,l,u,pw,pc,ob,h1,h2,h3,h4,h5,h6,h7,h8,h9⟩:=h;show⟨dx,_,pw,h1,Z,h8⟩
def SJ.costs{H:Hp}{d:Addr}(h:SJ C n ts cQ cs H d):∃dx fs pc ob,H d=some (.ins C dx fs)/\fs.lookup ("costs" : Str)=⇑pc/\H pc=some (.iK ob (.dT ((ts.map pK).zip (cs.map V.int)))):=by
 let⟨dx,pg,pt,xs,l,u,pw,pc,ob,h1,h2,h3,h4,h5,h6,h7,h8,h9⟩:=h;show⟨dx,_,pc,ob,h1,Z,h9⟩
def Yr(s:dU)(p:Nat)(x:Int):(zA s p x).length=s.length+1:=by
 unfold zA;simp only[List.length_append,List.length_take,List.length_drop,List.length_singleton];omega
def Gp(ns:ae):(Lk.iC ns).length=ns.length:=by unfold Lk.iC;rw[aH]
def a7q{H:Hp}{b:Addr}{J:List (aS×V)}{k:aS}(e:Rd H a (.dT J))(eb:H b= ~~~(k.map kV)):Fg H a (.ref b) (dG J k):=.inr ⟨J,k,b,e,Z,eb,Z⟩
def Ft(B:Bl mg)(cl:Cls K C)(nt:jz K C "told")(d_:Dm K C "put_in" "Links.put_in" j8 yu)(uH:Dn K mg "with_number" jd Eo)(jV:RT K mg):⋯ 2 d_.f d_.fd yu (a2y (Jf cQ cost) (SJ C n ts cQ cs)):=by
 let a7r:⋯ 1 _ _ _ _:=Jd uH;let WW:⋯ 1 _ _ _ _:=qe true B jV;show d_.F.ok qL λdX A outer s H vs Q E hr h=>?_;let⟨d,a,m,spot,v,st,rfl,hD,ha,ok,m4,sp,q⟩:=h;let hv:(A.deeper (PyProof.Rows.envOfC "Links.put_in" (aG j8) s⁻¹ d_.f dX)).units+65<cLine:=by let:=hr.un;omega
 let ls:=Lk.xO (ok m4);show⟨_,(aD (aX 4 qL.nd (cG aj))
   (iW (cO (aM (iB (K:=K) Z hv) (pv 3) (Gd (K:=K) Z (pv 0) Z) (by with_unfolding_all rfl))
   (aF (dZ (gA (K:=K) Z gJ PySem.F.slot_list_append PySem.F.type_list_append fu (pv 4) (O (bK (O (aY a7r hr Z uH.m uH.F.kp uH.b .nil bW (O (pv 1) (O (bw dF (pv 2) aq) (O aq aj)))) (O aq aj))) aj))))
   bA)
   (iW (cO (nC (dh (K:=K) Z (aP (aO (K:=K) Z) (pv 1) aq) λ_=>rfl))
   (aD (aX 5 qL.nd (aY a7r hr Z uH.m uH.F.kp uH.b .nil bW (O (eX nR (pv 1) (gh aq) gb) (O (pv 2) (O (aV (bV (K:=K) Z) Z B.len () (O (pv 1) aj)) aj)))))
   (aF (dZ (gA (K:=K) Z gJ PySem.F.slot_list_append PySem.F.type_list_append fu (pv 4) (O (bK (O (bw tL (bK (O aq aj)) (aY WW hr Z jV.m jV.F.kp jV.b .nil bW (O (pv 5) aj))) (O aq aj))) aj)))))
   bA)
   (aF (bJ (pv 4)))))),?_⟩
 show⟨(),λpT H1 n1=>?_⟩;let⟨dx,fs,pw,h1,hl,hw⟩:=hD.a7p;obtain⟨L0,eL0⟩:∃L0:List (dU×Int),L0=if(v:Int)∈cQ then []else [(zA st (spot+1) 0,(0:Int))]:=⟨_,Z⟩
 show zc (P:=λσ' G=>∃xs,σ'=[⇑d,⇑a,some (.int (spot:Int)),some (.int (v:Int)),⇑pT,none]/\aL H G/\G pT=↥xs/\Paired (È G) xs L0/\H pT=none) λZ97 ji ij=>⟨Z97,?_,?_⟩
 ·show⟨_,Z,_,Z,d,C,dx,fs,.ref pw,Z,n1.same _ _ h1,cl,nt,hl,rB (bB.of (n1.same _ _ hw)) ⟨_,Z,?_⟩⟩;by_cases c:(v:Int)∈cQ
  ·rw[aR c];show cV (ji _ _ ⟨[],Z,n1.same,n1.here,?_,n1.fresh⟩);rw[eL0,aB c];show .nil
  ·rw[cC c];show gP ⟨_,Z,.inl ⟨Z,_,bB.of n1.here⟩,_,Z,_,Z,_,_,Z,Z,a,st,spot+1,0,Z,ha.keep (.of n1.same),(),(),λb G1 s1 hb=>⟨(),λp2 G2 n2=>⟨pT,[],_,Z,Z,n2.same _ _ (s1 _ _ n1.here),(),λG3 cg=>?_⟩⟩⟩;let s2:=s1.trans n2.same;let sT:=s2 _ _ n1.here;show ji _ _ ⟨_,Z,(n1.same.trans s2).chg n1.fresh cg,cg.here,?_,n1.fresh⟩;rw[eL0,aA c];let k3:lZ G2 G3:=λc' ys hc=>by
    rw[cg.rest c' (λz=>by grind)];show hc
   show .cons ⟨p2,b,Z,k3 _ _ n2.here,(hb.keep (.of n2.same)).keep k3⟩ .nil
 intro σ' G h2;let⟨xs,rfl,sG,hT,pT',fT⟩:=ij _ _ h2;clear ji ij h2;let lx:xs.length<=1:=by
  rw[aW pT',eL0];split<;>simp
 let haG:=ha.keep (.of sG);obtain⟨L1,eL1⟩:∃L1:List (dU×Int),L1=L0++if eE st 0=0 then [(0::Lk.iC (zA st.tail spot (st.length:Int)),0)]else []:=⟨_,Z⟩
 let fin:∀(xs:af) (G':Hp),aL H G'->G' pT=↥xs->Paired (È G') xs L1->Q (.ref pT) G':=λxs G' s h p=>q pT xs G' s h (by rw[eL1,eL0]at p;show p);show zc (P:=λσ' G=>(∃o5,σ'=[⇑d,⇑a,some (.int (spot:Int)),some (.int (v:Int)),⇑pT,o5])/\Q (.ref pT) G) λZ97 ji ij=>⟨Z97,?_,?_⟩
 ·show⟨_,Z,a,_,_,.int (eE st 0),Z,Z,cN.of haG,Ê (i:=0) (),eE st 0 != 0,Z,?_⟩;by_cases c:eE st 0=0
  ·rw[c];rw[aB c]at eL1;show gP ⟨_,Z,_,Z,a,_,Z,haG,λb1 G1 s1 h1=>?_⟩;try dsimp only at h1
   rw[show(1:Int)=((1:Nat):Int)from Z,qX st 1 ()]at h1;show⟨_,Z,_,Z,a,_,Z,.inr (cN.of (haG.keep (.of s1))),?_⟩;rw[aH];show⟨b1,st.drop 1,spot,_,Z,h1,by rw[iI];omega,by rw[iI];omega,λb2 G2 s2 h2=>?_⟩;let zT:=s1.trans s2;let hT2:=zT _ _ hT;show⟨_,Z,.inl ⟨Z,_,bB.of hT2⟩,(),λp3 G3 n3=>⟨_,Z,b2,_,Z,cN.of (h2.keep (.of n3.same)),?_,λp4 G4 s4 h4=>?_⟩⟩
   ·rw[Yr,iI];omega
   show⟨p3,p4,_,_,Z,Z,s4 _ _ n3.here,h4,?_,λp5 G5 s5 h5=>⟨(),λp6 G6 n6=>⟨pT,xs,_,Z,Z,n6.same _ _ (s5 _ _ (s4 _ _ (n3.same _ _ hT2))),(),λG7 cg=>?_⟩⟩⟩
   ·rw[aH,Gp,Yr,iI];show 1+_<=1000;omega
   let s36:=n3.same.trans (s4.trans (s5.trans n6.same));let sT:=(zT.trans s36) _ _ hT;let k7:lZ G6 G7:=λc' ys hc=>by
    rw[cg.rest c' (λz=>by grind)];show hc
   show ji _ _ ⟨⟨_,Z⟩,fin (xs++[.ref p6]) G7 ((sG.trans (zT.trans s36)).chg fT cg) cg.here ?_⟩;rw[eL1];show d7 (Paired.cD pT' λ_ _ z=>z.keep ((lZ.of (zT.trans s36)).trans k7)) ⟨p6,p5,Z,k7 _ _ n6.here,k7 _ _ (n6.same _ _ ?_)⟩;rw[h5,<-CK];rfl
  ·rw[show(eE st 0 != 0)=true by simpa using c];rw[aA c,jE]at eL1;show cV (ji _ _ ⟨⟨_,Z⟩,fin xs G sG hT ()⟩)
 ·intro σ' G' h2;let⟨⟨o5,rfl⟩,h⟩:=ij _ _ h2;show⟨_,Z,h⟩
end
def a7s{a b:TT}{H:Hp}{Q:Bool->Hp->Prop}{c1 c2:Bool}(h1:∀Q:Bool->Hp->Prop,Q c1 H->a σ H Q)(h2:∀Q:Bool->Hp->Prop,Q c2 H->b σ H Q)(h:Q (c1&&c2) H):â a b σ H Q:=by
 show h1 _ ?_;cases c1 with
 |false=>show cV h
 |true=>show gP (h2 _ h)
section
variable{K:aJ}{C:Addr}{n:Nat}{ts:ar}
def J8(B:Bl mg)(cl:Cls K C)(nc:jz K C "costs")(lc:cs.length=ts.length)(d_:Dm K C "tied" "Links.tied" nQ Q5)(jV:RT K mg)(qZ:Dn K mg "merged" qx Bh):⋯ 2 d_.f d_.fd Q5 (a2A (Jf cQ (vh ts cs)) (SJ C n ts cQ cs) (λt=>t∈ts)):=by
 let a4U:⋯ 1 _ _ _ _:=Lj true qZ;let WW:⋯ 1 _ _ _ _:=qe false B jV;show d_.F.ok uE λdX A outer s H vs Q E hr h=>?_;let⟨d,a,p,m,gW,cM,t,st,rfl,hD,ha,ok,m4,o1,o2,ne,ti,hp,q⟩:=h;let hw1:(A.deeper (PyProof.Rows.envOfC "Links.tied" (aG nQ) s⁻¹ d_.f dX)).units+1<cLine:=by let:=hr.un;omega
 let ls:=Lk.xO (ok m4);show⟨_,(aD (aX 5 uE.nd (eX nR (pv 1) (gh aq) gb))
   (aD (aX 6 uE.nd (cG (O (bK (O (pv 1) (O aq aj))) aj)))
   (iW (cO (PW.pt (lU (aM sY (aP (aO (K:=K) Z) (pv 5) (pv 2)) aq) (lU (aM sY (aP (aO (K:=K) Z) (pv 5) (pv 3)) aq) (nA (aM Hj (aP (aO (K:=K) Z) (pv 5) (pv 2)) (aP (aO (K:=K) Z) (pv 5) (pv 3)))))))
   (aF (dZ (gA (K:=K) Z gJ PySem.F.slot_list_append PySem.F.type_list_append fu (pv 6) (O (bK (O (bw tL (bK (O aq aj)) (aY WW hr Z jV.m jV.F.kp jV.b .nil bW (O (aY a4U hr Z qZ.m qZ.F.kp qZ.b .nil bW (O (pv 5) (O (pv 2) (O (pv 3) aj)))) aj))) (O (Bb hw1 (Gd (K:=K) Z (pv 0) Z) (pv 4) λ_ _=>rfl) aj))) aj))))
   bA)
   (aF (bJ (pv 6)))))),?_⟩
 show⟨_,Z,_,Z,a,_,Z,ha,λb1 H1 s1 h1=>?_⟩;try dsimp only at h1
 rw[show(1:Int)=((1:Nat):Int)from Z,qX st 1 ()]at h1;let ln:(st.drop 1).length=m:=()
 let aa:∀i,eE (st.drop 1) i=eE st (i+1):=λi=>by
  unfold eE;rw[fB,fB,List.getElem?_drop,Nat.add_comm]
 show⟨_,Z,(),λp2 H2 n2=>⟨(),λpT H3 n3=>?_⟩⟩;let sJ:=s1.trans (n2.same.trans n3.same);let hb3:cN K H3 b1 ((st.drop 1).map V.int):=cN.of (n3.same _ _ (n2.same _ _ h1));let fT:H pT=none:=(s1.trans n2.same).free n3.fresh;let base0:È H3 (.ref p2) (st,(0:Int)):=⟨p2,a,Z,n3.same _ _ n2.here,ha.keep (.of sJ)⟩;obtain⟨L1,eL1⟩:∃L1:List (dU×Int),L1=(st,(0:Int))::if 0<eE st (gW+1)/\0<eE st (cM+1)/\eE st (gW+1)≠eE st (cM+1)then [(0::Lk.iC (Lk.JD st.tail gW cM),vh ts cs t)]else []:=⟨_,Z⟩
 let fin:∀(xs:af) (G':Hp),aL H G'->G' pT=↥xs->Paired (È G') xs L1->Q (.ref pT) G':=λxs G' s h p=>q pT xs G' s h (by rw[eL1]at p;show p);show zc (P:=λσ' G=>σ'=[⇑d,⇑a,some (.int (gW:Int)),some (.int (cM:Int)),⇑p,⇑b1,⇑pT]/\Q (.ref pT) G) λZ97 ji ij=>⟨Z97,?_,?_⟩
 ·let t1:Vi ((st.drop 1).map V.int) (gW:Int)=some (.int (eE st (gW+1))):=by rw[Ê (),aa]
  let t2:Vi ((st.drop 1).map V.int) (cM:Int)=some (.int (eE st (cM+1))):=by rw[Ê (),aa]
  dsimp only[W5,a0b,a0c];show a7s (c1:=decide (0<eE st (gW+1))) (c2:=decide (0<eE st (cM+1))&&decide (eE st (gW+1)≠eE st (cM+1))) (λQ h=>⟨_,Z,_,Z,b1,_,_,_,Z,Z,hb3,t1,_,_,Z,Z,_,Z,h⟩) (λQ h=>a7s (c1:=decide (0<eE st (cM+1))) (c2:=decide (eE st (gW+1)≠eE st (cM+1))) (λQ h=>⟨_,Z,_,Z,b1,_,_,_,Z,Z,hb3,t2,_,_,Z,Z,_,Z,h⟩) (λQ h=>⟨_,Z,_,Z,b1,_,_,_,Z,Z,hb3,t1,_,Z,_,Z,b1,_,_,_,Z,Z,hb3,t2,Z,_,Z,?_⟩) h) (qi (λc=>?_) λc=>?_)
  ·rw[show(!decide (V.int (eE st (gW+1))=V.int (eE st (cM+1))))=decide (eE st (gW+1)≠eE st (cM+1)) by by_cases e:eE st (gW+1)=eE st (cM+1)<;>simp[e]];show h
  ·let c':0<eE st (gW+1)/\0<eE st (cM+1)/\eE st (gW+1)≠eE st (cM+1):=by
    rw[fU,fU,dJ,dJ,dJ]at c;show c
   rw[aB c']at eL1;let⟨dx,fs,pc,ob,g1,g2,g3⟩:=hD.costs;show⟨_,Z,.inl ⟨Z,_,bB.of n3.here⟩,(),λp4 G4 n4=>⟨_,Z,_,Z,_,Z,b1,st.drop 1,gW,cM,Z,n4.same.vM hb3,(),(),(),λp5 G5 s5 f5 h5=>⟨p5,_,Z,bB.of h5,?_,λp6 G6 s6 h6=>⟨p4,p6,_,_,Z,Z,s6 _ _ (s5 _ _ n4.here),h6,?_,λp7 G7 s7 h7=>?_⟩⟩⟩⟩
   ·unfold Lk.JD;rw[aH];omega
   ·rw[aH,Gp];unfold Lk.JD;rw[aH];show 1+_<=1000;omega
   let s47:=n4.same.trans (s5.trans (s6.trans s7));let s07:=sJ.trans s47;show⟨_,Z,d,C,dx,fs,.ref pc,Z,s07 _ _ g1,cl,nc,g2,_,Z,pc,.int (vh ts cs t),Z,?_,(),λp8 G8 n8=>⟨pT,[.ref p2],_,Z,Z,n8.same _ _ (s47 _ _ n3.here),(by show 1<1000;decide),λG9 cg=>?_⟩⟩
   ·let e:=a2c lc ti;rw[show vh ts cs t=cs.getD (ts.idxOf t) 0 from Z,<-e];show a7q (.inr ⟨ob,s07 _ _ g3⟩) (s07 _ _ hp)
   let s48:=s47.trans n8.same;let sT:=s48 _ _ n3.here;let k9:lZ G8 G9:=λc' ys hc=>by
    rw[cg.rest c' (λz=>by grind)];show hc
   show ji _ _ ⟨Z,fin [.ref p2,.ref p8] G9 ((sJ.trans s48).chg fT cg) cg.here ?_⟩;rw[eL1];show .cons ((base0.keep (.of s48)).keep k9) (.cons ⟨p8,p7,Z,k9 _ _ n8.here,k9 _ _ (n8.same _ _ ?_)⟩ .nil);rw[h7,<-CK];rfl
  ·let c':¬(0<eE st (gW+1)/\0<eE st (cM+1)/\eE st (gW+1)≠eE st (cM+1)):=λh=>c (by
    grind)
   rw[aA c']at eL1;show ji _ _ ⟨Z,fin [.ref p2] H3 sJ n3.here (by rw[eL1];show .cons base0 .nil)⟩
 ·intro σ' G' h2;let⟨rfl,h⟩:=ij _ _ h2;show⟨_,Z,h⟩
end
section
variable{K:aJ}{C:Addr}
def a4V{x:Int}{s:dU}:inV (V.int x) (s.map V.int)=decide (x∈s):=by
 induction s with
 |nil=>rfl
 |cons y s ih =>
  rw[b8];show(Τ (V.int y) (V.int x)||inV (V.int x) (s.map V.int))=_;rw[ih];show((y==x)||decide (x∈s))=_;grind
def a2d{s:dU}{p:Nat}(h:p<s.length):(qu s p).length+1=s.length:=by
 unfold qu;grind
def zL(B:Bl mg)(d_:Dm K C "taken_out" "Links.taken_out" jT yu)(At:Hp->Addr->Prop)(Pl:Nat->Prop)(wF:Dn K mg "without_number" fY Ep)(jV:RT K mg):⋯ 2 d_.f d_.fd yu (a2z (Jf cQ cost) At Pl):=by
 let a8u:⋯ 1 _ _ _ _:=BL wF;let WW:⋯ 1 _ _ _ _:=qe true B jV;show d_.F.ok mW λdX A outer s H vs Q E hr h=>?_;let⟨d,a,m,spot,v,st,rfl,hD,ha,ok,m4,sp,pv0,q⟩:=h;let ls:=Lk.xO (ok m4);show⟨_,(aD (aX 4 mW.nd (aP (aO (K:=K) Z) (pv 1) (bw dF (pv 2) aq)))
   (aD (aX 5 mW.nd (aY a8u hr Z wF.m wF.F.kp wF.b .nil bW (O (eX nR (pv 1) (gh aq) gb) (O (pv 2) aj))))
   (aD (cO (PW.pt (zW (aM lX (pv 4) aq) (yR (aM (a0v (K:=K) Z) (pv 4) (pv 5) (by with_unfolding_all rfl)))))
   (aF (bJ (cG (O (bK (O (bw tL (eX nR (pv 1) gb (gh aq)) (aY WW hr Z jV.m jV.F.kp jV.b .nil bW (O (pv 5) aj))) (O aq aj))) aj))))
   bA)
   (aF (bJ (qg (dh (K:=K) Z (aV (Jy (K:=K) Z Z) Z B.any () (O (pv 5) aj)) λ_=>rfl) (cG aj) (cG (O (bK (O (bw tL (bK (O aq aj)) (pv 5)) (O aq aj))) aj)))))))),?_⟩
 show⟨_,Z,_,Z,_,_,Z,Z,a,_,_,.int (eE st (spot+1)),Z,Z,cN.of ha,Ê (i:=spot+1) (),⟨_,Z,_,Z,a,_,Z,ha,λb1 H1 s1 h1=>?_⟩⟩;try dsimp only at h1
 rw[show(1:Int)=((1:Nat):Int)from Z,qX st 1 ()]at h1;show⟨_,Z,b1,st.drop 1,spot,Z,h1,(),(),λb2 H2 s2 h2=>?_⟩;rw[CK]at h2;let zT:=s1.trans s2;let ha2:=ha.keep (.of zT);let ld:(qu st.tail spot).length+1=m:=by
  let:=a2d (s:=st.tail) (p:=spot) ();grind
 let q:∀(r:Addr) (xs:af) (H':Hp),aL H H'->H' r=↥xs->Paired (È H') xs (if eE st (spot+1)=0\/eE st (spot+1)∈qu st.tail spot then [(st.take 1++Lk.iC (qu st.tail spot),(0:Int))]else if(qu st.tail spot).any (λx=>decide (x≠0))=true then []else [(1::qu st.tail spot,0)])->Q (.ref r) H':=q;generalize qu st.tail spot=left at h2 ld q;generalize eE st (spot+1)=nb at q ⊢;dsimp only[W5,a0b,a0c];show orQ (c1:=decide (nb=0)) (c2:=decide (nb∈left)) (λQ h=>⟨_,Z,Z,_,Z,by rw[show decide (V.int nb=V.int 0)=decide (nb=0)from GK.mpr ⟨V.int.inj,congrArg _⟩];show h⟩) (λQ h=>⟨_,Z,_,Z,b2,_,Z,.inr (cN.of h2),Z,KZ left,_,Z,by rw[aA cL,a4V];show h⟩) (qi (λc=>?_) λc=>?_)
 ·let c':nb=0\/nb∈left:=by
   grind
  rw[aB c']at q;show⟨_,Z,_,Z,a,_,Z,ha2,λb3 H3 s3 h3=>?_⟩;try dsimp only at h3
  rw[show(1:Int)=((1:Nat):Int)from Z,Ox st 1 ()]at h3;show⟨_,Z,b2,_,Z,cN.of (s3 _ _ h2),(),λb4 H4 s4 h4=>⟨b3,b4,_,_,Z,Z,s4 _ _ h3,h4,?_,λb5 H5 s5 h5=>⟨(),λp6 H6 n6=>⟨(),λp7 H7 n7=>q p7 _ H7 (zT.trans (s3.trans (s4.trans (s5.trans (n6.same.trans n7.same))))) n7.here (.cons ⟨p6,b5,Z,n7.same _ _ n6.here,n7.same _ _ (n6.same _ _ ?_)⟩ .nil)⟩⟩⟩⟩
  ·rw[aH,aH,eN,Gp];omega
  grind
 ·let c':¬(nb=0\/nb∈left):=λh=>c (by
   grind)
  rw[aA c']at q;let tr:jc K H2 (left.map V.int) (left.map λx=>x != 0):=by
   clear c c' q h2 ld
   induction left with
   |nil=>show .nil
   |cons x s ih=>show .cons Z ih
  let ea:((left.map λx=>x != 0).any id)=left.any λx=>decide (x≠0):=by
   rw[Hf];congr 1;funext x;grind
  show⟨_,Z,b2,_,_,Z,cN.of h2,tr,_,Z,?_⟩;rw[ea];show qi (λe=>?_) (λe=>?_)
  ·rw[aB e]at q;show⟨(),λp7 H7 n7=>q p7 _ H7 (zT.trans n7.same) n7.here .nil⟩
  ·rw[aA e]at q;show⟨(),λb3 H3 n3=>⟨_,Z,b3,b2,_,_,Z,Z,n3.here,n3.same _ _ h2,?_,λb5 H5 s5 h5=>⟨(),λp6 H6 n6=>⟨(),λp7 H7 n7=>q p7 _ H7 (zT.trans (n3.same.trans (s5.trans (n6.same.trans n7.same)))) n7.here (.cons ⟨p6,b5,Z,n7.same _ _ n6.here,n7.same _ _ (n6.same _ _ ?_)⟩ .nil)⟩⟩⟩⟩
   ·rw[aH];show 1+_<=1000;omega
   ·rw[h5];rfl
end
def a2L{r1 r2:R2}(h1:IxR X r1)(h2:IxR X r2):IxR X (λx y H Q=>r1 x y H Q\/r2 x y H Q):=λa b c d e f g h i j k l m n o p=>o.elim (λo=>h1 a b c d e f g h i j k l m n o p) (λo=>h2 a b c d e f g h i j k l m n o p)
namespace Lk
def Ys{r r':ae}(e:(r.map λx=>decide (0<x))=r'.map λx=>decide (0<x))(z:∀x∈r,x=0)(p:∀x∈r',0<=x):∀x∈r',x=0:=by
 induction r generalizing r' with
 |nil=>cases r' with
  |nil=>grind
  |cons a s=>cases e
 |cons a r ih=>cases r' with
  |nil=>cases e
  |cons b s =>
   rw[b8,b8,List.cons.injEq]at e;intro x hx;rcases bQ.mp hx with rfl|hx
   ·let h1:=e.1;rw[z a bh]at h1;let:=p x bh;let h2:¬0<x:=λh=>by rw[aR h]at h1;cases h1
    omega
   ·show ih e.2 (λx h=>z x (bM _ h)) (λx h=>p x (bM _ h)) x hx
def any_zero{s:ae}(h:∀x∈s,x=0):s.any (λx=>x != 0)=false:=by
 rw[Ud];intro x hx;rw[h x hx];decide
def a2e{st t lo hi:dU}(h:qY m st=true)(h':qY m t=true)(sh:(st.tail.map λx=>decide (0<x))=t.tail.map λx=>decide (0<x))(e:(lo=st/\hi=t)\/(lo=t/\hi=st))(nl:¬hi<lo):(eE hi 0≠0/\jnL st t=if lo.any (λx=>x != 0)=true then []else [hi])\/(eE hi 0=0/\jnL st t=jnO st.tail t.tail):=by
 let lt:∀r r':ae,((0:Int)::r:ae)<(1:Int)::r':=λr r'=>by rw[Tn];show .inl ()
 rcases RV h with⟨r,rfl,l1,z1⟩|⟨r,rfl,l1,z1,_⟩<;>rcases RV h' with⟨r',rfl,l2,z2⟩|⟨r',rfl,l2,z2,_⟩
 ·left;rcases e with⟨rfl,rfl⟩|⟨rfl,rfl⟩
  ·show⟨by show(1:Int)≠0;decide,by rw[aB (by rw[oO];rfl)];rfl⟩
  ·show⟨by show(1:Int)≠0;decide,by rw[aB (by rw[oO];rfl)];rfl⟩
 ·let zz:=Ys sh z1 λx hx=>(z2 x hx).1;left;rcases e with⟨rfl,rfl⟩|⟨rfl,rfl⟩
  ·grind
  ·show⟨by show(1:Int)≠0;decide,by rw[any_zero (λx hx=>by grind),aA cL];rfl⟩
 ·let zz:=Ys sh.symm z2 λx hx=>(z1 x hx).1;left;rcases e with⟨rfl,rfl⟩|⟨rfl,rfl⟩
  ·show⟨by show(1:Int)≠0;decide,by rw[any_zero (λx hx=>by grind),aA cL];rfl⟩
  grind
 ·right;rcases e with⟨rfl,rfl⟩|⟨rfl,rfl⟩
  ·show⟨Z,Z⟩
  ·show⟨Z,Z⟩
def a7t{q:ay}(pm:q.Perm (List.range 2)):q=[0,1]\/q=[1,0]:=by
 let l:=pm.length_eq
 match q,l,pm with
 | [x,y],_,pm =>
  let hx:=fX.mp (pm.mem_iff.mp (bh:x∈[x,y]));let hy:=fX.mp (pm.mem_iff.mp (bM x (vo y)));let nd:=pm.nodup_iff.mpr Uj;let ne:x≠y:=λe=>(jb.mp nd).1 (by rw[e];show vo y);let:(x=0/\y=1)\/(x=1/\y=0):=()
  rcases this with⟨rfl,rfl⟩|⟨rfl,rfl⟩
  ·show .inl rfl
  ·show .inr rfl
def À{k:Nat}{r:ay}{ns:ae}:OJ ms (k::r) ns=if 0<eE ms k/\ms.idxOf (eE ms k)<k then(if eE ns (ms.idxOf (eE ms k))=eE ns k then none else OJ ms r (JD ns (ms.idxOf (eE ms k)) k))else OJ ms r ns:=rfl
def Ÿ{ns:ae}:OJ ms [] ns=some ns:=rfl
end Lk
def bF.exs{α:Type}{K:aJ}{CX:Ss}{k:Nat}{f:Addr}{fd:FuncData}{ps:ag}{sp:α->Sp}(F:∀a,bF P w K mg base CX k f fd ps (sp a)):bF P w K mg base CX k f fd ps (λvs H Q E=>∃a,sp a vs H Q E) :=
 ⟨λvs H Q E ⟨a,h⟩=>(F a).len vs H Q E h,λA outer s H args us vs Q E hr he hb hv ⟨a,hs⟩=>(F a).run A outer s H args us vs Q E hr he hb hv hs⟩
def Pz{pd:Addr}{G:Hp}{J:List (Key×V)}{i:Nat}{z:Int}(hd:G pd=some (.dK J))(lk:J.length<=i)(l9:i<=900)(hv:∀x,dG J (.inl x)=if x∈ms.take i then some (.int (ms.idxOf x:Nat))else none)(hz:ms[i]?=some z)
  (h:∀kvs' G1,(∀c o,c≠pd->G c=some o->G1 c=some o)->G1 pd=some (.dK kvs')->kvs'.length<=i+1->(∀x,dG kvs' (.inl x)=if x∈ms.take (i+1)then some (.int (ms.idxOf x:Nat))else none)->Q (.int (ms.idxOf z:Nat)) G1):RN (.ref pd) [.int z,.int i] G Q:=by
 let et:ms.take (i+1)=ms.take i++[z]:=by rw[jr,hz];rfl
 show .mk pd (.inl z) J (.int i) Z Z hd () (λy hy=>?_) λhn G1 cg=>?_
 ·let m:z∈ms.take i:=by
   grind
  rw[hv,aB m]at hy;cases hy;show h J G (λ_ _ _ e=>e) hd () λx=>?_;grind
 ·let m:z∉ms.take i:=λm=>by grind
  let e:ms.idxOf z=i:=by
   let e2:ms=(ms.take i++[z])++ms.drop (i+1):=by rw[<-et,tW]
   let il:i<ms.length:=(eG.mp hz).1;rw[e2,Mx,aB (fQ _ bh),Mx,aA m,eN,TF];omega
  let:=h (putK J (.inl z) (.int i)) G1 (λc o hc e=>(cg.rest c hc).trans e) cg.here (cF (w6 _ _ _) ()) λx=>by
   rw[Ġ,hv,et];grind
  grind
inductive JnI(f:Option V->Option V->Option V->Option V->St)(H:Hp)(pd:Addr)(r0 ms:ae)(i:Nat)(σ:St)(G:Hp):Prop
 |mk (tup:Bool) (an:Addr) (ns:ae) (J:List (Key×V)) (o7 o8 o9:Option V) (_:σ=f ⇑an o7 o8 o9) (_:∀c o,c≠pd->H c=some o->G c=some o) (_:G an=some (bif tup then .tup (ns.map V.int)else .lst (ns.map V.int))) (_:G pd=some (.dK J)) (_:J.length<=i) (_:∀x,dG J (.inl x)=if x∈ms.take i then some (.int (ms.idxOf x:Nat))else none) (_:ns.length=ms.length) (_:Lk.OJ ms ((List.range ms.length).drop i) ns=Lk.OJ ms (List.range ms.length) r0)
section
variable{K:aJ}{C:Addr}
def Fv(B:Bl mg)(d_:Dm K C "joined" "Links.joined" nP xq)(At:Hp->Addr->Prop)(jV:RT K mg)(qZ:Dn K mg "merged" qx Bh):⋯ 2 d_.f d_.fd xq (Ra (Jf cQ cost) At):=by
 let WW:⋯ 1 _ _ _ _:=bF.exs λb:Bool=>qe b B jV;let a4U:⋯ 1 _ _ _ _:=bF.exs λb:Bool=>Lj b qZ;show d_.F.ok fj λdX A outer s H vs Q E hr h=>?_;let⟨d,a,b,m,st,t,rfl,hD,ha,hb,ok,ok',m4,sh,q⟩:=h;show⟨_,(aD (vI (aV (Ao (K:=K) Z) Z B.sorted () (O (cG (O (pv 1) (O (pv 2) aj))) aj)) (QV (K:=K) (n:=2) Z Z (bT (aN 3 fj.nd) (bT (aN 4 fj.nd) iU))))
   (aD (cO (dh (K:=K) Z (aP (aO (K:=K) Z) (pv 4) aq) λ_=>rfl)
   (aF (bJ (qg (dh (K:=K) Z (aV (Jy (K:=K) Z Z) Z B.any () (O (pv 3) aj)) λ_=>rfl) (cG aj) (cG (O (pv 4) aj)))))
   bA)
   (aD (aX 5 fj.nd (eX nR (pv 1) (gh aq) gb))
   (aD (aX 6 fj.nd QT)
   (aD (iz gK Z (Ų (K:=K) Z Z B.enumerate (O (eX nR (pv 2) (gh aq) gb) aj)) (jG (K:=K) (n:=2) Z Z (bT (aN 7 fj.nd) (bT (aN 8 fj.nd) iU)))
   (aD (aX 9 fj.nd (gA (K:=K) Z tU LC Ô xM (pv 6) (O (pv 8) (O (pv 7) aj))))
   (aF (cO (PW.pt (lU (aM sY (pv 8) aq) (nA (aM zZ (pv 9) (pv 7)))))
   (aD (cO (aM lX (aP (a2L (bx (K:=K) Z) (aO (K:=K) Z)) (pv 5) (pv 9)) (aP (a2L (bx (K:=K) Z) (aO (K:=K) Z)) (pv 5) (pv 7)))
   (aF (bJ (cG aj)))
   bA)
   (aF (aX 5 fj.nd (aY a4U hr Z qZ.m qZ.F.kp qZ.b .nil bW (O (pv 5) (O (pv 9) (O (pv 7) aj)))))))
   bA))))
   (aF (bJ (cG (O (bw tL (bK (O aq aj)) (aY WW hr Z jV.m jV.F.kp jV.b .nil bW (O (pv 5) aj))) aj))))))))),?_⟩
 let os:=ok m4;let ot:=ok' m4;let lst:=Lk.xO os;let ltt:=Lk.xO ot;show⟨_,Z,_,Z,(),λp1 H1 n1=>?_⟩;show⟨p1,[.ref a,.ref b],[st,t],Z,bB.of n1.here,.cons ⟨a,Z,cN.of (n1.same _ _ ha)⟩ (.cons ⟨b,Z,cN.of (n1.same _ _ hb)⟩ .nil),λns hn=>?_,by show 2<64;decide,λqq p2 H2 pm pw n2=>?_⟩
 ·rcases bQ.mp hn with e|e
  ·rw[e];intro z;rw[z]at lst;cases lst
  ·rw[bG.mp e];intro z;rw[z]at ltt;cases ltt
 let zT:=n1.same.trans n2.same;obtain⟨al,ah,lo,hi,hp2,hal,hah,el,nl⟩:∃(al ah:Addr) (lo hi:dU),H2 p2=↥[.ref al,.ref ah]/\pI H2 al lo/\pI H2 ah hi/\((lo=st/\hi=t)\/(lo=t/\hi=st))/\¬hi<lo:=by
  rcases Lk.a7t pm with rfl|rfl
  ·show⟨a,b,st,t,n2.here,ha.keep (.of zT),hb.keep (.of zT),.inl ⟨Z,Z⟩,(tY.mp pw).1 t (vo t)⟩
  ·show⟨b,a,t,st,n2.here,hb.keep (.of zT),ha.keep (.of zT),.inr ⟨Z,Z⟩,(tY.mp pw).1 st (vo st)⟩
 let llo:lo.length=m+1:=by rcases el with⟨e,_⟩|⟨e,_⟩<;>rw[e]<;>assumption
 let lhi:hi.length=m+1:=by rcases el with⟨_,e⟩|⟨_,e⟩<;>rw[e]<;>assumption
 let Z97:=Lk.a2e os ot sh el nl;show⟨p2,[.ref al,.ref ah],Z,bB.of hp2,Z,_,_,Z,_,_,Z,Z,⟨_,Z,ah,_,_,.int (eE hi 0),Z,Z,cN.of hah,Ê (i:=0) (),eE hi 0 != 0,Z,?_⟩⟩;let q:∀(r:Addr) (xs:af) (H':Hp),aL H H'->H' r=↥xs->Paired (SvL H') xs (Lk.jnL st t)->Q (.ref r) H':=q;rcases Z97 with⟨h0,ej⟩|⟨h0,ej⟩
 ·rw[show(eE hi 0 != 0)=true by simpa using h0];let tr:jc K H2 (lo.map V.int) (lo.map λx=>x != 0):=by
   clear ej nl el llo hal
   induction lo with
   |nil=>show .nil
   |cons x s ih=>show .cons Z ih
  let ea:((lo.map λx=>x != 0).any id)=lo.any λx=>x != 0:=by rw[Hf];rfl
  show gP ⟨_,Z,al,_,_,Z,cN.of hal,tr,_,Z,?_⟩;rw[ea];show qi (λe=>?_) (λe=>?_)
  ·rw[aB e]at ej;show⟨(),λp7 H7 n7=>q p7 _ H7 (zT.trans n7.same) n7.here (by rw[ej];show .nil)⟩
  ·rw[aA e]at ej;show⟨_,Z,(),λp7 H7 n7=>q p7 _ H7 (zT.trans n7.same) n7.here (by rw[ej];show .cons ⟨ah,Z,hah.keep (.of n7.same)⟩ .nil)⟩
 rw[h0,show((0:Int) != 0)=false from rfl];show cV ?_;clear nl el hal hah llo lhi hp2;rw[ej]at q;let ha2:=ha.keep (.of zT);show⟨_,Z,_,Z,a,_,Z,ha2,λan H3 s3 h3=>?_⟩;try dsimp only at h3
 rw[show(1:Int)=((1:Nat):Int)from Z,qX st 1 (),CK]at h3;intro pd hd;let n4:=iD.oh (H:=H3) (p:=pd) (o:=.dK []) hd;generalize cY H3 pd (.dK [])=H4 at n4 ⊢;let s04:=zT.trans (s3.trans n4.same);show⟨_,Z,_,Z,b,_,Z,hb.keep (.of s04),λpo H5 s5 h5=>?_⟩;try dsimp only at h5
 rw[show(1:Int)=((1:Nat):Int)from Z,qX t 1 (),CK]at h5;let fpd:H2 pd=none:=s3.free n4.fresh;let ne:po≠pd:=λz=>by let:=s5 _ _ n4.here;rw[<-z,h5]at this;cases this
 let lr:st.tail.length=m:=by rw[List.length_tail];omega
 let lm:t.tail.length=m:=by rw[List.length_tail];omega
 generalize t.tail=ms at h5 q lm;generalize st.tail=r0 at h3 q lr;show⟨po,Z,⟨_,cN.of h5⟩,?_⟩;let u5:∀{G:Hp},(∀c o,c≠pd->H5 c=some o->G c=some o)->aL H G:=λ{G} sG c o e=>by
  show sG c o (λz=>?_) (s5 _ _ (s04 _ _ e));let e2:=zT _ _ e;rw[z,fpd]at e2;cases e2
 show X8 (P:=λi σ G=>JnI (λo5 o7 o8 o9=>[⇑d,⇑a,⇑b,⇑al,⇑ah,o5,⇑pd,o7,o8,o9]) H5 pd r0 ms i σ G) λZ97 ji ij=>?_;show Z8 (K:=K) (a:=po) (xs:=ms.map V.int) Z97 (ji _ _ _ (.mk true an r0 [] none none none Z (λ_ _ _ e=>e) (s5 _ _ (n4.same _ _ h3)) (s5 _ _ n4.here) (cW _) (λx=>by rw[Nh,aA eO];rfl) () Z)) (λi σ G _ h=>?_) ?_ ?_
 ·let⟨_,_,_,_,_,_,_,_,sG,_⟩:=ij _ _ _ h;show cN.of (sG _ _ ne h5)
 ·intro i x σ G0 p G hx h1 nn;let⟨tup,an,ns,J,o7,o8,o9,rfl,sG0,hN0,hd0,lk,hv,ln,ej⟩:=ij _ _ _ h1;rw[cI]at hx;let⟨z,hz,rfl⟩:=lN.mp hx;let il:i<ms.length:=(eG.mp hz).1;let az:eE ms i=z:=by unfold eE;rw[fB,hz];rfl
  let sG:∀c o,c≠pd->H5 c=some o->G c=some o:=λc o hc e=>nn.same _ _ (sG0 c o hc e);let hN:=nn.same _ _ hN0;let hd1:=nn.same _ _ hd0;let nd:an≠pd:=λe=>by rw[e,hd0]at hN0;cases tup<;>cases hN0
  let et:ms.take (i+1)=ms.take i++[z]:=by rw[jr,hz];rfl
  let ix:z∈ms->ms.idxOf z<ms.length:=List.idxOf_lt_length_iff.mpr;let zm:z∈ms:=gZ hz;let er:(List.range ms.length).drop i=i::(List.range ms.length).drop (i+1):=by
   rw[yF (by rw[vA];show il),List.getElem_range]
  rw[er,Lk.À,az]at ej;show⟨p,[.int i,.int z],Z,cN.of nn.here,Z,_,_,Z,_,_,Z,Z,⟨_,Z,.inr (.inr (.inl ⟨Z,.inl ⟨_,hd1⟩⟩)),_,Z,_,Z,Pz hd1 lk () hv hz λkvs' G1 Wg hd2 lk' hv'=>?_⟩⟩;let Sx:∀c o,c≠pd->H5 c=some o->G1 c=some o:=λc o hc e=>Wg c o hc (sG c o hc e);let hN1:=Wg _ _ nd hN;let lt2:=ix zm;dsimp only[zY];show a6I (c1:=decide (0<z)) (c2:=decide (ms.idxOf z<i)) (λQ h=>⟨_,Z,_,_,Z,Z,_,Z,h⟩) (λQ h=>⟨_,Z,_,Z,_,_,Z,Z,_,Z,by rw[show decide (((ms.idxOf z:Nat):Int)<(i:Int))=decide (ms.idxOf z<i)from GK.mpr Int.ofNat_lt];show h⟩) (λc=>?_) (λc=>?_)
  ·let c1:0<z:=dw c.1;let c2:ms.idxOf z<i:=dw c.2;rw[aB ⟨c1,c2⟩]at ej;let ixn:∀{j:Nat}{R:VK},j<ms.length->R (.int (eE ns j)) G1->a0n K (.ref an) (.int j) G1 R\/a0o K (.ref an) (.int j) G1 R:=λ{j R} hj h=>by
    let:=Ê (s:=ns) (i:=j) ();cases tup with
    |true=>show .inr ⟨an,_,_,_,Z,Z,cN.of hN1,this,h⟩
    |false=>show .inl ⟨an,_,_,_,Z,Z,bB.of hN1,this,h⟩
   show⟨_,Z,_,Z,ixn lt2 ⟨_,Z,_,Z,ixn il ⟨Z,_,Z,?_⟩⟩⟩;rw[show decide (V.int (eE ns (ms.idxOf z))=V.int (eE ns i))=decide (eE ns (ms.idxOf z)=eE ns i)from GK.mpr ⟨V.int.inj,congrArg _⟩];show qi (λe=>?_) (λe=>?_)
   ·rw[aB (dw e)]at ej;show⟨(),λp7 H7 n7=>q p7 _ H7 ((u5 Sx).trans n7.same) n7.here ?_⟩;unfold Lk.jnO;rw[<-ej];show .nil
   ·rw[aA λh=>e (aR h)]at ej;show⟨_,Z,_,Z,_,Z,tup,an,ns,ms.idxOf z,i,Z,?_,(),(),(),λp6 H6 s6 f6 h6=>?_⟩
    ·unfold su;cases tup with
     |true=>show cN.of hN1
     |false=>show bB.of hN1
    ·show ji _ _ _ (.mk false p6 _ kvs' _ _ _ Z (λc o hc e=>s6 _ _ (Sx c o hc e)) h6 (s6 _ _ hd2) lk' hv' (by unfold Lk.JD;rw[aH];show ln) ej)
  ·let c':¬(0<z/\ms.idxOf z<i):=λh=>c ⟨aR h.1,aR h.2⟩;rw[aA c']at ej;show ji _ _ _ (.mk tup an ns kvs' _ _ _ Z Sx hN1 hd2 lk' hv' ln ej)
 ·intro σ G h1;let⟨tup,an,ns,J,o7,o8,o9,rfl,sG,hN,hd0,lk,hv,ln,ej⟩:=ij _ _ _ h1;rw[aH,List.drop_eq_nil_of_le (by rw[vA];omega),Lk.Ÿ]at ej;show⟨(),λb3 H3' n3=>⟨_,Z,tup,an,ns,Z,?_,(),λb4 H4' s4' h4=>⟨b3,b4,_,_,Z,Z,s4' _ _ n3.here,h4,?_,λb5 H5' s5' h5'=>⟨(),λp7 H7 n7=>q p7 _ H7 ((u5 sG).trans (n3.same.trans (s4'.trans (s5'.trans n7.same)))) n7.here ?_⟩⟩⟩⟩
  ·unfold su;cases tup with
   |true=>show cN.of (n3.same _ _ hN)
   |false=>show bB.of (n3.same _ _ hN)
  ·rw[aH,Gp];show 1+_<=1000;omega
  ·unfold Lk.jnO;rw[<-ej];show .cons ⟨b5,Z,n7.same _ _ h5'⟩ .nil
end
section
variable{K:aJ}
noncomputable def a4W(B:Bl mg)(D:Bs K mg)(n:Nat)(ts:ar)(cQ cs:ae)(lc:cs.length=ts.length)(uH:Dn K mg "with_number" jd Eo)(wF:Dn K mg "without_number" fY Ep)(jV:RT K mg)(qZ:Dn K mg "merged" qx Bh):JN P w K mg base Bool where
 C:=D.C
 cl:=D.cl
 knd:=Dk.HX P w
 pq:=Jf cQ (vh ts cs)
 At:=SJ D.C n ts cQ cs
 Pl:=λ_=>True
 Ti:=λt=>t∈ts
 n:=n
 ts:=ts
 keep:=λa h=>SJ.keep a h
 ins:=λh=>SJ.ins h
 uw:=D.uw
 qR:=D.qR
 pN:=D.pN
 tE:=⟨_,_,D.tH.mt,D.tH.b,(wG D.tH _ Z _).mono ()⟩
 uV:=⟨_,_,D.Bu.mt,D.Bu.b,(Fq B D.Bu _).mono ()⟩
 Bj:=⟨_,_,D.Bv.mt,D.Bv.b,(Fv B D.Bv _ jV qZ).mono ()⟩
 Bk:=⟨_,_,D.Bw.mt,D.Bw.b,(Ft B D.cl D.IW D.Bw uH jV).mono ()⟩
 tG:=⟨_,_,D.tK.mt,D.tK.b,(zL B D.tK _ _ wF jV).mono ()⟩
 Ot:=⟨_,_,D.Ov.mt,D.Ov.b,(J8 B D.cl D.Bt lc D.Ov jV qZ).mono ()⟩
end
abbrev xP:Stmt:=top 3
def Á:bN KH KH (aG xP):={}
inductive a7u(K:aJ)(vs:af)(H:Hp)(Q:VK)(u_3:XK):Prop
 |mk (n:Int) (a:Addr) (ns:ae) (_:vs=[.int n,.ref a]) (_:bB K H a (ns.map V.int)) (_:ns.length<=1000) (_:∀H',aL H H'->Q (.bl (Vt n ns)) H')
section
variable{K:aJ}
def Â(B:Bl mg)(lF:Du K mg)(jM:Dn K mg "is_below" fK rU)(Fw:Dn K mg "is_set" xP KH):⋯ 3 Fw.f Fw.fd KH (a7u K):=by
 let ō:⋯ 2 _ _ _ _:=xu B lF jM;show Fw.F.ok Á λdX A outer s H vs Q E hr h=>?_;let⟨n,a,ns,rfl,hS,hz,q⟩:=h;show⟨_,(aD (cO (nC (dh (K:=K) Z (aV (CW (K:=K) Z Z) Z B.all () (O (j4 ["v","n"] [none,some 0]  (by kernel_rfl) Z (eY (K:=K) Z (pv 1)) (λ_ _ _ _ _=>(aN 0 (show(["v","n"]:ag).Nodup by decide))) (λ_ _ _ _ _=>gQ) λ_ _ _ _ _=>(aY ō hr Z jM.m jM.F.kp jM.b .nil bW (O (pv 1) (O (pv 0) aj)))) aj)) λ_=>rfl))
   (aF (bJ yq))
   bA)
   (aF (bJ (aV (CW (K:=K) Z Z) Z B.all () (O (j4 ["k","places"] [none,some 1]  (by kernel_rfl) Z (CT Z B.range (O aq (O (aV (bV (K:=K) Z) Z B.len () (O (pv 1) aj)) aj))) (λ_ _ _ _ _=>(aN 0 (show(["k","places"]:ag).Nodup by decide))) (λ_ _ _ _ _=>gQ) λ_ _ _ _ _=>(xR zZ (aP (bx (K:=K) Z) (pv 1) (bw NT (pv 0) aq)) (aP (bx (K:=K) Z) (pv 1) (pv 0)))) aj))))),?_⟩
 show⟨_,Z,a,Z,⟨_,hS⟩,?_⟩;show Hx (λx=>match x with |.int v=>some (.bl (decide (0<=v/\v<n)))|_=>none) hS (by rw[aH];show hz) (λx H1 N hx sm hN=>?_) (λH1 p H1' sm hp=>?_)
 ·let⟨v,hv,rfl⟩:=dM.mp hx;show⟨_,Z,_,Z,n,some v,Z,hN H1 sm⟩
 let e1:(ns.map V.int).filterMap (λx=>match x with |.int v=>some (V.bl (decide (0<=v/\v<n)))|_=>none)=(ns.map λv=>decide (0<=v/\v<n)).map V.bl:=by
  rw[lR];show a0x λv _=>rfl
 rw[e1]at hp;show⟨p,_,_,Z,bB.of hp.here,jc.bls _,_,Z,?_⟩;let s1:aL H H1':=sm.trans hp.same;let e2:((ns.map λv=>decide (0<=v/\v<n)).all id)=ns.all λv=>decide (0<=v/\v<n):=by rw[Nv];rfl
 rw[e2];cases c:ns.all λv=>decide (0<=v/\v<n)with
 |false =>
  show gP ?_;let e:Vt n ns=false:=by unfold Vt;rw[c];rfl
  rw[e]at q;show q _ s1
 |true =>
  show cV ?_;let hl:((ns.map V.int).length:Int)=ns.length:=()
  show⟨_,Z,a,_,Z,.inl (s1.seq hS),1,_,Z,⟨(),(),(),()⟩,?_⟩;let en:((((ns.map V.int).length:Nat):Int)-1).toNat=ns.length-1:=()
  rw[en];show Xl (λi=>some (.bl (decide (ns.getD i 0<ns.getD (i+1) 0)))) () (λi H2 N hi sm2 hN=>?_) (λH2 p2 H2' sm2 hp2=>?_)
  ·show⟨_,Z,_,Z,_,_,Z,Z,a,_,_,_,Z,Z,sm2.seq (s1.seq hS),FP () (),_,Z,_,Z,a,_,_,_,Z,Z,sm2.seq (s1.seq hS),FP () (),_,_,Z,Z,?_⟩;let z1:(1+(i:Int)-1).toNat=i:=()
   let z2:(1+(i:Int)).toNat=i+1:=()
   rw[z1,z2];show hN H2 sm2
  ·let e3:(List.range (ns.length-1)).filterMap (λi=>some (V.bl (decide (ns.getD i 0<ns.getD (i+1) 0))))=((List.range (ns.length-1)).map λi=>decide (ns.getD i 0<ns.getD (i+1) 0)).map V.bl:=by
    rw[lR];show vN λ_ _=>rfl
   rw[e3]at hp2;show⟨p2,_,_,Z,bB.of hp2.here,jc.bls _,?_⟩;let e:Vt n ns=((List.range (ns.length-1)).map λi=>decide (ns.getD i 0<ns.getD (i+1) 0)).all id:=by
    unfold Vt Ed;rw[c,Nv];rfl
   rw[e]at q;show q _ (s1.trans (sm2.trans hp2.same))
end
def Kpt(H H' G:Hp):Prop:=∀c u,(H c=none\/∀ys,u≠.lst ys)->H' c=some u->G c=some u
def Sd.a8v{K:aJ}{d C dx:Addr}{fs:bc}{H H':Hp}{xs:af}(e:Sd d H H')(hd:H d=some (.ins C dx fs))(h:bB K H a xs):bB K H' a xs:=by
 rcases h with(h|⟨o,h⟩)|h
 ·show .inl (.inl (e _ _ (λz=>by grind) h))
 ·show .inl (.inr ⟨o,e _ _ (λz=>by grind) h⟩)
 ·show .inr h
def Sd.tupI{K:aJ}{d C dx:Addr}{fs:bc}{H H':Hp}{xs:af}(e:Sd d H H')(hd:H d=some (.ins C dx fs))(h:cN K H a xs):cN K H' a xs:=by
 rcases h with(h|⟨o,h⟩)|h
 ·show .inl (.inl (e _ _ (λz=>by grind) h))
 ·show .inl (.inr ⟨o,e _ _ (λz=>by grind) h⟩)
 ·show .inr h
def Sd.wtI{K:aJ}{d C dx:Addr}{fs:bc}{H H':Hp}(e:Sd d H H')(hd:H d=some (.ins C dx fs)):∀{v:V}{o:Option (ae)},WtV K H v o->WtV K H' v o
 |_,none,h=>h
 |_,some _,⟨a,e1,h⟩=>⟨a,e1,e.a8v hd h⟩
def Sd.a7v{d C dx:Addr}{fs:bc}{H H':Hp}(e:Sd d H H')(hd:H d=some (.ins C dx fs)){v:V}{t:Int×Int}(h:kZ H v t):kZ H' v t:=by
 let⟨p,e1,h⟩:=h;show⟨p,e1,e _ _ (λz=>by grind) h⟩
abbrev pH:Stmt:=top 32
def RW:bN KJ KJ (aG pH):={}
inductive a2f(K:aJ)(vs:af)(H:Hp)(Q:VK)(u_3:XK):Prop
 |mk (t:Addr) (xs:af) (ts:ar) (v:V) (o:Option (ae)) (_:vs=[.ref t,v]) (_:H t=↥xs) (_:Paired (kZ H) xs ts) (_:ts.Nodup) (_:ts.length<=100) (_:WtV K H v o) (_:∀ws,o=some ws->ws.length<=200) (_:OD ts.length o=true) (_:∀p H',aL H H'->H p=none->H' p=some (.dT ((ts.map pK).zip ((wtL ts.length o).map V.int)))->Q (.ref p) H')
def a2g{H H1:Hp}(s:aL H H1){xs:af}{ts:ar}(h:Paired (kZ H) xs ts):Paired (KyL H1) xs (ts.map pK):=by
 induction h with
 |nil=>show .nil
 |cons a _ ih =>
  let⟨p,e,h⟩:=a;show .cons ⟨p,e,s _ _ h⟩ ih
def PB{o:Option (ae)}(h:OD m o=true):(wtL m o).length=m:=by
 cases o with
 |none=>show Tj
 |some ws =>
  unfold OD at h;rw[fU]at h;show dw h.1
section
variable{K:aJ}
def RX(B:Bl mg)(Bz:mg "zip" = none)(Ct:χ mg)(lF:Du K mg)(jM:Dn K mg "is_below" fK rU)(BP:Dn K mg "weights_of" lH Ig)(DR:Dn K mg "costs_of" pH KJ):⋯ 4 DR.f DR.fd KJ (a2f K):=by
 let a8w:⋯ 3 _ _ _ _:=J5 B Ct lF jM BP;show DR.F.ok RW λdX A outer s H vs Q E hr h=>?_;let⟨t,xs,ts,v,o,rfl,ht,pT,nd,l1,hV,hw,ok,q⟩:=h;let hw2:(A.deeper (PyProof.Rows.envOfC "costs_of" (aG pH) s⁻¹ DR.f dX)).units+2<cLine:=by let:=hr.un;omega
 show⟨_,(aF (bJ (ĭ Z hw2 Z B.dict Z Bz (O (pv 0) (O (aY a8w hr Z BP.m BP.F.kp BP.b .nil bW (O (aV (bV (K:=K) Z) Z B.len () (O (pv 0) aj)) (O (pv 1) aj))) aj))))),?_⟩;let lx:=aW pT;show⟨_,Z,_,Z,t,_,Z,.inl (bB.of ht),_,Z,ts.length,v,o,by rw[lx];rfl,hV,l1,hw,ok,λpw H1 s1 f1 h1=>?_⟩;show⟨t,pw,xs,_,ts.map pK,Z,s1 _ _ ht,h1,?_,(by rw[aH,aH,PB ok]),?_,(by rw[aH];omega),λp H2 n2=>q p H2 (s1.trans n2.same) ?_ n2.here⟩
 ·show a2g s1 pT
 ·show wL.mpr (nd.imp λ{a b} h e=>h (Ħ e))
 ·show s1.free n2.fresh
end
inductive a2h(K:aJ)(C:Addr)(vs:af)(H:Hp)(Q:VK)(u_3:XK):Prop
 |mk (d dx g t hv:Addr) (n:Nat) (xs:af) (ts:ar) (tl:ae) (v:V) (o:Option (ae)) (_:vs=[.ref d,.ref g,.ref hv,v]) (_:H d=some (.ins C dx [])) (_:cN K H g [.int n,.ref t]) (_:H t=↥xs) (_:Paired (kZ H) xs ts) (_:ts.Nodup) (_:ts.length<=100) (_:H hv=↥(tl.map V.int)) (_:tl≠[]) (_:tl.Nodup) (_:∀x∈tl,0<=x/\x<(n:Int)) (_:tl.length<64) (_:WtV K H v o) (_:∀ws,o=some ws->ws.length<=200) (_:OD ts.length o=true) (_:∀H',Sd d H H'->(∀G,Kpt H H' G->SJ C n ts tl (wtL ts.length o) G d)->Q .non H')
section
variable{K:aJ}
def J9(B:Bl mg)(Bz:mg "zip" = none)(Ct:χ mg)(gG:vU K mg)(cU:Bs K mg)(lF:Du K mg)(jM:Dn K mg "is_below" fK rU)(Fw:Dn K mg "is_set" xP KH)(BP:Dn K mg "weights_of" lH Ig)(DR:Dn K mg "costs_of" pH KJ):⋯ 6 cU.fM.f cU.fM.fd XJ (a2h K cU.C):=by
 let yp:⋯ 5 _ _ _ _:=(DG B gG cU.cl cU.pN cU.uw cU.qR).mono ();let a8x:⋯ 5 _ _ _ _:=(RX B Bz Ct lF jM BP DR).mono ();let a8y:⋯ 5 _ _ _ _:=(Â B lF jM Fw).mono ();show cU.fM.F.ok Br (λvs H Q E h=>?_) (λdX A outer s H vs Q E hr h=>?_)
 ·let⟨d,dx,g,t,hv,n,xs,ts,tl,v,o,rfl,_⟩:=h;rfl
 let⟨d,dx,g,t,hv,n,xs,ts,tl,v,o,rfl,hd,hg,ht,pT,nd,l1,hh,ne,tnd,tb,t64,hV,hw,ok,q⟩:=h;show⟨_,(aD (cO (PW.pt (zW (nC (dh (K:=K) Z (pv 2) λ_=>rfl)) (yR (nC (dh (K:=K) Z (aY a8y hr Z Fw.m Fw.F.kp Fw.b .nil bW (O (aP (aO (K:=K) Z) (pv 1) aq) (O (aV (Az (K:=K) Z) Z B.sorted () (O (pv 2) aj)) aj))) λ_=>rfl)))))
   (aF zX)
   bA)
   (aD (dZ (a0T Z gG.m gG.Ey yp hr gG.fM.b .nil bW (O (pv 0) (O (pv 1) (O (bK (O aq aj)) (O (bK (O aq aj)) aj))))))
   (aD (Hq (pv 0) (gV (oW (K:=K) Z) Z B.list () (O (pv 2) aj)) Z)
   (aF (a4S (Hq (pv 0) (aY a8x hr Z DR.m DR.F.kp DR.b .nil bW (O (aP (aO (K:=K) Z) (pv 1) aq) (O (pv 3) aj))) Z)))))),?_⟩
 let lx:xs.length<=1000:=by rw[aW pT];omega
 let nhd:hv≠d:=λe=>by grind
 show⟨_,Z,true,.inl ⟨_,bB.of hh,?_⟩,cV ⟨_,Z,g,_,_,V.int n,Z,Z,hg,cB (j:=0) Z,_,Z,hv,tl,Z,bB.of hh,t64,λp9 H9 zs n9 pz pw9=>⟨n,p9,zs,Z,bB.of n9.here,?_,λH0 s0=>⟨true,?_,cV ?_⟩⟩⟩⟩
 ·cases tl with
  |nil=>grind
  |cons=>rfl
 ·rw[pz.length_eq];omega
 ·show Eq.symm ((a0A _ _).mpr ⟨λx hx=>tb x (pz.mem_iff.mp hx),?_⟩);show(pw9.and (pz.nodup_iff.mpr tnd)).imp λ{a b} h=>by omega
 let sA:aL H H0:=n9.same.trans s0;show⟨_,Z,_,Z,(),λp1 H1 m1=>⟨(),λp2 H2 m2=>?_⟩⟩;let s2:aL H H2:=sA.trans (m1.same.trans m2.same);show⟨d,dx,g,t,n,xs,.ref p1,.ref p2,Z,s2 _ _ hd,s2.vM hg,s2 _ _ ht,lx,λpg pt H3 s3 ft h3d h3g h3t=>?_⟩;let e3:Sd d H H3:=λc o hc hh=>s3 c o hc (s2 _ _ hh);let np1:p1≠d:=λe=>by let:=m1.fresh;rw[e,sA _ _ hd]at this;cases this
 let np2:p2≠d:=λe=>by let:=m2.fresh;rw[e,m1.same _ _ (sA _ _ hd)]at this;cases this
 let h3l:H3 p1= ~~~[.int 0]:=s3 _ _ np1 (m2.same _ _ m1.here);let h3u:H3 p2= ~~~[.int 1]:=s3 _ _ np2 m2.here;show⟨_,Z,hv,_,Z,.inl (bB.of (e3 _ _ nhd hh)),λpw H4 n4=>?_⟩;show⟨_,Z,d,_,_,_,Z,n4.same _ _ h3d,cU.cl,cU.IW,(by show 3<1000;decide),?_⟩;generalize hU:cY H4 d _=U;let u1:uP H4 d (.ins cU.C dx (fsQ pg (.ref p1) (.ref p2)++[(("told" : Str),V.ref pw)])) U:=by rw[<-hU];show uP.oh
 let e4:Sd d H U:=λc o hc hh=>(u1.rest c hc).trans (n4.same _ _ (e3 c o hc hh));let nt:t≠d:=λe=>by grind
 show⟨_,Z,g,_,_,V.ref t,Z,Z,e4.tupI hd hg,cB (j:=1) Z,_,Z,t,xs,ts,v,o,Z,e4 _ _ nt ht,Paired.cD pT λ_ _ h=>e4.a7v hd h,nd,l1,e4.wtI hd hV,hw,ok,λpc H5 s5 f5 h5=>?_⟩;show⟨_,Z,d,_,_,_,Z,s5 _ _ u1.here,cU.cl,cU.Bt,(by show 4<1000;decide),?_⟩;generalize hU2:cY H5 d _=U2;let u2:uP H5 d (.ins cU.C dx (fsQ pg (.ref p1) (.ref p2)++[(("told" : Str),V.ref pw),(("costs" : Str),V.ref pc)])) U2:=by rw[<-hU2];show uP.oh
 let npc:pc≠d:=λe=>by rw[e,u1.here]at f5;cases f5
 show⟨pc,_,(u2.rest pc npc).trans h5,λob=>?_⟩;generalize hU3:cY U2 pc _=U3;let u3:uP U2 pc (.iK ob (.dT ((ts.map pK).zip ((wtL ts.length o).map V.int)))) U3:=by rw[<-hU3];show uP.oh
 let e3U:∀c u,c≠d->H3 c=some u->U c=some u:=λc u hc e=>(u1.rest c hc).trans (n4.same _ _ e);let eU:∀c u,c≠d->U c=some u->U3 c=some u:=λc u hc e=>by
  rw[u3.rest c (λz=>by grind),u2.rest c hc];show s5 _ _ e
 let up:∀c u,c≠d->H3 c=some u->U3 c=some u:=λc u hc e=>eU c u hc (e3U c u hc e);let nI:∀{c u},(∀dx fs,u≠.ins cU.C dx fs)->H3 c=some u->c≠d:=λ{c u} hn e z=>by grind
 let fpw:H pw=none:=by
  cases hh:H pw with
  |none=>rfl
  |some u =>
   let f:=n4.fresh;let:=e3 pw u (λz=>by grind) hh;grind
 let npw:pw≠d:=λz=>by grind
 let hUd:U3 d=some (.ins cU.C dx (fsQ pg (.ref p1) (.ref p2)++[(("told" : Str),V.ref pw),(("costs" : Str),V.ref pc)])):=(u3.rest d npc.symm).trans u2.here;let hUw:U3 pw=↥(tl.map V.int):=eU _ _ npw ((u1.rest pw npw).trans n4.here);let pT3:Paired (kZ U3) xs ts:=Paired.cD pT λ_ _ h=>by
  let⟨pp,e1,e2⟩:=e3.a7v hd h;show⟨pp,e1,up _ _ (nI (λ_ _ z=>by cases z) e2) e2⟩
 let hUg:=up _ _ (nI (λ_ _ z=>by cases z) h3g) h3g;let hUt:=up _ _ (nI (λ_ _ z=>by cases z) h3t) h3t;show q U3 (λc u hc e=>up c u hc (e3 c u hc e)) λG k=>⟨dx,pg,pt,xs,p1,p2,pw,pc,ob,k _ _ (.inr λ_ z=>by cases z) hUd,k _ _ (.inr λ_ z=>by cases z) hUg,k _ _ (.inl (s2.free ft)) hUt,Paired.cD pT3 λ_ _ ⟨p,e,h⟩=>⟨p,e,k _ _ (.inr λ_ z=>by cases z) h⟩,(),k _ _ (.inr λ_ z=>by cases z) (up _ _ np1 h3l),k _ _ (.inr λ_ z=>by cases z) (up _ _ np2 h3u),k _ _ (.inl fpw) hUw,k _ _ (.inr λ_ z=>by cases z) u3.here⟩
end
namespace Lk
set_option maxRecDepth 100000 in
def a2i:((List.range 5).all λm=>decide ((Sts m).length<=400))=true:=by decide
def a4X{l:List dU}(m4:m<=4)(nd:l.Nodup)(h:∀s∈l,qY m s=true):l.length<=400 :=
 cF (a6V nd λs hs=>O1 (h s hs)) (dw (g8.mp a2i m (fX.mpr ())))
end Lk
structure a2M(n:Nat)(ts:ar)(ss:ax)(ws:ae)(Ts:List cu):Prop where
 len:Ts.length=ss.length
 ok:∀k,k<ss.length->(∀x∈Ts.getD k [],x.1.length=(Go.fZ n ts ss k).length+1)/\(Go.fZ n ts ss k).length<=4/\(Ts.getD k []).length<=400/\((Ts.getD k []).map (·.1)).Nodup
 tie:∀(k i:Nat) (u v:Int),ss[k]?=some (.tie u v)->Go.qy n ts ss k=[i]->D1.strip (Ts.getD k [])=D1.vX ((Go.fZ n ts ss i).idxOf u) ((Go.fZ n ts ss i).idxOf v) (ws.getD (ts.idxOf (u,v)) 0) (D1.strip (Ts.getD i [])) []
def tp4{n:Nat}{ts:ar}{ss:ax}(b4:∀b∈(cA n ts ss).aQ,b.length<=4)(k:Nat):(Go.fZ n ts ss k).length<=4:=by
 show((cA n ts ss).aQ.getD k []).length<=4;rw[fB];by_cases c:k<(cA n ts ss).aQ.length
 ·rw[bC c];show b4 _ (mO c)
 ·rw[List.getElem?_eq_none ()];show cW _
def a4Y{n:Nat}{ts:ar}{ss:ax}{tl ws:ae}(R:Go.a1K n ts ss)(b4:∀b∈(cA n ts ss).aQ,b.length<=4)(tk:∀j,j<ss.length->yC (Jf tl (vh ts ws)) (Go.fZ n ts ss j).length ((Go.Ez (Jf tl (vh ts ws)) n ts ss ss.length).getD j [])):a2M n ts ss ws (Go.Ez (Jf tl (vh ts ws)) n ts ss ss.length):=by
 let tp:=Go.Rx R.dB R.sb;let st:∀k,k<ss.length->∀x∈(Go.Ez (Jf tl (vh ts ws)) n ts ss ss.length).getD k [],Lk.qY (Go.fZ n ts ss k).length x.1=true:=λk kl x hx=>(tk k kl).ok x hx (tp4 b4 k);show⟨mH _ _ _ _ _,λk kl=>⟨λx hx=>Lk.xO (st k kl x hx),tp4 b4 k,?_,(tk k kl).nd⟩,λk i u v hs ef=>?_⟩
 ·let:=Lk.a4X (tp4 b4 k) (tk k kl).nd λs hs=>by
   let⟨x,hx,rfl⟩:=dM.mp hs;show st k kl x hx
  rwa [aH]at this
 let kl:=(eG.mp hs).1;obtain⟨lt,mu,mv,et⟩:i<k/\u∈Go.fZ n ts ss i/\v∈Go.fZ n ts ss i/\Go.fZ n ts ss k=Go.fZ n ts ss i:=by
  let SB:=R.sb k _ hs;cases SB with
  |tie ef' lt mt mu mv et =>
   rw[ef]at ef';cases ef';show⟨lt,mu,mv,et⟩
 let il:i<ss.length:=uh lt kl;let ei:(Go.Ez (Jf tl (vh ts ws)) n ts ss k).getD i []=(Go.Ez (Jf tl (vh ts ws)) n ts ss ss.length).getD i []:=(Go.O7 _ lt).trans (Go.O7 _ il).symm;rw[Go.O7 _ kl,Go.O6,getD_at hs,ef];show D1.strip (nH (Jf tl (vh ts ws)) (.tie u v) (fV (Go.fZ n ts ss k) (Go.fZ n ts ss i)) ((Go.Ez (Jf tl (vh ts ws)) n ts ss k).getD i []) [])=_;rw[(Go.xY R.dB (tp k kl).1 (tp k kl).2 λx hx=>by rw[et];show hx).1,ei,et];show D1.Lh (tp4 b4 i) (rW mu) (rW mv) (st i il)
def bF.sub{K:aJ}{CX:Ss}{k:Nat}{f:Addr}{fd:FuncData}{ps:ag}{sp sp':Sp}(F:bF P w K mg base CX k f fd ps sp)(m:∀vs H Q E,sp' vs H Q E->sp vs H Q E):bF P w K mg base CX k f fd ps sp' :=
 ⟨λvs H Q E h=>F.len vs H Q E (m vs H Q E h),λA outer s H args us vs Q E hr he hb hv hs=>F.run A outer s H args us vs Q E hr he hb hv (m vs H Q E hs)⟩
structure Drw where
 n:Nat
 ts:ar
 tl:ae
 cs:ae
 lc:cs.length=ts.length
inductive a2j(K:aJ)(C:Addr)(vs:af)(H:Hp)(Q:VK)(u_3:XK):Prop
 |mk (pL d:Addr) (xs:af) (ss:ax) (n:Nat) (ts:ar) (tl cs:ae) (_:vs=[.ref pL,.ref d]) (_:cs.length=ts.length) (_:SJ C n ts tl cs H d) (_:n<=10) (_:∀t∈ts,t.1≠t.2) (_:bB K H pL xs) (_:Paired (uz K H) xs ss) (_:ss.length<=800) (_:Bq n ts ss (cA n ts ss)=.ok) (_:∀b∈(cA n ts ss).aQ,b.length<=4) (_:∀pT yt Ts H',a2M n ts ss cs Ts->aL H H'->H' pT=↥yt->Paired (Wh H') yt Ts->Q (.ref pT) H')
section
variable{K:aJ}
def Ã(B:Bl mg)(Bz:mg "zip" = none)(cU:Bs K mg)(U:Used w K mg)(Ct:χ mg)(lF:Du K mg)(jM:Dn K mg "is_below" fK rU)(ou:Dn K mg "joint" nJ jL)(mV:Dn K mg "less" qJ jL)(sU:Dn K mg "bag_behind" fL Bd)(wC:Dn K mg "run" Eu lY)(uZ:Dn K mg "fault_behind" eZ En)(ye:Dn K mg "run_whole" j9 lY)(yg:œ K mg)(Bx:Dn K mg "run_narrow" lG lY)(wA:Dn K mg "states_behind" fP Em)(qH:Dn K mg "note" uy Bc)(yc:Dn K mg "fill_along" jJ Ia)(xr:Dn K mg "fill_joined" gU Ib)(zf:Dn K mg "going_up" mU Ie)(zy:a1s K mg)(BJ:Dn K mg "tables" xK Kz)(uH:Dn K mg "with_number" jd Eo)(wF:Dn K mg "without_number" fY Ep)(jV:RT K mg)(qZ:Dn K mg "merged" qx Bh):⋯ 12 BJ.f BJ.fd Kz (a2j K cU.C):=by
 let QL:=λx:Drw=>(ZJ (P:=P) (base:=base) B Bz Ct U (a4W B cU x.n x.ts x.tl x.cs x.lc uH wF jV qZ) lF jM ou mV sU wC uZ ye yg Bx wA qH yc xr zf zy BJ);show _root_.K.bF.sub (bF.exs QL) λvs H Q E h=>?_;let⟨pL,d,xs,ss,n,ts,tl,cs,rfl,lc,at0,dB,ne,hL,pL',l8,sO,b4,q⟩:=h;let R:=Go.a2H dB sO;let ga:=(Go.Wm (P:=P) (w:=w) (base:=base) (a4W B cU n ts tl cs lc uH wF jV qZ) (okL _ _) (λ_ _=>trivial) (λ_ h=>h) ne dB l8 sO b4 ss.length (aK _)).ok;let g:=Go.Ď (P:=P) (w:=w) (base:=base) (a4W B cU n ts tl cs lc uH wF jV qZ) (okL _ _) (λ_ _=>trivial) (λ_ h=>h) ne dB l8 sO b4;let Fc:=a4Y R b4 ga;show⟨⟨n,ts,tl,cs,lc⟩,d,pL,xs,ss,Z,at0,dB,hL,pL',l8,sO,b4,g.1,g.2,λpT yt H' s hT qT=>q pT yt _ H' Fc s hT qT⟩
end
structure PSw(X:Cx)(s:Stmt)(t:TS):Prop where
 h:PS X s t
structure Ä(X:Cx)(ss:List Stmt)(t:TS):Prop where
 h:Qf X ss t
def Ź:Ä X [] W5:=⟨bA⟩
def iQ{s:Stmt}{ss:List Stmt}{t:TS}{ts:TS}(h:PSw X s t)(hs:Ä X ss ts):Ä X (s::ss) (a0b t ts):=⟨aD h.h hs.h⟩
def Ci{s:Stmt}{ss:List Stmt}{t:TS}{ts:TS}(h:PSw X s t)(hs:Ä X ss ts):Ä X (s::ss) (a5J t ts):=⟨iW h.h hs.h⟩
abbrev Lp:Stmt:=top 52
def kY:bN ["_law_script","_law_n","_law_most","_law_rows_here","_law_web","_law_ties_here","_law_steps","_law_prices","_law_k","_law_handed","_law_told","_law_question"] ["_law_script"] (aG Lp):={}
def PJ{G G0 G':Hp}{d:Addr}(s:aL G G0)(f:G d=none)(h:Sd d G0 G'):aL G G':=λc o e=>h c o (λz=>by rw[z,f]at e;cases e) (s c o e)
section
variable{K:aJ}
def a4Z(B:Bl mg)(Bz:mg "zip" = none)(gG:vU K mg)(cU:Bs K mg)(U:Used w K mg)(Ct:χ mg)(lF:Du K mg)(jM:Dn K mg "is_below" fK rU)(Fw:Dn K mg "is_set" xP KH)(ou:Dn K mg "joint" nJ jL)(mV:Dn K mg "less" qJ jL)(sU:Dn K mg "bag_behind" fL Bd)(wC:Dn K mg "run" Eu lY)(uZ:Dn K mg "fault_behind" eZ En)(ye:Dn K mg "run_whole" j9 lY)(yg:œ K mg)(Bx:Dn K mg "run_narrow" lG lY)(wA:Dn K mg "states_behind" fP Em)(qH:Dn K mg "note" uy Bc)(yc:Dn K mg "fill_along" jJ Ia)(xr:Dn K mg "fill_joined" gU Ib)(zf:Dn K mg "going_up" mU Ie)(zy:a1s K mg)(BJ:Dn K mg "tables" xK Kz)(BP:Dn K mg "weights_of" lH Ig)(DR:Dn K mg "costs_of" pH KJ)(uH:Dn K mg "with_number" jd Eo)(wF:Dn K mg "without_number" fY Ep)(jV:RT K mg)(qZ:Dn K mg "merged" qx Bh)(mL:Dn K mg "_law_at" rG KC)(dZ7:Dn K mg "_law_rows" tO XM)(Š:Dn K mg "_law_ties" qw XR)(EY:Dn K mg "_law_laid" kE Bf)(ZX:DZ9 K mg)(Z2:Dn K mg "_law_formed" jO Q6)(Wz:Dn K mg "_law_joined" je KD)(Qa:Dn K mg "_law_more" kJ Ih)(Ë:Dn K mg "_law_behind" mF Q7)(Z5:Dn K mg "_law_fits" kW XS)(PK:Dn K mg "law" Lp ["_law_script"]):⋯ 24 PK.f PK.fd ["_law_script"] (a2s K):=by
 let Pj:⋯ 23 _ _ _ _:=(zH B mL).mono ();let gZ7:⋯ 23 _ _ _ _:=(Ph B mL dZ7).mono ();let gZ8:⋯ 23 _ _ _ _:=(Pn B mL Š).mono ();let gZ5:⋯ 23 _ _ _ _:=(Cd B EY 20).mono ();let gZ2:⋯ 23 _ _ _ _:=(Px B ZX Z2 Wz Qa Ë Z5).mono ();let DW:⋯ 22 _ _ _ _:=(J9 B Bz Ct gG cU lF jM Fw BP DR).mono ();let a8z:⋯ 23 _ _ _ _:=(Ã B Bz cU U Ct lF jM ou mV sU wC uZ ye yg Bx wA qH yc xr zf zy BJ uH wF jV qZ).mono ();show PK.F.ok kY λdX A outer s H vs Q E hr h=>?_;let⟨a,ns,rfl,hS,h63,q⟩:=h;let hu:(A.deeper (PyProof.Rows.envOfC "law" (aG Lp) s⁻¹ PK.f dX)).units+68<cLine:=by let:=hr.un;omega
 let hu:(A.deeper (PyProof.Rows.envOfC "law" (aG Lp) s⁻¹ PK.f dX)).units+64<cLine:=()
 let hw1:(A.deeper (PyProof.Rows.envOfC "law" (aG Lp) s⁻¹ PK.f dX)).units+1<cLine:=()
 show⟨_,(Ä.h (iQ ⟨(aX 1 kY.nd (bw dF aq (bw jy (aY Pj hr Z mL.m mL.F.kp mL.b .nil bW (O (pv 0) (O aq aj))) aq)))⟩
   (iQ ⟨(aX 2 kY.nd (bw dF aq (bw jy (aY Pj hr Z mL.m mL.F.kp mL.b .nil bW (O (pv 0) (O aq aj))) aq)))⟩
   (Ci ⟨(cO (aM lX (bw jy (bw a0g (aY Pj hr Z mL.m mL.F.kp mL.b .nil bW (O (pv 0) (O aq aj))) aq) aq) aq)
   (aF (aX 1 kY.nd aq))
   bA)⟩
   (iQ ⟨(aX 3 kY.nd (aY gZ7 hr Z dZ7.m dZ7.F.kp dZ7.b .nil bW (O (pv 0) (O (pv 1) (O (pv 2) aj)))))⟩
   (iQ ⟨(aX 4 kY.nd (bK (O (pv 1) (O (aY gZ8 hr Z Š.m Š.F.kp Š.b .nil bW (O (pv 0) (O (pv 3) (O (pv 1) aj)))) aj))))⟩
   (iQ ⟨(aX 5 kY.nd (gV (oW (K:=K) Z) Z B.list () (O (aP (aO (K:=K) Z) (pv 4) aq) aj)))⟩
   (iQ ⟨(aX 6 kY.nd (bw nD (aY gZ5 hr Z EY.m EY.F.kp EY.b .nil bW (O (pv 5) (O (pv 3) (O aq (O (xR lX (bw jy (aY Pj hr Z mL.m mL.F.kp mL.b .nil bW (O (pv 0) (O aq aj))) aq) aq) aj))))) (j4 ["_law_v"] [none]  (by kernel_rfl) Z (eY (K:=K) Z (aP (aO (K:=K) Z) (aP (bx (K:=K) Z) (pv 3) aq) aq)) (λ_ _ _ _ _=>(aN 0 (show(["_law_v"]:ag).Nodup by decide))) (λ_ _ _ _ _=>gQ) λ_ _ _ _ _=>(bK (O gw (O (pv 0) aj))))))⟩
   (iQ ⟨(aX 7 kY.nd (cG aj))⟩
   (iQ ⟨(iz gK Z (jw Z B.range (O (aV (bV (K:=K) Z) Z B.len () (O (pv 5) aj)) aj)) (aN 8 kY.nd)
   (aF (dZ (gA (K:=K) Z gJ PySem.F.slot_list_append PySem.F.type_list_append fu (pv 7) (O (bw wY (bw jy (aY Pj hr Z mL.m mL.F.kp mL.b .nil bW (O (pv 0) (O (bw dF aq (pv 8)) aj))) (bw a3f aq aq)) (gV Yz Z B.int () (O (xR sY (bw jy (aY Pj hr Z mL.m mL.F.kp mL.b .nil bW (O (pv 0) (O (bw dF aq (pv 8)) aj))) aq) aq) aj))) aj)))))⟩
   (iQ ⟨(aX 9 kY.nd (gV (oW (K:=K) Z) Z B.list () (O (pv 7) aj)))⟩
   (Ci ⟨(cO (aM lX (bw jy (aY Pj hr Z mL.m mL.F.kp mL.b .nil bW (O (pv 0) (O aq aj))) aq) aq)
   (aD (aX 9 kY.nd oU)
   (aF (Ai (i:=7) ["_law_tie"] [none] kY.nd Z Z (by kernel_rfl) Z (eY (K:=K) Z (pv 5)) (λ_ _ _ _ _=>(aN 0 (show(["_law_tie"]:ag).Nodup by decide))) (λ_ _ _ _ _=>gQ) (λ_ _ _ _ _=>aq) (by rfl))))
   bA)⟩
   (iQ ⟨(Ai (i:=10) XQ [none,some 0] kY.nd Z Z (by kernel_rfl) Z (jw Z B.range (O (pv 1) aj)) (λ_ _ _ _ _=>(aN 0 (show(XQ:ag).Nodup by decide))) (λ_ _ _ _ _=>(sZ (aM lX (bw jy (aY Pj hr Z mL.m mL.F.kp mL.b .nil bW (O (pv 1) (O (bw dF aq (pv 0)) aj))) aq) aq))) (λ_ _ _ _ _=>(pv 0)) (by rfl))⟩
   (Ci ⟨(cO (aM lX (aV (bV (K:=K) Z) Z B.len () (O (pv 10) aj)) aq)
   (aF (aX 10 kY.nd (cG (O (bw jy (aY Pj hr Z mL.m mL.F.kp mL.b .nil bW (O (pv 0) (O aq aj))) (pv 1)) aj))))
   bA)⟩
   (iQ ⟨(aX 11 kY.nd (a0j cU.mkd DW hr Z cU.m cU.fM.b .nil bW (O (pv 4) (O (pv 10) (O (pv 9) aj)))))⟩
   (Ci ⟨(cO (aM Xc (pv 9) oU)
   (aD (cO (aM (Xk (K:=K) Z hu) (pv 9) (pv 7))
   (aF (bJ yq))
   bA)
   (aF (iz gK Z (jw Z B.range (O (aV (bV (K:=K) Z) Z B.len () (O (pv 9) aj)) aj)) (aN 8 kY.nd)
   (aF (vI (bw dF (aP (bx (K:=K) Z) (pv 9) (pv 8)) aq) (NP (pv 9) (pv 8) YX))))))
   bA)⟩
   (iQ ⟨(bJ (aY gZ2 hr Z Z5.m Z5.F.kp Z5.b .nil bW (O (aY a8z hr Z BJ.m BJ.F.kp BJ.b .nil bW (O (pv 6) (O (pv 11) aj))) (O (pv 6) (O (pv 5) (O (pv 7) aj))))))⟩
   Ź))))))))))))))))),?_⟩
 show⟨_,Z,a,ns,0,Z,hS,h63,(),(),λz0=>⟨_,_,Z,Z,(show(0:Int)<_ by decide),_,_,Z,Z,?_⟩⟩;show⟨_,Z,a,ns,1,Z,hS,h63,(),(),λz1=>⟨_,_,Z,Z,(show(0:Int)<_ by decide),_,_,Z,Z,?_⟩⟩;let u0:=ud z0 (show(6:Int)≠0 by decide);let u1:=tZ z0 (show(0:Int)<6 by decide);let w0:=ud z1 (show(3:Int)≠0 by decide);let w1:=tZ z1 (show(0:Int)<3 by decide);show zc (P:=λσ' H'=>∃(n most:Nat),σ'=[⇑a,some (.int (n:Int)),some (.int (most:Int)),none,none,none,none,none,none,none,none,none]/\H'=H/\1<=n/\n<=10/\2<=most/\most<=4) λJ1 ji ij=>⟨J1,?_,?_⟩
 ·obtain⟨n0,e0⟩:∃n0:Nat,1+z0%6=(n0:Int):=⟨(1+z0%6).toNat,()⟩;obtain⟨m0,e1⟩:∃m0:Nat,2+z1%3=(m0:Int):=⟨(2+z1%3).toNat,()⟩;show⟨_,Z,a,ns,0,Z,hS,h63,(),(),λz2=>⟨_,_,Z,Z,⟨(),()⟩,_,_,Z,Z,(show(0:Int)<_ by decide),Z,_,Z,qi (λc=>?_) λc=>?_⟩⟩
  ·show ji _ _ ⟨10,m0,by rw[<-e1];rfl,Z,(),(),(),()⟩
  ·show ji _ _ ⟨n0,m0,by rw[<-e0,<-e1];rfl,Z,(),(),(),()⟩
 intro σ1 H1 h1;let⟨n,most,rfl,rfl,n1,dB,m2,m4⟩:=ij _ _ h1;clear ji ij h1;show⟨_,Z,_,Z,_,Z,a,ns,n,most,Z,hS,h63,dB,(),(),λl ys rs H2 s2 fl hl pl R r20=>?_⟩;show⟨_,Z,_,Z,_,Z,_,Z,a,l,ns,ys,rs,n,Z,hS.same s2,h63,hl,pl,(),dB,λr tx ts H4 s4 fr hr4 pt tbd nd bi l45=>?_⟩;show⟨(),λpg H5 n5=>?_⟩;let s25:=s4.trans n5.same;let s05:=s2.trans s25;let hr5:=n5.same _ _ hr4;let pt5:=Paired.cD pt λ_ _ h=>kZ.same n5.same h;let T:=R.T;let hl5:=s25 _ _ hl;let pl5:=Paired.cD pl λ_ _ h=>JG.same s25 h;let hg5:=n5.here;show⟨_,Z,pg,_,1,.ref r,Z,Z,cN.of hg5,Z,r,_,Z,.inl (bB.of hr5),λpi H6 n6=>?_⟩;let s06:=s05.trans n6.same;let hi6:=n6.here;let pt6:=Paired.cD pt5 λ_ _ h=>kZ.same n6.same h;let hl6:=n6.same _ _ hl5;let pl6:=Paired.cD pl5 λ_ _ h=>JG.same n6.same h;show⟨_,Z,_,Z,_,Z,a,ns,7,Z,hS.same s06,h63,(),(),λz7=>⟨_,_,Z,Z,(show(0:Int)<_ by decide),Z,?_⟩⟩;obtain⟨early,eea⟩:∃early:Bool,decide (V.int (z7%2)=V.int 1)=early:=⟨_,Z⟩;lk;rw[eea];show⟨pi,l,tx,ys,ts,rs,n,most,0,early,Z,hi6,pt6,(),hl6,pl6,R,m4,r20,dB,T.pos,(),λp4 x4 H7 s7 f4 h4 q4=>?_⟩;let⟨v0,hx0,⟨pk,bk,rfl,hTk,hbk,nbk,lbk⟩⟩:=cP pl6 (uQ T.pos);show⟨_,Z,l,_,_,_,Z,Z,bB.of (s7 _ _ hl6),cB (j:=0) hx0,pk,_,_,_,Z,Z,cN.of (s7 _ _ hTk),Z,bk,Z,⟨_,bB.of (s7 _ _ hbk)⟩,?_⟩;let hW4:∀j,(fG rs j).length<=4:=λj=>cF (R.few j) m4;let b10:(fG rs 0).length<=4:=hW4 0;show Gn (fG rs 0) (λ_=>true) bZ.out (bB.of (s7 _ _ hbk)) () (λv H8 N Z98 _ s8 hN hM=>⟨_,Z,(),λp H9 n9=>hN Z p H9 n9⟩) (λH8 p5 x5 H9 s8 n9 q9=>?_);rw[List.filter_eq_self.mpr (λ_ _=>rfl)]at q9;let s79:=s8.trans n9.same;let l4:=aW q4;let l9:=aW q9;rw[aH]at l9;let ll:=K8 T hW4 r20 early (show ts.length<=100 by omega) (f:=20) T.pos;show⟨p4,p5,_,_,Z,Z,s79 _ _ h4,n9.here,(),λpW Yg nW=>?_⟩;let ź:=s7.trans (s79.trans nW.same);obtain⟨ss,ess⟩:∃ss,ss=zF early ts rs.length (zR rs) (fG rs) 20:=⟨_,Z⟩;let qW:Paired (sW Yg) (x4++x5) ss:=by
  rw[ess];show jH (Paired.cD q4 λ_ _ h=>sW.same (s79.trans nW.same) h) (Paired.cD q9 λ_ _ h=>sW.same nW.same h)
 let lss:ss.length<=800:=by
  rw[<-aW qW,bO];omega
 let⟨sO,b4⟩:=ZR (n:=n) (wd:=4) (ts:=ts) T dB hW4 nd (λt ht=>bi t ht) (λv v0 vn=>(R.cov v v0 vn).resolve_left eO) (show rs.length<=20 from r20) early;rw[<-ess]at sO b4;let RP:=Go.a2H dB sO;let a5a:=s06.trans ź;let xl:=aW qW;let a8A:=ź _ _ (n6.same _ _ hr5);let a8B:=ź _ _ (n6.same _ _ hg5);let Ż:=ź _ _ hi6;let a7w:=Paired.cD pt6 λ_ _ h=>kZ.same ź h;let ltx:=aW pt6;show⟨(),λpp H11 Bp=>?_⟩;show⟨_,Z,pi,_,Z,.inl (bB.of (Bp.same _ _ Ż)),_,Z,(),(),?_⟩;rw[iG];show X8 (P:=λi σ G=>P4 (T1 (λo8=>[⇑a,some (.int (n:Int)),some (.int (most:Int)),⇑l,⇑pg,⇑pi,⇑pW,⇑pp,o8,none,none,none]) σ) (Sd pp H11 G) (λws:ae=>G pp=↥(ws.map V.int)/\ws.length=i) λws=>∀x∈ws,0<=x/\x<10^30) λZ97 ji ij=>rz (n:=tx.length) Z97 (ji _ _ _ ⟨⟨_,Z⟩,.refl,[],⟨Bp.here,Z⟩,λx h=>absurd h eO⟩) ?_ ?_
 ·intro i σ G hi h1;let⟨⟨o8,rfl⟩,sG,ws,⟨hw,lw⟩,wb⟩:=ij _ _ _ h1;let sS:=a5a.trans (PJ Bp.same Bp.fresh sG);rw[show(0:Int)+(i:Int)=(i:Int) by omega];show⟨_,Z,.inl ⟨Z,_,bB.of hw⟩,_,Z,_,Z,_,_,Z,Z,a,ns,_,Z,hS.same sS,h63,(),(),λz=>⟨_,_,Z,Z,⟨(),(),()⟩,_,_,Z,Z,(show(0:Int)<10^30 by decide),_,Z,_,Z,_,_,Z,Z,a,ns,_,Z,hS.same sS,h63,(),(),λz2=>⟨_,_,Z,Z,(show(0:Int)<_ by decide),_,_,Z,Z,.inr ⟨_,Z,_,_,Z,Z,.inr ⟨by split<;>decide,by split<;>decide⟩,pp,_,_,Z,Z,hw,(by rw[aH];omega),λG1 cg=>ji _ _ _ ⟨⟨_,Z⟩,sG.trans (.X3 cg),ws++[_],⟨by rw[cg.here,dz];rfl,by rw[bO,lw];rfl⟩,λx hx=>?_⟩⟩⟩⟩⟩;rcases cH.mp hx with h|h
  ·show wb x h
  ·rw[bG.mp h];let m0:=ud z (show(10^30:Int)≠0 by decide);let m1:=tZ z (show(0:Int)<10^30 by decide);split
   ·rw[Int.mul_one];show⟨m0,m1⟩
   ·rw[Int.mul_zero];decide
 ·intro σ G h1;let⟨⟨o8,rfl⟩,sG,ws,⟨hw,lw⟩,wb⟩:=ij _ _ _ h1;clear ij ji h1;let s10:=PJ Bp.same Bp.fresh sG;rw[ltx]at lw;let wok:OD ts.length (some ws)=true:=by
   unfold OD;rw[fU,dJ,g8];show⟨lw,λx hx=>?_⟩;let:=wb x hx;rw[fU,dJ,dJ];show⟨this.1,this.2⟩
  show⟨_,Z,pp,_,Z,.inl (bB.of hw),λph H13 n13=>?_⟩;let sJ:=s10.trans n13.same;let a8C:=a5a.trans sJ;let a8D:=n13.same _ _ hw;let nph:ph≠pp:=λz=>by let:=n13.fresh;rw[z,hw]at this;cases this
  show zc (P:=λσ' G'=>∃(v9:V) (o:Option (ae)) (pq:Addr) (o8:Option V),σ'=[⇑a,some (.int (n:Int)),some (.int (most:Int)),⇑l,⇑pg,⇑pi,⇑pW,⇑pq,o8,some v9,none,none]/\aL H13 G'/\G' pq=↥((wtL ts.length o).map V.int)/\pq≠ph/\OD ts.length o=true/\((o=none/\v9=.non)\/(o=some ws/\v9=.ref ph))) λJ1 ji ij=>⟨J1,?_,?_⟩
  ·show⟨_,Z,a,ns,6,Z,hS.same a8C,h63,(),(),λz6=>⟨_,_,Z,Z,(show(0:Int)<_ by decide),Z,_,Z,qi (λc=>?_) λc=>?_⟩⟩
   ·show⟨_,Z,pi,Z,⟨_,bB.of (sJ _ _ Ż)⟩,?_⟩;show qP (K:=K) (a:=pi) (xs:=tx) (λi ys G=>G=H13/\ys=(List.replicate i (1:Int)).map V.int) ⟨Z,Z⟩ (λi ys G hi ⟨e,ey⟩=>⟨by rw[e];show bB.of (sJ _ _ Ż),by rw[ey,aH,Tj];show fD (cZ ())⟩) (λi x ys G hx ⟨e,ey⟩=>?_) (λys G ⟨e,ey⟩ pq hpq=>?_)
    ·show⟨e,by rw[ey,List.replicate_succ',dz];rfl⟩
    ·subst e;let nq:=iD.oh (H:=G) (p:=pq) (o:=.lst ys) hpq;rw[ltx]at ey;let hq:=nq.here;generalize cY G pq (.lst ys)=G2 at nq hq ⊢;show ji _ _ ⟨.non,none,pq,_,Z,nq.same,by rw[hq,ey];rfl,(λz=>by rw[z,n13.here]at hpq;cases hpq),Z,.inl ⟨Z,Z⟩⟩
   ·show ji _ _ ⟨_,some ws,pp,_,Z,.refl _,a8D,nph.symm,wok,.inr ⟨Z,Z⟩⟩
  intro σ' G' h2;let⟨v9,o,pq,o8',rfl,s2G,hpq,npq,ok,hv9⟩:=ij _ _ h2;clear ij ji h2;let ZF:=sJ.trans s2G;let a7x:=a5a.trans ZF;let a8N:=ZF _ _ Ż;let a7y:=hS.same a7x;show⟨_,Z,_,Z,(),(),?_⟩;rw[iG];show Aj (λi zs G=>G=G'/\∃us:ae,zs=us.map V.int/\us.length<=i/\us.Pairwise (· < ·)/\∀x∈us,0<=x/\x<(i:Int)) ⟨Z,[],Z,aK _,.nil,λx h=>absurd h eO⟩ (λi zs G hi ⟨e,us,e1,l1,_⟩=>?_) (λi zs G hi ⟨e,us,e1,l1,b1,b2⟩=>?_) ?_
  ·rw[e1,aH];show fD (cZ ())
  ·subst e;show⟨_,Z,_,Z,_,_,Z,Z,a,ns,_,Z,a7y,h63,(),(),λz=>⟨_,_,Z,Z,(show(0:Int)<_ by decide),Z,_,Z,qi (λc=>?_) λc=>?_⟩⟩
   ·show⟨_,Z,Z,us++[0+(i:Int)],by rw[e1,dz];rfl,by rw[bO];show Nat.succ_le_succ l1,Mj.mpr ⟨b1,tR _ _,λx hx y hy=>by rw[bG.mp hy];let:=b2 x hx;omega⟩,λx hx=>by
     rcases cH.mp hx with h|h
     ·let:=b2 x h;omega
     ·rw[bG.mp h];omega⟩
   ·show⟨Z,us,e1,(),b1,λx hx=>by let:=b2 x hx;omega⟩
  rintro zs G9 ⟨rfl,us,rfl,lu,ub,ub2⟩ pu hpu;let n15:=iD.oh (H:=G9) (p:=pu) (o:=.lst (us.map V.int)) hpu;generalize cY G9 pu (.lst (us.map V.int))=H15 at n15 ⊢;show zc (P:=λσ' G'=>∃(pu:Addr) (tl:ae),σ'=[⇑a,some (.int (n:Int)),some (.int (most:Int)),⇑l,⇑pg,⇑pi,⇑pW,⇑pq,o8',some v9,⇑pu,none]/\aL G9 G'/\G9 pu=none/\G' pu=↥(tl.map V.int)/\tl≠[]/\tl.length<=10/\tl.Pairwise (· < ·)/\∀x∈tl,0<=x/\x<(n:Int)) λJ1 ji ij=>⟨J1,?_,?_⟩
  ·show⟨_,Z,pu,_,Z,.inl (bB.of n15.here),Z,_,Z,qi (λc=>?_) λc=>?_⟩
   ·show⟨_,Z,a,ns,5,Z,a7y.same n15.same,h63,(),(),λz5=>⟨_,Z,_,_,Z,Z,(show(0:Int)<(n:Int) by omega),(),λpu2 H16 n16=>ji _ _ ⟨pu2,[z5%(n:Int)],Z,n15.same.trans n16.same,n15.same.free n16.fresh,n16.here,(λz=>by cases z),(by show 1<=10;decide),tR _ _,λx hx=>?_⟩⟩⟩;rw[bG.mp hx];show⟨ud _ (),tZ _ ()⟩
   ·show ji _ _ ⟨pu,us,Z,n15.same,n15.fresh,n15.here,(λz=>c (by rw[z];rfl)),(),ub,ub2⟩
  intro σ' G h3;let⟨pu,tl,rfl,s9G,fpu,hpt,tne,a8O,tup,tb⟩:=ij _ _ h3;clear ij ji h3 n15 hpu H15 us lu ub ub2;let s0G:=a7x.trans s9G;let a7z:=ZF.trans s9G;let a2k:=s2G _ _ n13.here;show⟨_,Z,_,Z,_,Z,λd dx fd fdx ned=>?_⟩;let s0:aL G (cY (cY G dx (.own d)) d (.ins cU.C dx [])):=(Am fdx _).trans (Am (by rw[aZ (Ne.symm ned)];show fd) _);let hd0:cY (cY G dx (.own d)) d (.ins cU.C dx []) d=some (.ins cU.C dx []):=dN;generalize cY (cY G dx (.own d)) d (.ins cU.C dx [])=G0 at s0 hd0 ⊢;let sA:=a7z.trans s0;let hW:WtV K G0 v9 o:=by
   rcases hv9 with⟨rfl,rfl⟩|⟨rfl,rfl⟩
   ·rfl
   ·show⟨ph,Z,bB.of (s0 _ _ (s9G _ _ a2k))⟩
  let lo:∀ws',o=some ws'->ws'.length<=200:=λws' e=>by
   rcases hv9 with⟨rfl,_⟩|⟨rfl,_⟩
   ·cases e
   ·cases e;omega
  show⟨d,dx,pg,r,pu,n,tx,ts,tl,v9,o,Z,hd0,cN.of (sA _ _ a8B),sA _ _ a8A,Paired.cD a7w λ_ _ h=>kZ.same sA h,nd,(),s0 _ _ hpt,tne,tup.imp λ{a b} h=>by omega,tb,(),hW,lo,ok,λH8 sd at0=>⟨Z,?_⟩⟩;let s8:=PJ s0 fd sd;let hq8:=s8 _ _ (s9G _ _ hpq);let a2l:=s8 _ _ (s9G _ _ a2k);show zc (P:=λσ' G'=>∃o8,σ'=[⇑a,some (.int (n:Int)),some (.int (most:Int)),⇑l,⇑pg,⇑pi,⇑pW,⇑pq,o8,some v9,⇑pu,⇑d]/\∀c u,c≠ph->H8 c=some u->G' c=some u) λJ2 jm mj=>⟨J2,?_,?_⟩
  ·show⟨_,Z,Z,_,Z,?_⟩;rcases hv9 with⟨rfl,rfl⟩|⟨rfl,rfl⟩
   ·show cV (jm _ _ ⟨_,Z,λ_ _ _ e=>e⟩)
   ·show gP ⟨_,Z,_,Z,_,_,.lst (bB.of a2l) (uO.ints ws),.lst (bB.of hq8) (uO.ints ws),shaped_ints ws,shaped_ints ws,_,Z,?_⟩;rw[aB Z,Qt (shaped_ints ws)];show cV ⟨_,Z,ph,_,Z,.inl (bB.of a2l),_,Z,(),(by rw[aH];omega),?_⟩;rw[iG];show X8 (P:=λi σ G=>P4 (T1 (λo8=>[⇑a,some (.int (n:Int)),some (.int (most:Int)),⇑l,⇑pg,⇑pi,⇑pW,⇑pq,o8,⇑ph,⇑pu,⇑d]) σ) (∀c u,c≠ph->H8 c=some u->G c=some u) (λus:ae=>G ph=↥(us.map V.int)) λus=>us.length=ws.length) λJ3 ji ij=>rz (n:=(ws.map V.int).length) J3 (ji _ _ _ ⟨⟨_,Z⟩,λ_ _ _ e=>e,ws,a2l,Z⟩) ?_ ?_
    ·intro i σ G2 hi h4;let⟨⟨o8,rfl⟩,k2,us,hu,lu⟩:=ij _ _ _ h4;rw[aH]at hi;rw[show(0:Int)+(i:Int)=(i:Int) by omega];let hx:(us.map V.int)[i]?=some (.int (us.getD i 0)):=by
      rw[cI,fB,bC ()];rfl
     show⟨_,Z,_,Z,ph,_,_,_,Z,Z,bB.of hu,cB hx,_,_,Z,Z,_,Z,_,Z,ph,_,_,_,Z,Z,hu,a0z (by rw[aH];omega),λG3 cg=>ji _ _ _ ⟨⟨_,Z⟩,λc u hc e=>(cg.rest c hc).trans (k2 c u hc e),us.set i (us.getD i 0+1),by rw[cg.here,List.map_set],by rw[List.length_set,lu]⟩⟩
    ·intro σ G2 h4;let⟨⟨o8,rfl⟩,k2,us,hu,lu⟩:=ij _ _ _ h4;show jm _ _ ⟨_,Z,k2⟩
  intro σ' G2 h5;let⟨o8,rfl,k2⟩:=mj _ _ h5;clear jm mj h5;let f13:Yg ph=none:=s10.free n13.fresh;let s2:aL Yg G2:=λc u e=>k2 c u (λz=>by rw[z,f13]at e;cases e) (s8 _ _ (a7z _ _ e));let npu:pu≠ph:=λz=>by rw[z,a2k]at fpu;cases fpu
  show⟨_,Z,_,Z,pW,d,x4++x5,ss,n,ts,tl,wtL ts.length o,Z,PB ok,at0 G2 (λc u hc e=>k2 c u (λz=>?_) e),dB,λt ht=>by let:=tbd t ht;omega,bB.of (s2 _ _ nW.here),Paired.cD qW λ_ _ h=>sW.v (sW.same s2 h),lss,sO,b4,λpT yt Ts H9 Fc s9 hT qT=>?_⟩
  ·rcases hc with hc|hc
   ·rw[z,s0 _ _ (s9G _ _ a2k)]at hc;cases hc
   ·rw[z,a2l]at e;show hc _ (dD e).symm
  let sF:=s2.trans s9;show⟨_,Z,_,Z,_,Z,pT,pW,pi,pq,x4++x5,yt,tx,ss,Ts,n,ts,wtL ts.length o,Z,sF _ _ nW.here,Paired.cD qW λ_ _ h=>sW.same sF h,lss,hT,qT,Fc.len,RP,sF _ _ Ż,Paired.cD a7w λ_ _ h=>kZ.same sF h,(),s9 _ _ (k2 _ _ npq hq8),PB ok,Fc.ok,Fc.tie,λH18 s18=>q _⟩
end
end K
namespace L2
open PyProof.Rows
noncomputable def Å{A:Type}:Nat->(List A->Prop)->Prop
 |0,P=>P []
 |n+1,P=>∀a,Å n λr=>P (a::r)
theorem ż{A:Type}:∀(us:List A) {P:List A->Prop},Å us.length P->P us
 | [],_,h=>h
 |a::r,_,h=>ż r (h a)
def dR{K:aJ}{h:Heap}{mg:Str->Option Value}{x:Str}{st:Stmt}{ps:ag}{f:Addr}{oc:Value}{od an:Option Addr}{osl:Array (Option Value)}{kV doc pm dX ct:Value}(X:K.In h)(G:h.Ns mainGlobals mg)
  (a:nsIn K mainGlobals x=some ⇑f) (l:K.lookup f=some ⟨oc,od,.func (fnOf x x (gO st) (gj st) (aG st) .none kV doc pm an dX ct),osl⟩) (c:codeIn K dX x=true) (k:keepIn K (.ref f)=true)
  (hb:∀(kV doc pm:Value) (an:Option Addr) (dX ct:Value),Å ps.length λus=>bindArgs (fnOf x x (gO st) (gj st) (aG st) .none kV doc pm an dX ct) ⟨us,[]⟩=pure (ps.zip us)) :
  Nonempty (Dn K mg x st ps) :=
 a5N X G a l c k λ_ _ _ _ _ _ us hl=>ż us (hl▸hb ..)
noncomputable def zM {K:aJ}{C:Addr}{m qual:Str}{st:Stmt}{ps:ag}{f:Addr}{oc:Value}{od an:Option Addr}{osl:Array (Option Value)}{kV doc pm dX ct:Value}
  (a:findIn K (.ref C) m=some ⇑f) (i:isFn K (.ref f)=true)
  (l:K.lookup f=some ⟨oc,od,.func (fnOf m qual (gO st) (gj st) (aG st) .none kV doc pm an dX ct),osl⟩) (c:codeIn K dX qual=true) (k:keepIn K (.ref f)=true)
  (h:∀(kV doc pm:Value) (an:Option Addr) (dX ct:Value),Å ps.length λus=>bindArgs (fnOf m qual (gO st) (gj st) (aG st) .none kV doc pm an dX ct) ⟨us,[]⟩=pure (ps.zip us)):Dm K C m qual st ps :=
 a6b a i l c k λ_ _ _ _ _ _ us hl=>ż us (hl▸h ..)
noncomputable def a2m {K:aJ}{C:Addr}{m qual:Str}{st:Stmt}{ps:ag}{f T:Addr}{oc oT:Value}{od an dT:Option Addr}{osl sT:Array (Option Value)}{kV doc pm dX ct:Value}{nT:Nat}
  (a:findIn K (.ref C) m=some ⇑f) (i:isFn K (.ref f)=true)
  (l:K.lookup f=some ⟨oc,od,.func (fnOf m qual (gO st) (gj st) (aG st) (.ref T) kV doc pm an dX ct),osl⟩) (c:codeIn K dX qual=true) (k:keepIn K (.ref f)=true)
  (lT:K.lookup T=some ⟨oT,dT,.seq #[.none] nT,sT⟩)
  (h:∀(kV doc pm:Value) (an:Option Addr) (dX ct:Value),Å ps.length λus=>∃g,bindArgs (fnOf m qual (gO st) (gj st) (aG st) (.ref T) kV doc pm an dX ct) ⟨us,[]⟩=seqItems? (.ref T) >>= g/\g (some #[.none])=pure (ps.zip us))
  (h1:∀(kV doc pm:Value) (an:Option Addr) (dX ct:Value),Å (ps.length-1) λus=>∃g,bindArgs (fnOf m qual (gO st) (gj st) (aG st) (.ref T) kV doc pm an dX ct) ⟨us,[]⟩=seqItems? (.ref T) >>= g/\g (some #[.none])=pure (ps.zip (us++[.none]))):DmD K C m qual st ps :=
 a4c a i l c k lT (λ_ _ _ _ _ _ us hl=>ż us (hl▸h ..)) λ_ _ _ _ _ _ us hl=>ż us (Nat.eq_sub_of_add_eq hl▸h1 ..)
end L2
open PySem.W PyProof.Rows
inductive PySem.W.Fast:Prop|tw15151473497368428685|tw8441873487716199498|tw3935844860446497502|tw16682105909693663119|tw3641907169956982674|tw9068625739821553809|tw7798753298597098034|tw11776953687079680895|tw10050563642411507665|tw18443943329733467231|tw11864051204928810009|tw15437854266900294184|tw7685812176876049576|tw995720463977767458|tw9956151617150314393|tw9665233635513141977|tw8656518405752344769|tw4110720449144336040|tw13409257574443831206|tw9926277514136151605|tw10039183858052800773|tw3884815734268538679|tw15286293655084595193|tw4966883199241642327|tw3534873844204467062|tw3969283063394787743|tw16276534480830849443|tw14556616921035904727|tw12072515750149118890|tw16117251418202659685|tw10642024889065511544|tw14179905303052266059|tw7230263430008394644|tw16345124204202696645|tw15260107858726390054|tw1515261055952065843|tw16580062434328878431|tw5658789432813707730|tw4939391386191187334|tw6473076693622705476|tw10854982567397205780|tw4954503830358973355|tw17529323103675390698|tw14896928832899594535|tw6236937556129802573|tw245383735868463601|tw4311514070810881927|tw9289681625066864080|tw11129055914529649091|tw8709026191637811141|tw5355384464575670818|tw13091051272131824807|tw9915166585329557961|tw2762983063246403319|tw7940328695347334968|tw17029597999546523346|tw3846509820316116913|tw4549521956459390902|tw9604756090827795950|tw6543674128161162454|tw5928921735675645836|tw12635177685828556169|tw11377169140765687366|tw15343125632521386924|tw4480058126739607058|tw10485910653497427059|tw1144466066043927617|tw6744016790201978046|tw1711305056243160324|tw8987733503942912597|tw6187845875884780980|tw9703159468037624049|tw18006837493410199766|tw838824491048878014|tw9442938724604415577|tw10592955236379476733|tw15527278830135595088|tw6220327330524107353|tw14856911299166329864|tw18084463301358897528|tw10485404059355454611|tw12952365836324172003|tw7538894898501199718|tw6035324009049354862|tw14018881684125607722|tw10911470046537444956|tw4108118869419864952|tw6055848880677017102|tw1106403190128458406|tw7655459556922021499|tw2598880284727410527|tw10934634582118721760|tw9162256057555911425|tw12068076185230810986|tw15447627584804577362|tw8651317240344990825|tw13805762608798873215|tw11760580546442586261|tw16599981859192732505|tw7658331470007478126|tw16198381934655589652|tw915393691807509868|tw18038642985933350334|tw269180939805193394|tw11752760164982724695|tw17371753195004761099|tw13850084358518092929|tw15144505489873874925|tw10042911349797297749|tw14605816713684450967|tw12086455720138791567|tw12423562374262665561|tw17080971908175005291|tw8036050475423418122|tw17280314808157171843|tw4655347114096470425|tw18088926861508658148|tw7268565479583611098|tw15564845817714398949|tw4698344442999515954|tw3689588343169383287|tw6407502857930182847|tw8051914939207561893|tw2677229938429283224|tw10724085902393449681|tw10736491977218316632|tw1486258146534857241|tw2558493195923401975|tw16433238078399953102|tw1972759940817387240|tw11338482757050943019|tw7486249744739601094|tw14277624212385863784|tw6696156332469898951|tw11490995948861116912|tw4528442908874324998|tw7851524458000131713|tw5740296876001348228|tw4027215728291628015|tw2850861211040798900|tw1709874070771266934|tw11479279504589019138|tw7866530487969125011|tw8514331438086037331|tw6950159816027464826|tw17474620752073757818|tw11140309625043459676|tw3881357034619118079|tw11488090493455606132|tw16026715315249128478|tw12457964024516286722|tw11863557827089753838|tw8777456989587355586|tw7694734031067357362|tw7114889716320336663|tw11715754863187192719|tw13025430778392481991|tw5715981579652846068|tw8078565281336178674|tw17087015205780080497|tw846033605607017791|tw457757862783130650|tw12611509259945914239|tw9705452864254523992|tw18090902776881973671|tw10987849310447805935|tw825612677954516|tw6394281216064269638|tw6973292873347890852|tw11197437953685073179|tw6391821653223992309|tw35249266477052150|tw13486253437012889559|tw8938816058422169262|tw1558997676731590018|tw15172300266893822591|tw6926987242546932093|tw5824623137795299421|tw7061567249537771017|tw18032745950797836121|tw8486317521390370273|tw7016579106812962191|tw5860771780960459664|tw4177007481875164534|tw374921287615303117|tw17904115053674385342|tw143469385232152802|tw8336985415455878902|tw3743006114934270477|tw12132152274459571626|tw9817324692970391864|tw14248365891608637325|tw2889987304716476793|tw15152025570254429980|tw974160517680583749|tw3698393240211117555|tw13252813647647340691|tw12804373049479389521|tw1739912451916619186|tw936085975205950903|tw9346825012360249613|tw9256929026086899839|tw6093441093562626864|tw2460581605080984461|tw165782866765401394|tw14756699802421743579|tw12718457100141591103|tw9754421670901971789|tw8784906357376998240|tw8605560370259084915|tw8241118465926184628|tw7333567235826349471|tw7238716053824017672|tw5347911643740787479|tw5323825158365342967|tw4905839579481962611|tw329002892649355101|tw2616181068300810393|tw199893620123099136|tw1997732709849002382|tw18389158127881749142|tw17720295131330645186|tw16356694004602019432|tw16058957633714161921|tw15437953443404607590|tw15175110513844379700|tw14871512166817519668|tw13536711321919086671|tw13326243832169192379|tw12877452840196874063|tw11300120946931916136|tw11072537477668361628|tw10691127278634276974|tw10069956159409371398|tw13960731124288157820|tw11581897576843763674|tw625085942303209801|tw2841200348418180400|tw7809138240956292416|tw14432898099069243364|tw8323385352216844200|tw17007592203231938196|tw17968735671035002828|tw1776245092385983920|tw17358887155778354557|tw16589001390150710012|tw13602525215997799380|tw12025452885439642019|tw12558767372324364554|tw11492586759398924414|tw14240054562320104711|tw16188519368492956234
set_option maxRecDepth 100000 in
set_option maxHeartbeats 0 in
theorem PySem.Challenge.cw_bagwood_k71_links_by_ties_holds : PySem.Challenge.rw_bagwood_k71_links_by_ties.Holds := by
 w_on;o_law;k_head;(case hw=>w_witness2)
 k_fill
 refine L2.û (l:=PySem.Challenge.rw_bagwood_k71_links_by_ties) (n:=63) (k:=24) (x:="_law_script") (CX:=L2.gk) (sp:=Lw.a2s) rfl (by decide) rfl ⟨rfl,by decide,by decide⟩ (λw h Z99=>PySem.W.kIn_of Z99) ?F ?S ?C
 case F =>
  intro w mg fa h KX G hmg
  have B:L2.Bl mg:=by
   refine' L2.a5O KX G ?z1 ?z2 ?z3 ?z4 ?z5 ?z6 ?z7 ?z8 ?z9 ?z10 ?z11 ?z12 ?z13 ?z14 ?z15 ?z16 ?z17
   all_goals k_is
  have Bz:mg "zip" = none:=by
   refine' PySem.W.mg_none_of KX G ?z
   k_is
  obtain⟨lF⟩:Nonempty (L2.Dn (L2.KOf KX) mg "is_whole" K.zj ["thing"]):=by dsimp only[L2.KOf];refine' L2.dR KX G ?a ?l ?c ?k (λ_ _ _ _ _ _ _=>rfl);case a|l|c|k=>k_is
  obtain⟨jM⟩:Nonempty (L2.Dn (L2.KOf KX) mg "is_below" K.fK ["n","thing"]):=by dsimp only[L2.KOf];refine' L2.dR KX G ?a ?l ?c ?k (λ_ _ _ _ _ _ _ _=>rfl);case a|l|c|k=>k_is
  obtain⟨Fw⟩:Nonempty (L2.Dn (L2.KOf KX) mg "is_set" K.xP ["n","places"]):=by dsimp only[L2.KOf];refine' L2.dR KX G ?a ?l ?c ?k (λ_ _ _ _ _ _ _ _=>rfl);case a|l|c|k=>k_is
  obtain⟨ou⟩:Nonempty (L2.Dn (L2.KOf KX) mg "joint" K.nJ ["one","other"]):=by dsimp only[L2.KOf];refine' L2.dR KX G ?a ?l ?c ?k (λ_ _ _ _ _ _ _ _=>rfl);case a|l|c|k=>k_is
  obtain⟨mV⟩:Nonempty (L2.Dn (L2.KOf KX) mg "less" K.qJ ["one","other"]):=by dsimp only[L2.KOf];refine' L2.dR KX G ?a ?l ?c ?k (λ_ _ _ _ _ _ _ _=>rfl);case a|l|c|k=>k_is
  obtain⟨sU⟩:Nonempty (L2.Dn (L2.KOf KX) mg "bag_behind" K.fL ["graph","done","step","used"]):=by dsimp only[L2.KOf];refine' L2.dR KX G ?a ?l ?c ?k (λ_ _ _ _ _ _ _ _ _ _=>rfl);case a|l|c|k=>k_is
  obtain⟨wC⟩:Nonempty (L2.Dn (L2.KOf KX) mg "run" K.Eu ["graph","steps"]):=by dsimp only[L2.KOf];refine' L2.dR KX G ?a ?l ?c ?k (λ_ _ _ _ _ _ _ _=>rfl);case a|l|c|k=>k_is
  obtain⟨uZ⟩:Nonempty (L2.Dn (L2.KOf KX) mg "fault_behind" K.eZ ["graph","steps","tops","pile"]):=by dsimp only[L2.KOf];refine' L2.dR KX G ?a ?l ?c ?k (λ_ _ _ _ _ _ _ _ _ _=>rfl);case a|l|c|k=>k_is
  obtain⟨ye⟩:Nonempty (L2.Dn (L2.KOf KX) mg "run_whole" K.j9 ["graph","steps"]):=by dsimp only[L2.KOf];refine' L2.dR KX G ?a ?l ?c ?k (λ_ _ _ _ _ _ _ _=>rfl);case a|l|c|k=>k_is
  obtain⟨yg⟩:Nonempty (L2.Dn (L2.KOf KX) mg "refuse_wide" K.uF ["bags"]):=by dsimp only[L2.KOf];refine' L2.dR KX G ?a ?l ?c ?k (λ_ _ _ _ _ _ _=>rfl);case a|l|c|k=>k_is
  obtain⟨Bx⟩:Nonempty (L2.Dn (L2.KOf KX) mg "run_narrow" K.lG ["graph","steps"]):=by dsimp only[L2.KOf];refine' L2.dR KX G ?a ?l ?c ?k (λ_ _ _ _ _ _ _ _=>rfl);case a|l|c|k=>k_is
  obtain⟨wA⟩:Nonempty (L2.Dn (L2.KOf KX) mg "states_behind" K.fP ["question","old","step","bag"]):=by dsimp only[L2.KOf];refine' L2.dR KX G ?a ?l ?c ?k (λ_ _ _ _ _ _ _ _ _ _=>rfl);case a|l|c|k=>k_is
  obtain⟨qH⟩:Nonempty (L2.Dn (L2.KOf KX) mg "note" K.uy ["question","table","state","row"]):=by dsimp only[L2.KOf];refine' L2.dR KX G ?a ?l ?c ?k (λ_ _ _ _ _ _ _ _ _ _=>rfl);case a|l|c|k=>k_is
  obtain⟨yc⟩:Nonempty (L2.Dn (L2.KOf KX) mg "fill_along" K.jJ ["question","table","source","step","bag"]):=by dsimp only[L2.KOf];refine' L2.dR KX G ?a ?l ?c ?k (λ_ _ _ _ _ _ _ _ _ _ _=>rfl);case a|l|c|k=>k_is
  obtain⟨xr⟩:Nonempty (L2.Dn (L2.KOf KX) mg "fill_joined" K.gU ["question","table","source","another"]):=by dsimp only[L2.KOf];refine' L2.dR KX G ?a ?l ?c ?k (λ_ _ _ _ _ _ _ _ _ _=>rfl);case a|l|c|k=>k_is
  obtain⟨zf⟩:Nonempty (L2.Dn (L2.KOf KX) mg "going_up" K.mU ["steps","question","tops","feeds"]):=by dsimp only[L2.KOf];refine' L2.dR KX G ?a ?l ?c ?k (λ_ _ _ _ _ _ _ _ _ _=>rfl);case a|l|c|k=>k_is
  obtain⟨zy⟩:Nonempty (L2.Dn (L2.KOf KX) mg "without_sources" K.jU ["table"]):=by dsimp only[L2.KOf];refine' L2.dR KX G ?a ?l ?c ?k (λ_ _ _ _ _ _ _=>rfl);case a|l|c|k=>k_is
  obtain⟨BJ⟩:Nonempty (L2.Dn (L2.KOf KX) mg "tables" K.xK ["steps","question"]):=by dsimp only[L2.KOf];refine' L2.dR KX G ?a ?l ?c ?k (λ_ _ _ _ _ _ _ _=>rfl);case a|l|c|k=>k_is
  obtain⟨BP⟩:Nonempty (L2.Dn (L2.KOf KX) mg "weights_of" K.lH ["many","weights"]):=by dsimp only[L2.KOf];refine' L2.dR KX G ?a ?l ?c ?k (λ_ _ _ _ _ _ _ _=>rfl);case a|l|c|k=>k_is
  obtain⟨DR⟩:Nonempty (L2.Dn (L2.KOf KX) mg "costs_of" K.pH ["ties","costs"]):=by dsimp only[L2.KOf];refine' L2.dR KX G ?a ?l ?c ?k (λ_ _ _ _ _ _ _ _=>rfl);case a|l|c|k=>k_is
  obtain⟨uH⟩:Nonempty (L2.Dn (L2.KOf KX) mg "with_number" K.jd ["state","spot","number"]):=by dsimp only[L2.KOf];refine' L2.dR KX G ?a ?l ?c ?k (λ_ _ _ _ _ _ _ _ _=>rfl);case a|l|c|k=>k_is
  obtain⟨wF⟩:Nonempty (L2.Dn (L2.KOf KX) mg "without_number" K.fY ["state","spot"]):=by dsimp only[L2.KOf];refine' L2.dR KX G ?a ?l ?c ?k (λ_ _ _ _ _ _ _ _=>rfl);case a|l|c|k=>k_is
  obtain⟨jV⟩:Nonempty (L2.Dn (L2.KOf KX) mg "renumbered" K.vY ["numbers"]):=by dsimp only[L2.KOf];refine' L2.dR KX G ?a ?l ?c ?k (λ_ _ _ _ _ _ _=>rfl);case a|l|c|k=>k_is
  obtain⟨qZ⟩:Nonempty (L2.Dn (L2.KOf KX) mg "merged" K.qx ["numbers","one","other"]):=by dsimp only[L2.KOf];refine' L2.dR KX G ?a ?l ?c ?k (λ_ _ _ _ _ _ _ _ _=>rfl);case a|l|c|k=>k_is
  obtain⟨mL⟩:Nonempty (L2.Dn (L2.KOf KX) mg "_law_at" K.rG ["_law_script","_law_k"]):=by dsimp only[L2.KOf];refine' L2.dR KX G ?a ?l ?c ?k (λ_ _ _ _ _ _ _ _=>rfl);case a|l|c|k=>k_is
  obtain⟨dZ7⟩:Nonempty (L2.Dn (L2.KOf KX) mg "_law_rows" K.tO ["_law_script","_law_n","_law_most"]):=by dsimp only[L2.KOf];refine' L2.dR KX G ?a ?l ?c ?k (λ_ _ _ _ _ _ _ _ _=>rfl);case a|l|c|k=>k_is
  obtain⟨Š⟩:Nonempty (L2.Dn (L2.KOf KX) mg "_law_ties" K.qw ["_law_script","_law_rows_here","_law_n"]):=by dsimp only[L2.KOf];refine' L2.dR KX G ?a ?l ?c ?k (λ_ _ _ _ _ _ _ _ _=>rfl);case a|l|c|k=>k_is
  obtain⟨EY⟩:Nonempty (L2.Dn (L2.KOf KX) mg "_law_laid" K.kE ["_law_ties_here","_law_rows_here","_law_k","_law_early"]):=by dsimp only[L2.KOf];refine' L2.dR KX G ?a ?l ?c ?k (λ_ _ _ _ _ _ _ _ _ _=>rfl);case a|l|c|k=>k_is
  obtain⟨ZX⟩:Nonempty (L2.Dn (L2.KOf KX) mg "_law_tops" K.tQ ["_law_steps"]):=by dsimp only[L2.KOf];refine' L2.dR KX G ?a ?l ?c ?k (λ_ _ _ _ _ _ _=>rfl);case a|l|c|k=>k_is
  obtain⟨Z2⟩:Nonempty (L2.Dn (L2.KOf KX) mg "_law_formed" K.jO ["_law_found","_law_size"]):=by dsimp only[L2.KOf];refine' L2.dR KX G ?a ?l ?c ?k (λ_ _ _ _ _ _ _ _=>rfl);case a|l|c|k=>k_is
  obtain⟨Wz⟩:Nonempty (L2.Dn (L2.KOf KX) mg "_law_joined" K.je ["_law_state","_law_at_here","_law_to"]):=by dsimp only[L2.KOf];refine' L2.dR KX G ?a ?l ?c ?k (λ_ _ _ _ _ _ _ _ _=>rfl);case a|l|c|k=>k_is
  obtain⟨Qa⟩:Nonempty (L2.Dn (L2.KOf KX) mg "_law_more" K.kJ ["_law_due","_law_state","_law_many","_law_best"]):=by dsimp only[L2.KOf];refine' L2.dR KX G ?a ?l ?c ?k (λ_ _ _ _ _ _ _ _ _ _=>rfl);case a|l|c|k=>k_is
  obtain⟨Ë⟩:Nonempty (L2.Dn (L2.KOf KX) mg "_law_behind" K.mF ["_law_table","_law_at_here","_law_to","_law_cost"]):=by dsimp only[L2.KOf];refine' L2.dR KX G ?a ?l ?c ?k (λ_ _ _ _ _ _ _ _ _ _=>rfl);case a|l|c|k=>k_is
  obtain⟨Z5⟩:Nonempty (L2.Dn (L2.KOf KX) mg "_law_fits" K.kW ["_law_found","_law_steps","_law_ties_here","_law_prices"]):=by dsimp only[L2.KOf];refine' L2.dR KX G ?a ?l ?c ?k (λ_ _ _ _ _ _ _ _ _ _=>rfl);case a|l|c|k=>k_is
  obtain⟨PK⟩:Nonempty (L2.Dn (L2.KOf KX) mg "law" K.Lp ["_law_script"]):=by dsimp only[L2.KOf];refine' L2.dR KX G ?a ?l ?c ?k (λ_ _ _ _ _ _ _=>rfl);case a|l|c|k=>k_is
  obtain⟨U⟩:Nonempty (L2.Used w (L2.KOf KX) mg):=by
   dsimp only[L2.KOf]
   refine' L2.a0R KX G ?a ?l ?c
   (case a=>k_is);(case l=>k_is);(case c=>exact⟨_,_,_,_,_,_,_,_,_,_,rfl⟩)
  obtain⟨gG⟩:Nonempty (K.vU (L2.KOf KX) mg):=by dsimp only[L2.KOf];refine'⟨{C:=_,cl:=⟨?pg,?hd,?po,?sa⟩,m:=PySem.W.mg_of KX G ?a,fM:=L2.zM (st:=K.lW) (ps:=["self","graph","leaf","whole"]) ?sy ?sE ?zN ?zO ?vZ (λ_ _ _ _ _ _ _ _ _ _=>rfl),Ey:=⟨?ga,⟨.type "type",?RZ,?R0⟩,?vZ⟩,mkd:=⟨?mk,?sy,?sE,?kc⟩}⟩;case a|pg|hd|po|sa|mk|kc|sy|sE|zN|zO|vZ|ga|R0|RZ=>k_is
  obtain⟨cU⟩:Nonempty (K.Bs (L2.KOf KX) mg):=by dsimp only[L2.KOf];refine'⟨{C:=_,cl:=⟨?pg,?hd,?po,?sa⟩,m:=PySem.W.mg_of KX G ?a,pN:=?pN,uw:=?uw,qR:=?qR,IW:=?IW,Bt:=?Bt,fM:=L2.a2m (st:=K.pG) (ps:=["self","graph","told","costs"]) ?sy ?sE ?zN ?zO ?vZ ?WX (λ_ _ _ _ _ _ _ _ _ _=>⟨_,rfl,rfl⟩) (λ_ _ _ _ _ _ _ _ _=>⟨_,rfl,rfl⟩),tH:=L2.zM (st:=K.iY) (ps:=["self","one","other"]) ?R3 ?R4 ?R5 ?R6 ?R7 (λ_ _ _ _ _ _ _ _ _=>rfl),Bu:=L2.zM (st:=K.nO) (ps:=["self","state"]) ?Ž ?ž ?Α ?Β ?Δ (λ_ _ _ _ _ _ _ _=>rfl),Bv:=L2.zM (st:=K.nP) (ps:=["self","one","other"]) ?Ε ?Ζ ?Η ?Θ ?Ι (λ_ _ _ _ _ _ _ _ _=>rfl),Bw:=L2.zM (st:=K.j8) (ps:=["self","state","spot","v"]) ?Κ ?Λ ?Μ ?Ν ?Ξ (λ_ _ _ _ _ _ _ _ _ _=>rfl),Ov:=L2.zM (st:=K.nQ) (ps:=["self","state","one","other","tie"]) ?a5b ?a5c ?a5d ?a5e ?a5f (λ_ _ _ _ _ _ _ _ _ _ _=>rfl),tK:=L2.zM (st:=K.jT) (ps:=["self","state","spot","v"]) ?R8 ?R9 ?Sg ?Sh ?Sq (λ_ _ _ _ _ _ _ _ _ _=>rfl),mkd:=⟨?mk,?sy,?sE,?kc⟩}⟩;(case a|pg|hd|po|sa|mk|kc|sy|sE|zN|zO|vZ|WX|R3|R4|R5|R6|R7|Ž|ž|Α|Β|Δ|Ε|Ζ|Η|Θ|Ι|Κ|Λ|Μ|Ν|Ξ|a5b|a5c|a5d|a5e|a5f|R8|R9|Sg|Sh|Sq=>k_is);case pN|uw|qR|IW|Bt=>unfold L2.jz;k_is
  obtain⟨Ct⟩:Nonempty (K.χ mg):=by
   refine' K.a4t KX G ?Fx ?JB
   case Fx|JB=>k_is
  exact L2.a3A hmg PK λbase=>K.a4Z B Bz gG cU U Ct lF jM Fw ou mV sU wC uZ ye yg Bx wA qH yc xr zf zy BJ BP DR uH wF jV qZ mL dZ7 Š EY ZX Z2 Wz Qa Ë Z5 PK
 case S=>exact λK H a ns hl hO hS=>⟨a,ns,rfl,Lw.Ç.of hO hS,hl,λ_=>rfl⟩
 case C=>exact λ_ _ _ _ z=>z
